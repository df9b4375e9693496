/- The texts that the proofs of these statements reach, in their order, as few files. -/
import Derived.ProofKit
import Derived.OpenShut
import Derived.ShutString
import Derived.Carry
import Derived.WideKeyArgs
import Derived.SizedLaws
import Derived.Shelf.Spec.SlicesInsert
import Derived.Lib.AppendZerosOnto
import Derived.Laws.NewBlocks
import Derived.Maps.AppendAt
import Derived.WalkKit
import Derived.Test.YtbeoijfmfkifeaaGreatDoorProg
import Derived.Deep.RegionLaw
import Derived.Lib.Split
import Derived.Lib.IndexMore
import Derived.Lib.SplitLaws
import Derived.Lib.Join
import Derived.Test.YtbeoijfmfkifeaaGreatDoorCp5
set_option linter.unusedVariables false
set_option linter.unusedSimpArgs false
set_option maxRecDepth 100000
namespace Go.Proofs.YtbeoijfmfkifeaaGreatDoor.Sx
open Go.RowKit Go.WideShapes Go.ChangeShapes Go.ChangeAt
open List renaming append_nil->zy, getElem?_eq_getElem->zq, getElem?_eq_some_iff->jf, getElem?_map->xe, mem_append->zw, mem_append_left->xj, mem_append_right->yj, mem_cons->zv, mem_cons_of_mem->qx, mem_cons_self->jp
inductive TT where
 | s
 | b
 | i (k:IntKind)
 | st (ts:List TT)
 | sl (t:TT)
 | rv
inductive RV where
 | mk (k:Int) (t:List UInt8) (ks:List (List UInt8)) (its:List RV)
mutual
def Il:RV->List AV
 | .mk k t ks its=>[.i .i64 k,.s t,.row ks.length (ks.map .s),.row its.length (Jm its)]
def Jm:List RV->List AV
 | []=>[]
 | v::l=>Il v++Jm l
end
mutual
def LN:RV->Prop
 | .mk k t ks its=>(Lit.int .i64 k).wf=true/\t.length<=140737488351232/\ks.length<=140737488351232/\(∀k∈ks,k.length<=140737488351232)/\its.length<=140737488351232/\I5 its
def I5:List RV->Prop
 | []=>True
 | v::l=>LN v/\I5 l
end
mutual
def DQ:TT->List AV->Prop
 | .s,xs=>∃l:List UInt8,xs=[.s l]/\l.length<=140737488351232
 | .b,xs=>∃b,xs=[.b b]
 | .i k,xs=>∃n,xs=[.i k n]/\(Lit.int k n).wf=true
 | .st ts,xs=>LO ts xs
 | .sl t,xs=>∃gs:List (List AV),xs=[.row gs.length gs.flatten]/\gs.length<=140737488351232/\∀g∈gs,DQ t g
 | .rv,xs=>∃r:RV,xs=Il r/\LN r
def LO:List TT->List AV->Prop
 | [],xs=>xs=[]
 | t::ts,xs=>∃a b,xs=a++b/\DQ t a/\LO ts b
end
def VE:TT->AV->Prop
 | .st ts,x=>∃cs,x=.agg cs/\LO ts cs
 | .rv,x=>∃r:RV,x=.agg (Il r)/\LN r
 | t,x=>DQ t [x]
def Vh:List TT->List AV->Prop
 | [],xs=>xs=[]
 | t::ts,xs=>∃x ys,xs=x::ys/\VE t x/\Vh ts ys
def Fz (P:Program) (rc:TypeId->Option TT):Nat->List Field->Option (List TT)
 | o,[]=>some []
 | o,f::fs=>match rc f.type,Fz P rc (o+P.cellsOf f.type) fs with
  | some t,some ts=>if f.offset=o then some (t::ts) else none
  | _,_=>none
def Jh (P:Program):List Field->Nat
 | []=>0
 | f::fs=>P.cellsOf f.type+Jh P fs
def LY (P:Program) (t:TypeId):List Field->Bool
 | [a,b,c,d]=>(a.offset==0&&b.offset==1&&c.offset==2&&d.offset==3)&&(P.cellsOf t==4&&P.cellsOf a.type==1&&P.cellsOf b.type==1&&P.cellsOf c.type==1&&P.cellsOf d.type==1)&&decide (0<P.bytesOf t)&&(match P.underlying a.type,P.underlying b.type,P.underlying c.type,P.underlying d.type with
  | some (.int .i64),some .string,some (.slice e),some (.slice f)=>f==t&&P.cellsOf e==1&&decide (0<P.bytesOf e)&&(match P.underlying e with|some .string=>true|_=>false)
  | _,_,_,_=>false)
 | _=>false
def CL (P:Program):Nat->TypeId->Option TT
 | 0,_=>none
 | d+1,t=>match P.underlying t with
  | some .string=>some .s
  | some .bool=>some .b
  | some (.int k)=>some (.i k)
  | some (.struct fs)=>if LY P t fs.toList=true then some .rv else if P.cellsOf t=Jh P fs.toList then (Fz P (CL P d) 0 fs.toList).map .st else none
  | some (.slice e)=>if 0<P.cellsOf e/\0<P.bytesOf e then (CL P d e).map .sl else none
  | _=>none
theorem UE {H:Type} {P:Program} {e:TypeId}:∀{ds:List (DataW H)} {d:DataW H},d∈ds->∀n∈d.weights P e,n∈DataW.weightsAll P e ds
 | [],d,hd,n,hn=>by cases hd
 | d0::ds,d,hd,n,hn=>by
  simp only[DataW.weightsAll,zw];rcases zv.1 hd with rfl|hd
  ·exact .inl hn
  ·exact .inr (UE hd n hn)
theorem Ru {w:World} {G:Gh} {I:Ak} {t:TT} (a:Addr) (c:Nat) (hI:∀g o v,w.cell? ⟨g,o,none⟩=some v->I g o v):∀k:Nat,
  (∀i,i<k->∃(g:List AV) (ys:List Value),ys.length=c/\(∀j,j<c->w.cell? ((a.add (i*c)).add j)=ys[j]?)/\Ac G I g ys/\DQ t g/\∀u∈ys,u.oneCell'=true) ->
  ∃(gs:List (List AV)) (ys:List Value),gs.length=k/\ys.length=k*c/\Ac G I gs.flatten ys/\(∀g∈gs,DQ t g)/\(∀u∈ys,u.oneCell'=true)/\∀j,j<k*c->w.cell? (a.add j)=ys[j]?
 | 0,_=>⟨[],[],rfl,by simp,Ac.nil,by simp,by simp,fun j hj=>by simp at hj⟩
 | k+1,h=>by
  obtain⟨gs,ys,h1,h2,h3,h4,h5,h6⟩:=Ru a c hI k (fun i hi=>h i (by omega));obtain⟨g,zs,k1,k2,k3,k4,k5⟩:=h k (by omega);have hm:(k+1)*c=k*c+c:=Nat.succ_mul k c;refine⟨gs++[g],ys++zs,by simp[h1],by rw[List.length_append,h2,k1,hm],?_,?_,?_,?_⟩
  ·rw[List.flatten_append,List.flatten_cons,List.flatten_nil,zy];exact Ac.append h3 k3
  ·intro x hx;rcases zw.1 hx with hx|hx
   ·exact h4 x hx
   ·rw[List.mem_singleton] at hx;subst hx;exact k4
  ·intro u hu;rcases zw.1 hu with hu|hu
   ·exact h5 u hu
   ·exact k5 u hu
  ·intro j hj
   by_cases hjk:j<k*c
   ·rw[h6 j hjk,List.getElem?_append_left (by omega)]
   ·have:=k2 (j - k*c) (by omega);rw[Addr.add_add,show k*c+(j - k*c)=j by omega] at this;rw[this,List.getElem?_append_right (by omega),h2]
theorem XT {a:Addr} {j:Nat} (ha:a.spot=none):a.add j=⟨a.block,a.off+j,none⟩:=by
 cases a
 simp only at ha;subst ha;unfold Addr.add
 split
 ·rename_i h;subst h;rfl
 ·rfl
section
variable {H:Type} {enc:TypeId×Value->H} {P:Program} {w:World} {base:Nat} {spare:Nat->Bool} {held:Bool} {G:Gh} {I:Ak}
theorem SJ (d:Nat) (ih:∀(t:TypeId) (tt:TT) (fuel:Nat) (cs:List Value) (x:DataW H×List MemPlace),CL P d t=some tt->DataW.trod enc P w base spare held fuel t cs=some x->(∀n∈x.1.weights P t,n<=reachBytes)->∃xs,Ac G I xs cs/\DQ tt xs/\∀u∈cs,u.oneCell'=true) (n:Nat) :
  ∀(fs:List Field) (ts:List TT) (o:Nat) (cs:List Value),Fz P (CL P d) o fs=some ts->cs.length=o+Jh P fs->(∀f∈fs,∃x,DataW.trod enc P w base spare held n f.type ((cs.drop f.offset).take (P.cellsOf f.type))=some x/\∀m∈x.1.weights P f.type,m<=reachBytes) ->
   ∃xs,Ac G I xs (cs.drop o)/\LO ts xs/\∀u∈cs.drop o,u.oneCell'=true
 | [],ts,o,cs,ht,hl,hf=>by
  simp only[Fz,Option.some.injEq] at ht;subst ht;have:cs.drop o=[]:=List.drop_eq_nil_of_le (by simp[Jh] at hl;omega);rw[this];exact⟨[],Ac.nil,rfl,by simp⟩
 | f::fs,ts,o,cs,ht,hl,hf=>by
  simp only[Fz] at ht
  split at ht
  ·rename_i t ts' h1 h2
   split at ht
   ·rename_i ho;injection ht with ht;subst ht
    obtain⟨x,hx,hxw⟩:=hf f (jp ..);rw[ho] at hx;obtain⟨xs,k1,k2,k3⟩:=ih _ _ _ _ _ h1 hx hxw;simp only[Jh] at hl;obtain⟨ys,m1,m2,m3⟩:=SJ d ih n fs ts' (o+P.cellsOf f.type) cs h2 (by omega) (fun f' hf'=>hf f' (qx _ hf'));have e:cs.drop o=(cs.drop o).take (P.cellsOf f.type)++cs.drop (o+P.cellsOf f.type):=by
     rw[<-List.drop_drop,List.take_append_drop]
    refine⟨xs++ys,?_,?_,?_⟩
    ·rw[e];exact Ac.append k1 m1
    ·exact⟨xs,ys,rfl,k2,m2⟩
    ·rw[e];intro u hu;rcases zw.1 hu with hu|hu
     ·exact k3 u hu
     ·exact m3 u hu
   ·cases ht
  ·cases ht
theorem NY (hI:∀g o v,w.cell? ⟨g,o,none⟩=some v->I g o v) (hspa:∀b,spare b=true) {t e:TypeId} {te:TT} {fuel:Nat} {cs:List Value} {x:DataW H×List MemPlace} (hu:P.underlying t=some (.slice e)) (hc:0<P.cellsOf e/\0<P.bytesOf e)
  (ih:∀(n:Nat) (ys:List Value) (x:DataW H×List MemPlace),n<fuel->DataW.trod enc P w base spare held n e ys=some x->(∀n∈x.1.weights P e,n<=reachBytes)->∃g,Ac G I g ys/\DQ te g/\∀u∈ys,u.oneCell'=true)
  (h:DataW.trod enc P w base spare held fuel t cs=some x) (hwt:∀n∈x.1.weights P t,n<=reachBytes):∃xs,Ac G I xs cs/\DQ (.sl te) xs/\∀u∈cs,u.oneCell'=true:=by
 rcases DataW.trod_slice hu h with ⟨rfl,rfl⟩|⟨a,len,cap,elems,rest,n,hfu,rfl,rfl,hb,hl,hm,hlen,hel,hsr,_⟩
 ·exact⟨[.row 0 []],Ac.cons (by simp only[Ab];exact⟨none,0,[],rfl,⟨Nat.le_refl _,fun ad h=>by cases h⟩,Ac.nil,by simp,by simp⟩) Ac.nil,⟨[],rfl,by simp,by simp⟩,by simp;rfl⟩
 ·have hw2:(elems.length+rest.length)*P.bytesOf e<=reachBytes:=by
   have:=hwt ((elems.map (·.1)).length+(rest.map (·.1)).length |> (·*P.bytesOf e)) (by simp[DataW.weights,hu]);simpa using this
  have hel2:elems.length<=140737488351232:=by
   have h1:elems.length*1<=(elems.length+rest.length)*P.bytesOf e:=Nat.mul_le_mul (by omega) hc.2;have:reachBytes=140737488351232:=rfl;omega
  have hel3:∀i,i<len->∃(g:List AV) (ys:List Value),ys.length=P.cellsOf e/\(∀j,j<P.cellsOf e->w.cell? ((a.add (i*P.cellsOf e)).add j)=ys[j]?)/\Ac G I g ys/\DQ te g/\∀u∈ys,u.oneCell'=true:=by
   intro i hi;have h1:=hel i hi;have hil:i<elems.length:=by omega
   rw[zq hil,Option.bind_eq_some_iff] at h1;obtain⟨ys,y1,y2⟩:=h1;obtain⟨_,z1,z2⟩:=World.cells?_some y1;obtain⟨g,g1,g2,g3⟩:=ih n ys _ (by omega) y2 (fun m hm=>hwt m (by
    simp only[DataW.weights,hu,zv,zw];exact .inr (.inl (UE (List.mem_map.2 ⟨_,List.getElem_mem hil,rfl⟩) m hm))))
   exact⟨g,ys,z1,z2,g1,g2,g3⟩
  obtain⟨gs,ys,k1,k2,k3,k4,k5,k6⟩:=Ru (G:=G) a (P.cellsOf e) hI len hel3;have hsp0:cap≠0->a.spot=none:=by
   intro hcap
   by_cases hl0:0<len
   ·have hp:0<len*P.cellsOf e:=Nat.mul_pos hl0 hc.1;have h2:=k6 0 hp;rw[zq (by omega)] at h2;have:=World.cell?_spot h2;simpa[Addr.add] using this
   ·have hr:=(hsr (hspa _)).2 0 (by omega);have hrl:=(hsr (hspa _)).1;rw[zq (by omega),Option.bind_eq_some_iff] at hr;obtain⟨zs,y1,_⟩:=hr;obtain⟨_,z1,z2⟩:=World.cells?_some y1;have h2:=z2 0 hc.1;rw[zq (by omega)] at h2;have:=World.cell?_spot h2;have hl1:len=0:=by omega
    subst hl1;simpa[Addr.add] using this
  refine⟨[.row gs.length gs.flatten],Ac.cons ?_ Ac.nil,⟨gs,rfl,by omega,k4⟩,by simp;rfl⟩;simp only[Ab];refine⟨some a,cap,ys,by rw[k1],⟨by omega,fun ad h hc0=>by injection h with h;subst h;exact hsp0 hc0⟩,k3,k5,fun j u hj=>?_⟩;have hjl:=(jf.1 hj).1;have hlp:len≠0:=by rintro rfl;rw[k2,Nat.zero_mul] at hjl;omega
  have hs:=hsp0 (by omega);refine⟨a.block,a.off,by cases a;simp only at hs;subst hs;rfl,hI _ _ _ ?_⟩;have h2:=k6 j (k2▸hjl);rw[XT hs] at h2;rw[h2,hj]
theorem WM {t:TypeId} {fs:List Field} (h:LY P t fs=true):∃a b c d e,fs=[a,b,c,d]/\(a.offset=0/\b.offset=1/\c.offset=2/\d.offset=3)/\(P.cellsOf t=4/\P.cellsOf a.type=1/\P.cellsOf b.type=1/\P.cellsOf c.type=1/\P.cellsOf d.type=1)/\0<P.bytesOf t /\
  P.underlying a.type=some (.int .i64)/\P.underlying b.type=some .string/\P.underlying c.type=some (.slice e)/\P.underlying d.type=some (.slice t)/\P.cellsOf e=1/\0<P.bytesOf e/\P.underlying e=some .string:=by
 unfold LY at h
 split at h
 ·rename_i a b c d;simp only[Bool.and_eq_true,beq_iff_eq,decide_eq_true_eq] at h;obtain⟨⟨⟨h1,h2⟩,h3⟩,h4⟩:=h
  split at h4
  ·rename_i e f u1 u2 u3 u4;simp only[Bool.and_eq_true,beq_iff_eq,decide_eq_true_eq] at h4;obtain⟨⟨⟨k1,k2⟩,k3⟩,k4⟩:=h4;subst k1
   split at k4
   ·rename_i u5;exact⟨a,b,c,d,e,rfl,⟨h1.1.1.1,h1.1.1.2,h1.1.2,h1.2⟩,⟨h2.1.1.1.1,h2.1.1.1.2,h2.1.1.2,h2.1.2,h2.2⟩,h3,u1,u2,u3,u4,k2,k3,u5⟩
   ·cases k4
  ·cases h4
 ·cases h
theorem Qs:∀gs:List (List AV),(∀g∈gs,DQ .s g)->∃ks:List (List UInt8),gs.flatten=ks.map .s/\ks.length=gs.length/\∀k∈ks,k.length<=140737488351232
 | [],_=>⟨[],rfl,rfl,by simp⟩
 | g::gs,h=>by
  obtain⟨ks,h1,h2,h3⟩:=Qs gs (fun g hg=>h g (qx _ hg));obtain⟨l,hl,hl2⟩:=h g (jp ..);refine⟨l::ks,by rw[List.flatten_cons,hl,h1];rfl,by simp[h2],fun k hk=>?_⟩;rcases zv.1 hk with rfl|hk
  ·exact hl2
  ·exact h3 k hk
theorem Rw:∀gs:List (List AV),(∀g∈gs,DQ .rv g)->∃rs:List RV,gs.flatten=Jm rs/\rs.length=gs.length/\I5 rs
 | [],_=>⟨[],by rw[Jm];rfl,rfl,by rw[I5];trivial⟩
 | g::gs,h=>by
  obtain⟨rs,h1,h2,h3⟩:=Rw gs (fun g hg=>h g (qx _ hg));obtain⟨r,hr,hr2⟩:=h g (jp ..);exact⟨r::rs,by rw[List.flatten_cons,hr,h1,Jm],by simp[h2],by rw[I5];exact⟨hr2,h3⟩⟩
theorem WC (hI:∀g o v,w.cell? ⟨g,o,none⟩=some v->I g o v) (hspa:∀b,spare b=true) {t:TypeId} {fs:Array Field} (hu:P.underlying t=some (.struct fs)) (hrv:LY P t fs.toList=true):∀(m fuel:Nat) (cs:List Value) (x:DataW H×List MemPlace),fuel<m->DataW.trod enc P w base spare held fuel t cs=some x->(∀n∈x.1.weights P t,n<=reachBytes)->∃xs,Ac G I xs cs/\DQ .rv xs/\∀u∈cs,u.oneCell'=true:=by
 intro m
 induction m with
 | zero=>intro fuel cs x hm;omega
 | succ m ih=>
  intro fuel cs x hm h hwt;obtain⟨a,b,c,d,e,hfs,⟨o1,o2,o3,o4⟩,⟨c0,c1,c2,c3,c4⟩,hb,u1,u2,u3,u4,e1,e2,e3⟩:=WM hrv;obtain⟨xs,n,hfu,rfl,hlen,hxl,hf⟩:=DataW.trod_struct hu h;have hsz:fs.size=4:=by rw[<-Array.length_toList,hfs];rfl
  have gf:∀j,fs[j]? = [a,b,c,d][j]?:=fun j=>by rw[<-hfs,Array.getElem?_toList]
  have hall:∀(j:Nat) (f:Field),[a,b,c,d][j]? = some f->∃x,DataW.trod enc P w base spare held n f.type ((cs.drop f.offset).take (P.cellsOf f.type))=some x/\∀m∈x.1.weights P f.type,m<=reachBytes:=by
   intro j f hj;have h1:=hf j f (by rw[gf];exact hj);have hjl:j<xs.length:=by
    rw[hxl,hsz];exact(jf.1 hj).1
   rw[zq hjl] at h1;refine⟨_,h1,fun m hm=>hwt m ?_⟩;have hj2:(fs.toList.map (·.type))[j]? = some f.type:=by rw[xe,hfs,hj];rfl
   have:=DataW.weights_mem_each hj2 (show (xs.map (·.1))[j]? = some xs[j].1 by rw[xe,zq hjl];rfl) m hm;simpa[DataW.weights,hu] using this
  obtain⟨xa,ha,wa⟩:=hall 0 a rfl;obtain⟨xb,hb',wb⟩:=hall 1 b rfl;obtain⟨xc,hc',wc⟩:=hall 2 c rfl;obtain⟨xd,hd',wd⟩:=hall 3 d rfl;rw[o1,c1] at ha;rw[o2,c2] at hb';rw[o3,c3] at hc';rw[o4,c4] at hd';rw[c0] at hlen;obtain⟨v0,v1,v2,v3,rfl⟩:∃v0 v1 v2 v3,cs=[v0,v1,v2,v3]:=by
   match cs,hlen with
   | [v0,v1,v2,v3],_=>exact⟨v0,v1,v2,v3,rfl⟩
  simp only[List.drop_zero,List.drop_succ_cons,List.take_succ_cons,List.take_zero] at ha hb' hc' hd';obtain⟨i0,r0,_,w0⟩:=DataW.trod_int u1 ha;injection r0 with r0 _
  obtain⟨s0,r1,rx1,_⟩:=DataW.trod_string u2 hb';injection r1 with r1 _
  subst r0 r1;obtain⟨ys2,d2,⟨g2,q2,l2,m2⟩,oc2⟩:=NY (te:=.s) (G:=G) (I:=I) hI hspa u3 ⟨by omega,e2⟩ (fun n' ys y hn' hy hyw=>by
   obtain⟨s,rfl,rfl,hs⟩:=DataW.trod_string e3 hy;exact⟨[.s s.data.toList],Ac.cons (by simp[Ab]) Ac.nil,⟨_,rfl,hyw _ (by simp[DataW.weights])⟩,by simp;rfl⟩) hc' wc
  obtain⟨ys3,d3,⟨g3,q3,l3,m3⟩,oc3⟩:=NY (te:=.rv) (G:=G) (I:=I) hI hspa u4 ⟨by omega,hb⟩ (fun n' ys y hn' hy hyw=>ih n' ys y (by omega) hy hyw) hd' wd;subst q2 q3;obtain⟨ks,k1,k2,k3⟩:=Qs g2 m2;obtain⟨rs,j1,j2,j3⟩:=Rw g3 m3;refine⟨Il (.mk i0 s0.data.toList ks rs),?_,⟨_,rfl,?_⟩,?_⟩
  ·rw[Il,k2,j2,<-k1,<-j1];exact Ac.cons (by simp[Ab]) (Ac.cons (by simp[Ab]) (Ac.append d2 d3))
  ·rw[LN];refine⟨w0,?_,by omega,k3,by omega,j3⟩;subst rx1;exact wb _ (by simp[DataW.weights])
  ·intro u hu';simp only[zv,List.not_mem_nil,or_false] at hu';rcases hu' with rfl|rfl|rfl|rfl
   ·rfl
   ·rfl
   ·exact oc2 _ (by simp)
   ·exact oc3 _ (by simp)
theorem aU (hI:∀g o v,w.cell? ⟨g,o,none⟩=some v->I g o v) (hspa:∀b,spare b=true):∀(d:Nat) (t:TypeId) (tt:TT) (fuel:Nat) (cs:List Value) (x:DataW H×List MemPlace),CL P d t=some tt->DataW.trod enc P w base spare held fuel t cs=some x->(∀n∈x.1.weights P t,n<=reachBytes)->∃xs,Ac G I xs cs/\DQ tt xs/\∀u∈cs,u.oneCell'=true:=by
 intro d
 induction d with
 | zero=>intro t tt fuel cs x ht;simp[CL] at ht
 | succ d ih=>
  intro t tt fuel cs x ht h hwt;simp only[CL] at ht
  split at ht
  ·rename_i hu;injection ht with ht;subst ht
   obtain⟨s,rfl,rfl,hs⟩:=DataW.trod_string hu h;refine⟨[.s s.data.toList],Ac.cons (by simp[Ab]) Ac.nil,⟨_,rfl,?_⟩,by simp;rfl⟩;exact hwt _ (by simp[DataW.weights])
  ·rename_i hu;injection ht with ht;subst ht
   obtain⟨b,rfl,_⟩:=DataW.trod_bool hu h;exact⟨[.b b],Ac.cons (by simp[Ab]) Ac.nil,⟨_,rfl⟩,by simp;rfl⟩
  ·rename_i k hu;injection ht with ht;subst ht
   obtain⟨n,rfl,_,hw⟩:=DataW.trod_int hu h;exact⟨[.i k n],Ac.cons (by simp[Ab]) Ac.nil,⟨_,rfl,hw⟩,by simp;rfl⟩
  ·rename_i fs hu
   split at ht
   ·rename_i hrv;injection ht with ht;subst ht
    exact WC hI hspa hu hrv (fuel+1) fuel cs x (by omega) h hwt
   split at ht
   ·rename_i hc
    cases hts:Fz P (CL P d) 0 fs.toList with
    | none=>rw[hts] at ht;cases ht
    | some ts=>
     rw[hts] at ht;injection ht with ht;subst ht
     obtain⟨xs,n,_,rfl,hlen,hxl,hf⟩:=DataW.trod_struct hu h;have hall:∀f∈fs.toList,∃x,DataW.trod enc P w base spare held n f.type ((cs.drop f.offset).take (P.cellsOf f.type))=some x/\∀m∈x.1.weights P f.type,m<=reachBytes:=by
      intro f hfm;obtain⟨j,hj⟩:=List.mem_iff_getElem?.1 hfm;have h1:=hf j f (by simpa using hj);have hjl:j<xs.length:=by
       rw[hxl];have:=(jf.1 hj).1;simpa using this
      rw[zq hjl] at h1;refine⟨_,h1,fun m hm=>hwt m ?_⟩;have hj2:(fs.toList.map (·.type))[j]? = some f.type:=by rw[xe,hj];rfl
      have:=DataW.weights_mem_each hj2 (show (xs.map (·.1))[j]? = some xs[j].1 by rw[xe,zq hjl];rfl) m hm;simpa[DataW.weights,hu] using this
     obtain⟨ys,k1,k2,k3⟩:=SJ d ih n fs.toList ts 0 cs hts (by rw[hlen,hc];omega) hall;exact⟨ys,by simpa using k1,k2,by simpa using k3⟩
   ·cases ht
  ·rename_i e hu
   split at ht
   ·rename_i hc
    cases hte:CL P d e with
    | none=>rw[hte] at ht;cases ht
    | some te=>
     rw[hte] at ht;injection ht with ht;subst ht
     exact NY hI hspa hu hc (fun n ys y _ hy hyw=>ih e te n ys y hte hy hyw) h hwt
   ·cases ht
  ·cases ht
theorem Zv (hI:∀g o v,w.cell? ⟨g,o,none⟩=some v->I g o v) (hspa:∀b,spare b=true) {r:Reach} {b0:Nat} {t:TypeId} {tt:TT} {v:Value} {dd:DataW H} {ps:List MemPlace} (ht:CL P 20 t=some tt) (hv:Value.okWide P w r b0 t v) (h:DataW.Trod enc P w base spare held t v dd ps) (hwt:∀n∈dd.weights P t,n<=reachBytes):∃x,Ab G I x v/\VE tt x:=by
 obtain⟨fuel,hf⟩:=h;obtain⟨xs,h1,h2,h3⟩:=aU hI hspa 20 t tt fuel _ _ ht hf hwt;have ht':=ht;unfold CL at ht
 cases tt with
 | st ts=>
  split at ht<;>first|(injection ht with ht;cases ht;done)|skip
  ·rename_i fs hu;obtain⟨cs,rfl,_⟩:=okWide_struct hu hv;refine⟨.agg xs,?_,⟨xs,rfl,h2⟩⟩;simp only[Ab];exact⟨cs.toList,by simp,h1,h3⟩
  ·split at ht
   ·cases hq:CL P 19 _ with
    | none=>rw[hq] at ht;cases ht
    | some q=>rw[hq] at ht;injection ht with ht;cases ht
   ·cases ht
  ·cases ht
 | rv=>
  split at ht<;>first|(injection ht with ht;cases ht;done)|skip
  ·rename_i fs hu;obtain⟨cs,rfl,_⟩:=okWide_struct hu hv;obtain⟨r,rfl,hr⟩:=h2;refine⟨.agg (Il r),?_,⟨r,rfl,hr⟩⟩;simp only[Ab];exact⟨cs.toList,by simp,h1,h3⟩
  ·split at ht
   ·cases hq:CL P 19 _ with
    | none=>rw[hq] at ht;cases ht
    | some q=>rw[hq] at ht;injection ht with ht;cases ht
   ·cases ht
  ·cases ht
 | sl t=>
  split at ht<;>first|(injection ht with ht;cases ht;done)|skip
  ·split at ht
   ·injection ht with ht;cases ht
   split at ht
   ·cases hq:Fz P (CL P 19) 0 _ with
    | none=>rw[hq] at ht;cases ht
    | some q=>rw[hq] at ht;injection ht with ht;cases ht
   ·cases ht
  ·rename_i e hu;obtain⟨a,len,cap,rfl⟩:=okWide_slice hu hv;obtain⟨gs,rfl,hl,hg⟩:=h2;simp only[Ac] at h1;obtain⟨y,ys,e1,k1,k2⟩:=h1;subst k2;have e2:[Value.slice a len cap]=[y]:=e1;injection e2 with e2 _
   subst e2;exact⟨.row gs.length gs.flatten,k1,⟨gs,rfl,hl,hg⟩⟩
  ·cases ht
 | s=>
  split at ht<;>first|(injection ht with ht;cases ht;done)|skip
  ·rename_i hu;obtain⟨s,rfl⟩:=okWide_string hu hv;obtain⟨l,rfl,hl⟩:=h2;simp only[Ac] at h1;obtain⟨y,ys,e,k1,k2⟩:=h1;subst k2;have e2:[Value.string s]=[y]:=e;injection e2 with e2 _
   subst e2;exact⟨.s l,k1,⟨l,rfl,hl⟩⟩
  ·split at ht
   ·injection ht with ht;cases ht
   split at ht
   ·cases hq:Fz P (CL P 19) 0 _ with
    | none=>rw[hq] at ht;cases ht
    | some q=>rw[hq] at ht;injection ht with ht;cases ht
   ·cases ht
  ·split at ht
   ·cases hq:CL P 19 _ with
    | none=>rw[hq] at ht;cases ht
    | some q=>rw[hq] at ht;injection ht with ht;cases ht
   ·cases ht
  ·cases ht
 | b=>
  split at ht<;>first|(injection ht with ht;cases ht;done)|skip
  ·rename_i hu;obtain⟨s,rfl⟩:=okWide_bool hu hv;obtain⟨l,rfl⟩:=h2;simp only[Ac] at h1;obtain⟨y,ys,e,k1,k2⟩:=h1;subst k2;have e2:[Value.bool s]=[y]:=e;injection e2 with e2 _
   subst e2;exact⟨.b l,k1,⟨l,rfl⟩⟩
  ·split at ht
   ·injection ht with ht;cases ht
   split at ht
   ·cases hq:Fz P (CL P 19) 0 _ with
    | none=>rw[hq] at ht;cases ht
    | some q=>rw[hq] at ht;injection ht with ht;cases ht
   ·cases ht
  ·split at ht
   ·cases hq:CL P 19 _ with
    | none=>rw[hq] at ht;cases ht
    | some q=>rw[hq] at ht;injection ht with ht;cases ht
   ·cases ht
  ·cases ht
 | i k=>
  split at ht<;>first|(injection ht with ht;cases ht;done)|skip
  ·rename_i k' hu;injection ht with ht;injection ht with ht;subst ht
   obtain⟨s,rfl⟩:=okWide_int hu hv;obtain⟨l,rfl,hl⟩:=h2;simp only[Ac] at h1;obtain⟨y,ys,e,k1,k2⟩:=h1;subst k2;have e2:[Value.int _ s]=[y]:=e;injection e2 with e2 _
   subst e2;exact⟨.i _ l,k1,⟨l,rfl,hl⟩⟩
  ·split at ht
   ·injection ht with ht;cases ht
   split at ht
   ·cases hq:Fz P (CL P 19) 0 _ with
    | none=>rw[hq] at ht;cases ht
    | some q=>rw[hq] at ht;injection ht with ht;cases ht
   ·cases ht
  ·split at ht
   ·cases hq:CL P 19 _ with
    | none=>rw[hq] at ht;cases ht
    | some q=>rw[hq] at ht;injection ht with ht;cases ht
   ·cases ht
  ·cases ht
theorem open_args (hI:∀g o v,w.cell? ⟨g,o,none⟩=some v->I g o v) (hspa:∀b,spare b=true) {r:Reach} {b0:Nat}:∀(ts:List TypeId) (tts:List TT) (vs:List Value) (ds:List (DataW H)) (ps:List MemPlace),ts.mapM (CL P 20)=some tts->(∀(j:Nat) t v,ts[j]? = some t->vs[j]? = some v->Value.okWide P w r b0 t v)->DataW.TrodAll enc P w base spare held ts vs ds ps->(∀n∈DataW.weightsEach P ts ds,n<=reachBytes)->∃xs,Ac G I xs vs/\Vh tts xs
 | [],tts,vs,ds,ps,ht,hv,h,hwt=>by
  simp at ht;subst ht;obtain⟨rfl,_,_⟩:=trodAll_nil h;exact⟨[],Ac.nil,rfl⟩
 | t::ts,tts,vs,ds,ps,ht,hv,h,hwt=>by
  simp only[List.mapM_cons,Option.bind_eq_bind,Option.pure_def] at ht
  cases h1:CL P 20 t with
  | none=>simp[h1] at ht
  | some tt=>
   cases h2:ts.mapM (CL P 20) with
   | none=>simp[h1,h2] at ht
   | some tts'=>
    simp[h1,h2] at ht;subst ht;obtain⟨v,vs',d,ds',p,q,rfl,rfl,rfl,k1,k2⟩:=trodAll_cons h;obtain⟨x,x1,x2⟩:=Zv (G:=G) (I:=I) hI hspa h1 (hv 0 t v rfl rfl) k1 (fun n hn=>hwt n (by simp only[DataW.weightsEach,zw];exact .inl hn));obtain⟨xs,y1,y2⟩:=open_args hI hspa ts tts' vs' ds' q h2 (fun j t v hj hv'=>hv (j+1) t v (by simpa using hj) (by simpa using hv')) k2 (fun n hn=>hwt n (by simp only[DataW.weightsEach,zw];exact .inr hn));exact⟨x::xs,Ac.cons x1 y1,⟨x,xs,rfl,x2,y2⟩⟩
theorem Uq (hl:laidOutB P=true) {W W':World} {sp':Nat->Bool}:∀(ts:List TypeId) (vs:List Value) (ds:List (DataW H)) (ps:List MemPlace),(∀t∈ts,P.readableRec t=true/\t<P.types.size)->DataW.TrodAll enc P W 0 (fun _=>true) true ts vs ds ps->Below W.heap.size W W'->(∀p∈ps,p.block<W.heap.size)->(∀p∈ps,sp' p.block=true)->DataW.TrodAll enc P W' 0 sp' true ts vs ds ps
 | [],vs,ds,ps,hr,h,hb,hlt,hs=>by
  obtain⟨rfl,rfl,rfl⟩:=trodAll_nil h;exact trodAll_mk0
 | t::ts,vs,ds,ps,hr,h,hb,hlt,hs=>by
  obtain⟨v,vs',d,ds',p,q,rfl,rfl,rfl,k1,k2⟩:=trodAll_cons h;have h1:=hr t (jp ..);exact trodAll_cons_mk (WideElems.Trod_stays hl h1.1 h1.2 k1 (fun x hx=>hb.same (hlt x (xj _ hx))) (fun x hx=>hs x (xj _ hx)))
   (Uq hl ts vs' ds' q (fun t ht=>hr t (qx _ ht)) k2 hb (fun x hx=>hlt x (yj _ hx)) (fun x hx=>hs x (yj _ hx)))
end
theorem post_true {H:Type} {enc:TypeId×Value->H} {P:Program} {f:Func} {s:ChangeSpec} {apart fresh handsOn again:Bool} {W W':World} {args:Array Value} {ds gs:List (DataW H)} {before:List MemPlace}
  (hl:laidOutB P=true) (hts:∀t∈f.params.toList,P.readableRec t=true/\t<P.types.size) {tb:TypeId} (hrt:f.resultTypes=#[tb]) (hub:P.underlying tb=some .bool) (hsv:s.vars=[])
  (hW:DataW.Whole enc P f.params.toList s.vars apart W args.toList ds gs before) (hfn:s.fn H (ds++gs)={ results:=[.lit (.bool true)],args:=ds }) (hb:Below W.heap.size W W'):s.post enc P f apart fresh handsOn again W args (.bool true) W':=by
 have hlt:∀p∈before,p.block<W.heap.size:=fun p hp=>hW.lt p hp;have hold:∀p∈before,(fun b=>decide (b<W.heap.size)) p.block=true:=fun p hp=>by simpa using hlt p hp
 have hW':=hW;obtain⟨p,q,hA,hV,rfl,hz,hn⟩:=hW';rw[hsv] at hV;have hvars:gs=[]/\q=[]:=by
  cases gs with
  | nil=>exact⟨rfl,hV⟩
  | cons g gs=>exact hV.elim
 obtain⟨rfl,rfl⟩:=hvars;simp only[zy] at *;have hres:∀(b:Nat) (sp:Nat->Bool) (hd:Bool),DataW.TrodAll enc P W' b sp hd f.resultTypes.toList ((Value.bool true).resultList f.resultTypes.size) (s.fn H ds).results []:=by
  intro b sp hd;rw[hfn,hrt];exact trodAll_cons_mk (shut_bool hub _) trodAll_mk0
 have hargs:∀sp:Nat->Bool,(∀x∈p,sp x.block=true)->DataW.TrodAll enc P W' 0 sp true f.params.toList args.toList (s.fn H ds).args p:=by
  intro sp hsp;rw[hfn];exact Uq hl _ _ _ _ hts hA hb hlt hsp
 have hvs:∀sp:Nat->Bool,DataW.TrodVars enc P W' sp s.vars (s.fn H ds).vars []:=by
  intro sp;rw[hsv,hfn];rfl
 refine⟨ds,[],p,[],p,[],hW,by simpa using hres _ _ _,by simpa using hargs _ hold,by simpa using hvs _,World.keptBut_mono (fun x hx=>⟨hx,?_⟩) (hb.frame (·∈p)),fun _=>?_⟩
 ·exact Or.inr (Or.inl hx)
 ·refine⟨?_,_,_,([]++p)++[],⟨[]++p,[],trodAll_append (by simpa using hargs _ (fun _ _=>rfl)) (by simpa using hres _ _ _),by simpa using hvs _,rfl,?_,?_⟩,?_⟩
  ·intro j t r hj hr;rw[hrt] at hj hr
   cases j with
   | zero=>
    simp at hj;subst hj;have:r=.bool true:=by simpa[Value.resultList] using hr.symm
    subst this;exact okWide_bool_mk hub _
   | succ j=>simp at hj
  ·intro b off hp;have hin:MemPlace.cell b off∈p:=by simpa using hp
   rw[hb.frozen (hlt _ hin)];exact hz b off hin
  ·intro ha;simpa using hn ha
  ·intro x hx _;simpa using hx
section
variable {H:Type} {enc:TypeId×Value->H}
end
end Go.Proofs.YtbeoijfmfkifeaaGreatDoor.Sx
namespace Go.Proofs.YtbeoijfmfkifeaaGreatDoor
open Sx
open List renaming cons_append->qy, drop_append_of_le_length->ym, drop_drop->xr, getElem?_set->zb, length_append->zg, length_cons->zl, mem_cons_of_mem->qx, mem_cons_self->jp, nil_append->qn, take_append_of_le_length->yc
theorem Pf {c:Int} (h:(Lit.int .u8 c).wf=true):∃u:UInt8,c=(u.toNat:Int):=by
 have h':0<=c/\c<=255:=by simpa[Lit.wf,IntKind.min,IntKind.max,IntKind.signed,IntKind.bits] using h
 exact⟨UInt8.ofNat c.toNat,by rw[UInt8.toNat_ofNat'];omega⟩
theorem OZ:∀{gs:List (List AV)},(∀g∈gs,DQ (.i .u8) g)->∃l:List UInt8,gs.flatten=Bf l/\gs.length=l.length
 | [],_=>⟨[],rfl,rfl⟩
 | g::gs,h=>by
  obtain⟨l,h1,h2⟩:=OZ (fun x hx=>h x (qx _ hx));obtain⟨n,rfl,hw⟩:=h g (jp ..);obtain⟨c,rfl⟩:=Pf hw;exact⟨c::l,by rw[List.flatten_cons,h1];rfl,by rw[zl,zl,h2]⟩
open Go.RowKit
section
attribute [local irreducible] run
structure XcP where
 h:List UInt8
 po:Int
 p:List UInt8
 q:List UInt8
 f:List UInt8
 hq:Bool
 hf:Bool
 st:Int
 er:Int
def E5 (x:XcP):List AV:=[.s x.h,.i .i64 x.po,.s x.p,.s x.q,.s x.f,.b x.hq,.b x.hf,.i .i64 x.st,.i .i64 x.er]
def A6 (l:List XcP):List AV:=l.flatMap E5
theorem JB (a:XcP) (l:List XcP):A6 (a::l)=E5 a++A6 l:=rfl
theorem La:∀l:List XcP,(A6 l).length=l.length*9
 | []=>rfl
 | a::l=>by rw[JB,zg,La l,zl];simp[E5];omega
theorem De:∀l:List XcP,AE (A6 l)=true
 | []=>rfl
 | a::l=>by rw[JB];simp only[E5,qy,qn,AE,AV.plain,De l,Bool.and_self]
theorem MA:∀(l:List XcP) (i:Nat) (h:i<l.length),((A6 l).drop (i*9)).take 9=E5 l[i]
 | [],i,h=>by cases h
 | a::l,0,h=>by
  rw[JB,Nat.zero_mul,List.drop_zero,yc (by simp[E5])];rfl
 | a::l,i+1,h=>by
  have ih:=MA l i (by simpa using h);rw[JB,show (i+1)*9=9+i*9 from by omega,<-xr,ym (by simp[E5]),show (E5 a).drop 9=[] from rfl,qn];exact ih
def LP (x:XcP):Prop:=x.h.length<=140737488351232/\x.p.length<=140737488351232/\x.q.length<=140737488351232/\x.f.length<=140737488351232
theorem O0:∀{gs:List (List AV)},(∀g∈gs,DQ (.st [.st [.s,.i .i64,.s,.s,.s,.b,.b],.i .i64,.i .i64]) g)->∃l:List XcP,gs.flatten=A6 l/\gs.length=l.length/\∀x∈l,LP x
 | [],_=>⟨[],rfl,rfl,by simp⟩
 | g::gs,h=>by
  obtain⟨l,h1,h2,h3⟩:=O0 (fun x hx=>h x (qx _ hx));obtain⟨_,_,rfl,⟨_,_,rfl,⟨ho,rfl,w1⟩,_,_,rfl,⟨po,rfl,w2⟩,_,_,rfl,⟨pa,rfl,w3⟩,_,_,rfl,⟨qu,rfl,w4⟩,_,_,rfl,⟨fr,rfl,w5⟩,_,_,rfl,⟨hq,rfl⟩,_,_,rfl,⟨hf,rfl⟩,rfl⟩,_,_,rfl,⟨st,rfl,w6⟩,_,_,rfl,⟨er,rfl,w7⟩,rfl⟩:=h g (jp ..);refine⟨⟨ho,po,pa,qu,fr,hq,hf,st,er⟩::l,by rw[List.flatten_cons,h1];rfl,by rw[zl,zl,h2],fun a ha=>?_⟩;rcases List.mem_cons.1 ha with rfl|ha
  ·exact⟨w1,w3,w4,w5⟩
  ·exact h3 a ha
structure GE where
 err:Int
 id:IdP
 prof:IdP
 store:Bool
 secs:Int
 tr:List XcP
 st:Int
 ex:Int
def gv (e:GE):List AV:=[.i .i64 e.err,.i .i64 e.id.kind,.s e.id.text,.s e.id.host,.i .i64 e.id.port,.i .i64 e.prof.kind,.s e.prof.text,.s e.prof.host,.i .i64 e.prof.port,.b e.store,.i .u64 e.secs,.row e.tr.length (A6 e.tr)]
def gc (e:GE):List AV:=[.i .i64 e.err,.i .i64 e.id.kind,.s e.id.text,.s e.id.host,.i .i64 e.id.port,.i .i64 e.prof.kind,.s e.prof.text,.s e.prof.host,.i .i64 e.prof.port,.b e.store,.i .u64 e.secs,.row e.tr.length (A6 e.tr),.i .u64 e.st,.i .u64 e.ex]
def Ar (L:List GE):List AV:=L.flatMap gc
theorem DZ (e:GE) (L:List GE):Ar (e::L)=gc e++Ar L:=rfl
theorem Dv:∀L:List GE,(Ar L).length=L.length*14
 | []=>rfl
 | a::l=>by rw[DZ,zg,Dv l,zl];simp[gc];omega
theorem QZ (e:GE):AE (gc e)=true:=by simp only[gc,AE,AV.plain,De,Bool.and_self]
theorem FI (e:GE):AE (gv e)=true:=by simp only[gv,AE,AV.plain,De,Bool.and_self]
theorem Dg:∀L:List GE,AE (Ar L)=true
 | []=>rfl
 | a::l=>by
  have:=Dg l;rw[DZ];simp only[gc,qy,qn,AE,AV.plain,De,this,Bool.and_self]
theorem Hd:∀(L:List GE) (i:Nat) (h:i<L.length),((Ar L).drop (i*14)).take 14=gc L[i]
 | [],i,h=>by cases h
 | a::l,0,h=>by
  rw[DZ,Nat.zero_mul,List.drop_zero,yc (by simp[gc])];rfl
 | a::l,i+1,h=>by
  have ih:=Hd l i (by simpa using h);rw[DZ,show (i+1)*14=14+i*14 from by omega,<-xr,ym (by simp[gc]),show (gc a).drop 14=[] from rfl,qn];exact ih
structure GOk (e:GE):Prop where
 it:e.id.text.length<=140737488351232
 ih:e.id.host.length<=140737488351232
 pt:e.prof.text.length<=140737488351232
 ph:e.prof.host.length<=140737488351232
 tl:e.tr.length<=140737488351232
 tx:∀x∈e.tr,LP x
 s0:0<=e.secs
 s1:e.secs<=18446744073709551615
 t0:0<=e.st
 t1:e.st<=18446744073709551615
theorem MZ {n:Int} (h:(Lit.int .u64 n).wf=true):0<=n/\n<=18446744073709551615:=by
 simpa[Lit.wf,IntKind.min,IntKind.max,IntKind.signed,IntKind.bits] using h
section
variable [Tabs Tryz.prog] {objs:List OB} {K:List OB->AV->Prop}
theorem VH (x:XcP) (hx:LP x) (hk:∀b,K objs (.b b)):Ai Tryz.prog 46 [.agg [.s x.h,.i .i64 x.po,.s x.p,.s x.q,.s x.f,.b x.hq,.b x.hf]] objs K:=by
 obtain⟨h1,h2,h3,h4⟩:=hx;refine AI fC rfl fun C _=>?_;simp only[SC,Aa,simprocAttr];exact⟨⟨by omega,by omega⟩,⟨by omega,by omega⟩,⟨by omega,by omega⟩,hk _⟩
theorem O4 (x:IdP) (h1:x.text.length<=140737488351232) (h2:x.host.length<=140737488351232) (hk:K objs (.b (decide ((x.text.length:Int)+x.host.length<=1000)))):Ai Tryz.prog 32 [Fb x] objs K:=by
 refine AI bO rfl fun C _=>?_;simp only[RO,Fb,Aa,simprocAttr];refine⟨⟨by omega,by omega⟩,hk⟩
theorem Z5 (l:List XcP) (hl:l.length<=140737488351232) (hw:∀x∈l,LP x) (hk:∀b,(b=true->l.length<=60)->K objs (.b b)):Ai Tryz.prog 33 [.row l.length (A6 l)] objs K:=by
 have hpl:AE [AV.row l.length (A6 l)]=true:=by simp only[AE,AV.plain,De,Bool.and_self]
 refine AI gJ hpl fun C _=>?_;rw[TJ];refine Ae fun Z hZ=>?_;simp only[Aa,simprocAttr];subst hZ;refine Ae fun Z hZ=>?_
 by_cases c:(60:Int)<(l.length:Int)
 ·simp only[Aa,simprocAttr,c];exact hk false (fun h=>by cases h)
 simp only[Aa,simprocAttr,c];subst hZ;refine Ae fun Z hZ=>?_;simp only[Aa,simprocAttr];refine BI (fun m o tm=>∃i:Nat,i<=l.length/\m=l.length - i/\tm.length=19/\tm[8]? = some (.row l.length (A6 l))/\tm[9]? = some (.i .i64 l.length)/\tm[10]? = some (.i .i64 (i:Int))) l.length ⟨0,Nat.zero_le _,rfl,rfl,rfl,rfl,rfl⟩ ?_;rintro m o tm ⟨i,hi,rfl,hlen,t8,t9,t10⟩;have hxl:=La l;refine Ae fun W hW=>?_
 by_cases hlt:(i:Int)<(l.length:Int)
 ·have hi':i<l.length:=by omega
  have hat:=MA l i hi';have hx:=hw l[i] (List.getElem_mem hi');simp only[Aa,simprocAttr,zb,hlen,t9,t10,hlt];subst hW;refine Ae fun W hW=>?_;simp only[Aa,simprocAttr,zb,hlen];subst hW;refine Ae fun W hW=>?_;rw[C6];refine Ae fun V hV=>?_;simp only[Aa,simprocAttr,zb,hlen,t8,t10,hat];refine⟨by omega,?_⟩;generalize l[i]=x at hx ⊢;unfold E5;simp only[Aa,simprocAttr,Bd,BX];refine⟨by omega,?_⟩;subst hV;refine Ae fun V hV=>?_;simp only[Aa,simprocAttr,zb,hlen,Bd];refine Ag (VH x hx fun b=>?_);simp only[Aa,simprocAttr,zb,hlen];subst hV
  cases b with
  | true=>
   simp only[Aa,simprocAttr,zb,hlen,Bool.not_true];subst hW;simp only[Aa,simprocAttr,zb,hlen,t10];exact⟨⟨by omega,by omega⟩,l.length - (i+1),by omega,i+1,by omega,rfl,t8,t9,rfl⟩
  | false=>
   simp only[Aa,simprocAttr,zb,hlen,Bool.not_false];exact hk false (fun h=>by cases h)
 ·simp only[Aa,simprocAttr,zb,hlen,t9,t10,hlt];subst hW;subst hZ;simp only[Aa,simprocAttr,zb,hlen];exact hk true (fun _=>by omega)
end
end
end Go.Proofs.YtbeoijfmfkifeaaGreatDoor
namespace Go.Proofs.YtbeoijfmfkifeaaGreatDoor
open Go.RowKit
open Int renaming toNat_natCast->zm
open List renaming all_eq_true->zj, append_assoc->zu, append_nil->zy, drop_eq_getElem_cons->jq, getElem?_drop->ju, getElem?_eq_getElem->zq, getElem?_eq_none->qg, getElem?_eq_some_iff->jf, getElem?_set->zb, getElem?_take->xh, getElem_mem->qe, length_append->zg, length_cons->zl, length_drop->zt, length_set->zf, length_take->zh, mem_of_mem_drop->ji, mem_range->qi, size_toArray->xo, take_append_drop->jh, take_take->xp
open Nat renaming add_zero->jj, eq_or_lt_of_le->xw, le_refl->zd, lt_or_ge->zo, min_eq_left->xq, mul_le_mul_right->jb, mul_one->qt, zero_add->zz, zero_le->ze
open Option renaming map_some->jt, some->zx
def AM (a b:Int):Int:=if a+b<=18446744073709551615 then a+b else 18446744073709551615
theorem Wa (a b:Int) (w:World) (ha:0<=a) (hb:0<=b) (ha1:a<=18446744073709551615) (hb1:b<=18446744073709551615) :
  Calls Tryz.prog 29 #[.int .u64 a,.int .u64 b] w fun e w'=>e=.returned (.int .u64 (AM a b))/\w=w':=by
 go_enter Tryz.func29,Tryz.ntmps29
 go_wp2
 all_goals go_ret
 all_goals exact⟨EF (by unfold AM;split<;>omega),rfl⟩
theorem ZD (a b:Int) (w:World) (ha:0<=a) (hb:0<=b) (ha1:a<=18446744073709551615) (hb1:b<=18446744073709551615) :
  Calls Tryz.prog 31 #[.int .u64 a,.int .u64 b] w fun e w'=>e=.returned (.int .u64 (AM a b))/\w=w':=by
 go_enter Tryz.func31,Tryz.ntmps31
 go_wp2
 all_goals go_ret
 all_goals exact⟨EF (by unfold AM;split<;>omega),rfl⟩
open Sx
section
attribute [local irreducible] run
def CA (e:GE):Bool:=decide (e.err=0)&&(e.store&&(decide (1<=e.secs)&&(decide (e.secs<=86400)&&Ha e.id)))
def G6 (L:List GE) (i:Nat):Bool:=if i=0 then true else match L[i - 1]?,L[i]? with
 | some d,some e=>AG d.id.text e.id.text
 | _,_=>true
def H5 (L:List GE) (i:Nat):Bool:=match L[i]? with
 | some e=>G6 L i&&(CA e&&decide (e.ex=AM e.st e.secs))
 | none=>true
def Ib (cap n:Int):Bool:=decide (0<=cap)&&(decide (cap<=1024)&&decide (n<=cap))
def GL (cap:Int) (L:List GE):Bool:=Ib cap L.length&&(List.range L.length).all (H5 L)
theorem cS {cap:Int} {L:List GE} (h:Ib cap L.length=false):GL cap L=false:=by unfold GL;rw[h];rfl
theorem Zr {cap:Int} {L:List GE} {i:Nat} (hi:i<L.length) (h:H5 L i=false):GL cap L=false:=by
 unfold GL;rw[Bool.and_eq_false_iff];refine .inr (Bool.eq_false_iff.2 fun e=>?_);have:=zj.1 e i (qi.2 hi);rw[h] at this;cases this
theorem cT {cap:Int} {L:List GE} (h:Ib cap L.length=true) (ha:∀i,i<L.length->H5 L i=true):GL cap L=true:=by
 unfold GL;rw[h,Bool.true_and];exact zj.2 fun i hi=>ha i (qi.1 hi)
def rR (e:GE):Prop:=e.id.text.length<=140737488351232/\0<=e.secs/\e.secs<=18446744073709551615/\0<=e.st/\e.st<=18446744073709551615
def A5 (cap:Int) (L:List GE):AV:=.agg [.i .i64 cap,.row L.length (Ar L)]
theorem kZ {N:List OB} {B X:OB} (h:N[0]? = some B):(N++[X])[0]? = some B:=by
 cases N with
 | nil=>simp at h
 | cons a N=>simpa using h
section
variable [Tabs Tryz.prog] [Shp Tryz.prog] [Pow Tryz.prog] {objs:List OB} {K:List OB->AV->Prop}
omit [Shp Tryz.prog] [Pow Tryz.prog] in
theorem Pc (a b:Int) (ha:0<=a) (hb:0<=b) (ha1:a<=18446744073709551615) (hb1:b<=18446744073709551615) (hk:K objs (.i .u64 (AM a b))):Ai Tryz.prog 29 [.i .u64 a,.i .u64 b] objs K :=
 FY (vs:=[.int .u64 a,.int .u64 b]) rfl rfl (fun w=>Wa a b w ha hb ha1 hb1) hk
omit [Shp Tryz.prog] [Pow Tryz.prog] in
theorem W7 (a b:Int) (ha:0<=a) (hb:0<=b) (ha1:a<=18446744073709551615) (hb1:b<=18446744073709551615) (hk:K objs (.i .u64 (AM a b))):Ai Tryz.prog 31 [.i .u64 a,.i .u64 b] objs K :=
 FY (vs:=[.int .u64 a,.int .u64 b]) rfl rfl (fun w=>ZD a b w ha hb ha1 hb1) hk
omit [Shp Tryz.prog] [Pow Tryz.prog] in
theorem MJ (e:GE) (hk:K objs (.s e.id.text)):Ai Tryz.prog 27 [.agg (gc e)] objs K:=by
 refine AI gI (by simp only[AE,AV.plain,QZ,Bool.and_self]) fun C _=>?_;rw[TI];simp only[gc,Aa,simprocAttr];exact hk
theorem Mr (e:GE) (h:e.id.text.length<=140737488351232) (hk:K objs (.b (CA e))):Ai Tryz.prog 28 [.agg (gv e)] objs K:=by
 refine AI jU (by simp only[AE,AV.plain,FI,Bool.and_self]) fun C _=>?_;rw[UM];unfold CA at hk;refine Ae fun Y hY=>?_;simp only[gv,Aa,simprocAttr];subst hY
 cases hs:e.store with
 | false=>
  rw[hs] at hk;simp only[Aa,simprocAttr] at hk ⊢
  by_cases h1:e.err=0
  all_goals simp only[h1,Aa,simprocAttr] at hk ⊢
  all_goals exact hk
 | true=>
  rw[hs] at hk
  by_cases h1:e.err=0
  all_goals by_cases h2:1<=e.secs
  all_goals by_cases h3:e.secs<=86400
  all_goals simp only[h1,h2,h3,Aa,simprocAttr] at hk ⊢
  all_goals first|exact hk|skip
  refine Ag (eQ e.id h ?_);simp only[Aa,simprocAttr];exact hk
omit [Shp Tryz.prog] [Pow Tryz.prog] in
theorem VW (e:GE) (h:e.id.text.length<=140737488351232) (hk:K objs (.b (CA e))):Ai Tryz.prog 30 [.agg (gv e)] objs K:=by
 refine AI jT (by simp only[AE,AV.plain,FI,Bool.and_self]) fun C _=>?_;rw[UV];unfold CA at hk;refine Ae fun Y hY=>?_;simp only[gv,Aa,simprocAttr];subst hY
 cases hs:e.store with
 | false=>
  rw[hs] at hk;simp only[Aa,simprocAttr] at hk ⊢
  by_cases h1:e.err=0
  all_goals simp only[h1,Aa,simprocAttr] at hk ⊢
  all_goals exact hk
 | true=>
  rw[hs] at hk
  by_cases h1:e.err=0
  all_goals by_cases h2:1<=e.secs
  all_goals by_cases h3:e.secs<=86400
  all_goals simp only[h1,h2,h3,Aa,simprocAttr] at hk ⊢
  all_goals first|exact hk|skip
  refine Ag (cC e.id h ?_);simp only[Aa,simprocAttr];exact hk
theorem YB (cap:Int) (L:List GE) (hL:∀e∈L,rR e) (hk:K objs (.b (GL cap L))):Ai Tryz.prog 14 [A5 cap L] objs K:=by
 have hel:=Dv L;refine AI gS (by simp only[A5,AE,AV.plain,Dg,Bool.and_self]) fun C _=>?_;rw[TZ];refine Ae fun Y hY=>?_;simp only[A5,Aa,simprocAttr];subst hY;refine Ae fun Y hY=>?_
 by_cases hc:Ib cap L.length=true
 rotate_left
 ·rw[cS (Bool.eq_false_iff.2 hc)] at hk
  by_cases e1:cap<0
  ·simp only[Aa,simprocAttr,e1];exact hk
  by_cases e2:1024<cap
  ·simp only[Aa,simprocAttr,e1,e2];exact hk
  have e3:cap<(L.length:Int):=Decidable.byContradiction fun h=>hc (by simp only[Ib,Bool.and_eq_true,decide_eq_true_eq];omega);simp only[Aa,simprocAttr,e1,e2,e3];exact hk
 have hc':=hc;simp only[Ib,Bool.and_eq_true,decide_eq_true_eq] at hc';have e1:¬cap<0:=by omega
 have e2:¬1024<cap:=by omega
 have e3:¬cap<(L.length:Int):=by omega
 simp only[Aa,simprocAttr,e1,e2,e3];subst hY;refine Ae fun Y hY=>?_;simp only[Aa,simprocAttr];refine BI (fun m o tm=>∃i:Nat,m=L.length - i/\i<=L.length/\(∀j,j<i->H5 L j=true)/\o[0]? = some (.box 24 [.i .i64 cap,.row L.length (Ar L)])/\tm.length=60/\tm[1]? = some (.p 0 0)/\tm[22]? = some (.row L.length (Ar L))/\tm[23]? = some (.i .i64 L.length)/\tm[24]? = some (.i .i64 i)) L.length ⟨0,rfl,ze _,fun j h=>absurd h (by omega),rfl,rfl,rfl,rfl,rfl,rfl⟩ ?_;rintro m N tm ⟨i,rfl,hi,hok,hN,hlen,t1,t22,t23,t24⟩;refine Ae fun Z hZ=>?_
 by_cases hlt:i<L.length
 ·have hlt':(i:Int)<(L.length:Int):=by omega
  have a1:=Hd L i hlt;have hsh:=hL _ (qe hlt);have hno:=fun h=>Zr (cap:=cap) hlt h;have hge:L[i]? = some L[i]:=zq hlt;have hokd:H5 L i=(G6 L i&&(CA L[i]&&decide (L[i].ex=AM L[i].st L[i].secs))):=by unfold H5;rw[hge]
  simp only[Aa,simprocAttr,zb,hlen,t23,t24,hlt'];subst hZ;refine Ae fun Z hZ=>?_;simp only[Aa,simprocAttr,zb,hlen,t23,t24,hlt'];subst hZ;refine Ae fun Z hZ=>?_;refine CV (fun o t=>H5 L i=true/\o[0]? = some (.box 24 [.i .i64 cap,.row L.length (Ar L)])/\t.length=60/\t[1]? = some (.p 0 0)/\t[22]? = some (.row L.length (Ar L))/\t[23]? = some (.i .i64 L.length)/\t[24]? = some (.i .i64 i)) ?_ ?_
  ·rw[C6];refine Ae fun X hX=>?_;simp only[gc] at a1;simp only[Aa,simprocAttr,zb,hlen,t22,t24,zm,a1,Bd,BX];refine⟨by omega,by omega,?_⟩;generalize hE:L[i]=e at *;have hN1:=kZ (X:=OB.box 43 (gc e)) hN;have hN2:=Bd N (OB.box 43 (gc e));simp only[gc] at hN1 hN2;generalize N++[OB.box 43 _]=M at hN1 hN2 ⊢;subst hX;refine Ae fun X hX=>?_;refine CV (fun o t=>G6 L i=true/\o=M/\t.length=60/\t[1]? = some (.p 0 0)/\t[4]? = some (.p N.length 0)/\t[22]? = some (.row L.length (Ar L))/\t[23]? = some (.i .i64 L.length)/\t[24]? = some (.i .i64 i)) ?_ ?_
   ·by_cases h0:i=0
    ·have h0':¬(0:Int)<(i:Int):=by omega
     have ho:G6 L i=true:=by unfold G6;rw[if_pos h0]
     refine Ae fun W hW=>?_;simp only[Aa,simprocAttr,zb,hlen,t1,t22,t23,t24,h0'];subst hW;simp only[Aa,simprocAttr,zb,hlen,t1,t22,t23,t24,Bw,zf,and_self,ho]
    ·have h0':(0:Int)<(i:Int):=by omega
     have hp:i - 1<L.length:=by omega
     have a2:=Hd L (i - 1) hp;have ho:G6 L i=AG L[i - 1].id.text e.id.text:=by unfold G6;rw[if_neg h0,zq hp,hge]
     refine Ae fun W hW=>?_;have ei:((i:Int) - 1).toNat=i - 1:=by omega
     generalize L[i - 1]=d at *;simp only[gc] at a2;simp only[Aa,simprocAttr,zb,hlen,t1,t22,t23,t24,h0',hN1,ei,a2];refine⟨by omega,by omega,by omega,?_⟩;refine Br (v:=.s d.id.text) (MJ d ⟨rfl,rfl⟩) ?_;simp only[Aa,simprocAttr,zb,hlen,t1,t22,t23,t24,h0',hN1,hN2];refine Br (v:=.s e.id.text) (MJ e ⟨rfl,rfl⟩) ?_
     cases hs:AG d.id.text e.id.text with
     | true=>
      simp only[Aa,simprocAttr,zb,hlen,t1,t22,t23,t24,h0',hN1,hN2,hs];subst hW;simp only[Aa,simprocAttr,zb,hlen,t1,t22,t23,t24,Bw,zf,and_self,ho,hs]
     | false=>
      simp only[Aa,simprocAttr,zb,hlen,t1,t22,t23,t24,h0',hN1,hN2,hs];subst hW;rw[hno (by rw[hokd,ho,hs];rfl)] at hk;simp only[Aa,simprocAttr,zb,hlen,t1,t22,t23,t24,Jw];exact hk
   clear hlen t1 t22 t23 t24;rintro _ tm ⟨ho,rfl,hlen,t1,t4,t22,t23,t24⟩;subst hX;refine Ae fun X hX=>?_;simp only[Aa,simprocAttr,zb,hlen,t1,t4,t22,t23,t24,hN1,hN2];refine Br (v:=.b (CA e)) (Mr e hsh.1 ⟨rfl,rfl⟩) ?_
   cases hg:CA e with
   | false=>
    rw[hno (by rw[hokd,ho,hg];rfl)] at hk;simp only[Aa,simprocAttr,zb,hlen,t1,t4,t22,t23,t24,hN1,hN2];subst hX;simp only[Aa,simprocAttr,zb,hlen,t1,t4,t22,t23,t24,hN1,Jw];exact hk
   | true=>
    simp only[Aa,simprocAttr,zb,hlen,t1,t4,t22,t23,t24,hN1,hN2];refine Br (v:=.i .u64 (AM e.st e.secs)) (Pc e.st e.secs hsh.2.2.2.1 hsh.2.1 hsh.2.2.2.2 hsh.2.2.1 ⟨rfl,rfl⟩) ?_
    by_cases hx:e.ex=AM e.st e.secs
    ·simp only[Aa,simprocAttr,zb,hlen,t1,t4,t22,t23,t24,hN1,hN2,hx];subst hX;simp only[Aa,simprocAttr,zb,hlen,t1,t4,t22,t23,t24,hN1,Bw,zf,and_self,hokd,ho,hg,hx,decide_true,Bool.and_self]
    ·rw[hno (by rw[hokd,ho,hg,decide_eq_false hx];rfl)] at hk;simp only[Aa,simprocAttr,zb,hlen,t1,t4,t22,t23,t24,hN1,hN2,hx];subst hX;simp only[Aa,simprocAttr,zb,hlen,t1,t4,t22,t23,t24,hN1,Jw];exact hk
  clear hlen t1 t22 t23 t24 hN;rintro N2 tm ⟨ho,hN,hlen,t1,t22,t23,t24⟩;subst hZ;simp only[Aa,simprocAttr,zb,hlen,t1,t22,t23,t24];refine⟨by omega,L.length - (i+1),by omega,i+1,rfl,by omega,fun j hj=>?_,hN,rfl⟩;rcases zo j i with h|h
  ·exact hok j h
  ·obtain rfl:j=i:=by omega
   exact ho
 ·have hlt':¬(i:Int)<(L.length:Int):=by omega
  rw[cT hc (fun j hj=>hok j (by omega))] at hk;simp only[Aa,simprocAttr,zb,hlen,t23,t24,hlt'];subst hZ;subst hY;simp only[Aa,simprocAttr,zb,hlen,t23,t24,hlt'];exact hk
end
end
def Ia (w:World):Ak:=fun g o v=>w.cell? ⟨g,o,none⟩=some v
theorem YP {G:Gh} {I:Ak} {w:World} {objs:List OB} {b E sz gen n:Nat} {xs:List AV} {y:Value} (hb:objs[b]? = some (.orow E sz gen n xs)) (hp:AE xs=true) (hm:MemOk G I objs w) (h:Ab G I (.orow b gen) y):Ab Gh.none (Ia w) (.row n xs) y:=by
 obtain⟨v',vs,m1,m2,m3,m4,m5⟩:=hm.row b E sz gen n xs hb;simp only[Ab] at h ⊢;obtain⟨g0,v,k1,k2,k3,_⟩:=h;rw[k1] at m1;injection m1 with m1;injection m1 with m1 m6
 have hv:=k3 m1.symm;subst m1 m6 hv;have q1:Ac Gh.none (Ia w) xs vs:=Ac.plain (fun g o v hi=>hm.imm g o v hi) _ _ hp m3;rcases m2.2 with ⟨rfl,rfl⟩|⟨g,cap,cur,rfl,hx1,hx2,hx3,hx4⟩
 ·have hvs:vs=[]:=List.eq_nil_of_length_eq_zero (by simpa using m2.1);subst hvs;exact⟨none,0,[],rfl,⟨zd _,by intro _ e;cases e⟩,q1,by simp,by simp⟩
 ·refine⟨some ⟨g,0,none⟩,cap,vs,rfl,⟨hx3,by rintro _ ⟨⟩ _;rfl⟩,q1,m4,fun j u hj=>⟨g,0,rfl,?_⟩⟩;have:=m2.cells (g:=g) rfl j u hj;rw[B9] at this;rw[zz];exact this
theorem cQ {P:Program} [Tabs P] {f:FuncId} {args args':List AV} {objs:List OB} {K:List OB->AV->Prop} (r:AV) {v:Value} (hr:val r=some v) (hk:K objs r)
  (hl:∀(G:Gh) (I:Ak) (w:World) (ys:List Value),MemOk G I objs w->Ac G I args ys->Ac Gh.none (Ia w) args' ys) (h:Ai P f args' [] (fun _ r'=>r'=r)):Ai P f args objs K:=by
 refine N4 r hk fun G I w ys hT hm hd=>?_;have hd':=hl G I w ys hm hd
 haveI:On P ⟨w,fun _=>False,Ia w,Gh.none⟩:=⟨hT,fun _ h=>h⟩
 have hc:=h ⟨w,fun _=>False,Ia w,Gh.none⟩ Gh.none (Ia w) w
  ⟨rfl,rfl,rfl,zd _,fun _ _ _=>rfl,fun _ _ _ h=>h,fun _ _ _ h=>.inl h,fun b g hb=>by simp[Gh.own,Gh.none] at hb,Gh.le.refl _⟩
  ⟨fun _ _ _ h=>h,by simp,by simp,by simp,fun b b' g hb=>by simp[Gh.own,Gh.none] at hb,fun b g hb=>by simp[Gh.own,Gh.none] at hb,fun b g o v hb=>by simp[Gh.own,Gh.none] at hb,fun b _=>⟨rfl,rfl⟩⟩ ys hd'
 refine⟨v,hc.mono ?_,(Hm G I r v hr v).2 rfl⟩;rintro e w' ⟨y,objs',r',G',I',rfl,rfl,_,_,hin,_,hy⟩;rw[(Hm _ _ r' v hr y).1 hy];exact⟨rfl,⟨hin.os,hin.tape,hin.output,hin.size,fun k hk=>hin.block k hk (fun h=>h)⟩⟩
theorem Tn {P:Program} [Tabs P] {f:FuncId} {rest:List AV} {objs:List OB} {K:List OB->AV->Prop} {b E sz gen n:Nat} {xs:List AV} (r:AV) {v:Value} (hb:objs[b]? = some (.orow E sz gen n xs)) (hp:AE xs=true) (hq:AE rest=true) (hr:val r=some v) (hk:K objs r)
  (h:Ai P f (.row n xs::rest) [] (fun _ r'=>r'=r)):Ai P f (.orow b gen::rest) objs K:=by
 refine cQ r hr hk (fun G I w ys hm hd=>?_) h;simp only[Ac] at hd;obtain⟨y,ys',rfl,h1,h2⟩:=hd;exact Ac.cons (YP hb hp hm h1) (Ac.plain (fun g o v hi=>hm.imm g o v hi) _ _ hq h2)
theorem dY {P:Program} [Tabs P] {f:FuncId} {rest:List AV} {objs:List OB} {K:List OB->AV->Prop} (h:Ai P f (.row 0 []::rest) objs K):Ai P f (.nil::rest) objs K:=by
 intro C _ G I w hin hm ys hd;refine h C G I w hin hm ys ?_;simp only[Ac] at hd ⊢;obtain⟨y,ys',rfl,h1,h2⟩:=hd;refine⟨y,ys',rfl,?_,h2⟩;simp only[Ac,Ab] at h1 ⊢;exact⟨none,0,[],h1,⟨zd _,fun ad h=>by cases h⟩,rfl,by simp,by simp⟩
section
attribute [local irreducible] run
theorem SH {P:Program} [Tabs P] {f:FuncId} {objs:List OB} {K:List OB->AV->Prop} (h:∀b,Ai P f [.zn b] objs K):Ai P f [.row 0 []] objs K:=by
 intro C _ G I w hin hm ys hd;have hd':=hd;simp only[Ac,Ab] at hd';obtain⟨y,l,rfl,⟨a,c,cells,rfl,hq,hc⟩,hl⟩:=hd';refine h a.isNone C G I w hin hm _ ?_;simp only[Ac,Ab];exact⟨_,_,rfl,⟨a,c,by simp,rfl,by simpa using hq.2⟩,hl⟩
theorem Ld {G:Gh} {I:Ak} {y:Value} (h:Ab G I .nil y):Ab G I (.row 0 []) y:=by
 simp only[Ac,Ab] at h ⊢;exact⟨none,0,[],h,⟨zd _,fun ad h=>by cases h⟩,rfl,by simp,by simp⟩
theorem mW {P:Program} [Tabs P] {f:FuncId} {args:List AV} {objs:List OB} {K:List OB->AV->Prop} (r':AV) (hc:Ai P f args objs (fun o r=>(∀G I y,Ab G I r y->Ab G I r' y)/\K o r')):Ai P f args objs K:=by
 intro C _ G I w hin hm ys hd;refine(hc C G I w hin hm ys hd).mono ?_;rintro e w' ⟨y,objs',r,G',I',he,⟨hr,hk⟩,h1,h2,h3,h4,hy⟩;exact⟨y,objs',r',G',I',he,hk,h1,h2,h3,h4,hr _ _ _ hy⟩
mutual
theorem pS {o:List OB}:∀{d:Nat} {x:AV},x.plain=true->Bt o d x=some x
 | d,.agg cs,h=>by
  simp only[Bt];rw[Ip (show AE cs=true from h)];rfl
 | d,.tup cs,h=>by
  simp only[Bt];rw[Ip (show AE cs=true from h)];rfl
 | d,.s l,h=>by cases d<;>(simp only[Bt];rfl)
 | d,.i k n,h=>by cases d<;>(simp only[Bt];rfl)
 | d,.b x,h=>by cases d<;>(simp only[Bt];rfl)
 | d,.nil,h=>by cases d<;>(simp only[Bt];rfl)
 | d,.zn x,h=>by cases d<;>(simp only[Bt];rfl)
 | d,.o v,h=>by cases d<;>(simp only[Bt];rfl)
 | d,.u,h=>by cases d<;>(simp only[Bt];rfl)
 | d,.row n xs,h=>by cases d<;>(simp only[Bt];rw[if_pos h])
 | d,.crow n xs,h=>by cases d<;>(simp only[Bt];rw[if_pos h])
 | d,.prow xs j,h=>by cases d<;>(simp only[Bt];rw[if_pos h])
 | d,.fn f fs cs,h=>by cases d<;>(simp only[Bt];rw[if_pos h])
 | d,.p b off,h=>by simp[AV.plain] at h
 | d,.orow b g,h=>by simp[AV.plain] at h
 | d,.porow b g j,h=>by simp[AV.plain] at h
 | d,.bsl b off n,h=>by simp[AV.plain] at h
 | d,.m b,h=>by simp[AV.plain] at h
theorem Ip {o:List OB}:∀{d:Nat} {xs:List AV},AE xs=true->CR o d xs=some xs
 | d,[],h=>by simp only[CR]
 | d,x::xs,h=>by
  simp only[AE,Bool.and_eq_true] at h;simp only[CR];rw[pS h.1,Ip h.2]
end
end
theorem Gt {P:Program} [Tabs P] {f:FuncId} {args:List AV} {objs:List OB} {K:List OB->AV->Prop} (r':AV) (hc:Ai P f args objs (fun o r=>(∀G I y,Ab G I r y->Ab G I r' y)/\K o r')):Ai P f args objs K:=mW r' hc
theorem nF {P:Program} [Tabs P] {f:FuncId} {args args':List AV} {objs:List OB} {K:List OB->AV->Prop} (h:∀G I ys,Ac G I args ys->Ac G I args' ys) (hc:Ai P f args' objs K):Ai P f args objs K :=
 fun C _ G I w hin hm ys hd=>hc C G I w hin hm ys (h _ _ _ hd)
theorem LU {a:AV} {G:Gh} {I:Ak} {y:Value} (h:Ab G I (.agg [a,.nil]) y):Ab G I (.agg [a,.row 0 []]) y:=by
 simp only[Ab,Ac] at h ⊢;obtain⟨zs,rfl,⟨z0,s0,rfl,q0,z1,s1,rfl,q1,q2⟩,q3⟩:=h;exact⟨_,rfl,⟨_,_,rfl,q0,_,_,rfl,⟨none,0,[],q1,⟨zd _,fun ad h=>by cases h⟩,rfl,by simp,by simp⟩,q2⟩,q3⟩
theorem Vu {a b b':AV} {n:Int} {G:Gh} {I:Ak} {y:Value} (hb:∀y,Ab G I b y->Ab G I b' y) (h:Ab G I (.tup [.agg [a,b],.i .i64 n]) y):Ab G I (.tup [.agg [a,b'],.i .i64 n]) y:=by
 simp only[Ab,Ac] at h ⊢;obtain⟨ys,rfl,y0,r0,rfl,⟨zs,rfl,⟨z0,s0,rfl,q0,z1,s1,rfl,q1,q2⟩,q3⟩,hr⟩:=h;exact⟨_,rfl,_,_,rfl,⟨_,rfl,⟨_,_,rfl,q0,_,_,rfl,hb _ q1,q2⟩,q3⟩,hr⟩
theorem BA {N:List OB} {X Y:OB} {j:Nat} (h:N[j]? = some Y):(N++[X])[j]? = some Y:=by
 rw[List.getElem?_append_left (jf.1 h).1];exact h
theorem DK {N:List OB} {X Y:OB} {j q:Nat} (h:N[j]? = some Y) (hn:q≠j):(N.set q X)[j]? = some Y:=by
 rw[List.getElem?_set_ne hn];exact h
theorem F9 {N:List OB} {X Y:OB} {q:Nat} (h:N[q]? = some Y):(N.set q X)[q]? = some X:=by
 rw[List.getElem?_set_self (jf.1 h).1]
theorem CS {N:List OB} {Y:OB} {j:Nat} (h:N[j]? = some Y):j<N.length:=(jf.1 h).1
theorem Sr (l:List UInt8):AE (Bf l)=true:=by
 induction l with
 | nil=>rfl
 | cons c l ih=>
  show AE (.i .u8 (c.toNat:Int)::Bf l)=true;simp only[AE,AV.plain,ih,Bool.and_self]
theorem MK:Ar []=[]:=rfl
theorem Jk (L M:List GE):Ar (L++M)=Ar L++Ar M:=by simp[Ar]
theorem Pd (e:GE):(gc e).length=14:=rfl
theorem KZ (L:List GE) (i:Nat):(Ar L).take (i*14)=Ar (L.take i):=by
 induction L generalizing i with
 | nil=>simp[Ar]
 | cons e L ih=>
  cases i with
  | zero=>simp[Ar]
  | succ i=>
   rw[DZ,List.take_succ_cons,DZ,show (i+1)*14=(gc e).length+i*14 by rw[Pd];omega,List.take_length_add_append,ih]
theorem Hv (L:List GE) (i:Nat):(Ar L).drop (i*14)=Ar (L.drop i):=by
 induction L generalizing i with
 | nil=>simp[Ar]
 | cons e L ih=>
  cases i with
  | zero=>simp[Ar]
  | succ i=>
   rw[DZ,List.drop_succ_cons,show (i+1)*14=(gc e).length+i*14 by rw[Pd];omega,List.drop_length_add_append,ih]
abbrev Dj (e:GE):List AV:=[.i .i64 e.err,.i .i64 e.id.kind,.s e.id.text,.s e.id.host,.i .i64 e.id.port,.i .i64 e.prof.kind,.s e.prof.text,.s e.prof.host,.i .i64 e.prof.port,.b e.store,.i .u64 e.secs,.row e.tr.length (A6 e.tr),.i .u64 e.st,.i .u64 e.ex]
abbrev Bv (e:GE):OB:=.box 43 (Dj e)
theorem Hj {L:List GE} {i:Nat} (h:i<L.length):((Ar L).drop (i*14)).take 14=Dj L[i]:=Hd L i h
theorem KY {L:List GE} {i:Nat} (h:i<L.length):((Ar L).drop (i*14)).take 12=gv L[i]:=by
 rw[Hv,jq h,DZ];rfl
theorem nO (e:GE):(gv e).length=12:=rfl
theorem YC {L:List GE} {i:Nat} (h:i<L.length):(Ar L).take (i*14)++gv L[i]++(Ar L).drop (i*14+12)=Ar L:=by
 rw[<-KY h,<-List.drop_drop,zu,jh,jh]
theorem Qj (L:List GE) (e:GE) (p:Nat):(Ar L).take (p*14)++Dj e++(Ar L).drop (p*14)=Ar (L.take p++[e]++L.drop p):=by
 rw[KZ,Hv,Jk,Jk,DZ,MK,zy];rfl
theorem VX (L:List GE) (i:Nat):(Ar L).take (i*14)++(Ar L).drop ((i+1)*14)=Ar (L.eraseIdx i):=by
 rw[KZ,Hv,<-Jk,List.eraseIdx_eq_take_drop_succ]
theorem Qk {L:List GE} {i:Nat} (h:i<L.length) (e:GE):(Ar L).take (i*14)++Dj e++(Ar L).drop (i*14+14)=Ar (L.set i e):=by
 rw[show i*14+14=(i+1)*14 by omega,KZ,Hv,List.set_eq_take_append_cons_drop,if_pos h,Jk,DZ,zu];rfl
theorem Ns (L:List GE) (e:GE):Ar L++[AV.i .i64 e.err,.i .i64 e.id.kind,.s e.id.text,.s e.id.host,.i .i64 e.id.port,.i .i64 e.prof.kind,.s e.prof.text,.s e.prof.host,.i .i64 e.prof.port,.b e.store,.i .u64 e.secs,.row e.tr.length (A6 e.tr),.i .u64 e.st,.i .u64 e.ex]=Ar (L++[e]):=by
 rw[Jk,DZ,MK,zy];rfl
theorem Ls (e:GE):[AV.i .i64 e.err,.i .i64 e.id.kind,.s e.id.text,.s e.id.host,.i .i64 e.id.port,.i .i64 e.prof.kind,.s e.prof.text,.s e.prof.host,.i .i64 e.prof.port,.b e.store,.i .u64 e.secs,.row e.tr.length (A6 e.tr),.i .u64 e.st,.i .u64 e.ex]=Ar [e]:=by
 rw[DZ,MK,zy];rfl
theorem PL {L:List GE} {a:Nat} (h:a<L.length):(Ar L)[a*14+12]? = some (.i .u64 L[a].st):=by
 have h1:((Ar L).drop (a*14))[12]? = some (.i .u64 L[a].st):=by
  rw[Hv,jq h,DZ];rfl
 rwa [ju] at h1
theorem Mo {L:List GE} {a:Nat} (h:a<L.length):(Ar L)[a*14+13]? = some (.i .u64 L[a].ex):=by
 have h1:((Ar L).drop (a*14))[13]? = some (.i .u64 L[a].ex):=by
  rw[Hv,jq h,DZ];rfl
 rwa [ju] at h1
theorem KP (o:List OB) (d:Nat) (L:List GE):CR o d (Ar L)=some (Ar L):=Ip (Dg L)
abbrev wt (e:GE) (st ex:Int):GE:=⟨e.err,e.id,e.prof,e.store,e.secs,e.tr,st,ex⟩
theorem IG:∀{a b c:List UInt8},AG a b=true->AG b c=true->AG a c=true
 | _,[],_,h,_=>by simp[AG,Op.bytesLess] at h
 | [],_::_,[],_,h=>by simp[AG,Op.bytesLess] at h
 | _::_,_::_,[],_,h=>by simp[AG,Op.bytesLess] at h
 | [],_::_,_::_,_,_=>by simp[AG,Op.bytesLess]
 | a::x,b::y,c::z,h,k=>by
  simp only[AG,Op.bytesLess,Bool.or_eq_true,Bool.and_eq_true,decide_eq_true_eq,beq_iff_eq] at h k ⊢;rcases h with h|⟨rfl,h⟩
  ·rcases k with k|⟨rfl,k⟩
   ·exact .inl (UInt8.lt_trans h k)
   ·exact .inl h
  ·rcases k with k|⟨rfl,k⟩
   ·exact .inl k
   ·exact .inr ⟨rfl,IG (a:=x) (b:=y) (c:=z) h k⟩
theorem NL:∀(a b:List UInt8),AG a b=true\/a=b\/AG b a=true
 | [],[]=>.inr (.inl rfl)
 | [],_::_=>.inl rfl
 | _::_,[]=>.inr (.inr rfl)
 | a::x,b::y=>by
  simp only[AG,Op.bytesLess,Bool.or_eq_true,Bool.and_eq_true,decide_eq_true_eq,beq_iff_eq]
  by_cases h1:a<b
  ·exact .inl (.inl h1)
  by_cases h2:b<a
  ·exact .inr (.inr (.inl h2))
  have e:a=b:=UInt8.le_antisymm (UInt8.not_lt.1 h2) (UInt8.not_lt.1 h1);subst e;rcases NL x y with h|h|h
  ·exact .inl (.inr ⟨rfl,h⟩)
  ·exact .inr (.inl (by rw[h]))
  ·exact .inr (.inr (.inr ⟨rfl,h⟩))
theorem Is:∀a:List UInt8,AG a a=false
 | []=>rfl
 | a::x=>by
  have h0:¬a<a:=UInt8.lt_irrefl a;have h:=Is x;unfold AG at h;simp[AG,Op.bytesLess,h0,h]
theorem M9 {a b:List UInt8} (h:AG a b=true):AG b a=false:=by
 cases c:AG b a
 ·rfl
 ·have:=IG h c;rw[Is] at this;cases this
theorem Kv {a b:List UInt8} (h:AG a b=true):a≠b:=by
 rintro rfl;rw[Is] at h;cases h
def C8 (L:List GE):Prop:=L.Pairwise fun a b=>AG a.id.text b.id.text=true
theorem Ir {L:List GE} (h:C8 L) {i j:Nat} (hj:j<L.length) (hij:i<j):AG (L[i]'(by omega)).id.text L[j].id.text=true:=List.pairwise_iff_getElem.1 h i j (by omega) hj hij
def D2 (k:Nat):List UInt8:=97::99::99::116::58::117::UInt8.ofNat (97+k)::[64,97,46,101,120,97,109,112,108,101]
def LV:List UInt8:=[97,46,101,120,97,109,112,108,101]
theorem mB:∀k:Fin 20,Ha ⟨1,D2 k.val,LV,0⟩=true:=by decide +kernel
def mk (k:Nat) (s:Int) (t:Int):GE:=⟨0,⟨1,D2 k,LV,0⟩,⟨0,[],[],0⟩,true,s,[],t,AM t s⟩
section
attribute [local irreducible] run
theorem Vp {e:GE} (h:e.tr=[]) {G:Gh} {I:Ak} {y:Value} (hy:Ab G I (.agg [.i .i64 e.err,.i .i64 e.id.kind,.s e.id.text,.s e.id.host,.i .i64 e.id.port,.i .i64 e.prof.kind,.s e.prof.text,.s e.prof.host,.i .i64 e.prof.port,.b e.store,.i .u64 e.secs,.nil]) y):Ab G I (.agg (gv e)) y:=by
 simp only[Ab,Ac,gv,h] at hy ⊢;obtain⟨ys,rfl,hd,h1⟩:=hy;refine⟨ys,rfl,?_,h1⟩;obtain⟨y0,r0,rfl,q0,y1,r1,rfl,q1,y2,r2,rfl,q2,y3,r3,rfl,q3,y4,r4,rfl,q4,y5,r5,rfl,q5,y6,r6,rfl,q6,y7,r7,rfl,q7,y8,r8,rfl,q8,y9,r9,rfl,q9,ya,ra,rfl,qa,yb,rb,rfl,qb,rfl⟩:=hd;exact⟨_,_,rfl,q0,_,_,rfl,q1,_,_,rfl,q2,_,_,rfl,q3,_,_,rfl,q4,_,_,rfl,q5,_,_,rfl,q6,_,_,rfl,q7,_,_,rfl,q8,_,_,rfl,q9,_,_,rfl,qa,_,_,rfl,⟨none,0,[],qb,⟨zd _,fun ad h=>by cases h⟩,rfl,by simp,by simp⟩,rfl⟩
section
variable [Tabs Tryz.prog] {objs:List OB} {K:List OB->AV->Prop}
theorem X0 (l:List XcP) (hl:l.length<=1000000) (h1:l=[]->K objs .nil) (h2:K (objs++[.orow 81 9 1 l.length (A6 l)]) (.orow objs.length 1)):Ai Tryz.prog 56 [.row l.length (A6 l)] objs K:=by
 cases l with
 | nil=>
  refine SH fun b=>?_;refine CE Ve fun C _=>?_;rw[OK]
  cases b with
  | true=>
   simp only[Aa,simprocAttr,Bool.false_eq_true];exact h1 rfl
  | false=>
   simp only[Aa,simprocAttr,Bool.false_eq_true,Bd,BX];exact h2
 | cons x l=>
  have hel:=La (x::l);have e0:A6 (x::l)=.s x.h::((E5 x).drop 1++A6 l):=by rw[JB];rfl
  generalize (E5 x).drop 1++A6 l=X at e0;rw[e0] at h2 hel ⊢;generalize (x::l).length=n at h2 hl hel ⊢;refine CE Ve fun C _=>?_;rw[OK];simp only[Aa,simprocAttr,Bd,BX,zz];exact⟨⟨by simp only[zl] at hel;omega,by omega,by omega⟩,h2⟩
theorem KW (e:GE) (hl:e.tr.length<=1000000) (hk:K objs (.agg (gv e))):Ai Tryz.prog 36 [.agg (gv e)] objs K:=by
 have hpp:∀o d,CR o d (A6 e.tr)=some (A6 e.tr):=fun o d=>Ip (De _);refine Gt (.agg (gv e)) ?_;refine AI kT (by simp only[AE,AV.plain,FI,Bool.and_self]) fun C _=>?_;rw[UZ];refine Ae fun Y hY=>?_;simp only[gv,Aa,simprocAttr];subst hY;simp only[Aa,simprocAttr];refine Ag (X0 e.tr hl (fun h0=>?_) ?_)
 ·simp only[Aa,simprocAttr];exact⟨fun G I y hy=>Vp h0 hy,hk⟩
 ·simp only[hpp,Aa,simprocAttr];exact⟨fun G I y hy=>hy,hk⟩
theorem XZ (e:GE) (L:List GE) (hl:(e::L).length<=1000000) (hk:K (objs++[.orow 43 14 1 (e::L).length (Ar (e::L))]) (.orow objs.length 1)):Ai Tryz.prog 55 [.row (e::L).length (Ar (e::L))] objs K:=by
 have hel:=Dv (e::L);have e0:Ar (e::L)=.i .i64 e.err::((gc e).drop 1++Ar L):=by rw[DZ];rfl
 generalize (gc e).drop 1++Ar L=X at e0;rw[e0] at hk hel ⊢;generalize (e::L).length=n at hk hl hel ⊢;refine CE Vc fun C _=>?_;rw[OI];simp only[Aa,simprocAttr,Bd,BX,zz];exact⟨⟨by simp only[zl] at hel;omega,by omega,by omega⟩,hk⟩
theorem ZQ (h1:K objs .nil) (h2:K (objs++[.orow 43 14 1 0 []]) (.orow objs.length 1)):Ai Tryz.prog 55 [.row 0 []] objs K:=by
 refine SH fun b=>?_;refine CE Vc fun C _=>?_;rw[OI]
 cases b with
 | true=>
  simp only[Aa,simprocAttr,Bool.false_eq_true];exact h1
 | false=>
  simp only[Aa,simprocAttr,Bool.false_eq_true,Bd,BX];exact h2
theorem Rk (L:List GE) (hn:L.length<=1000000) (ht:∀e∈L,e.tr.length<=1000000) (h0:L=[]->K objs .nil) (hk:K (objs++[.orow 43 14 1 L.length (Ar L)]) (.orow objs.length 1)):Ai Tryz.prog 35 [.row L.length (Ar L)] objs K:=by
 have hel:=Dv L;refine CE kS fun C _=>?_;rw[UY];refine Ae fun Z hZ=>?_;simp only[Aa,simprocAttr];subst hZ;refine Ae fun Z hZ=>?_;have tail:∀tm:List AV,tm.length=24->tm[3]? = some (.orow objs.length 1)->run Tryz.prog C [.code Z] (objs++[.orow 43 14 1 L.length (Ar L)]) tm (Ic [.tmp 2] K):=by
  intro tm hlen t3;subst hZ;refine Ae fun Z hZ=>?_;simp only[Aa,simprocAttr,zb,hlen,t3,Bd];refine BI (fun m o tm=>∃i:Nat,m=L.length - i/\i<=L.length/\o=objs++[.orow 43 14 1 L.length (Ar L)]/\tm.length=24/\tm[3]? = some (.orow objs.length 1)/\tm[8]? = some (.i .i64 L.length)/\tm[9]? = some (.i .i64 i)) L.length ⟨0,rfl,ze _,rfl,?_⟩ ?_
  ·simp only[Aa,simprocAttr,zb,hlen,t3,and_self,Int.cast_ofNat_Int]
  clear hlen t3;rintro m _ tm ⟨i,rfl,hi,rfl,hlen,t3,t8,t9⟩;refine Ae fun Y hY=>?_
  by_cases hlt:i<L.length
  ·have hlt':(i:Int)<(L.length:Int):=by omega
   have ha:=KY hlt;have hb:=YC hlt;have htr:=ht _ (qe hlt);simp only[Aa,simprocAttr,zb,hlen,t8,t9,hlt'];subst hY;simp only[Aa,simprocAttr,zb,hlen,t3,t8,t9,Bd,zm,jj,ha];refine⟨by omega,by omega,?_⟩;refine Ag (KW _ htr ?_);simp only[Aa,simprocAttr,zb,hlen,t3,t8,t9,Bd,BX,zm,jj,nO,hb];exact⟨by omega,by omega,by omega,L.length - (i+1),by omega,i+1,rfl,by omega,rfl⟩
  ·have hlt':¬(i:Int)<(L.length:Int):=by omega
   simp only[Aa,simprocAttr,zb,hlen,t8,t9,hlt'];subst hY;subst hZ;simp only[Aa,simprocAttr,zb,hlen,t3];exact hk
 cases L with
 | nil=>
  simp only[Aa,simprocAttr];refine Ag (ZQ ?_ ?_)
  ·simp only[Aa,simprocAttr];subst hZ;refine Ae fun Z hZ=>?_;simp only[Aa,simprocAttr];refine BI (fun m o tm=>m=0/\o=objs/\tm.length=24/\tm[3]? = some .nil/\tm[8]? = some (.i .i64 0)/\tm[9]? = some (.i .i64 0)) 0 ⟨rfl,rfl,rfl,rfl,rfl,rfl⟩ ?_;rintro m _ tm ⟨rfl,rfl,hlen,t3,t8,t9⟩;refine Ae fun Y hY=>?_;simp only[Aa,simprocAttr,zb,hlen,t8,t9];subst hY;subst hZ;simp only[Aa,simprocAttr,zb,hlen,t3];exact h0 rfl
  ·simp only[Aa,simprocAttr];exact tail _ rfl rfl
 | cons e L=>
  simp only[Aa,simprocAttr];refine Ag (XZ e L hn ?_);simp only[Aa,simprocAttr];exact tail _ rfl rfl
end
end
section
attribute [local irreducible] run
def Bc (w:List UInt8) (L:List GE):Nat:=(L.takeWhile fun e=>AG e.id.text w).length
def Cy (w:List UInt8) (L:List GE):Bool:=L.any fun e=>decide (e.id.text=w)
def FV (a b:List UInt8):Int:=if AG a b=true then -1 else if a=b then 0 else 1
theorem qU (w:List UInt8) (L:List GE):Bc w L<=L.length:=(List.takeWhile_sublist _).length_le
theorem Mx:∀{L:List GE} {i:Nat} {w:List UInt8},i<=L.length->(∀j (h:j<L.length),j<i->AG L[j].id.text w=true)->(∀j (h:j<L.length),i<=j->AG L[j].id.text w=false)->Bc w L=i
 | [],i,w,hi,_,_=>by simp at hi;subst hi;rfl
 | e::L,0,w,_,_,h2=>by
  have:=h2 0 (by simp) (zd _);simp only[List.getElem_cons_zero] at this;unfold Bc;rw[List.takeWhile_cons_of_neg (by rw[this];decide)];rfl
 | e::L,i+1,w,hi,h1,h2=>by
  have h0:=h1 0 (by simp) (by omega);simp only[List.getElem_cons_zero] at h0;have:=Mx (L:=L) (i:=i) (w:=w) (by simpa using hi) (fun j h hj=>h1 (j+1) (Nat.succ_lt_succ h) (by omega)) (fun j h hj=>h2 (j+1) (Nat.succ_lt_succ h) (by omega));unfold Bc at this ⊢;rw[List.takeWhile_cons_of_pos (p:=fun x:GE=>AG x.id.text w) h0,zl,this]
theorem Xa {L:List GE} (hs:C8 L) {i:Nat} {w:List UInt8} (h1:∀j (h:j<L.length),j<i->AG L[j].id.text w=true) (h2:∀j (h:j<L.length),i<=j->AG L[j].id.text w=false):Cy w L=decide (∃h:i<L.length,L[i].id.text=w):=by
 unfold Cy;rw[Bool.eq_iff_iff,List.any_eq_true,decide_eq_true_eq]
 constructor
 ·rintro⟨e,he,h⟩;obtain⟨j,hj,rfl⟩:=List.getElem_of_mem he;have h:=of_decide_eq_true h;rcases Nat.lt_trichotomy j i with c|rfl|c
  ·have:=h1 j hj c;rw[h,Is] at this;cases this
  ·exact⟨hj,h⟩
  ·have a:=h2 i (by omega) (zd _);have b:=Ir hs hj c;rw[h,a] at b;cases b
 ·rintro⟨hi,h⟩;exact⟨L[i],qe hi,decide_eq_true h⟩
theorem S7:Gr Tryz.prog 58:=⟨_,Tryz.func58,by kernel_rfl,of_decide_eq_true (by kernel_rfl)⟩
theorem YV {a b:Nat} (h:a+b<=2000000):IntKind.i64.wrap ((IntKind.u64.wrap ((a:Int)+b)).fdiv (2 ^ min 1 IntKind.u64.bits))=((a+b) / 2:Nat):=by
 rw[show min 1 IntKind.u64.bits=1 from rfl];rw[IntKind.wrap_u64,IntKind.wrap_i64];rw[show ((a:Int)+b)=((a+b:Nat):Int) by omega];rw[Int.fdiv_eq_ediv_of_nonneg _ (by decide)];omega
section
variable [Tabs Tryz.prog] {objs:List OB} {K:List OB->AV->Prop}
theorem P9 (l:List UInt8) (hk:K objs (.b false)):Ai Tryz.prog 81 [.s l] objs K:=by
 refine AI jZ rfl fun C _=>?_;rw[U8];simp only[Aa,simprocAttr,decide_true,not_true_eq_false,decide_false,Bool.not_true];exact hk
theorem oQ (a b:List UInt8) (hk:K objs (.i .i64 (FV a b))):Ai Tryz.prog 59 [.s a,.s b] objs K:=by
 refine AI kL rfl fun C _=>?_;rw[U4];simp only[Aa,simprocAttr];refine Ag (P9 _ ?_);simp only[Aa,simprocAttr];refine Ag (P9 _ ?_);unfold FV at hk
 cases h1:AG a b with
 | true=>
  rw[h1,if_pos rfl] at hk;simp only[Aa,simprocAttr,h1];exact hk
 | false=>
  rw[h1,if_neg Bool.false_ne_true] at hk
  by_cases h2:a=b
  ·rw[if_pos h2] at hk;have h4:(a==b)=true:=by rw[h2];simp
   simp only[Aa,simprocAttr,h1,h4,Bool.not_true,Bool.and_false];exact hk
  ·rw[if_neg h2] at hk;have h4:(a==b)=false:=beq_eq_false_iff_ne.2 h2;simp only[Aa,simprocAttr,h1,h4,Bool.not_false,Bool.and_self];exact hk
theorem Qh (e:GE) (w:List UInt8) (hk:K objs (.i .i64 (FV e.id.text w))):Ai Tryz.prog 58 [.agg (gc e),.s w] objs K:=by
 refine AI iG (by simp only[AE,AV.plain,QZ,Bool.and_self]) fun C _=>?_;rw[Up];refine Ae fun Y hY=>?_;have e1:AV.agg (gc e)=AV.agg (Dj e):=rfl;rw[e1];simp only[Aa,simprocAttr];subst hY;simp only[Aa,simprocAttr];rw[<-e1];refine Ag (MJ e ?_);simp only[Aa,simprocAttr];refine Ag (oQ _ _ ?_);simp only[Aa,simprocAttr];exact hk
theorem lB (L:List GE) (w:List UInt8) (hs:C8 L) (hn:L.length<=1000000) (hk:K objs (.tup [.i .i64 (Bc w L),.b (Cy w L)])):Ai Tryz.prog 57 [.row L.length (Ar L),.s w,.fn 58 [] []] objs K:=by
 have hel:=Dv L;refine AI kY (by simp only[AE,AV.plain,Dg,Bool.and_self]) fun C _=>?_;rw[Vg];refine Ae fun Z hZ=>?_;simp only[Aa,simprocAttr];subst hZ;refine Ae fun Z hZ=>?_;simp only[Aa,simprocAttr];subst hZ;refine Ae fun Z hZ=>?_;simp only[Aa,simprocAttr];subst hZ;refine Ae fun Z hZ=>?_;simp only[Aa,simprocAttr];refine BI (fun m o tm=>∃i j:Nat,m=j - i/\i<=j/\j<=L.length/\(∀t (h:t<L.length),t<i->AG L[t].id.text w=true)/\(∀t (h:t<L.length),j<=t->AG L[t].id.text w=false)/\o=[]/\tm.length=49/\tm[0]? = some (.row L.length (Ar L))/\tm[1]? = some (.s w)/\tm[2]? = some (.fn 58 [] [])/\tm[8]? = some (.i .i64 L.length)/\tm[9]? = some (.i .i64 i)/\tm[10]? = some (.i .i64 j)) L.length ⟨0,L.length,rfl,ze _,zd _,fun t h h0=>absurd h0 (Nat.not_lt_zero _),fun t h h0=>by omega,rfl,rfl,rfl,rfl,rfl,rfl,rfl,rfl⟩ ?_;rintro m _ tm ⟨i,j,rfl,hij,hjn,h1,h2,rfl,hlen,t0,t1,t2,t8,t9,t10⟩;refine Ae fun Y hY=>?_
 by_cases hlt:i<j
 ·have hlt':(i:Int)<(j:Int):=by omega
  simp only[Aa,simprocAttr,zb,hlen,t9,t10,hlt'];subst hY;have hh:=YV (a:=i) (b:=j) (by omega);have hm:(i+j) / 2<L.length:=by omega
  have hat:=Hd L _ hm;simp only[Aa,simprocAttr,zb,hlen,t0,t1,t2,t9,t10,hh,zm,hat];refine⟨by omega,by omega,by omega,?_⟩;refine He S7 (Qh _ w ?_);generalize hmm:(i+j) / 2=m at *
  cases hc:AG L[m].id.text w with
  | true=>
   have e1:FV L[m].id.text w=-1:=if_pos hc;simp only[e1,Aa,simprocAttr,zb,hlen,t0,t1,t2,t8,t9,t10];refine⟨by omega,j - (m+1),by omega,m+1,j,rfl,by omega,hjn,fun t h ht=>?_,h2,rfl,rfl⟩;rcases zo t m with c|c
   ·exact IG (Ir hs hm c) hc
   ·obtain rfl:t=m:=by omega
    exact hc
  | false=>
   have hc3:¬FV L[m].id.text w<0:=by unfold FV;rw[hc,if_neg Bool.false_ne_true];split<;>decide
   simp only[Aa,simprocAttr,zb,hlen,t0,t1,t2,t8,t9,t10,hc3];refine⟨m - i,by omega,i,m,rfl,by omega,by omega,h1,fun t h ht=>?_,rfl,rfl⟩;rcases xw ht with rfl|c
   ·exact hc
   ·cases q:AG L[t].id.text w
    ·rfl
    ·rw[IG (Ir hs h c) q] at hc;cases hc
 ·have hlt':¬(i:Int)<(j:Int):=by omega
  obtain rfl:i=j:=by omega
  simp only[Aa,simprocAttr,zb,hlen,t9,t10,hlt'];subst hY;subst hZ;have hp:=Mx (L:=L) (w:=w) hjn h1 h2;have hha:=Xa hs h1 h2
  by_cases hi:i<L.length
  ·have hi':(i:Int)<(L.length:Int):=by omega
   have hat:=Hd L _ hi;simp only[Aa,simprocAttr,zb,hlen,t0,t1,t2,t8,t9,t10,hi',zm,hat];refine⟨by omega,by omega,?_⟩;refine He S7 (Qh _ w ?_);simp only[Aa,simprocAttr,zb,hlen,t0,t1,t2,t8,t9,t10];have e:Cy w L=decide (FV L[i].id.text w=0):=by
    rw[hha];have hn2:=h2 i hi (zd _);have:(∃h:i<L.length,L[i].id.text=w)↔FV L[i].id.text w=0:=by
     unfold FV;rw[hn2,if_neg Bool.false_ne_true]
     constructor
     ·rintro⟨_,h⟩;rw[if_pos h]
     ·intro h;refine⟨hi,?_⟩
      split at h
      ·assumption
      ·cases h
    exact decide_eq_decide.2 this
   rw[hp,e] at hk;exact hk
  ·have hi':¬(i:Int)<(L.length:Int):=by omega
   have e:Cy w L=false:=by rw[hha];exact decide_eq_false (fun ⟨h,_⟩=>hi h)
   rw[hp,e] at hk;simp only[Aa,simprocAttr,zb,hlen,t0,t1,t2,t8,t9,t10,hi'];exact hk
theorem Mq (L:List GE) (w:List UInt8) (hs:C8 L) (hn:L.length<=1000000) (hk:K objs (.tup [.i .i64 (Bc w L),.b (Cy w L)])):Ai Tryz.prog 37 [.row L.length (Ar L),.s w] objs K:=by
 refine AI gH (by simp only[AE,AV.plain,Dg,Bool.and_self]) fun C _=>?_;rw[TH];simp only[Aa,simprocAttr];refine Ag (lB L w hs hn ?_);simp only[Aa,simprocAttr];exact hk
end
end
section
attribute [local irreducible] run
def pc (f:Nat->Nat) (m:Nat):List AV:=(List.range m).map fun k=>AV.i .i64 (f k:Int)
theorem F3 (f:Nat->Nat) (m:Nat):(pc f m).length=m:=by simp[pc]
theorem GJ {f:Nat->Nat} {m k:Nat} (h:k<m):(pc f m)[k]? = some (.i .i64 (f k:Int)):=by
 simp[pc,h]
theorem WG {f:Nat->Nat} {m k:Nat} (h:k<=m):(pc f m).take k=pc f k:=by
 simp only[pc,<-List.map_take,List.take_range,xq h]
theorem WF (f:Nat->Nat) (m:Nat):pc f m++[AV.i .i64 (f m:Int)]=pc f (m+1):=by simp[pc,List.range_succ]
theorem PC {f:Nat->Nat} {m i v:Nat} (h:i<m):(pc f m).take i++[AV.i .i64 (v:Int)]++(pc f m).drop (i+1)=pc (fun k=>if k=i then v else f k) m:=by
 have e:(pc f m).take i++[AV.i .i64 (v:Int)]++(pc f m).drop (i+1)=(pc f m).set i (AV.i .i64 (v:Int)):=by
  rw[List.set_eq_take_append_cons_drop,if_pos (by rw[F3];exact h)];simp
 rw[e]
 apply List.ext_getElem?
 intro k;rw[zb];rcases zo k m with hk|hk
 ·rw[GJ hk,F3]
  by_cases c:i=k
  ·subst c;rw[if_pos rfl,if_pos hk,GJ hk,if_pos rfl]
  ·rw[if_neg c,GJ hk,if_neg (show ¬k=i from fun e=>c e.symm)]
 ·rw[qg (by rw[F3];exact hk),if_neg (by omega),qg (by rw[F3];exact hk)]
def Ei (L:List GE) (a:Nat):Int:=match L[a]? with
 | some e=>e.ex
 | none=>0
def BK (L:List GE) (a b:Nat):Bool:=if Ei L a=Ei L b then decide (a<b) else decide (Ei L a<Ei L b)
theorem Pe {L:List GE} {a:Nat} (h:a<L.length):(Ar L)[a*14+13]? = some (.i .u64 (Ei L a)):=by
 have h1:((Ar L).drop (a*14))[13]? = some (.i .u64 (Ei L a)):=by
  rw[Hv,jq h,DZ];unfold Ei;rw[zq h]
  rfl
 rwa [ju] at h1
def Ev (f:Nat->Nat) (i j:Nat):Nat->Nat:=fun k=>if k=j then f i else if k=i then f j else f k
def hO (L:List GE) (f:Nat->Nat) (m g:Nat):List OB:=[.box 101 [.row L.length (Ar L),.orow 1 g],.orow 3 1 g m (pc f m)]
section
variable [Tabs Tryz.prog] {K:List OB->AV->Prop} {L:List GE} {f:Nat->Nat} {m g:Nat}
theorem PO (hk:K (hO L f m g) (.i .i64 m)):Ai Tryz.prog 259 [.p 0 0] (hO L f m g) K:=by
 refine CE kQ fun C _=>?_;rw[UW];unfold hO at hk ⊢;simp only[Aa,simprocAttr];exact hk
theorem P2 {i j:Nat} (hi:i<m) (hj:j<m) (hm:m<=1000000) (hf:∀k,k<m->f k<L.length) (hk:K (hO L f m g) (.b (BK L (f i) (f j)))):Ai Tryz.prog 260 [.p 0 0,.i .i64 i,.i .i64 j] (hO L f m g) K:=by
 have hel:=Dv L;have hpl:=F3 f m;have pi:=GJ (f:=f) hi;have pj:=GJ (f:=f) hj;have fi:=hf i hi;have fj:=hf j hj;have ei:=Pe fi;have ej:=Pe fj;refine CE kI fun C _=>?_;rw[U1];unfold hO at hk ⊢;refine Ae fun Y hY=>?_;simp only[Aa,simprocAttr];subst hY;refine Ae fun Y hY=>?_;simp only[Aa,simprocAttr,zm,qt,pi,pj];refine⟨by omega,by omega,?_⟩;subst hY;have hle:L.length*14<=(Ar L).length:=by omega
 unfold BK at hk
 by_cases hc:Ei L (f i)=Ei L (f j)
 ·rw[if_pos hc] at hk;simp only[Aa,simprocAttr,zm,ei,ej,hc];refine⟨by omega,by omega,?_⟩;rw[show decide (((f i:Nat):Int)<((f j:Nat):Int))=decide (f i<f j) from decide_eq_decide.2 (by omega)];exact hk
 ·rw[if_neg hc] at hk;simp only[Aa,simprocAttr,zm,ei,ej,hc,not_false_eq_true,decide_true];exact⟨by omega,by omega,by omega,by omega,hk⟩
theorem P3 {i j:Nat} (hi:i<m) (hj:j<m) (hm:m<=1000000) (hk:K (hO L (Ev f i j) m g) (.tup [])):Ai Tryz.prog 262 [.p 0 0,.i .i64 i,.i .i64 j] (hO L f m g) K:=by
 have hpl:=F3 f m;have pi:=GJ (f:=f) hi;have pj:=GJ (f:=f) hj;have s1:=PC (f:=f) (v:=f j) hi;have s2:=PC (f:=fun k=>if k=i then f j else f k) (v:=f i) hj;refine CE kJ fun C _=>?_;rw[U2];unfold hO at hk ⊢;simp only[Aa,simprocAttr,zm,qt,pi,pj,s1,s2,F3];exact⟨by omega,by omega,by omega,by omega,by omega,by omega,hk⟩
theorem nP (h0:0<m) (hm:m<=1000000) (hk:K (hO L f (m - 1) (g+1)) (.o (.iface 3 (.int .i64 (f (m - 1):Nat))))):Ai Tryz.prog 261 [.p 0 0] (hO L f m g) K:=by
 have hpl:=F3 f m;have pl:=GJ (f:=f) (show m - 1<m by omega);have pt:=WG (f:=f) (show m - 1<=m by omega);have e1:((m:Int) - 1).toNat=m - 1:=by omega
 refine CE kR fun C _=>?_;rw[UX];unfold hO at hk ⊢;simp only[Aa,simprocAttr,qt,e1,pl,pt];exact⟨by omega,by omega,by omega,hk⟩
end
end
section
attribute [local irreducible] run
theorem Ng {L:List GE} {a b:Nat} (h:BK L a b=true):BK L b a=false:=by
 unfold BK at h ⊢
 by_cases c:Ei L a=Ei L b
 ·rw[if_pos c] at h;rw[if_pos c.symm];have:=of_decide_eq_true h;exact decide_eq_false (by omega)
 ·rw[if_neg c] at h;rw[if_neg (fun e=>c e.symm)];have:=of_decide_eq_true h;exact decide_eq_false (by omega)
theorem Nw {L:List GE} {a b c:Nat} (h:BK L a b=false) (h':BK L b c=false):BK L a c=false:=by
 unfold BK at h h' ⊢
 split at h<;>split at h'<;>split<;>simp only[decide_eq_false_iff_not] at*<;> omega
def DB (m:Nat) (f f':Nat->Nat):Prop:=(∀k,k<m->∃k',k'<m/\f' k=f k')/\∀k,k<m->∃k',k'<m/\f k=f' k'
theorem DB.refl (m:Nat) (f:Nat->Nat):DB m f f:=⟨fun k h=>⟨k,h,rfl⟩,fun k h=>⟨k,h,rfl⟩⟩
theorem DB.trans {m:Nat} {f g h:Nat->Nat} (a:DB m f g) (b:DB m g h):DB m f h:=by
 constructor
 ·intro k hk;obtain⟨k1,h1,e1⟩:=b.1 k hk;obtain⟨k2,h2,e2⟩:=a.1 k1 h1;exact⟨k2,h2,e1.trans e2⟩
 ·intro k hk;obtain⟨k1,h1,e1⟩:=a.2 k hk;obtain⟨k2,h2,e2⟩:=b.2 k1 h1;exact⟨k2,h2,e1.trans e2⟩
theorem DB.sw {m:Nat} (f:Nat->Nat) {i j:Nat} (hi:i<m) (hj:j<m):DB m f (Ev f i j):=by
 constructor
 ·intro k hk;unfold Ev
  by_cases c:k=j
  ·exact⟨i,hi,by rw[if_pos c]⟩
  ·by_cases c2:k=i
   ·exact⟨j,hj,by rw[if_neg c,if_pos c2]⟩
   ·exact⟨k,hk,by rw[if_neg c,if_neg c2]⟩
 ·intro k hk;unfold Ev
  by_cases c:k=i
  ·subst c;exact⟨j,hj,by rw[if_pos rfl]⟩
  ·by_cases c2:k=j
   ·subst c2;refine⟨i,hi,?_⟩
    by_cases c3:i=k
    ·rw[if_pos c3,c3]
    ·rw[if_neg c3,if_pos rfl]
   ·exact⟨k,hk,by rw[if_neg c2,if_neg c]⟩
theorem DB.lt {m n:Nat} {f f':Nat->Nat} (h:DB m f f') (hf:∀k,k<m->f k<n):∀k,k<m->f' k<n:=fun k hk=>by
 obtain⟨k',h1,e⟩:=h.1 k hk;rw[e];exact hf k' h1
def Hp (L:List GE) (n a:Nat) (f:Nat->Nat):Prop:=∀i,a<=i->∀c,c=2*i+1\/c=2*i+2->c<n->BK L (f c) (f i)=false
def J8 (L:List GE) (n a i:Nat) (f:Nat->Nat):Prop :=
 (∀q,a<=q->q≠i->∀c,c=2*q+1\/c=2*q+2->c<n->BK L (f c) (f q)=false) /\
 (i≠a->∀p,a<=p->i=2*p+1\/i=2*p+2->∀c,c=2*i+1\/c=2*i+2->c<n->BK L (f c) (f p)=false)
theorem YH {L:List GE} {n a:Nat} {f:Nat->Nat} (h:Hp L n (a+1) f):J8 L n a a f :=
 ⟨fun q hq hne c hc hn=>h q (by omega) c hc hn,fun h=>absurd rfl h⟩
theorem PR {L:List GE} {n a i:Nat} {f:Nat->Nat} (h:J8 L n a i f) (hi:∀c,c=2*i+1\/c=2*i+2->c<n->BK L (f c) (f i)=false):Hp L n a f:=fun q hq c hc hn=>by
 by_cases e:q=i
 ·subst e;exact hi c hc hn
 ·exact h.1 q hq e c hc hn
theorem Xe {L:List GE} {n a i j:Nat} {f:Nat->Nat} (ha:a<=i) (h:J8 L n a i f) (hj:j=2*i+1\/j=2*i+2) (hjn:j<n) (hmin:∀c,c=2*i+1\/c=2*i+2->c<n->BK L (f c) (f j)=false) (hlt:BK L (f j) (f i)=true):J8 L n a j (Ev f i j):=by
 have eij:∀k,k≠i->k≠j->Ev f i j k=f k:=fun k h1 h2=>by unfold Ev;rw[if_neg h2,if_neg h1]
 have ej:Ev f i j j=f i:=by unfold Ev;rw[if_pos rfl]
 have ei:Ev f i j i=f j:=by unfold Ev;rw[if_neg (by omega),if_pos rfl]
 constructor
 ·intro q hq hne c hc hn
  by_cases e:q=i
  ·subst e;rw[ei]
   by_cases e2:c=j
   ·subst e2;rw[ej];exact Ng hlt
   ·rw[eij c (by omega) e2];exact hmin c hc hn
  ·rw[eij q e hne]
   by_cases e2:c=i
   ·subst e2;rw[ei];exact h.2 (by omega) q hq hc j hj hjn
   ·by_cases e3:c=j
    ·omega
    ·rw[eij c e2 e3];exact h.1 q hq e c hc hn
 ·intro hne p hp hjp c hc hn;obtain rfl:p=i:=by omega
  rw[ei,eij c (by omega) (by omega)];exact h.1 j (by omega) (by omega) c hc hn
theorem nS {L:List GE} {n:Nat} {f:Nat->Nat} (h:Hp L n 0 f):∀k,k<n->BK L (f k) (f 0)=false:=by
 intro k
 induction k using Nat.strongRecOn with
 | _ k ih=>
  intro hk;rcases Nat.eq_zero_or_pos k with rfl|hp
  ·unfold BK;rw[if_pos rfl];exact decide_eq_false (by omega)
  ·have h1:=h ((k - 1) / 2) (ze _) k (by omega) hk;exact Nw h1 (ih ((k - 1) / 2) (by omega) (by omega))
section
variable [Tabs Tryz.prog] {K:List OB->AV->Prop} {L:List GE} {f:Nat->Nat} {m g:Nat}
theorem P1 {a n:Nat} (hn:n<=m) (ha:a<=m) (hm:m<=1000000) (hf:∀k,k<m->f k<L.length)
  (hk:∀f' r,DB m f f'->(∀k,n<=k->f' k=f k)->(Hp L n (a+1) f->Hp L n a f')->K (hO L f' m g) (.b r)):Ai Tryz.prog 82 [.ip 98 0 0,.i .i64 a,.i .i64 n] (hO L f m g) K:=by
 refine CE kN fun C _=>?_;rw[U6];refine Ae fun Z hZ=>?_;simp only[Aa,simprocAttr];subst hZ;refine Ae fun Z hZ=>?_;simp only[Aa,simprocAttr];subst hZ;refine Ae fun Z hZ=>?_;simp only[Aa,simprocAttr];refine BI (fun q o tm=>∃(i:Nat) (f':Nat->Nat),q=m+1 - i/\i<=m/\a<=i/\o=hO L f' m g/\DB m f f'/\(∀k,n<=k->f' k=f k)/\(Hp L n (a+1) f->J8 L n a i f')/\tm.length=48/\tm[0]? = some (.ip 98 0 0)/\tm[1]? = some (.i .i64 a)/\tm[2]? = some (.i .i64 n)/\tm[7]? = some (.i .i64 i)) (m+1 - a) ⟨a,f,rfl,ha,zd _,rfl,DB.refl m f,fun _ _=>rfl,YH,rfl,rfl,rfl,rfl,rfl⟩ ?_;rintro q _ tm ⟨i,f',rfl,him,hai,rfl,hp,htop,hheap,hlen,t0,t1,t2,t7⟩;have hf':=hp.lt hf;rw[C6];refine Ae fun Y hY=>?_;simp only[Aa,simprocAttr,zb,hlen,t7];refine⟨by omega,by omega,?_⟩;subst hY;refine Ae fun Y hY=>?_
 by_cases h1:n<=2*i+1
 ·have h1':(n:Int)<=2*(i:Int)+1:=by omega
  simp only[Aa,simprocAttr,zb,hlen,t2,t7,h1'];subst hZ;simp only[Aa,simprocAttr,zb,hlen,t1,t7];exact hk f' _ hp htop fun h=>PR (hheap h) fun c hc hcn=>absurd hcn (by omega)
 have h1':¬(n:Int)<=2*(i:Int)+1:=by omega
 have h2':¬2*(i:Int)+1<0:=by omega
 simp only[Aa,simprocAttr,zb,hlen,t2,t7,h1',h2'];subst hY;refine Ae fun Y hY=>?_;simp only[Aa,simprocAttr,zb,hlen,t2,t7];subst hY;refine Ae fun Y hY=>?_;refine CV (fun o tm=>o=hO L f' m g/\tm.length=48/\tm[0]? = some (.ip 98 0 0)/\tm[1]? = some (.i .i64 a)/\tm[2]? = some (.i .i64 n)/\tm[7]? = some (.i .i64 i)/\∃j:Nat,tm[9]? = some (.i .i64 j)/\(j=2*i+1\/j=2*i+2)/\j<n/\∀c,c=2*i+1\/c=2*i+2->c<n->BK L (f' c) (f' j)=false) ?_ ?_
 ·refine Ae fun W hW=>?_;simp only[Aa,simprocAttr,zb,hlen,t0,t2,t7];refine⟨by omega,?_⟩;subst hW;refine Ae fun W hW=>?_;have lir:∀x,BK L x x=false:=fun x=>by unfold BK;rw[if_pos rfl];exact decide_eq_false (by omega)
  by_cases h2:2*i+2<n
  ·have h3:2*(i:Int)+1+1<(n:Int):=by omega
   have e1:(2*(i:Int)+1+1)=((2*i+2:Nat):Int):=by omega
   have e2:(2*(i:Int)+1)=((2*i+1:Nat):Int):=by omega
   simp only[Aa,simprocAttr,zb,hlen,t0,t2,t7,h3];rw[e1,e2];refine G7 rfl (P2 (by omega) (by omega) hm hf' ?_)
   cases hl:BK L (f' (2*i+2)) (f' (2*i+1)) with
   | true=>
    simp only[Aa,simprocAttr,zb,hlen,t0,t1,t2,t7];subst hW;simp only[Aa,simprocAttr,zb,hlen,t0,t1,t2,t7,Bw,zf,and_self];exact⟨2*i+2,rfl,.inr rfl,h2,fun c hc hcn=>by
     rcases hc with rfl|rfl
     ·exact Ng hl
     ·exact lir _⟩
   | false=>
    simp only[Aa,simprocAttr,zb,hlen,t0,t1,t2,t7];subst hW;simp only[Aa,simprocAttr,zb,hlen,t0,t1,t2,t7,Bw,zf,and_self];exact⟨2*i+1,rfl,.inl rfl,by omega,fun c hc hcn=>by
     rcases hc with rfl|rfl
     ·exact lir _
     ·exact hl⟩
  ·have h3:¬2*(i:Int)+1+1<(n:Int):=by omega
   simp only[Aa,simprocAttr,zb,hlen,t0,t2,t7,h3];subst hW;simp only[Aa,simprocAttr,zb,hlen,t0,t1,t2,t7,Bw,zf,and_self];exact⟨2*i+1,rfl,.inl rfl,by omega,fun c hc hcn=>by
    rcases hc with rfl|rfl
    ·exact lir _
    ·exact absurd hcn h2⟩
 clear hlen t0 t1 t2 t7;rintro _ tm ⟨rfl,hlen,t0,t1,t2,t7,j,t9,hj,hjn,hmin⟩;subst hY;refine Ae fun Y hY=>?_;simp only[Aa,simprocAttr,zb,hlen,t0,t7,t9];refine G7 rfl (P2 (by omega) (by omega) hm hf' ?_)
 cases hl:BK L (f' j) (f' i) with
 | false=>
  simp only[Aa,simprocAttr,zb,hlen,t0,t1,t2,t7];subst hZ;simp only[Aa,simprocAttr,zb,hlen,t0,t1,t2,t7];refine hk f' _ hp htop fun h=>PR (hheap h) fun c hc hcn=>?_;exact Nw (hmin c hc hcn) hl
 | true=>
  simp only[Aa,simprocAttr,zb,hlen,t0,t1,t2,t7];subst hY;refine Ae fun Y hY=>?_;simp only[Aa,simprocAttr,zb,hlen,t0,t1,t2,t7,t9];refine G7 rfl (P3 (by omega) (by omega) hm ?_);simp only[Aa,simprocAttr,zb,hlen,t0,t1,t2,t7,t9];subst hY;simp only[Aa,simprocAttr,zb,hlen,t0,t1,t2,t7,t9,zf,and_self];exact⟨m+1 - j,by omega,j,Ev f' i j,rfl,by omega,by omega,rfl,hp.trans (DB.sw f' (by omega) (by omega)),fun k hk=>by
   unfold Ev;rw[if_neg (by omega),if_neg (by omega)];exact htop k hk,fun h=>Xe hai (hheap h) hj hjn hmin hl,rfl⟩
end
end
section
attribute [local irreducible] run
def GG (L:List GE) (p:Nat):Prop:=p<L.length/\∀a,a<L.length->BK L a p=false
theorem bR {L:List GE} {p q:Nat} (hp:GG L p) (hq:GG L q):p=q:=by
 have h1:=hp.2 q hq.1;have h2:=hq.2 p hp.1;unfold BK at h1 h2
 split at h1<;>split at h2<;>simp only[decide_eq_false_iff_not] at h1 h2<;>omega
theorem Td (L:List GE):∀n,n<L.length->∃p,p<=n/\∀a,a<=n->BK L a p=false
 | 0,h=>⟨0,zd _,fun a ha=>by
  obtain rfl:a=0:=by omega
  unfold BK;rw[if_pos rfl];exact decide_eq_false (by omega)⟩
 | n+1,h=>by
  obtain⟨p,h1,h2⟩:=Td L n (by omega)
  cases c:BK L (n+1) p with
  | true=>
   refine⟨n+1,zd _,fun a ha=>?_⟩;rcases xw ha with rfl|hlt
   ·unfold BK;rw[if_pos rfl];exact decide_eq_false (by omega)
   ·exact Nw (h2 a (by omega)) (Ng c)
  | false=>
   refine⟨p,by omega,fun a ha=>?_⟩;rcases xw ha with rfl|hlt
   ·exact c
   ·exact h2 a (by omega)
noncomputable def B5 (L:List GE):Nat:=Classical.epsilon (GG L)
theorem Ny {L:List GE} (h:0<L.length):GG L (B5 L):=by
 obtain⟨p,h1,h2⟩:=Td L (L.length - 1) (by omega);exact Classical.epsilon_spec (p:=GG L) ⟨p,by omega,fun a ha=>h2 a (by omega)⟩
theorem M0 {L:List GE} {p:Nat} (h:GG L p):B5 L=p:=bR (Classical.epsilon_spec (p:=GG L) ⟨p,h⟩) h
section
variable [Tabs Tryz.prog] {L:List GE}
theorem W8 {K:List OB->AV->Prop} {f:Nat->Nat} {m g:Nat} (hm:m<=1000000) (hf:∀k,k<m->f k<L.length)
  (hk:∀f',DB m f f'->Hp L m 0 f'->K (hO L f' m g) (.tup [])):Ai Tryz.prog 60 [.ip 98 0 0] (hO L f m g) K:=by
 refine CE kM fun C _=>?_;rw[U5];refine Ae fun Z hZ=>?_;simp only[Aa,simprocAttr];refine G7 rfl (PO ?_);simp only[Aa,simprocAttr];subst hZ;refine Ae fun Z hZ=>?_;have ht:((m:Int).tdiv 2)=((m / 2:Nat):Int):=by
  rw[Int.tdiv_eq_ediv_of_nonneg (by omega)];omega
 simp only[Aa,simprocAttr,ht];refine⟨by omega,by omega,?_⟩;subst hZ;simp only[Aa,simprocAttr];refine BI (fun q o tm=>∃(k:Nat) (f':Nat->Nat),q=k/\k<=m/\o=hO L f' m g/\DB m f f'/\Hp L m k f'/\tm.length=17/\tm[0]? = some (.ip 98 0 0)/\tm[2]? = some (.i .i64 m)/\tm[3]? = some (.i .i64 ((k:Int) - 1))) (m / 2) ⟨m / 2,f,rfl,by omega,rfl,DB.refl m f,fun i hi c hc hn=>by omega,rfl,rfl,rfl,rfl⟩ ?_;rintro k _ tm ⟨_,f',rfl,hkm,rfl,hp,hheap,hlen,t0,t2,t3⟩;refine Ae fun Y hY=>?_
 by_cases h0:k=0
 ·subst h0;have hn:¬(0:Int)<=((0:Nat):Int) - 1:=by omega
  simp only[Aa,simprocAttr,zb,hlen,t3,hn];exact hk f' hp hheap
 ·have hn:(0:Int)<=(k:Int) - 1:=by omega
  simp only[Aa,simprocAttr,zb,hlen,t0,t2,t3,hn];subst hY;simp only[Aa,simprocAttr,zb,hlen,t0,t2,t3,hn];rw[show ((k:Int) - 1)=((k - 1:Nat):Int) by omega];refine Ag (P1 (zd _) (by omega) hm (hp.lt hf) fun f2 r hp2 htop hh=>?_);simp only[Aa,simprocAttr,zb,hlen,t0,t2,t3,hn];exact⟨by omega,k - 1,by omega,k - 1,f2,rfl,by omega,rfl,hp.trans hp2,hh (by rw[show k - 1+1=k by omega];exact hheap),by rw[show ((k:Int) - 1 - 1)=(((k - 1:Nat):Int) - 1) by omega]⟩
theorem W9 {K:List OB->AV->Prop} {f:Nat->Nat} {m g:Nat} (h0:0<m) (hm:m<=1000000) (hf:∀k,k<m->f k<L.length)
  (hk:∀f',K (hO L f' (m - 1) (g+1)) (.o (.iface 3 (.int .i64 (f 0:Nat))))):Ai Tryz.prog 61 [.ip 98 0 0] (hO L f m g) K:=by
 refine CE kU fun C _=>?_;rw[U0];refine Ae fun Z hZ=>?_;simp only[Aa,simprocAttr];subst hZ;refine Ae fun Z hZ=>?_;simp only[Aa,simprocAttr];refine G7 rfl (PO ?_);simp only[Aa,simprocAttr];have e1:(m:Int) - 1=((m - 1:Nat):Int):=by omega
 rw[e1];refine⟨by omega,?_⟩;subst hZ;refine Ae fun Z hZ=>?_;simp only[Aa,simprocAttr];refine G7 rfl (P3 (i:=0) h0 (by omega) hm ?_);simp only[Aa,simprocAttr];subst hZ;refine Ae fun Z hZ=>?_;simp only[Aa,simprocAttr];refine Ag (P1 (a:=0) (by omega) (ze _) hm ((DB.sw f h0 (by omega)).lt hf) fun f2 r hp2 htop hh=>?_);simp only[Aa,simprocAttr];subst hZ;simp only[Aa,simprocAttr];refine G7 rfl (nP h0 hm ?_);have e2:f2 (m - 1)=f 0:=by
  rw[htop (m - 1) (zd _)];unfold Ev;rw[if_pos rfl]
 rw[e2];simp only[Aa,simprocAttr];exact hk f2
theorem Yt {objs:List OB} {K:List OB->AV->Prop} (h0:0<L.length) (hn:L.length<=1000000) (hk:K objs (.i .i64 (B5 L:Nat))):Ai Tryz.prog 38 [.row L.length (Ar L)] objs K:=by
 refine AI kK (by simp only[AE,AV.plain,Dg,Bool.and_self]) fun C _=>?_;rw[U3];refine Ae fun Z hZ=>?_;simp only[Aa,simprocAttr];subst hZ;refine Ae fun Z hZ=>?_;simp only[Aa,simprocAttr];subst hZ;refine Ae fun Z hZ=>?_;refine CV (fun o tm=>o=hO L (fun k=>k) L.length (L.length - 1)/\tm.length=37/\tm[3]? = some (.p 0 0)) ?_ ?_
 ·refine Ae fun Y hY=>?_;simp only[Aa,simprocAttr];subst hY;simp only[Aa,simprocAttr];refine BI (fun q o tm=>∃m:Nat,q=L.length - m/\m<=L.length/\o=(if m=0 then [.box 101 [.row L.length (Ar L),.nil]] else hO L (fun k=>k) m (m - 1))/\tm.length=37/\tm[3]? = some (.p 0 0)/\tm[11]? = some (.i .i64 L.length)/\tm[12]? = some (.i .i64 m)) L.length ⟨0,rfl,ze _,rfl,rfl,rfl,rfl,rfl⟩ ?_;rintro q o tm ⟨m,rfl,hm,ho,hlen,t3,t11,t12⟩;refine Ae fun Y hY=>?_
  by_cases hlt:m<L.length
  ·have hlt':(m:Int)<(L.length:Int):=by omega
   simp only[Aa,simprocAttr,zb,hlen,t3,t11,t12,hlt'];subst hY;have hps:=WF (fun k=>k) m;have hpl:=F3 (fun k=>k) m
   by_cases h1:m=0
   ·subst h1;rw[if_pos rfl] at ho;subst ho;simp only[Aa,simprocAttr,zb,hlen,t3,t11,t12];exact⟨L.length - 1,by omega,1,rfl,by omega,rfl,rfl⟩
   ·rw[if_neg h1] at ho;subst ho;unfold hO;simp only[Aa,simprocAttr,zb,hlen,t3,t11,t12,hps];exact⟨by omega,by omega,L.length - (m+1),by omega,m+1,rfl,by omega,by rw[if_neg (by omega),show m - 1+1=m+1 - 1 by omega],rfl⟩
  ·have hlt':¬(m:Int)<(L.length:Int):=by omega
   obtain rfl:m=L.length:=by omega
   rw[if_neg (by omega)] at ho;subst ho;simp only[Aa,simprocAttr,zb,hlen,t3,t11,t12,hlt',Bw,RQ,and_self];subst hY;simp only[Aa,simprocAttr,zb,hlen,t3,t11,t12,hlt',Bw,RQ,and_self]
 rintro _ tm ⟨rfl,hlen,t3⟩;subst hZ;refine Ae fun Z hZ=>?_;simp only[Aa,simprocAttr,zb,hlen,t3];refine Ag (W8 hn (fun k h=>h) fun f' hp hheap=>?_);simp only[Aa,simprocAttr,zb,hlen,t3];subst hZ;refine Ae fun Z hZ=>?_;simp only[Aa,simprocAttr,zb,hlen,t3];refine Ag (W9 h0 hn (hp.lt fun k h=>h) fun f2=>?_);have e:B5 L=f' 0:=M0 ⟨hp.lt (fun k h=>h) 0 h0,fun a ha=>by
  obtain⟨k,hk',e⟩:=hp.2 a ha;rw[show a=f' k from e];exact nS hheap k hk'⟩
 rw[e] at hk;simp only[Aa,simprocAttr,zb,hlen,t3];subst hZ;simp only[Aa,simprocAttr,zb,hlen,t3];exact hk
end
end
open Go.Shelf
theorem Lg {P:Program} (w:World) (dT sT ty elem:TypeId) (sz b o dLen dCap:Nat) (a:Addr) (sLen sCap n:Nat) (cs:List Value)
  (hu:P.underlying dT=some (.slice elem)) (hs:(P.info? elem).map (·.size)=some sz) (hn:Nat.min sLen dLen=n) (hl:cs.length=n*sz)
  (hsrc:∀j v,cs[j]? = some v->w.cell? (a.add j)=some v) (hc:∀j,j<cs.length->(w.cell? ⟨b,o+j,none⟩).isSome=true) (hf:∀j,j<cs.length->w.frozen? ⟨b,o+j,none⟩=false) (h1:∀v∈cs,v.oneCell'=true) :
  (Builtin.copy_ #[dT,sT] ty #[.slice (some ⟨b,o,none⟩) dLen dCap,.slice (some a) sLen sCap]).run P w=.ok (goInt n) (w.setCells b o cs):=by
 have hld:=run_loadCells_list (P:=P) w a cs hsrc;have hst:=run_storeCells_cells (P:=P) b o cs 0 w (by simpa using hc) (by simpa using hf) h1
 cases hq:P.info? elem with
 | none=>simp[hq] at hs
 | some i=>
  have hi:i.size=sz:=by simpa[hq] using hs
  simp[Builtin.copy_,run_underlying hu,Builtin.lenOf,Builtin.firstCells,sizeOf,typeInfo,hq,hi,hn,<-hl,hld,hst]
theorem jF {P:Program} (w:World) (tS tR e:TypeId) (ht:P.underlying tS=some (.slice e)) (size:Nat) (hz:∀w,(Go.sizeOf e).run P w=.ok size w)
  (a b:Addr) (la ca lb cb:Nat) (hne:a.block≠b.block) (cA cB:Array Value) (tA tB:TypeId) (f:Nat×Nat)
  (hA:w.heap[a.block]? = some (.cells cA tA f)) (hB:w.heap[b.block]? = some (.cells cB tB (0,0))) (hB0:cB.size≠0) (hA0:cA.size≠0) :
  (Extern.SlicesOverlaps.overlaps #[tS,tS] #[tR] #[.slice (some a) la ca,.slice (some b) lb cb]).run P w=.ok (.bool false) w:=by
 have hnb:(a.block != b.block)=true:=by simpa using hne
 have hnb':(a.block==b.block)=false:=by simpa using hne
 have hsa:w.shape? a.block=some (tA,cA.size):=by simp only[World.shape?,hA]
 have hsb:w.shape? b.block=some (tB,cB.size):=by simp only[World.shape?,hB]
 have hfb:w.frozen? b=false:=by simp[World.frozen?,hB]
 have hfe:w.frozen? { block:=b.block,off:=cB.size } = false:=by simp[World.frozen?,hB]
 obtain⟨kB,hkB⟩:∃k,cB.size=k+1:=⟨cB.size - 1,by omega⟩;obtain⟨kA,hkA⟩:∃k,cA.size=k+1:=⟨cA.size - 1,by omega⟩;rw[hkB] at hsb hfe;rw[hkA] at hsa;change Sem.run P (α:=Value) (do
  let some t := (#[tS, tS] : Array TypeId)[0]? | stuck "slices.overlaps: no parameter types"
  let .slice elem ← underlying t | stuck "slices.overlaps: slice type expected"
  let size <-sizeOf elem
  match (some a:Option Addr),(some b:Option Addr) with
  | some a,some b=>
   if la=0\/lb=0\/size=0 then pure (Value.bool false)
   else if a.block != b.block&&(<-frozen a)&&(<-frozen b) then unsupported .addressObserved
   else do
    if a.block != b.block then do
     noView a;noView b
     if ← mayBeOne a b then return Value.bool ((← choose (.extern "sameAddr.stringBytes" 2)) == 1)
    pure (Value.bool (a.block==b.block&&a.off<b.off+lb*size&&b.off<a.off+la*size))
  | _,_=>pure (Value.bool false)) w=_
 by_cases h0:la=0\/lb=0\/size=0
 ·simp[run_underlying ht,hz,h0]
 ·cases hfa:w.frozen? a<;>cases hfc:w.frozen? { block:=a.block,off:=kA+1 } <;>
   simp[run_underlying ht,hz,h0,hnb,hnb',frozen,noView,viewAt,mayBeOne,stringish,shape,Sem.run,hsa,hsb,hfa,hfb,hfe,hfc]
theorem ZK {α:Type} (cur us:List α) (I N S:Nat) (hN:N+S<=cur.length) (hI:I<=N) (hu:us.length=S) {A:List α} (hA:A=cur.take (I+S)++(cur.take N).drop I++cur.drop (I+S+((cur.take N).drop I).length)) :
  (A.take I++us++A.drop (I+us.length)).take (N+S)=(cur.take N).take I++us++(cur.take N).drop I:=by
 have e1:A.take I=cur.take I:=by
  rw[hA,zu,List.take_append_of_le_length (by rw[zh];omega),xp,xq (by omega)]
 have e2:A.drop (I+us.length)=(cur.take N).drop I++cur.drop (I+S+((cur.take N).drop I).length):=by
  rw[hA,zu,List.drop_left' (by rw[zh];omega)]
 rw[e1,e2,<-zu,List.take_left' (by simp only[zg,zh,zt];omega),xp,xq hI]
theorem ZL {α:Type} (R ys us:List α) (I N S:Nat) (hN:N+S<=R.length) (hI:I<=N) (hu:us.length=S) (hy:ys.length=N) (hR:R.take I=ys.take I) {A:List α} (hA:A=R.take I++us++R.drop (I+us.length)) :
  (A.take (I+S)++ys.drop I++A.drop (I+S+(ys.drop I).length)).take (N+S)=ys.take I++us++ys.drop I:=by
 have e1:A.take (I+S)=ys.take I++us:=by
  rw[hA,List.take_left' (by simp only[zg,zh];omega),hR]
 rw[e1,List.take_left' (by simp only[zg,zh,zt];omega)]
theorem GU (w:World):w.drew.heap=w.heap:=rfl
theorem Tryz.infoE2:∃(i0:TypeInfo) (z:Value),Tryz.prog.info? 43=some i0/\i0.zero=some z/\z.cells.size=14/\i0.size=14/\i0.bytes=160:=by
 have h:(Tryz.prog.info? 43).map (fun i=>(i.zero.map (·.cells.size),i.size,i.bytes))=some (some 14,14,160):=by kernel_rfl
 cases hi:Tryz.prog.info? 43 with
 | none=>rw[hi] at h;cases h
 | some i0=>
  rw[hi] at h;simp only[jt,zx.injEq,Prod.mk.injEq] at h
  cases hz:i0.zero with
  | none=>rw[hz] at h;cases h.1
  | some z=>
   rw[hz] at h;simp only[jt,zx.injEq] at h;exact⟨i0,z,rfl,hz,h.1,h.2.1,h.2.2⟩
theorem Tryz.infoE:(Tryz.prog.info? 43).map (fun i=>(i.size,i.bytes))=some (14,160):=by kernel_rfl
set_option maxHeartbeats 4000000 in
theorem eI (g n c i vb voff cv:Nat) (cur:Array Value) (ys us:List Value) (w:World) (cA:Array Value) (tA:TypeId) (f:Nat×Nat)
  (hh:w.heap[g]? = some (.cells cur 43 (0,0))) (hcur:cur.size=c*14) (hys:cur.toList.take (n*14)=ys) (hA:w.heap[vb]? = some (.cells cA tA f)) (hA0:cA.size≠0) (hvb:vb≠g)
  (hi:i<n) (hroom:n+1<=c) (hc63:c<=9223372036854775807) (hus:us.length=14) (hsrc:∀j u,us[j]? = some u->w.cell? ⟨vb,voff+j,none⟩=some u) (h1c:∀v∈ys,v.oneCell'=true) (h1v:∀v∈us,v.oneCell'=true) :
  Calls Tryz.prog 40 #[.slice (some ⟨g,0,none⟩) n c,.int .i64 i,.slice (some ⟨vb,voff,none⟩) 1 cv] w fun e w'=>
   e=.returned (.slice (some ⟨g,0,none⟩) (n+1) c)/\w'=(w.drew.setCells g ((i+1)*14) (ys.drop (i*14))).setCells g (i*14) us:=by
 have hyl:ys.length=n*14:=by
  rw[<-hys,zh,Array.length_toList,hcur];have:n*14<=c*14:=jb _ (by omega);omega
 have hcell:∀j,j<(n+1)*14->(w.cell? ⟨g,j,none⟩).isSome=true:=fun j hj=>by
  have h1:j<cur.size:=by
   have:(n+1)*14<=c*14:=jb _ hroom;omega
  simp[World.cell?,hh,h1]
 have hys':∀j u,ys[j]? = some u->w.cell? ⟨g,j,none⟩=some u:=fun j u hj=>by
  rw[<-hys,xh] at hj
  split at hj
  ·simp only[World.cell?,hh];simpa using hj
  ·cases hj
 have hfz:∀j,w.frozen? ⟨g,j,none⟩=false:=fun j=>by simp[World.frozen?,hh]
 have hdl:(ys.drop (i*14)).length=(n - i)*14:=by rw[zt,hyl,Nat.sub_mul]
 have hz2:¬((i:Int)=(n:Int)):=by omega
 have mixed:Tryz.prog.follows Departure.mixedOrders=true:=by kernel_rfl
 have hsz:(Tryz.prog.info? 43).map (·.size)=some 14:=by
  obtain⟨i0,hi0⟩:∃i0,Tryz.prog.info? 43=some i0:=by
   cases h:Tryz.prog.info? 43 with
   | none=>have:=Tryz.infoE;rw[h] at this;cases this
   | some x=>exact⟨x,rfl⟩
  have:=Tryz.infoE;rw[hi0] at this ⊢;simp only[jt,zx.injEq,Prod.mk.injEq] at this ⊢;exact this.1
 have hov:∀lb cb,(callFunc 62 #[.slice (some ⟨vb,voff,none⟩) 1 cv,.slice (some ⟨g,(i+1)*14,none⟩) lb cb]).run Tryz.prog w=.ok (.value (.bool false)) w:=fun lb cb=>by
  rw[run_callFunc_extern Tryz.func62 (by kernel_rfl) (by kernel_rfl) (by kernel_rfl) (e:=Extern.SlicesOverlaps.overlaps #[22,22] #[4]) (by kernel_rfl),
   jF w 22 4 43 (by kernel_rfl) 14 (fun w=>by kernel_rfl) ⟨vb,voff,none⟩ ⟨g,(i+1)*14,none⟩ 1 cv lb cb hvb cA cur tA _ f hA hh (by rw[hcur];omega) hA0]
  rfl
 have hcp1:∀ty dc sc,(Builtin.copy_ #[22,22] ty #[.slice (some ⟨g,(i+1)*14,none⟩) (n - i) dc,.slice (some ⟨g,i*14,none⟩) (n+1 - i) sc]).run Tryz.prog w.drew=.ok (goInt (n - i:Nat)) (w.drew.setCells g ((i+1)*14) (ys.drop (i*14))):=fun ty dc sc=>
  Lg w.drew _ _ ty 43 14 g ((i+1)*14) (n - i) dc ⟨g,i*14,none⟩ (n+1 - i) sc (n - i) (ys.drop (i*14)) (by kernel_rfl) hsz (by simp only[Nat.min_def];split<;>omega) hdl
   (fun j u hj=>by rw[Addr.add_lit];exact hys' _ u (by rwa [ju] at hj)) (fun j hj=>hcell _ (by rw[hdl,Nat.sub_mul] at hj;omega)) (fun j hj=>hfz _) (fun u hu=>h1c u (ji hu))
 obtain⟨W1,hW1⟩:∃W1,W1=w.drew.setCells g ((i+1)*14) (ys.drop (i*14)):=⟨_,rfl⟩;have hsp1:∀k,k<(n+1)*14->(W1.cell? ⟨g,k,none⟩).isSome=true:=fun k hk=>by
  rw[hW1];exact isSome_setCells g (ys.drop (i*14)) ((i+1)*14) w.drew (fun j hj=>hcell _ (by rw[hdl,Nat.sub_mul] at hj;omega)) _ (hcell k hk)
 have hcp2:∀(W:World),(∀x,W.cell? x=W1.cell? x)->(∀x,W.frozen? x=W1.frozen? x)->∀ty dc,(Builtin.copy_ #[22,22] ty #[.slice (some ⟨g,i*14,none⟩) (n+1 - i) dc,.slice (some ⟨vb,voff,none⟩) 1 cv]).run Tryz.prog W=.ok (goInt (1:Nat)) (W.setCells g (i*14) us):=fun W hWc hWf ty dc=>
  Lg W _ _ ty 43 14 g (i*14) (n+1 - i) dc ⟨vb,voff,none⟩ 1 cv 1 us (by kernel_rfl) hsz (by simp only[Nat.min_def];split<;>omega) (by omega)
   (fun j u hj=>by rw[Addr.add_lit,hWc,hW1,World.cell?_setCells_out g _ _ _ _ (fun h _=>absurd h hvb)];exact hsrc j u hj)
   (fun j hj=>by rw[hWc];exact hsp1 _ (by omega)) (fun j hj=>by rw[hWf,hW1,World.frozen?_setCells];exact hfz _) h1v
 rw[<-hW1] at hcp1;have hw1:IntKind.i64.wrap ((i:Int)+1)=(i:Int)+1:=by rw[IntKind.wrap_i64];omega
 have hin:i<=n:=by omega
 have hb1:(0:Int)<=(i:Int)+1:=by omega
 have htn:((i:Int)+1).toNat=i+1:=by omega
 have hb2:¬(c=i+1):=by omega
 have hb3:(i:Int)<=(n:Int)+1:=by omega
 have hb4:¬(c=i):=by omega
 go_enter Tryz.func40,Tryz.ntmps40
 go_wp2_with (simp only[hov])
 go_region_law_o (refine step_copy_runI rfl _ _ 22 22 rfl _ _ (by simp[Act.eval,Act.put]) (by simp[Act.eval,Act.put]) (hcp1 _ _ _) ?_)
 go_wp2_with (at_builtin;refine wpList_copy_runI _ rfl _ _ 22 22 rfl _ _ rfl rfl (hcp2 _ (fun _=>rfl) (fun _=>rfl) _ _) ?_)
 go_ret
 first|exact⟨rfl,rfl⟩|exact⟨rfl,by rw[hW1]⟩
theorem OA (cs:Array Value) (n:Nat):(Builtin.zeroCells cs n).size=n*cs.size:=by simp[Builtin.zeroCells]
set_option maxHeartbeats 4000000 in
theorem eH (g n c i vb voff cv:Nat) (cur:Array Value) (ys us:List Value) (w:World)
  (hh:w.heap[g]? = some (.cells cur 43 (0,0))) (hcur:cur.size=c*14) (hys:cur.toList.take (n*14)=ys) (hvw:vb<w.heap.size)
  (hi:i<n) (hnc:n<=c) (hroom:c<n+1) (hn:n<=1000000) (hus:us.length=14) (hsrc:∀j u,us[j]? = some u->w.cell? ⟨vb,voff+j,none⟩=some u) (h1c:∀v∈ys,v.oneCell'=true) (h1v:∀v∈us,v.oneCell'=true) :
  Calls Tryz.prog 40 #[.slice (some ⟨g,0,none⟩) n c,.int .i64 i,.slice (some ⟨vb,voff,none⟩) 1 cv] w fun e w'=>
   ∃(G:Nat) (ROW:Array Value),n+1<=G/\G<=maxLen/\ROW.size=G*14/\ROW.toList.take (i*14)=ys.take (i*14)/\e=.returned (.slice (some ⟨w.heap.size,0,none⟩) (n+1) G) /\
    w'=(((w.alloc (.cells ROW 43)).drew.setCells w.heap.size (i*14) us).drew).setCells w.heap.size ((i+1)*14) (ys.drop (i*14)):=by
 obtain⟨i0,z,hi0,hz0,hzs,hz1,hz2'⟩:=Tryz.infoE2;have hgw:g<w.heap.size:=(Array.getElem?_eq_some_iff.1 hh).1;have hyl:ys.length=n*14:=by
  rw[<-hys,zh,Array.length_toList,hcur];have:n*14<=c*14:=jb _ (by omega);omega
 have hys':∀j u,ys[j]? = some u->w.cell? ⟨g,j,none⟩=some u:=fun j u hj=>by
  rw[<-hys,xh] at hj
  split at hj
  ·simp only[World.cell?,hh];simpa using hj
  ·cases hj
 have hdl:(ys.drop (i*14)).length=(n - i)*14:=by rw[zt,hyl,Nat.sub_mul]
 have hz2:¬((i:Int)=(n:Int)):=by omega
 have hz3:(c:Int)<(n:Int)+1:=by omega
 have mixed:Tryz.prog.follows Departure.mixedOrders=true:=by kernel_rfl
 have hsz:(Tryz.prog.info? 43).map (·.size)=some 14:=by rw[hi0,jt,hz1]
 have hkk:(n:Int)+1 - (i:Int)=((n+1 - i:Nat):Int):=by omega
 have hik:i+(n+1 - i)=n+1:=by omega
 have hold:(Builtin.firstCells i0.size i (.slice (some ⟨g,0,none⟩) i c)).run Tryz.prog w.drew=.ok (ys.take (i*14)).toArray w.drew:=by
  rw[hz1];exact run_firstCells_some w.drew 14 i ⟨g,0,none⟩ i c (ys.take (i*14)) (by rw[zh,hyl];omega) (fun j v hj=>by
   rw[Addr.add_lit,zz];rw[xh] at hj
   split at hj
   ·exact hys' j v hj
   ·cases hj)
 have hrz:∀ty,(Builtin.append_ #[22,3] ty #[.slice (some ⟨g,0,none⟩) i c,.int .i64 ((n:Int)+1 - (i:Int))]).run Tryz.prog w =
   .ok (.slice (some ⟨w.heap.size,0,none⟩) (n+1) (grownCap w (n+1) c 43)) (w.drew.alloc (.cells ((ys.take (i*14)).toArray++Builtin.zeroCells z.cells (n+1 - i)++Builtin.zeroCells z.cells (grownCap w (n+1) c 43 - (n+1))) 43)):=fun ty=>by
  have h:=Lib.run_append_grow_zeros (P:=Tryz.prog) w 22 3 ty 43 i0 z .i64 .i64 (by kernel_rfl) (by kernel_rfl) hi0 hz0 (some ⟨g,0,none⟩) i c (ys.take (i*14)) hold (n+1 - i) (by omega) (by omega) (by omega) (by omega) (by rw[hz2'];omega) (by rw[hz2',hik];exact growslice_fits hroom (by omega));rw[hik] at h;rw[hkk];exact h
 obtain⟨G,hG⟩:∃G,G=grownCap w (n+1) c 43:=⟨_,rfl⟩;obtain⟨ROW,hROW⟩:∃ROW:Array Value,ROW=(ys.take (i*14)).toArray++Builtin.zeroCells z.cells (n+1 - i)++Builtin.zeroCells z.cells (G - (n+1)):=⟨_,rfl⟩;rw[<-hG] at hrz;rw[<-hROW] at hrz;have hGn:n+1<=G:=by rw[hG];exact grownCap_ge w _ _ _
 have hGm:G<=maxLen:=by rw[hG];exact grownCap_le_maxLen w (n+1) c 43 (by unfold maxLen;omega)
 have hG63:G<=9223372036854775807:=by unfold maxLen at hGm;omega
 have hRs:ROW.size=G*14:=by
  rw[hROW];simp only[Array.size_append,OA,hzs,xo,zh,hyl];omega
 have hRt:ROW.toList.take (i*14)=ys.take (i*14):=by
  rw[hROW];simp only[Array.toList_append,zu];rw[List.take_left' (by rw[zh,hyl];omega)]
 obtain⟨W1,hW1⟩:∃W1,W1=w.drew.alloc (.cells ROW 43):=⟨_,rfl⟩;rw[<-hW1] at hrz;have hN:∀j,j<(n+1)*14->(W1.cell? ⟨w.heap.size,j,none⟩).isSome=true:=fun j hj=>by
  rw[hW1,World.cell?_alloc_at (w:=w.drew) ROW _ w.heap.size j rfl,Array.getElem?_eq_getElem (by omega)];rfl
 have hNf:∀j,W1.frozen? ⟨w.heap.size,j,none⟩=false:=fun j=>by rw[hW1];exact World.frozen?_alloc_at (w:=w.drew) ROW _ w.heap.size j rfl
 have hOb:∀j v,w.cell? ⟨g,j,none⟩=some v->W1.cell? ⟨g,j,none⟩=some v:=fun j v h=>by rw[hW1,World.cell?_alloc_past (w:=w.drew) _ g j hgw];exact h
 have hOv:∀j v,w.cell? ⟨vb,j,none⟩=some v->W1.cell? ⟨vb,j,none⟩=some v:=fun j v h=>by rw[hW1,World.cell?_alloc_past (w:=w.drew) _ vb j hvw];exact h
 have hcpA:∀(W:World),(∀x,W.cell? x=W1.cell? x)->(∀x,W.frozen? x=W1.frozen? x)->∀ty dc,(Builtin.copy_ #[22,22] ty #[.slice (some ⟨w.heap.size,i*14,none⟩) (n+1 - i) dc,.slice (some ⟨vb,voff,none⟩) 1 cv]).run Tryz.prog W=.ok (goInt (1:Nat)) (W.setCells w.heap.size (i*14) us):=fun W hWc hWf ty dc=>
  Lg W _ _ ty 43 14 w.heap.size (i*14) (n+1 - i) dc ⟨vb,voff,none⟩ 1 cv 1 us (by kernel_rfl) hsz (by simp only[Nat.min_def];split<;>omega) (by omega)
   (fun j v hj=>by rw[Addr.add_lit,hWc];exact hOv _ v (hsrc j v hj))
   (fun j hj=>by rw[hWc];exact hN _ (by omega)) (fun j hj=>by rw[hWf];exact hNf _) h1v
 have hGi:¬(G=i):=by omega
 have hGim:¬(G=i+1):=by omega
 have hci:¬(c=i):=by omega
 have hbN:g≠w.heap.size:=by omega
 have hcpB:∀(W:World),(∀x,W.cell? x=(W1.setCells w.heap.size (i*14) us).cell? x)->(∀x,W.frozen? x=(W1.setCells w.heap.size (i*14) us).frozen? x)->∀ty dc sc,(Builtin.copy_ #[22,22] ty #[.slice (some ⟨w.heap.size,(i+1)*14,none⟩) (n - i) dc,.slice (some ⟨g,i*14,none⟩) (n - i) sc]).run Tryz.prog W=.ok (goInt (n - i:Nat)) (W.setCells w.heap.size ((i+1)*14) (ys.drop (i*14))):=fun W hWc hWf ty dc sc=>
  Lg W _ _ ty 43 14 w.heap.size ((i+1)*14) (n - i) dc ⟨g,i*14,none⟩ (n - i) sc (n - i) (ys.drop (i*14)) (by kernel_rfl) hsz (by simp only[Nat.min_def];split<;>omega) hdl
   (fun j v hj=>by
    rw[Addr.add_lit,hWc,World.cell?_setCells_out _ _ _ _ _ (fun h _=>absurd h hbN)];exact hOb _ v (hys' (i*14+j) v (by rwa [ju] at hj)))
   (fun j hj=>by rw[hWc];exact isSome_setCells w.heap.size us (i*14) W1 (fun t ht=>hN _ (by omega)) _ (hN _ (by rw[hdl,Nat.sub_mul] at hj;omega)))
   (fun j hj=>by rw[hWf,World.frozen?_setCells];exact hNf _) (fun v hv=>h1c v (ji hv))
 subst hW1;have hE1:∀x,((w.alloc (.cells ROW 43)).drew).cell? x=(w.drew.alloc (.cells ROW 43)).cell? x:=fun x=>rfl;have hE2:∀x,((w.alloc (.cells ROW 43)).drew).frozen? x=(w.drew.alloc (.cells ROW 43)).frozen? x:=fun x=>rfl;have hF1:∀x,(((w.alloc (.cells ROW 43)).drew.setCells w.heap.size (i*14) us).drew).cell? x=((w.drew.alloc (.cells ROW 43)).setCells w.heap.size (i*14) us).cell? x:=fun x=>rfl;have hF2:∀x,(((w.alloc (.cells ROW 43)).drew.setCells w.heap.size (i*14) us).drew).frozen? x=((w.drew.alloc (.cells ROW 43)).setCells w.heap.size (i*14) us).frozen? x:=fun x=>rfl;have hw1:IntKind.i64.wrap ((i:Int)+1)=(i:Int)+1:=by rw[IntKind.wrap_i64];omega
 have hb1:(0:Int)<=(i:Int)+1:=by omega
 have hin:i<=n:=by omega
 have htn:((i:Int)+1).toNat=i+1:=by omega
 have hb3:(i:Int)<=(n:Int):=by omega
 clear hkk hik hold hROW hG
 go_enter Tryz.func40,Tryz.ntmps40
 go_wp2_with (first
  | (at_builtin;refine Lib.wpList_append_run _ rfl _ _ _ _ rfl _ _ rfl rfl _ _ (hrz _) ?_)
  | (at_builtin;refine wpList_copy_runI _ rfl _ _ 22 22 rfl _ _ rfl rfl (hcpA _ hE1 hE2 _ _) ?_)
  | (at_builtin;refine wpList_copy_runI _ rfl _ _ 22 22 rfl _ _ rfl rfl (hcpB _ (fun _=>rfl) (fun _=>rfl) _ _ _) ?_))
 go_region_law_o (refine step_copy_runI rfl _ _ 22 22 rfl (.slice (some ⟨w.heap.size,(i+1)*14,none⟩) (n - i) (G - (i+1))) (.slice (some ⟨g,i*14,none⟩) (n - i) (c - i)) (by simp[Act.eval,Act.put]) (by simp[Act.eval,Act.put]) (hcpB _ hF1 hF2 3 (G - (i+1)) (c - i)) ?_)
 go_wp2
 go_ret
 exact⟨G,ROW,hGn,hGm,hRs,hRt,rfl,rfl⟩
set_option maxHeartbeats 4000000 in
theorem bN (v:Value) (n vb voff cv:Nat) (ys us:List Value) (w:World) (hown:w.ownsRow 0 43 14 v n ys) (hn:n<=1000000) (hus:us.length=14)
  (hsrc:∀j u,us[j]? = some u->w.cell? ⟨vb,voff+j,none⟩=some u) (h1v:∀v∈us,v.oneCell'=true) :
  Calls Tryz.prog 40 #[v,.int .i64 n,.slice (some ⟨vb,voff,none⟩) 1 cv] w fun e w'=>
   ∃v',e=.returned v'/\w'.ownsRow 0 43 14 v' (n+1) (ys++us)/\w.grownBy w' v.ownBlock/\(v'.ownBlock=v.ownBlock\/v'.ownBlock=some w.heap.size):=by
 obtain⟨i0,z,hi0,hz0,hzs,hz1,hz2'⟩:=Tryz.infoE2;have mixed:Tryz.prog.follows Departure.mixedOrders=true:=by kernel_rfl
 have hap:∀ty,∃v' w',(Builtin.append_ #[22,22] ty #[v,.slice (some ⟨vb,voff,none⟩) 1 cv]).run Tryz.prog w=.ok v' w'/\w'.ownsRow 0 43 14 v' (n+1) (ys++us)/\w.grownBy w' v.ownBlock/\(v'.ownBlock=v.ownBlock\/v'.ownBlock=some w.heap.size):=fun ty=>by
  obtain⟨v',w',r1,r2,r3,_,r5⟩:=run_append_own_at (P:=Tryz.prog) w 0 22 ty 43 i0 z 14 160 (by kernel_rfl) hi0 hz0 hz1 hz2' hzs (by decide) v n ys hown ⟨vb,voff,none⟩ 1 cv us (by omega) (fun j u hj=>by rw[Addr.add_lit];exact hsrc j u hj) h1v (by unfold maxLen;omega) (by omega) (ze _);exact⟨v',w',r1,r2,r3,r5⟩
 obtain⟨v',w1,hrun,r2,r3,r5⟩:=hap 22;rcases hown.2 with ⟨rfl,rfl⟩|⟨g,cap,cur,rfl,_,hh,hnc,hcm,_,_⟩
 ·go_enter Tryz.func40,Tryz.ntmps40
  go_wp2_with (at_builtin;refine Lib.wpList_append_run _ rfl _ _ _ _ rfl _ _ rfl rfl _ _ hrun ?_)
  go_ret
  exact⟨v',rfl,r2,r3,r5⟩
 ·have hc63:cap<=9223372036854775807:=by unfold maxLen at hcm;omega
  go_enter Tryz.func40,Tryz.ntmps40
  go_wp2_with (at_builtin;refine Lib.wpList_append_run _ rfl _ _ _ _ rfl _ _ rfl rfl _ _ hrun ?_)
  all_goals (go_ret;exact⟨v',rfl,r2,r3,r5⟩)
theorem Ta (v:Value) (n i vb voff cv:Nat) (ys us:List Value) (w:World) (cA:Array Value) (tA:TypeId) (f:Nat×Nat) (hown:w.ownsRow 0 43 14 v n ys) (hA:w.heap[vb]? = some (.cells cA tA f)) (hA0:cA.size≠0) (hvb:v.ownBlock≠some vb)
  (hi:i<=n) (hn:n<=1000000) (hus:us.length=14) (hsrc:∀j u,us[j]? = some u->w.cell? ⟨vb,voff+j,none⟩=some u) (h1c:∀v∈ys,v.oneCell'=true) (h1v:∀v∈us,v.oneCell'=true) :
  Calls Tryz.prog 40 #[v,.int .i64 i,.slice (some ⟨vb,voff,none⟩) 1 cv] w fun e w'=>
   ∃v',e=.returned v'/\w'.ownsRow 0 43 14 v' (n+1) (ys.take (i*14)++us++ys.drop (i*14))/\w.grownBy w' v.ownBlock/\(v'.ownBlock=v.ownBlock\/v'.ownBlock=some w.heap.size):=by
 have hyl:=hown.1;rcases zo i n with hlt|hge
 ·have hd14:i*14<=n*14:=jb _ hi;rcases hown.2 with ⟨rfl,rfl⟩|⟨g,cap,cur,rfl,hb,hh,hnc,hcm,hcs,hcy⟩
  ·omega
  have hvb':vb≠g:=by intro e;exact hvb (by rw[e];rfl)
  have hvw:vb<w.heap.size:=(Array.getElem?_eq_some_iff.1 hA).1;have hgw:g<w.heap.size:=(Array.getElem?_eq_some_iff.1 hh).1;have hc14:n*14<=cap*14:=jb _ hnc;have hh':w.heap[g]? = some (.cells cur.toList.toArray 43 (0,0)):=by simpa using hh
  have hlt14:(i+1)*14<=n*14:=jb _ hlt;have hdl:(ys.drop (i*14)).length=n*14 - i*14:=by rw[zt,hyl]
  have hlen:(ys.take (i*14)++us++ys.drop (i*14)).length=(n+1)*14:=by
   simp only[zg,zh,zt,hyl,hus];omega
  rcases zo cap (n+1) with hroom|hroom
  ·refine(eH g n cap i vb voff cv cur ys us w hh hcs hcy hvw hlt hnc hroom hn hus hsrc h1c h1v).mono ?_;rintro e w' ⟨G,ROW,hGn,hGm,hRs,hRt,rfl,rfl⟩;have hG14:(n+1)*14<=G*14:=jb _ hGn;have e0:((w.alloc (.cells ROW 43)).drew).heap[w.heap.size]? = some (.cells ROW.toList.toArray 43 (0,0)):=by
    rw[GU,heap_alloc_new]
   obtain⟨s1,s2,s3,s4,s5,s6⟩:=Gk w.heap.size 43 us (i*14) _ ROW.toList e0 (by rw[hus,Array.length_toList,hRs];omega);obtain⟨A,hAe⟩:∃A,A=ROW.toList.take (i*14)++us++ROW.toList.drop (i*14+us.length):=⟨_,rfl⟩;rw[<-hAe] at s1;have hAl:A.length=G*14:=by
    rw[hAe];simp only[zg,zh,zt,Array.length_toList,hRs,hus];omega
   obtain⟨q1,q2,q3,q4,q5,q6⟩:=Gk w.heap.size 43 (ys.drop (i*14)) ((i+1)*14) (((w.alloc (.cells ROW 43)).drew.setCells w.heap.size (i*14) us).drew) A (by rw[GU];exact s1) (by rw[hdl,hAl];omega);refine⟨_,rfl,⟨hlen,.inr ⟨w.heap.size,G,_,rfl,ze _,q1,hGn,hGm,?_,?_⟩⟩,⟨q4.trans s4,q5.trans s5,q6.trans s6,?_,fun k hk _=>?_⟩,.inr rfl⟩
   ·simp only[xo,zg,zh,zt,hAl,hyl];omega
   ·rw[List.toList_toArray];have:=ZL ROW.toList ys us (i*14) (n*14) 14 (by rw[Array.length_toList,hRs];omega) hd14 hus hyl hRt hAe;rw[show (n+1)*14=n*14+14 by omega,show (i+1)*14=i*14+14 by omega];exact this
   ·rw[q3,GU,s3,GU,World.size_alloc];omega
   ·rw[q2 k (by omega),GU,s2 k (by omega),GU];exact Below.heap_alloc w _ k hk
  ·refine(eI g n cap i vb voff cv cur ys us w cA tA f hh hcs hcy hA hA0 hvb' hlt hroom (by unfold maxLen at hcm;omega) hus hsrc h1c h1v).mono ?_;rintro e w' ⟨rfl,rfl⟩;have hr14:(n+1)*14<=cap*14:=jb _ hroom;obtain⟨s1,s2,s3,s4,s5,s6⟩:=Gk g 43 (ys.drop (i*14)) ((i+1)*14) w.drew cur.toList (by rw[GU];exact hh') (by rw[hdl,Array.length_toList,hcs];omega);obtain⟨A,hAe⟩:∃A,A=cur.toList.take ((i+1)*14)++ys.drop (i*14)++cur.toList.drop ((i+1)*14+(ys.drop (i*14)).length):=⟨_,rfl⟩;rw[<-hAe] at s1;have hAl:A.length=cap*14:=by
    rw[hAe];simp only[zg,zh,Array.length_toList,hcs,hdl,zt (i:=(i+1)*14+(n*14 - i*14))];omega
   obtain⟨q1,q2,q3,q4,q5,q6⟩:=Gk g 43 us (i*14) (w.drew.setCells g ((i+1)*14) (ys.drop (i*14))) A s1 (by rw[hus,hAl];omega);refine⟨_,rfl,⟨hlen,.inr ⟨g,cap,_,rfl,ze _,q1,hroom,hcm,?_,?_⟩⟩,⟨q4.trans s4,q5.trans s5,q6.trans s6,?_,fun k hk hne=>?_⟩,.inl rfl⟩
   ·simp only[xo,zg,zh,zt,hAl,hus];omega
   ·rw[List.toList_toArray];have:=ZK cur.toList us (i*14) (n*14) 14 (by rw[Array.length_toList,hcs];omega) hd14 hus (A:=A) (by rw[hAe,hcy,show (i+1)*14=i*14+14 by omega]);rw[hcy] at this;rw[show (n+1)*14=n*14+14 by omega];exact this
   ·rw[q3,s3];exact zd _
   ·have hkg:k≠g:=by rintro rfl;exact hne rfl
    rw[q2 k hkg,s2 k hkg];rfl
 ·obtain rfl:i=n:=by omega
  have e1:ys.take (i*14)=ys:=List.take_of_length_le (by omega);have e2:ys.drop (i*14)=[]:=List.drop_of_length_le (by omega);rw[e1,e2,zy];exact bN v i vb voff cv ys us w hown hn hus hsrc h1v
theorem SR {P:Program} (w:World) (t e ty:TypeId) (z:Value) (ht:P.underlying t=some (.slice e)) (hv:∀w,(zeroValue e).run P w=.ok z w) (zs:List Value) (n b o c:Nat) (hn:0<n) (hz:(Builtin.zeroCells z.cells n).toList=zs) (h1:∀v∈zs,v.oneCell'=true)
  (hc:∀j,j<zs.length->(w.cell? ⟨b,o+j,none⟩).isSome=true) (hf:∀j,j<zs.length->w.frozen? ⟨b,o+j,none⟩=false) :
  (Builtin.clear_ #[t] ty #[.slice (some ⟨b,o,none⟩) n c]).run P w=.ok (.tuple #[]) (w.setCells b o zs):=by
 have hst:=run_storeCells_cells (P:=P) b o zs 0 w (by simpa using hc) (by simpa using hf) h1;simp only[jj] at hst;obtain⟨m,rfl⟩:∃m,n=m+1:=⟨n - 1,by omega⟩;simp[Builtin.clear_,run_underlying ht,hv,hz,hst]
theorem Tryz.zeroE:∃(z:Value) (zs:List Value),(∀w,(zeroValue 43).run Tryz.prog w=.ok z w)/\(Builtin.zeroCells z.cells 1).toList=zs/\zs.length=14/\∀v∈zs,v.oneCell'=true:=by
 obtain⟨i0,z,hi0,hz0,hzs,hz1,hz2'⟩:=Tryz.infoE2;refine⟨z,_,fun w=>by simp[zeroValue,typeInfo,hi0,hz0],rfl,by rw[Array.length_toList,OA,hzs],?_⟩;have h:(Tryz.prog.info? 43).bind (·.zero)=some z:=by rw[hi0];exact hz0
 have h2:((Tryz.prog.info? 43).bind (·.zero)).map (fun z=>(Builtin.zeroCells z.cells 1).toList.all (·.oneCell'))=some true:=by kernel_rfl
 rw[h,jt,zx.injEq,zj] at h2;exact h2
set_option maxHeartbeats 4000000 in
theorem bI (g n c i:Nat) (cur:Array Value) (ys zs:List Value) (w:World) (z:Value) (hv:∀w,(zeroValue 43).run Tryz.prog w=.ok z w) (hz:(Builtin.zeroCells z.cells 1).toList=zs) (hzl:zs.length=14) (hz1:∀v∈zs,v.oneCell'=true)
  (hh:w.heap[g]? = some (.cells cur 43 (0,0))) (hcur:cur.size=c*14) (hys:cur.toList.take (n*14)=ys)
  (hi:i<n) (hnc:n<=c) (hc63:c<=9223372036854775807) (h1c:∀v∈ys,v.oneCell'=true) :
  Calls Tryz.prog 39 #[.slice (some ⟨g,0,none⟩) n c,.int .i64 i,.int .i64 ((i:Int)+1)] w fun e w'=>
   e=.returned (.slice (some ⟨g,0,none⟩) (n - 1) c)/\w'=(w.drew.setCells g (i*14) (ys.drop ((i+1)*14))).setCells g ((n - 1)*14) zs:=by
 obtain⟨i0,z0,hi0,_,_,hs0,_⟩:=Tryz.infoE2;have mixed:Tryz.prog.follows Departure.mixedOrders=true:=by kernel_rfl
 have t22:Tryz.prog.underlying 22=some (.slice 43):=by kernel_rfl
 have hyl:ys.length=n*14:=by
  rw[<-hys,zh,Array.length_toList,hcur];have:n*14<=c*14:=jb _ (by omega);omega
 have hcell:∀j,j<n*14->(w.cell? ⟨g,j,none⟩).isSome=true:=fun j hj=>by
  have h1:j<cur.size:=by
   have:n*14<=c*14:=jb _ hnc;omega
  simp[World.cell?,hh,h1]
 have hys':∀j u,ys[j]? = some u->w.cell? ⟨g,j,none⟩=some u:=fun j u hj=>by
  rw[<-hys,xh] at hj
  split at hj
  ·simp only[World.cell?,hh];simpa using hj
  ·cases hj
 have hfz:∀j,w.frozen? ⟨g,j,none⟩=false:=fun j=>by simp[World.frozen?,hh]
 obtain⟨news,hnews⟩:∃news,news=ys.drop ((i+1)*14):=⟨_,rfl⟩;have hdl:news.length=(n - (i+1))*14:=by rw[hnews,zt,hyl,Nat.sub_mul]
 have hi14:(i+1)*14<=n*14:=jb _ hi;obtain⟨A,hA,hsrc⟩:∃A:Addr,(if c=i+1 then some (⟨g,0,none⟩:Addr) else some ⟨g,(i+1)*14,none⟩)=some A/\Hid (∀t u,news[t]? = some u->w.drew.cell? (A.add t)=some u):=by
  by_cases h:c=i+1
  ·refine⟨⟨g,0,none⟩,by simp[h],fun t u hu=>?_⟩;have h0:news.length=0:=by rw[hdl];omega
   rw[List.length_eq_zero_iff.1 h0] at hu;simp at hu
  ·refine⟨⟨g,(i+1)*14,none⟩,by simp[h],fun t u hu=>?_⟩;rw[Addr.add_lit];exact hys' _ u (by rw[hnews,ju] at hu;exact hu)
 have s1:Hid (news.length=(n - (i+1))*14):=hdl;have s2:Hid (∀u∈news,u.oneCell'=true):=fun u hu=>h1c u (by rw[hnews] at hu;exact ji hu);have s3:Hid (∀t,t<news.length->(w.drew.cell? ⟨g,0+i*14+t,none⟩).isSome=true/\w.drew.frozen? ⟨g,0+i*14+t,none⟩=false):=by
  intro t ht;rw[hdl,Nat.sub_mul] at ht;exact⟨hcell _ (by omega),hfz _⟩
 obtain⟨W1,hW1⟩:∃W1,W1=w.drew.setCells g (0+i*14) news:=⟨_,rfl⟩;have hW1c:∀k,k<n*14->(W1.cell? ⟨g,k,none⟩).isSome=true:=fun k hk=>by
  rw[hW1];exact isSome_setCells g news (0+i*14) w.drew (fun t ht=>(s3.out t ht).1) _ (hcell k hk)
 have hcl:∀ty,(Builtin.clear_ #[22] ty #[.slice (some ⟨g,(i+(n - (i+1)))*14,none⟩) (n - (i+(n - (i+1)))) (c - (i+(n - (i+1))))]).run Tryz.prog W1=.ok (.tuple #[]) (W1.setCells g ((i+(n - (i+1)))*14) zs):=fun ty=>by
  rw[show n - (i+(n - (i+1)))=1 by omega];exact SR W1 _ _ ty z t22 hv zs 1 g ((i+(n - (i+1)))*14) _ (by decide) hz hz1 (fun j hj=>hW1c _ (by omega)) (fun j hj=>by rw[hW1,World.frozen?_setCells];exact hfz _)
 have hW:Hid (W1=w.drew.setCells g (0+i*14) news):=hW1;have hlt:¬((i:Int)=(i:Int)+1):=by omega
 have hic:i<=c:=by omega
 have hjc:i+1<=c:=by omega
 have hjn:(i:Int)+1<=(n:Int):=by omega
 have htn:((i:Int)+1).toNat=i+1:=by omega
 have hj0:(0:Int)<=(i:Int)+1:=by omega
 clear hW1 hdl hcell hys' hW1c
 go_enter Tryz.func39,Tryz.ntmps39
 go_wp2_with fail
 go_region_law_o (refine step_append_room rfl (.tmp 22) (.tmp 25) 22 rfl 43 i0 14 t22 hi0 hs0 g 0 i c (by simp[Act.eval,Act.put]) A (n - (i+1)) (c - (i+1)) news (by simp[Act.eval,Act.put,hA]) s1.out hsrc.out s2.out (by omega) s3.out ?_;rw[<-hW.out])
 go_wp2
 go_ret
 refine⟨by rw[show n - 1=i+(n - (i+1)) by omega];rfl,?_⟩;rw[show n - 1=i+(n - (i+1)) by omega,hW.out,hnews,zz]
end Go.Proofs.YtbeoijfmfkifeaaGreatDoor
namespace Go.Proofs.YtbeoijfmfkifeaaGreatDoor
open Go.RowKit Sx
open Int renaming eq_ofNat_of_zero_le->xt, toNat_natCast->zm
open List renaming any_eq_true->xk, append_assoc->zu, append_nil->zy, eq_nil_of_length_eq_zero->qh, filter_append->xg, filter_cons_of_neg->yh, filter_cons_of_pos->yn, filter_eq_self->yi, filter_nil->jx, getElem?_eq_getElem->zq, getElem?_eq_none->qg, getElem?_set->zb, getElem_mem->qe, getElem_of_mem->yf, length_append->zg, length_cons->zl, length_drop->zt, length_filter_le->yl, length_nil->qp, length_set->zf, length_singleton->yg, length_take->zh, mem_append->zw, mem_filter->jv, mem_of_mem_drop->ji, mem_of_mem_take->jo, mem_singleton->xi, nil_append->qn, take_append_drop->jh, take_length->qc, take_of_length_le->je, take_succ_eq_append_getElem->qm, take_take->xp
open Nat renaming eq_or_lt_of_le->xw, le_refl->zd, le_trans->jr, mul_le_mul_right->jb, zero_le->ze
theorem cR {w:World} {g o:Nat} {v:Value} (h:w.cell? ⟨g,o,none⟩=some v):∃c T f,w.heap[g]? = some (.cells c T f)/\c.size≠0:=by
 unfold World.cell? at h
 split at h
 ·rename_i c T f hc;refine⟨c,T,f,hc,fun e=>?_⟩;have:c[o]? = some v:=by simpa using h
  have:=(Array.getElem?_eq_some_iff.1 this).1;omega
 ·cases h
theorem Qq {G:Gh} {I:Ak} {objs:List OB} {w:World} (hm:MemOk G I objs w) {n:Nat} {vs:List AV} (hv:vs.length≠0) {y:Value} (h:Ab G I (.row n vs) y) :
  ∃g off c us,y=.slice (some ⟨g,off,none⟩) n c/\Ac G I vs us/\us.length=vs.length/\(∀u∈us,u.oneCell'=true)/\(∀j u,us[j]? = some u->w.cell? ⟨g,off+j,none⟩=some u)/\(∃cA tA f,w.heap[g]? = some (.cells cA tA f)/\cA.size≠0)/\∀b,G.own b≠some g:=by
 simp only[Ab] at h;obtain⟨a,c,us,rfl,hc,dus,hone,himm⟩:=h;have hl:=dus.length;obtain⟨u0,hu0⟩:∃u0,us[0]? = some u0:=⟨us[0]'(by omega),zq _⟩;obtain⟨g,off,rfl,hI⟩:=himm 0 u0 hu0;refine⟨g,off,c,us,rfl,dus,hl.symm,hone,fun j u hj=>?_,?_,fun b hb=>hm.apart b g _ _ hb hI⟩
 ·obtain⟨g',off',e,hI'⟩:=himm j u hj;injection e with e;injection e with e1 e2 _;subst e1 e2
  exact hm.imm _ _ _ hI'
 ·exact cR (hm.imm _ _ _ hI)
section
variable [Tabs Tryz.prog] {objs:List OB} {K:List OB->AV->Prop}
theorem Q7 (q gen n:Nat) (xs vs:List AV) (i:Nat) (hb:objs[q]? = some (.orow 43 14 gen n xs)) (hi:i<=n) (hn:n<=1000000) (hv:vs.length=14)
  (hk:K (objs.set q (.orow 43 14 (gen+1) (n+1) (xs.take (i*14)++vs++xs.drop (i*14)))) (.orow q (gen+1))):Ai Tryz.prog 40 [.orow q gen,.i .i64 i,.row 1 vs] objs K:=by
 intro C _ G I w hin hm ys hd;simp only[Ac] at hd;obtain⟨y0,l0,rfl,d0,y1,l1,rfl,d1,y2,l2,rfl,d2,rfl⟩:=hd;simp only[Ab] at d0 d1;subst d1;obtain⟨g',v,hcur,_,heq,_⟩:=d0;obtain⟨v',zs,m1,m2,m3,m4,m5⟩:=hm.row q _ _ gen n xs hb;rw[hcur] at m1;injection m1 with m1;injection m1 with m1 m6
 have hv0:=heq m1.symm;subst m1 m6 hv0;obtain⟨g,off,c,us,rfl,dus,hul,hone,hcell,⟨cA,tA,f,hA,hA0⟩,hne⟩:=Qq hm (by omega) d2;have hob:G.own q=y0.ownBlock:=FL m5 hcur;refine(Ta y0 n i g off c zs us w cA tA f m2 hA hA0 (fun e=>hne q (hob.trans e)) hi hn (by omega) hcell m4 hone).mono ?_;rintro e w' ⟨v',rfl,r2,r3,r4⟩;obtain⟨G',s1,s2,s3,s4⟩:=Jf hin hm q _ _ g' n (n+1) xs (xs.take (i*14)++vs++xs.drop (i*14)) y0 v' _ hb hcur r3 r2 (Ac.append (Ac.append (Ac.take _ m3) dus) (Ac.drop _ m3)) (by
  intro u hu;rcases zw.1 hu with hu|hu
  ·rcases zw.1 hu with hu|hu
   ·exact m4 u (jo hu)
   ·exact hone u hu
  ·exact m4 u (ji hu)) r4
 exact⟨v',_,_,G',I,rfl,hk,s1,Ak.le.refl I,s2,s3,s4⟩
theorem ZM (vs:List AV) (hv:vs.length=14) (hk:K (objs++[.orow 43 14 0 1 vs]) (.orow objs.length 0)):Ai Tryz.prog 40 [.nil,.i .i64 0,.row 1 vs] objs K:=by
 intro C _ G I w hin hm ys hd;simp only[Ac] at hd;obtain⟨y0,l0,rfl,d0,y1,l1,rfl,d1,y2,l2,rfl,d2,rfl⟩:=hd;simp only[Ab] at d0 d1;subst d1 d0;obtain⟨g,off,c,us,rfl,dus,hul,hone,hcell,⟨cA,tA,f,hA,hA0⟩,hne⟩:=Qq hm (by omega) d2;refine(Ta (.slice none 0 0) 0 0 g off c [] us w cA tA f (World.ownsRow_nil w 0 _ _) hA hA0 (by intro e;cases e) (zd _) (by decide) (by omega) hcell (by simp) hone).mono ?_;rintro e w' ⟨v',rfl,r2,r3,r4⟩;obtain⟨G',s1,s2,s3,s4⟩:=GH hin hm r3 43 14 1 vs v' us (by simpa using r2) dus hone (by
  intro k hk;rcases r4 with r4|r4
  ·rw[r4] at hk;cases hk
  ·rw[r4] at hk;injection hk with hk;omega)
 exact⟨v',_,_,G',I,rfl,hk,s1,Ak.le.refl I,s2,s3,s4⟩
end
section
variable [Tabs Tryz.prog] {objs:List OB} {K:List OB->AV->Prop}
theorem YO (q gen n:Nat) (xs:List AV) (i:Nat) (hb:objs[q]? = some (.orow 43 14 gen n xs)) (hi:i<n)
  (hk:K (objs.set q (.orow 43 14 (gen+1) (n - 1) (xs.take (i*14)++xs.drop ((i+1)*14)))) (.orow q (gen+1))):Ai Tryz.prog 39 [.orow q gen,.i .i64 i,.i .i64 ((i:Int)+1)] objs K:=by
 intro C _ G I w hin hm ys hd;simp only[Ac] at hd;obtain⟨y0,l0,rfl,d0,y1,l1,rfl,d1,y2,l2,rfl,d2,rfl⟩:=hd;simp only[Ab] at d0 d1 d2;subst d1 d2;obtain⟨g',v,hcur,_,heq,_⟩:=d0;obtain⟨v',zs,m1,m2,m3,m4,m5⟩:=hm.row q _ _ gen n xs hb;rw[hcur] at m1;injection m1 with m1;injection m1 with m1 m6
 have hv0:=heq m1.symm;subst m1 m6 hv0;obtain⟨z,zc,hv,hz,hzl,hz1⟩:=Tryz.zeroE;have hyl:=m2.1;have m2':=m2;rcases m2.2 with ⟨rfl,rfl⟩|⟨g,cap,cur,rfl,hb0,hh,hnc,hcm,hcs,hcy⟩
 ·omega
 refine(bI g n cap i cur zs zc w z hv hz hzl hz1 hh hcs hcy hi hnc (by unfold maxLen at hcm;omega) m4).mono ?_;rintro e w' ⟨rfl,rfl⟩;have hh':w.heap[g]? = some (.cells cur.toList.toArray 43 (0,0)):=by simpa using hh
 have hi14:(i+1)*14<=n*14:=jb _ hi;have hc14:n*14<=cap*14:=jb _ hnc;have hdl:(zs.drop ((i+1)*14)).length=n*14 - (i+1)*14:=by rw[zt,hyl]
 obtain⟨s1,s2,s3,s4,s5,s6⟩:=Gk g 43 (zs.drop ((i+1)*14)) (i*14) w.drew cur.toList (by rw[GU];exact hh') (by rw[hdl,Array.length_toList,hcs];omega);obtain⟨A,hAe⟩:∃A,A=cur.toList.take (i*14)++zs.drop ((i+1)*14)++cur.toList.drop (i*14+(zs.drop ((i+1)*14)).length):=⟨_,rfl⟩;rw[<-hAe] at s1;have hAl:A.length=cap*14:=by
  rw[hAe,zg,zg,hdl,zh,zt,Array.length_toList,hcs];omega
 obtain⟨q1,q2,q3,q4,q5,q6⟩:=Gk g 43 zc ((n - 1)*14) (w.drew.setCells g (i*14) (zs.drop ((i+1)*14))) A s1 (by rw[hzl,hAl];omega);have hg:w.grownBy ((w.drew.setCells g (i*14) (zs.drop ((i+1)*14))).setCells g ((n - 1)*14) zc) (some g):=⟨q4.trans s4,q5.trans s5,q6.trans s6,by rw[q3,s3];exact zd _,fun k hk hne=>by
  have hkg:k≠g:=by rintro rfl;exact hne rfl
  rw[q2 k hkg,s2 k hkg];rfl⟩
 have hrow:((w.drew.setCells g (i*14) (zs.drop ((i+1)*14))).setCells g ((n - 1)*14) zc).ownsRow 0 43 14 (.slice (some ⟨g,0,none⟩) (n - 1) cap) (n - 1) (zs.take (i*14)++zs.drop ((i+1)*14)):=by
  refine⟨?_,.inr ⟨g,cap,_,rfl,ze _,q1,by omega,hcm,?_,?_⟩⟩
  ·rw[zg,hdl,zh,hyl];omega
  ·simp only[List.size_toArray,zg,zh,zt,hAl,hzl];omega
  ·rw[List.toList_toArray,zu,List.take_append_of_le_length (by rw[zh,hAl];omega),xp,Nat.min_self,hAe];rw[List.take_left' (by rw[zg,hdl,zh,Array.length_toList,hcs];omega),<-hcy,xp,Nat.min_eq_left (by omega)]
 obtain⟨G',s1,s2,s3,s4⟩:=Jf hin hm q _ _ g' n (n - 1) xs (xs.take (i*14)++xs.drop ((i+1)*14)) _ _ _ hb hcur hg hrow (Ac.append (Ac.take _ m3) (Ac.drop _ m3)) (by
  intro u hu;rcases zw.1 hu with hu|hu
  ·exact m4 u (jo hu)
  ·exact m4 u (ji hu)) (.inl rfl)
 exact⟨_,_,_,G',I,rfl,hk,s1,Ak.le.refl I,s2,s3,s4⟩
end
section
attribute [local irreducible] run
theorem PP {L:List GE} {w:List UInt8} (h:Cy w L=true) (hs:C8 L):Bc w L<L.length:=by
 unfold Cy at h;rw[xk] at h;obtain⟨e,he,hk⟩:=h;have hk:=of_decide_eq_true hk;rcases Nat.lt_or_ge (Bc w L) L.length with c|c
 ·exact c
 ·have:(L.takeWhile fun e=>AG e.id.text w)=L:=(List.takeWhile_sublist _).eq_of_length_le c;have h2:=List.all_eq_true.1 (List.all_takeWhile (p:=fun e:GE=>AG e.id.text w) (l:=L)) e (by rw[this];exact he);rw[hk,Is] at h2;cases h2
def CP (p:Nat) (e:GE) (L:List GE):List GE:=L.take p++[e]++L.drop p
noncomputable def Fa (cap:Int) (e:GE) (L:List GE):List GE :=
 if Cy e.id.text L=true then L.set (Bc e.id.text L) e
 else if cap<=(L.length:Int) then CP (if B5 L<Bc e.id.text L then Bc e.id.text L - 1 else Bc e.id.text L) e (L.eraseIdx (B5 L))
 else CP (Bc e.id.text L) e L
noncomputable def BP (cap:Int) (e:GE) (L:List GE):List GE:=if CA e=true/\0<cap then Fa cap e L else L
theorem Q6 {p:Nat} {e:GE} {L:List GE} (h:p<=L.length):(CP p e L).length=L.length+1:=by
 unfold CP;simp only[zg,zh,zt,zl,qp];omega
structure VOk (e:GE):Prop where
 it:e.id.text.length<=140737488351232
 tl:e.tr.length<=1000000
 s0:0<=e.secs
 s1:e.secs<=18446744073709551615
section
variable [Tabs Tryz.prog] [Shp Tryz.prog] [Pow Tryz.prog] {objs:List OB} {K:List OB->AV->Prop}
theorem Mn (cap t:Int) (e:GE) (L:List GE) (hs:C8 L) (ht:∀x∈L,x.tr.length<=1000000) (he:VOk e) (t0:0<=t) (t1:t<=18446744073709551615) (hn:L.length<=1000)
  (hk:K objs (A5 cap (BP cap (wt e t (AM t e.secs)) L))):Ai Tryz.prog 18 [A5 cap L,.agg (gv e),.i .u64 t] objs K:=by
 refine Gt (A5 cap (BP cap (wt e t (AM t e.secs)) L)) ?_;have hxp:AE (A6 e.tr)=true:=De _;have hadd:∀{objs:List OB} {K:List OB->AV->Prop},K objs (.i .u64 (AM t e.secs))->Ai Tryz.prog 29 [.i .u64 t,.i .u64 e.secs] objs K:=fun hk=>Pc t e.secs t0 he.s0 t1 he.s1 hk;have hgood:CA (wt e t (AM t e.secs))=CA e:=rfl;refine AI fX (by simp only[A5,AE,AV.plain,Dg,FI,Bool.and_self]) fun C _=>?_;rw[Th];refine Ae fun Y hY=>?_;simp only[A5,gv,Aa,simprocAttr];subst hY;refine Ae fun Y hY=>?_;simp only[Aa,simprocAttr];refine Ag (Rk L (by omega) ht (fun hL=>?_) ?_)
 ·subst hL;simp only[Aa,simprocAttr];subst hY;refine Ae fun Y hY=>?_;refine Ae fun X hX=>?_;simp only[Aa,simprocAttr];refine Ag (Mr e he.it ?_)
  by_cases hg:CA e=true/\0<cap
  ·obtain⟨hg1,hg2⟩:=hg;have hc':¬cap<=0:=by omega
   simp only[Aa,simprocAttr,hg1,hc',Bool.not_true];subst hX;simp only[Aa,simprocAttr];subst hY;refine Ae fun Y hY=>?_;simp only[Aa,simprocAttr];refine Fj (v:=.agg (gv e)) (KW e he.tl rfl) (by simp only[AE,AV.plain,De,Bool.and_self]) (by simp only[AV.plain,FI]) ?_;simp only[gv,Aa,simprocAttr];refine Fj (v:=.i .u64 (AM t e.secs)) (hadd rfl) rfl rfl ?_;simp only[Aa,simprocAttr];subst hY;refine Ae fun Y hY=>?_;simp only[Aa,simprocAttr];refine Ag (dY (Mq [] e.id.text List.Pairwise.nil (by decide) ?_));rw[show Cy e.id.text []=false from rfl,show Bc e.id.text []=0 from rfl];simp only[Aa,simprocAttr];subst hY;refine Ae fun Y hY=>?_;simp only[Aa,simprocAttr];subst hY;refine Ae fun Y hY=>?_;simp only[Aa,simprocAttr,hc'];subst hY;refine Ae fun Y hY=>?_;simp only[Aa,simprocAttr];refine Ag (ZM _ rfl ?_);simp only[Aa,simprocAttr];subst hY;have hr:BP cap (wt e t (AM t e.secs)) []=[wt e t (AM t e.secs)]:=by
    unfold BP Fa;rw[hgood,if_pos ⟨hg1,hg2⟩,show Cy (wt e t (AM t e.secs)).id.text []=false from rfl,if_neg Bool.false_ne_true,if_neg (show ¬cap<=(([]:List GE).length:Int) from by simp;omega)]
    rfl
   rw[hr] at hk ⊢;have e1:Ar [wt e t (AM t e.secs)]=Dj (wt e t (AM t e.secs)):=(Ls _).symm;unfold A5 at hk;rw[e1] at hk ⊢;simp only[hxp,Aa,simprocAttr];exact⟨fun G I y hy=>hy,hk⟩
  ·have hr:BP cap (wt e t (AM t e.secs)) []=[]:=by unfold BP;rw[hgood,if_neg hg]
   rw[hr] at hk ⊢
   cases hg1:CA e with
   | false=>
    simp only[Aa,simprocAttr,Bool.not_false];subst hX;simp only[Aa,simprocAttr];exact⟨fun G I y hy=>LU hy,hk⟩
   | true=>
    have hc':cap<=0:=by
     rcases Int.lt_or_le 0 cap with h|h
     ·exact absurd ⟨hg1,h⟩ hg
     ·exact h
    simp only[Aa,simprocAttr,hc',Bool.not_true];subst hX;simp only[Aa,simprocAttr];exact⟨fun G I y hy=>LU hy,hk⟩
 ·simp only[Aa,simprocAttr];subst hY;refine Ae fun Y hY=>?_;refine Ae fun X hX=>?_;simp only[Aa,simprocAttr];refine Ag (Mr e he.it ?_);have hpp:∀(M:List GE) o,CR o 4 (Ar M)=some (Ar M):=fun M o=>KP o 4 _
  by_cases hg:CA e=true/\0<cap
  rotate_left
  ·have hr:BP cap (wt e t (AM t e.secs)) L=L:=by unfold BP;rw[hgood,if_neg hg]
   rw[hr] at hk ⊢
   cases hg1:CA e with
   | false=>
    simp only[Aa,simprocAttr,Bool.not_false];subst hX;simp only[hpp,Aa,simprocAttr];exact⟨fun G I y hy=>hy,hk⟩
   | true=>
    have hc':cap<=0:=by
     rcases Int.lt_or_le 0 cap with h|h
     ·exact absurd ⟨hg1,h⟩ hg
     ·exact h
    simp only[Aa,simprocAttr,hc',Bool.not_true];subst hX;simp only[hpp,Aa,simprocAttr];exact⟨fun G I y hy=>hy,hk⟩
  obtain⟨hg1,hg2⟩:=hg;have hr:BP cap (wt e t (AM t e.secs)) L=Fa cap (wt e t (AM t e.secs)) L:=by unfold BP;rw[hgood,if_pos ⟨hg1,hg2⟩]
  rw[hr] at hk ⊢;have hc':¬cap<=0:=by omega
  simp only[Aa,simprocAttr,hg1,hc',Bool.not_true];subst hX;simp only[Aa,simprocAttr];subst hY;refine Ae fun Y hY=>?_;simp only[Aa,simprocAttr];refine Fj (v:=.agg (gv e)) (KW e he.tl rfl) (by simp only[AE,AV.plain,De,Bool.and_self]) (by simp only[AV.plain,FI]) ?_;simp only[gv,Aa,simprocAttr];refine Fj (v:=.i .u64 (AM t e.secs)) (hadd rfl) rfl rfl ?_;simp only[Aa,simprocAttr];subst hY;refine Ae fun Y hY=>?_;simp only[Aa,simprocAttr];have hpl:=Dg L;have hel:=Dv L;have hple:=qU e.id.text L;refine Ag (Tn (.tup [.i .i64 (Bc e.id.text L),.b (Cy e.id.text L)]) rfl hpl rfl rfl ?_ (Mq L e.id.text hs (by omega) rfl));simp only[Aa,simprocAttr];subst hY;refine Ae fun Y hY=>?_;unfold Fa at hk ⊢;rw[show (wt e t (AM t e.secs)).id.text=e.id.text from rfl] at hk ⊢;unfold A5 at hk
  cases hh:Cy e.id.text L with
  | true=>
   rw[hh,if_pos rfl] at hk;rw[if_pos rfl];have hlt:=PP hh hs;have hset:=Qk hlt (wt e t (AM t e.secs));unfold Dj wt at hset;dsimp only at hset;simp only[Aa,simprocAttr,zm,hset,hpp];rw[zf] at hk;exact⟨by omega,by omega,fun G I y hy=>hy,hk⟩
  | false=>
   rw[hh,if_neg Bool.false_ne_true] at hk;rw[if_neg Bool.false_ne_true];simp only[Aa,simprocAttr];subst hY;refine Ae fun Y hY=>?_
   by_cases hcl:cap<=(L.length:Int)
   ·rw[if_pos hcl] at hk;rw[if_pos hcl];have h0:0<L.length:=by omega
    have hmin:=(Ny h0).1;simp only[Aa,simprocAttr,hcl];refine Ag (Tn (.i .i64 (B5 L:Nat)) rfl hpl rfl rfl ?_ (Yt h0 (by omega) rfl));simp only[Aa,simprocAttr];refine⟨by omega,?_⟩;refine Ag (YO 3 1 L.length (Ar L) (B5 L) rfl hmin ?_);rw[VX];simp only[Aa,simprocAttr];have hlen:(L.eraseIdx (B5 L)).length=L.length - 1:=by rw[List.length_eraseIdx,if_pos hmin]
    have fin:∀p:Nat,p<=L.length - 1->K objs (.agg [.i .i64 cap,.row (CP p (wt e t (AM t e.secs)) (L.eraseIdx (B5 L))).length (Ar (CP p (wt e t (AM t e.secs)) (L.eraseIdx (B5 L))))]) ->
      ∀tm:List AV,tm.length=78->tm[3]? = some (.p 0 0)->tm[6]? = some (.p 2 0)->tm[7]? = some (.p 4 0)->tm[8]? = some (.i .i64 p)->run Tryz.prog C [.code Y] [OB.box 24 [AV.i IntKind.i64 cap,AV.orow 3 2],
       OB.box 41 [.i .i64 e.err,.i .i64 e.id.kind,.s e.id.text,.s e.id.host,.i .i64 e.id.port,.i .i64 e.prof.kind,.s e.prof.text,.s e.prof.host,.i .i64 e.prof.port,.b e.store,.i .u64 e.secs,.row e.tr.length (A6 e.tr)],OB.box 24 [AV.i IntKind.i64 0,AV.nil],OB.orow 43 14 2 (L.length - 1) (Ar (L.eraseIdx (B5 L))),
       OB.box 43 [.i .i64 e.err,.i .i64 e.id.kind,.s e.id.text,.s e.id.host,.i .i64 e.id.port,.i .i64 e.prof.kind,.s e.prof.text,.s e.prof.host,.i .i64 e.prof.port,.b e.store,.i .u64 e.secs,.row e.tr.length (A6 e.tr),.i .u64 t,.i .u64 (AM t e.secs)]] tm (J1 [.celln 6 2] fun r=>(∀G I y,Ab G I r y->Ab G I (.agg [.i .i64 cap,.row (CP p (wt e t (AM t e.secs)) (L.eraseIdx (B5 L))).length (Ar (CP p (wt e t (AM t e.secs)) (L.eraseIdx (B5 L))))]) y)/\K objs (.agg [.i .i64 cap,.row (CP p (wt e t (AM t e.secs)) (L.eraseIdx (B5 L))).length (Ar (CP p (wt e t (AM t e.secs)) (L.eraseIdx (B5 L))))])):=by
     intro p hp hK tm htl t3 t6 t7 t8;subst hY;refine Ae fun Y hY=>?_;simp only[gv,Dj,wt,hxp,Aa,simprocAttr,zb,htl,t3,t6,t7,t8];refine Ag (Q7 3 2 (L.length - 1) (Ar (L.eraseIdx (B5 L))) _ p rfl (by rw[<-hlen] at hp;omega) (by omega) rfl ?_);have hins:=Qj (L.eraseIdx (B5 L)) (wt e t (AM t e.secs)) p;unfold Dj wt at hins;dsimp only at hins;rw[hins];rw[show (L.eraseIdx (B5 L)).take p++[_]++(L.eraseIdx (B5 L)).drop p=CP p (wt e t (AM t e.secs)) (L.eraseIdx (B5 L)) from rfl];have hle:(CP p (wt e t (AM t e.secs)) (L.eraseIdx (B5 L))).length=L.length - 1+1:=by rw[Q6 (by omega),hlen]
     rw[hle] at hK ⊢;generalize CP p (wt e t (AM t e.secs)) (L.eraseIdx (B5 L))=M at hK ⊢;simp only[Aa,simprocAttr,zb,htl,t3,t6,t7,t8];subst hY;simp only[hpp,hxp,Aa,simprocAttr,zb,htl,t3,t6,t7,t8];exact⟨fun G I y hy=>hy,hK⟩
    by_cases hmp:B5 L<Bc e.id.text L
    ·have hmp':((B5 L:Nat):Int)<((Bc e.id.text L:Nat):Int):=by omega
     rw[if_pos hmp] at hk;rw[if_pos hmp];simp only[Aa,simprocAttr,hmp'];refine⟨by omega,?_⟩;exact fin (Bc e.id.text L - 1) (by omega) hk _ rfl rfl rfl rfl (by rw[show ((Bc e.id.text L:Nat):Int) - 1=((Bc e.id.text L - 1:Nat):Int) by omega];rfl)
    ·have hmp':¬((B5 L:Nat):Int)<((Bc e.id.text L:Nat):Int):=by omega
     rw[if_neg hmp] at hk;rw[if_neg hmp];simp only[Aa,simprocAttr,hmp'];exact fin (Bc e.id.text L) (by omega) hk _ rfl rfl rfl rfl rfl
   ·rw[if_neg hcl] at hk;rw[if_neg hcl];simp only[Aa,simprocAttr,hcl];subst hY;refine Ae fun Y hY=>?_;simp only[Aa,simprocAttr];refine Ag (Q7 3 1 L.length (Ar L) _ (Bc e.id.text L) rfl hple (by omega) rfl ?_);have hins:=Qj L (wt e t (AM t e.secs)) (Bc e.id.text L);unfold Dj wt at hins;dsimp only at hins;rw[hins];rw[show L.take (Bc e.id.text L)++[_]++L.drop (Bc e.id.text L)=CP (Bc e.id.text L) (wt e t (AM t e.secs)) L from rfl];simp only[Aa,simprocAttr];subst hY;simp only[Aa,simprocAttr];have hle:(CP (Bc e.id.text L) (wt e t (AM t e.secs)) L).length=L.length+1:=Q6 hple;rw[hle] at hk ⊢;generalize hMg:CP (Bc e.id.text L) (wt e t (AM t e.secs)) L=M at hk ⊢;simp only[hpp,hxp,Aa,simprocAttr];exact⟨fun G I y hy=>hy,hk⟩
end
end
section
attribute [local irreducible] run
def AZ (now:Int) (e:GE):Bool:=decide (now<e.ex)
def FR (cap:Int) (p:Nat) (o:List OB) (acc:List GE):Prop :=
 (acc=[]/\o[p]? = some (.box 24 [.i .i64 cap,.nil])) \/
 ∃q g,p<q/\o[p]? = some (.box 24 [.i .i64 cap,.orow q g])/\o[q]? = some (.orow 43 14 g acc.length (Ar acc))
theorem FR.app {cap:Int} {p:Nat} {o:List OB} {acc:List GE} (h:FR cap p o acc) (X:OB):FR cap p (o++[X]) acc:=by
 rcases h with ⟨h1,h2⟩|⟨q,g,h1,h2,h3⟩
 ·exact .inl ⟨h1,BA h2⟩
 ·exact .inr ⟨q,g,h1,BA h2,BA h3⟩
theorem FR.set {cap:Int} {p j:Nat} {o:List OB} {acc:List GE} (h:FR cap p o acc) {X Y:OB} (hj:o[j]? = some Y) (hY:∀E sz g n xs,Y≠.orow E sz g n xs) (hp:j≠p):FR cap p (o.set j X) acc:=by
 rcases h with ⟨h1,h2⟩|⟨q,g,h1,h2,h3⟩
 ·exact .inl ⟨h1,DK h2 hp⟩
 ·refine .inr ⟨q,g,h1,DK h2 hp,DK h3 ?_⟩;rintro rfl;rw[hj] at h3;injection h3 with h3;exact hY _ _ _ _ _ h3
section
variable [Tabs Tryz.prog] {objs:List OB} {K:List OB->AV->Prop}
theorem PF (cap now:Int) (L:List GE) (hn:L.length<=1000) (hk:K objs (A5 cap (L.filter (AZ now)))):Ai Tryz.prog 24 [A5 cap L,.i .u64 now] objs K:=by
 have hel:=Dv L;refine Gt (A5 cap (L.filter (AZ now))) ?_;refine AI iR (by simp only[A5,AE,AV.plain,Dg,Bool.and_self]) fun C _=>?_;rw[Um];refine Ae fun Y hY=>?_;simp only[A5,Aa,simprocAttr];subst hY;refine Ae fun Y hY=>?_;simp only[Aa,simprocAttr];subst hY;refine Ae fun Y hY=>?_;simp only[Aa,simprocAttr];refine BI (fun m o tm=>∃i:Nat,m=L.length - i/\i<=L.length/\FR cap 2 o ((L.take i).filter (AZ now))/\o[1]? = some (.box 24 [.i .i64 0,.nil])/\tm.length=30/\tm[1]? = some (.i .u64 now)/\tm[4]? = some (.p 1 0)/\tm[5]? = some (.p 2 0)/\tm[12]? = some (.row L.length (Ar L))/\tm[13]? = some (.i .i64 L.length)/\tm[14]? = some (.i .i64 i)) L.length ⟨0,rfl,ze _,.inl ⟨rfl,rfl⟩,rfl,rfl,rfl,rfl,rfl,rfl,rfl,rfl⟩ ?_;rintro m N tm ⟨i,rfl,hi,hacc,hN1,hlen,t1,t4,t5,t12,t13,t14⟩;refine Ae fun Z hZ=>?_
 by_cases hlt:i<L.length
 ·have hlt':(i:Int)<(L.length:Int):=by omega
  have a1:=Hj hlt;have hnext:(L.take (i+1)).filter (AZ now)=(L.take i).filter (AZ now)++if AZ now L[i]=true then [L[i]] else []:=by
   rw[qm hlt,xg]
   congr 1
   by_cases c:AZ now L[i]=true
   ·rw[if_pos c,yn c,jx]
   ·rw[if_neg c,yh c,jx]
  have hfl:((L.take i).filter (AZ now)).length<=1000:=jr (yl _ _) (by rw[zh];omega);generalize hE:L[i]=e at *;generalize (L.take i).filter (AZ now)=acc at *;simp only[Aa,simprocAttr,zb,hlen,t13,t14,hlt'];subst hZ;refine Ae fun Z hZ=>?_;simp only[Aa,simprocAttr,zb,hlen,t13,t14,hlt'];subst hZ;refine Ae fun Z hZ=>?_;rw[C6];refine Ae fun X hX=>?_;simp only[Aa,simprocAttr,zb,hlen,t12,t14,zm,a1,Bd,BX];refine⟨by omega,by omega,?_⟩;have hM:FR cap 2 (N++[Bv e]) acc:=hacc.app _;have hM1:(N++[Bv e])[1]? = some (.box 24 [.i .i64 0,.nil]):=BA hN1;have hMe:(N++[Bv e])[N.length]? = some (Bv e):=Bd _ _;have hNl:1<N.length:=CS hN1;generalize N++[Bv e]=M at hM hM1 hMe ⊢;subst hX;refine Ae fun X hX=>?_
  by_cases c:now<e.ex
  ·have c':now<e.ex:=c;rw[if_pos (show AZ now e=true from decide_eq_true c)] at hnext;simp only[Aa,simprocAttr,zb,hlen,t1,hMe,c'];subst hX;rcases hM with ⟨rfl,h2⟩|⟨q,g,h1,h2,h3⟩
   ·have h2':=BA (X:=.orow 43 14 0 1 (Dj e)) h2;have hM1':=BA (X:=.orow 43 14 0 1 (Dj e)) hM1;have hMl:=CS hMe;simp only[Aa,simprocAttr,zb,hlen,t1,t5,hMe,c',h2,h2'];subst hZ;simp only[Aa,simprocAttr,zb,hlen,t1,t4,t5,t12,t13,t14];refine⟨by omega,L.length - (i+1),by omega,i+1,rfl,by omega,?_,hM1',rfl⟩;rw[hnext];refine .inr ⟨M.length,0,by omega,F9 h2',?_⟩;rw[DK (Bd _ _) (by omega),Ls]
    rfl
   ·have hq2:¬q=2:=by omega
    simp only[Aa,simprocAttr,zb,hlen,t1,t5,hMe,c',h2,h3,hq2];refine⟨by omega,?_⟩;subst hZ;simp only[Aa,simprocAttr,zb,hlen,t1,t4,t5,t12,t13,t14];refine⟨by omega,L.length - (i+1),by omega,i+1,rfl,by omega,?_,by rw[if_neg (by omega)];exact hM1,rfl⟩;rw[hnext];refine .inr ⟨q,g+1,h1,F9 (DK h2 hq2),?_⟩;rw[DK (F9 h3) (by omega),Ns,zg]
    rfl
  ·have c':¬now<e.ex:=c;rw[if_neg (show ¬AZ now e=true from fun h=>c (of_decide_eq_true h)),zy] at hnext;simp only[Aa,simprocAttr,zb,hlen,t1,hMe,c'];subst hX;simp only[Aa,simprocAttr,zb,hlen,t1,hMe,c'];subst hZ;simp only[Aa,simprocAttr,zb,hlen,t1,t4,t5,t12,t13,t14];exact⟨by omega,L.length - (i+1),by omega,i+1,rfl,by omega,by rw[hnext];exact hM,hM1,rfl⟩
 ·have hlt':¬(i:Int)<(L.length:Int):=by omega
  obtain rfl:i=L.length:=by omega
  rw[qc] at hacc;simp only[Aa,simprocAttr,zb,hlen,t13,t14,hlt'];subst hZ;subst hY;have hpp:∀M:List GE,∀o,CR o 4 (Ar M)=some (Ar M):=fun M o=>KP o 4 _;rcases hacc with ⟨ha,h2⟩|⟨q,g,h1,h2,h3⟩
  ·rw[ha] at hk;have hNl:=CS hN1;simp only[Aa,simprocAttr,zb,hlen,t4,t5,hlt',h2,hN1,hNl];exact⟨fun G I y hy=>by rw[ha];exact LU hy,by rw[ha];exact hk⟩
  ·generalize L.filter (AZ now)=acc at *;have hNl:=CS hN1;have hq1:¬1=q:=by omega
   simp only[hpp,Aa,simprocAttr,zb,hlen,t4,t5,hlt',h2,h3,hN1,hNl,hq1];exact⟨fun G I y hy=>hy,hk⟩
end
end
section
attribute [local irreducible] run
def G3 (lo:Nat) (o:List OB) (v:AV) (acc:List GE):Prop :=
 (acc=[]/\v=.nil)\/∃q g,lo<q/\v=.orow q g/\o[q]? = some (.orow 43 14 g acc.length (Ar acc))
theorem G3.app {lo:Nat} {o:List OB} {v:AV} {acc:List GE} (h:G3 lo o v acc) (X:OB):G3 lo (o++[X]) v acc:=by
 rcases h with h|⟨q,g,h1,h2,h3⟩
 ·exact .inl h
 ·exact .inr ⟨q,g,h1,h2,BA h3⟩
structure PutO (cap:Int) (v0:GE) (L:List GE) (o:List OB):Prop where
 a:o[0]? = some (.box 24 [.i .i64 cap,.row L.length (Ar L)])
 b:o[1]? = some (.box 41 [.i .i64 v0.err,.i .i64 v0.id.kind,.s v0.id.text,.s v0.id.host,.i .i64 v0.id.port,.i .i64 v0.prof.kind,.s v0.prof.text,.s v0.prof.host,.i .i64 v0.prof.port,.b v0.store,.i .u64 v0.secs,.row v0.tr.length (A6 v0.tr)])
 c:o[2]? = some (.box 24 [.i .i64 0,.nil])
theorem PutO.app {cap:Int} {v0:GE} {L:List GE} {o:List OB} (h:PutO cap v0 L o) (X:OB):PutO cap v0 L (o++[X]):=⟨BA h.a,BA h.b,BA h.c⟩
theorem PutO.set {cap:Int} {v0:GE} {L:List GE} {o:List OB} (h:PutO cap v0 L o) {q:Nat} (hq:2<q) (X:OB):PutO cap v0 L (o.set q X):=⟨DK h.a (by omega),DK h.b (by omega),DK h.c (by omega)⟩
def G0 (p:Nat) (o:List OB) (v:AV) (kp:List GE):Prop :=
 (kp=[]/\v=.nil)\/∃q g,2<q/\q<p/\v=.orow q g/\o[q]? = some (.orow 43 14 g kp.length (Ar kp))
theorem G3.kp {o:List OB} {v:AV} {kp:List GE} (h:G3 2 o v kp):G0 o.length o v kp:=by
 rcases h with h|⟨q,g,h1,h2,h3⟩
 ·exact .inl h
 ·exact .inr ⟨q,g,h1,CS h3,h2,h3⟩
theorem G0.app {p:Nat} {o:List OB} {v:AV} {kp:List GE} (h:G0 p o v kp) (X:OB):G0 p (o++[X]) v kp:=by
 rcases h with h|⟨q,g,h1,h0,h2,h3⟩
 ·exact .inl h
 ·exact .inr ⟨q,g,h1,h0,h2,BA h3⟩
theorem G0.set {p j:Nat} {o:List OB} {v:AV} {kp:List GE} (h:G0 p o v kp) (hj:p<=j) (X:OB):G0 p (o.set j X) v kp:=by
 rcases h with h|⟨q,g,h1,h0,h2,h3⟩
 ·exact .inl h
 ·exact .inr ⟨q,g,h1,h0,h2,DK h3 (by omega)⟩
structure OutO (cap:Int) (v0:GE) (t:Int) (p q0:Nat) (L kp:List GE) (v:AV) (o:List OB) (acc:List GE):Prop where
 put:PutO cap v0 L o
 kpr:G0 p o v kp
 acc:FR cap p o acc
 new:o[q0]? = some (Bv (wt v0 t (AM t v0.secs)))
 lo:2<p
 hi:p<q0
theorem OutO.app {cap t:Int} {v0:GE} {p q0:Nat} {L kp:List GE} {v:AV} {o:List OB} {acc:List GE} (h:OutO cap v0 t p q0 L kp v o acc) (X:OB):OutO cap v0 t p q0 L kp v (o++[X]) acc :=
 ⟨h.put.app X,h.kpr.app X,h.acc.app X,BA h.new,h.lo,h.hi⟩
theorem OutO.fst {cap t:Int} {v0:GE} {p q0:Nat} {L kp:List GE} {v:AV} {o:List OB} (h:OutO cap v0 t p q0 L kp v o []) (h2:o[p]? = some (.box 24 [.i .i64 cap,.nil])) (e:GE):OutO cap v0 t p q0 L kp v ((o++[OB.orow 43 14 0 1 (Dj e)]).set p (.box 24 [.i .i64 cap,.orow o.length 0])) [e]:=by
 have hp:=CS h2;have ha:=h.app (OB.orow 43 14 0 1 (Dj e));refine⟨ha.put.set h.lo _,ha.kpr.set (zd _) _,.inr ⟨o.length,0,hp,F9 (BA h2),?_⟩,DK ha.new (by have:=h.hi;omega),h.lo,h.hi⟩;rw[DK (Bd _ _) (by omega)];exact congrArg (fun x=>some (OB.orow 43 14 0 1 x)) (Ls e)
theorem OutO.nxt {cap t:Int} {v0:GE} {p q0 q g:Nat} {L kp:List GE} {v:AV} {o:List OB} {acc:List GE} (h:OutO cap v0 t p q0 L kp v o acc) (hq:p<q) (h2:o[p]? = some (.box 24 [.i .i64 cap,.orow q g])) (h3:o[q]? = some (.orow 43 14 g acc.length (Ar acc))) (e:GE):OutO cap v0 t p q0 L kp v ((o.set q (.orow 43 14 (g+1) (acc.length+1) (Ar acc++Dj e))).set p (.box 24 [.i .i64 cap,.orow q (g+1)])) (acc++[e]):=by
 have hne:q≠q0:=by
  rintro rfl;have:=h.new;rw[h3] at this
  cases this
 have hlo:=h.lo;have hhi:=h.hi;refine⟨(h.put.set (by omega) _).set hlo _,(h.kpr.set (by omega) _).set (zd _) _,.inr ⟨q,g+1,hq,F9 (DK h2 (by omega)),?_⟩,DK (DK h.new hne) (by omega),hlo,hhi⟩;rw[DK (F9 h3) (by omega),zg];show some (OB.orow _ _ _ _ (Ar acc++Dj e))=_;rw[Ns]
 rfl
def CM (q:Nat->GE->Bool) (L:List GE):Nat->List GE
 | 0=>[]
 | i+1=>CM q L i++match L[i]? with
  | some e=>if q i e=true then [e] else []
  | none=>[]
theorem MY (q:Nat->GE->Bool) (L:List GE):∀i,(CM q L i).length<=i
 | 0=>zd _
 | i+1=>by
  have:=MY q L i;unfold CM;rw[zg]
  split
  ·split<;>simp only[zl,qp]<;>omega
  ·simp only[qp];omega
def D3 (w:List UInt8) (e:GE):Bool:=!AG e.id.text w&&!(e.id.text==w)
def CH (cap l:Int) (w:List UInt8) (L:List GE) (j:Nat) (e:GE):Bool:=!decide (e.id.text=w)&&(decide (l=-2)||(decide ((L.length:Int)<cap)||!decide ((j:Int)=l)))
def J4 (cap l:Int) (e:GE) (L:List GE):List GE :=
 ((CM (CH cap l e.id.text L) L L.length).filter fun x=>AG x.id.text e.id.text)++[e]++(CM (CH cap l e.id.text L) L L.length).filter (D3 e.id.text)
def LM (w:List UInt8) (L:List GE) (l:Int):Prop:=(l=-2/\∃e∈L,e.id.text=w)\/((∀e∈L,e.id.text≠w)/\((L=[]/\l=-1)\/∃j:Nat,l=j/\GG L j))
section
variable [Tabs Tryz.prog] {objs:List OB} {K:List OB->AV->Prop}
theorem Wd (cap t:Int) (v0:GE) (L:List GE) (he:VOk v0) (t0:0<=t) (t1:t<=18446744073709551615) (hL:L.length<=1000)
  (hk0:¬(CA v0=true/\cap≠0)->K objs (A5 cap L)) (hk:CA v0=true->cap≠0->∀l,LM v0.id.text L l->K objs (A5 cap (J4 cap l (wt v0 t (AM t v0.secs)) L))):Ai Tryz.prog 19 [A5 cap L,.agg (gv v0),.i .u64 t] objs K:=by
 have hxp:AE (A6 v0.tr)=true:=De _;have hel:=Dv L;refine AI gB (by simp only[A5,AE,AV.plain,Dg,FI,Bool.and_self]) fun C _=>?_;rw[Tl];refine Ae fun Y hY=>?_;simp only[A5,gv,Aa,simprocAttr];subst hY;refine Ae fun Y hY=>?_;refine Ae fun X hX=>?_;simp only[Aa,simprocAttr];refine Ag (VW v0 he.it ?_);have hpl:=Dg L;unfold A5 at hk0 hk
 cases hg:CA v0 with
 | false=>
  simp only[Aa,simprocAttr,Bool.not_false];subst hX;simp only[hpl,Aa,simprocAttr];exact hk0 (fun h=>by rw[hg] at h;cases h.1)
 | true=>
 by_cases hc0:cap=0
 ·simp only[Aa,simprocAttr,hc0,Bool.not_true];subst hX;simp only[hpl,Aa,simprocAttr];have:=hk0 (fun h=>h.2 hc0);rw[hc0] at this;exact this
 have hk:=hk hg hc0;simp only[Aa,simprocAttr,hc0,Bool.not_true];subst hX;simp only[Aa,simprocAttr];subst hY;refine Ae fun Y hY=>?_;simp only[Aa,simprocAttr];subst hY;refine Ae fun Y hY=>?_;simp only[Aa,simprocAttr];subst hY;refine Ae fun Y hY=>?_;refine CV (fun o tm=>PutO cap v0 L o/\tm.length=157/\tm[2]? = some (.i .u64 t)/\tm[3]? = some (.p 0 0)/\tm[4]? = some (.p 1 0)/\tm[6]? = some (.p 2 0)/\tm[7]? = some .nil/\∃l:Int,tm[8]? = some (.i .i64 l)/\LM v0.id.text L l) ?_ ?_
 ·refine Ae fun X hX=>?_;simp only[Aa,simprocAttr];subst hX;simp only[Aa,simprocAttr];refine BI (fun m o tm=>∃(i:Nat) (l:Int),m=L.length - i/\i<=L.length/\PutO cap v0 L o/\(∀e∈L.take i,e.id.text≠v0.id.text)/\((i=0/\l=-1)\/∃j:Nat,l=j/\j<i/\∀a,a<i->BK L a j=false)/\tm.length=157/\tm[2]? = some (.i .u64 t)/\tm[3]? = some (.p 0 0)/\tm[4]? = some (.p 1 0)/\tm[6]? = some (.p 2 0)/\tm[7]? = some .nil/\tm[8]? = some (.i .i64 l)/\tm[29]? = some (.row L.length (Ar L))/\tm[30]? = some (.i .i64 L.length)/\tm[31]? = some (.i .i64 i)) L.length ⟨0,-1,rfl,ze _,⟨rfl,rfl,rfl⟩,by simp,.inl ⟨rfl,rfl⟩,rfl,rfl,rfl,rfl,rfl,rfl,rfl,rfl,rfl,rfl⟩ ?_;rintro m N tm ⟨i,l,rfl,hi,hN,hno,hl,hlen,t2,t3,t4,t6,t7,t8,t29,t30,t31⟩;refine Ae fun Z hZ=>?_
  by_cases hlt:i<L.length
  ·have hlt':(i:Int)<(L.length:Int):=by omega
   have a1:=Hj hlt;have hno2:∀e∈L.take (i+1),e.id.text≠v0.id.text\/e=L[i]:=by
    intro e he;rw[qm hlt] at he;rcases zw.1 he with h|h
    ·exact .inl (hno e h)
    ·exact .inr (by simpa using h)
   have hmem:=qe hlt;have hexi:Ei L i=L[i].ex:=by unfold Ei;rw[zq hlt]
   generalize hE:L[i]=e at *;simp only[Aa,simprocAttr,zb,hlen,t30,t31,hlt'];subst hZ;refine Ae fun Z hZ=>?_;simp only[Aa,simprocAttr,zb,hlen,t30,t31,hlt'];subst hZ;refine Ae fun Z hZ=>?_;rw[C6];refine Ae fun X hX=>?_;simp only[Aa,simprocAttr,zb,hlen,t29,t31,zm,a1,Bd,BX];refine⟨by omega,by omega,?_⟩;have hM:=hN.app (Bv e);have hMe:(N++[Bv e])[N.length]? = some (Bv e):=Bd _ _;generalize N++[Bv e]=M at hM hMe ⊢;have hMa:=hM.a;have hMb:=hM.b;subst hX;refine Ae fun X hX=>?_;refine CV (fun o t'=>o=M/\t'.length=157/\t'[2]? = some (.i .u64 t)/\t'[3]? = some (.p 0 0)/\t'[4]? = some (.p 1 0)/\t'[6]? = some (.p 2 0)/\t'[7]? = some .nil/\t'[10]? = some (.p N.length 0)/\t'[29]? = some (.row L.length (Ar L))/\t'[30]? = some (.i .i64 L.length)/\t'[31]? = some (.i .i64 i)/\∃j:Nat,t'[8]? = some (.i .i64 j)/\j<i+1/\∀a,a<i+1->BK L a j=false) ?_ ?_
   ·refine Ae fun W hW=>?_;rcases hl with ⟨rfl,rfl⟩|⟨j,rfl,hl1,hmin⟩
    ·simp only[Aa,simprocAttr,zb,hlen,t2,t3,t4,t6,t7,t8,t29,t30,t31];subst hW;simp only[Aa,simprocAttr,zb,hlen,t2,t3,t4,t6,t7,t8,t29,t30,t31,Bw,zf,and_self];exact⟨0,rfl,by omega,fun a ha=>by
      obtain rfl:a=0:=by omega
      unfold BK;rw[if_pos rfl];exact decide_eq_false (by omega)⟩
    ·have hj:j<L.length:=by omega
     have hexj:Ei L j=L[j].ex:=by unfold Ei;rw[zq hj]
     have a2:=Mo hj;have hneg:¬((j:Nat):Int)<0:=by omega
     by_cases cx:e.ex<L[j].ex
     ·simp only[Aa,simprocAttr,zb,hlen,t2,t3,t4,t6,t7,t8,t29,t30,t31,hneg,hMa,hMe,zm,a2,cx];refine⟨by omega,?_⟩;subst hW;simp only[Aa,simprocAttr,zb,hlen,t2,t3,t4,t6,t7,t8,t29,t30,t31,Bw,zf,and_self];refine⟨i,rfl,by omega,fun a ha=>?_⟩;rcases xw (Nat.le_of_lt_succ ha) with rfl|c
      ·unfold BK;rw[if_pos rfl];exact decide_eq_false (by omega)
      ·have h:=hmin a c;unfold BK at h ⊢;rw[hexi];rw[hexj] at h
       split at h<;>split<;>simp only[decide_eq_false_iff_not] at*<;> omega
     ·simp only[Aa,simprocAttr,zb,hlen,t2,t3,t4,t6,t7,t8,t29,t30,t31,hneg,hMa,hMe,zm,a2,cx];refine⟨by omega,?_⟩;subst hW;simp only[Aa,simprocAttr,zb,hlen,t2,t3,t4,t6,t7,t8,t29,t30,t31,Bw,zf,and_self];refine⟨j,rfl,by omega,fun a ha=>?_⟩;rcases xw (Nat.le_of_lt_succ ha) with rfl|c
      ·unfold BK;rw[hexi,hexj]
       split<;>simp only[decide_eq_false_iff_not]<;>omega
      ·exact hmin a c
   clear hlen t2 t3 t4 t6 t7 t8 t29 t30 t31 hl;rintro _ tm ⟨rfl,hlen,t2,t3,t4,t6,t7,t10,t29,t30,t31,j,t8,hl0,hl1⟩;subst hX;refine Ae fun X hX=>?_
   by_cases ck:e.id.text=v0.id.text
   ·have h4:decide (e.id.text=v0.id.text)=true:=decide_eq_true ck;simp only[Aa,simprocAttr,zb,hlen,t2,t3,t4,t6,t7,t8,t10,t29,t30,t31,hMa,hMb,hMe,h4];subst hX;simp only[Aa,simprocAttr,zb,hlen,t2,t3,t4,t6,t7,t8,t10,t29,t30,t31];simp only[Aa,simprocAttr,Bw,zb,zf,hlen,t2,t3,t4,t6,t7,t8,t10,t29,t30,t31];exact⟨hM,-2,rfl,.inl ⟨rfl,_,hmem,ck⟩⟩
   ·have h4:decide (e.id.text=v0.id.text)=false:=decide_eq_false ck;simp only[Aa,simprocAttr,zb,hlen,t2,t3,t4,t6,t7,t8,t10,t29,t30,t31,hMa,hMb,hMe,h4];subst hX;simp only[Aa,simprocAttr,zb,hlen,t2,t3,t4,t6,t7,t8,t10,t29,t30,t31];subst hZ;simp only[Aa,simprocAttr,zb,zf,hlen,t2,t3,t4,t6,t7,t8,t10,t29,t30,t31];exact⟨by omega,L.length - (i+1),by omega,i+1,j,rfl,by omega,hM,fun a ha=>(hno2 a ha).elim id (fun h=>h▸ck),.inr ⟨j,rfl,hl0,hl1⟩,rfl,rfl⟩
  ·have hlt':¬(i:Int)<(L.length:Int):=by omega
   obtain rfl:i=L.length:=by omega
   rw[qc] at hno;simp only[Aa,simprocAttr,zb,hlen,t30,t31,hlt'];subst hZ;simp only[Aa,simprocAttr,zb,hlen,t2,t3,t4,t6,t7,t8,t30,t31,hlt'];simp only[Aa,simprocAttr,Bw,zb,zf,hlen,t2,t3,t4,t6,t7,t8,t30,t31];refine⟨hN,l,rfl,.inr ⟨hno,?_⟩⟩;rcases hl with ⟨h0,h1⟩|⟨j,h0,h1,h2⟩
   ·exact .inl ⟨qh h0,h1⟩
   ·exact .inr ⟨j,h0,h1,h2⟩
 rintro N tm ⟨hN,hlen,t2,t3,t4,t6,t7,l,t8,hl⟩;subst hY;refine Ae fun Y hY=>?_;refine CV (fun o tm=>PutO cap v0 L o/\tm.length=157/\tm[2]? = some (.i .u64 t)/\tm[3]? = some (.p 0 0)/\tm[4]? = some (.p 1 0)/\tm[6]? = some (.p 2 0)/\∃v:AV,tm[7]? = some v/\G3 2 o v (CM (CH cap l v0.id.text L) L L.length)) ?_ ?_
 ·refine Ae fun X hX=>?_;have hNa:=hN.a;simp only[Aa,simprocAttr,zb,hlen,t3,hNa];subst hX;simp only[Aa,simprocAttr,zb,hlen];refine BI (fun m o tm=>∃(i:Nat) (v:AV),m=L.length - i/\i<=L.length/\PutO cap v0 L o/\G3 2 o v (CM (CH cap l v0.id.text L) L i)/\tm.length=157/\tm[2]? = some (.i .u64 t)/\tm[3]? = some (.p 0 0)/\tm[4]? = some (.p 1 0)/\tm[6]? = some (.p 2 0)/\tm[7]? = some v/\tm[8]? = some (.i .i64 l)/\tm[60]? = some (.row L.length (Ar L))/\tm[61]? = some (.i .i64 L.length)/\tm[62]? = some (.i .i64 i)) L.length ?_ ?_
  ·simp only[Aa,simprocAttr,zb,zf,hlen,t2,t3,t4,t6,t7,t8];exact⟨0,.nil,rfl,ze _,hN,.inl ⟨rfl,rfl⟩,rfl,rfl⟩
  clear hN hlen t2 t3 t4 t6 t7 t8 hNa;rintro m N tm ⟨i,v,rfl,hi,hN,hacc,hlen,t2,t3,t4,t6,t7,t8,t60,t61,t62⟩;refine Ae fun Z hZ=>?_;have hal:=MY (CH cap l v0.id.text L) L i
  by_cases hlt:i<L.length
  ·have hlt':(i:Int)<(L.length:Int):=by omega
   have a1:=Hj hlt;have hmem:=qe hlt;have hnx:∀b,CH cap l v0.id.text L i L[i]=b->CM (CH cap l v0.id.text L) L (i+1)=CM (CH cap l v0.id.text L) L i++if b=true then [L[i]] else []:=by
    intro b hb;rw[CM,zq hlt];dsimp only;rw[hb]
   generalize hE:L[i]=e at *;generalize CM (CH cap l v0.id.text L) L i=acc at *;simp only[Aa,simprocAttr,zb,hlen,t61,t62,hlt'];subst hZ;refine Ae fun Z hZ=>?_;simp only[Aa,simprocAttr,zb,hlen,t61,t62,hlt'];subst hZ;refine Ae fun Z hZ=>?_;rw[C6];refine Ae fun X hX=>?_;simp only[Aa,simprocAttr,zb,hlen,t60,t62,zm,a1,Bd,BX];refine⟨by omega,by omega,?_⟩;have hM:=hN.app (Bv e);have hacM:=hacc.app (Bv e);have hMe:(N++[Bv e])[N.length]? = some (Bv e):=Bd _ _;generalize N++[Bv e]=M at hM hMe hacM ⊢;have hMa:=hM.a;have hMb:=hM.b;have hMl:=CS hM.c;subst hX;refine Ae fun X hX=>?_;refine CV (fun o t'=>o=M/\t'.length=157/\t'[2]? = some (.i .u64 t)/\t'[3]? = some (.p 0 0)/\t'[4]? = some (.p 1 0)/\t'[6]? = some (.p 2 0)/\t'[7]? = some v/\t'[8]? = some (.i .i64 l)/\t'[12]? = some (.p N.length 0)/\t'[60]? = some (.row L.length (Ar L))/\t'[61]? = some (.i .i64 L.length)/\t'[62]? = some (.i .i64 i)/\t'[91]? = some (.b (CH cap l v0.id.text L i e))) ?_ ?_
   ·by_cases ck:e.id.text=v0.id.text
    ·have h5:e.id.text=v0.id.text:=ck;simp only[Aa,simprocAttr,zb,hlen,t2,t3,t4,t6,t7,t8,t60,t61,t62,hMa,hMb,hMe,h5,ne_eq,not_true_eq_false,decide_false,Bool.not_true];simp only[Aa,simprocAttr,zb,hlen,t2,t3,t4,t6,t7,t8,t60,t61,t62,Bw,zf,and_self];simp[CH,h5]
    ·have h5:¬e.id.text=v0.id.text:=ck
     by_cases cl:l=-2
     ·subst cl;simp only[Aa,simprocAttr,zb,hlen,t2,t3,t4,t6,t7,t8,t60,t61,t62,hMa,hMb,hMe,h5,ne_eq,not_false_eq_true,decide_true,Bool.not_false];simp only[Aa,simprocAttr,zb,hlen,t2,t3,t4,t6,t7,t8,t60,t61,t62,Bw,zf,and_self];simp[CH,h5]
     ·by_cases cc:((L.length:Nat):Int)<cap
      ·skip
       simp only[Aa,simprocAttr,zb,hlen,t2,t3,t4,t6,t7,t8,t60,t61,t62,hMa,hMb,hMe,h5,cl,cc,ne_eq,not_false_eq_true,decide_true,Bool.not_false,decide_false];simp only[Aa,simprocAttr,zb,hlen,t2,t3,t4,t6,t7,t8,t60,t61,t62,Bw,zf,and_self];simp[CH,h5,cl,cc]
      ·by_cases ci:(i:Int)=l
       ·subst ci;simp only[Aa,simprocAttr,zb,hlen,t2,t3,t4,t6,t7,t8,t60,t61,t62,hMa,hMb,hMe,h5,cl,cc,ne_eq,not_false_eq_true,decide_true,Bool.not_false,decide_false,not_true_eq_false,Bool.not_true];simp only[Aa,simprocAttr,zb,hlen,t2,t3,t4,t6,t7,t8,t60,t61,t62,Bw,zf,and_self];simp[CH,h5,cl,cc]
       ·skip
        simp only[Aa,simprocAttr,zb,hlen,t2,t3,t4,t6,t7,t8,t60,t61,t62,hMa,hMb,hMe,h5,cl,cc,ci,ne_eq,not_false_eq_true,decide_true,Bool.not_false,decide_false];simp only[Aa,simprocAttr,zb,hlen,t2,t3,t4,t6,t7,t8,t60,t61,t62,Bw,zf,and_self];simp[CH,h5,cl,cc,ci]
   clear hlen t2 t3 t4 t6 t7 t8 t60 t61 t62;rintro _ tm ⟨rfl,hlen,t2,t3,t4,t6,t7,t8,t12,t60,t61,t62,t91⟩;subst hX
   cases hq9:CH cap l v0.id.text L i e with
   | false=>
    rw[hq9] at t91;simp only[Aa,simprocAttr,zb,hlen,t2,t3,t4,t6,t7,t8,t12,t60,t61,t62,t91];subst hZ;simp only[Aa,simprocAttr,zb,zf,hlen,t2,t3,t4,t6,t7,t8,t60,t61,t62];have hnx:=hnx _ hq9;rw[if_neg Bool.false_ne_true,zy] at hnx;exact⟨by omega,L.length - (i+1),by omega,i+1,v,rfl,by omega,hM,by rw[hnx];exact hacM,rfl,rfl⟩
   | true=>
    have hnx:=hnx _ hq9;rw[if_pos rfl] at hnx;rw[hq9] at t91;rcases hacM with ⟨rfl,rfl⟩|⟨q,g,hq,rfl,hoq⟩
    ·simp only[Aa,simprocAttr,zb,hlen,t2,t3,t4,t6,t7,t8,t12,t60,t61,t62,t91,hMe];subst hZ;simp only[Aa,simprocAttr,zb,zf,hlen,t2,t3,t4,t6,t7,t8,t60,t61,t62];exact⟨by omega,L.length - (i+1),by omega,i+1,_,rfl,by omega,hM.app _,by rw[hnx];exact .inr ⟨_,_,hMl,rfl,by rw[Bd,Ls];rfl⟩,rfl,rfl⟩
    ·simp only[Aa,simprocAttr,zb,hlen,t2,t3,t4,t6,t7,t8,t12,t60,t61,t62,t91,hMe,hoq];refine⟨by omega,?_⟩;subst hZ;simp only[Aa,simprocAttr,zb,zf,hlen,t2,t3,t4,t6,t7,t8,t60,t61,t62];exact⟨by omega,L.length - (i+1),by omega,i+1,_,rfl,by omega,hM.set hq _,by rw[hnx];exact .inr ⟨_,_,hq,rfl,by rw[F9 hoq,Ns,zg];rfl⟩,rfl,rfl⟩
  ·have hlt':¬(i:Int)<(L.length:Int):=by omega
   obtain rfl:i=L.length:=by omega
   simp only[Aa,simprocAttr,zb,hlen,t61,t62,hlt'];subst hZ;simp only[Aa,simprocAttr,zb,hlen,t2,t3,t4,t6,t7,t8,t61,t62,hlt'];simp only[Aa,simprocAttr,Bw,zb,zf,hlen,t2,t3,t4,t6,t7,t8];exact⟨hN,v,rfl,hacc⟩
 rintro N tm ⟨hN,hlen,t2,t3,t4,t6,v,t7,hkp⟩;have hk:=hk l hl;unfold J4 at hk;rw[show (wt v0 t (AM t v0.secs)).id.text=v0.id.text from rfl] at hk;have hkl:=MY (CH cap l v0.id.text L) L L.length;generalize CM (CH cap l v0.id.text L) L L.length=kp at *;subst hY;refine Ae fun Y hY=>?_;have hNa:=hN.a;simp only[Aa,simprocAttr,zb,zf,hlen,t3,hNa,Bd,BX];have h2p:=CS hN.c;have hkR:=hkp.kp.app (.box 24 [.i .i64 cap,.nil]);have hN1:=hN.app (.box 24 [.i .i64 cap,.nil]);have hNp:(N++[.box 24 [.i .i64 cap,.nil]])[N.length]? = some (.box 24 [.i .i64 cap,.nil]):=Bd _ _;have hNl:N.length<(N++[OB.box 24 [.i .i64 cap,.nil]]).length:=CS hNp;generalize N++[OB.box 24 [.i .i64 cap,.nil]]=M at hkR hN1 hNp hNl ⊢;generalize N.length=p at *;have hMb:=hN1.b;subst hY;refine Ae fun Y hY=>?_;simp only[Aa,simprocAttr,zb,zf,hlen,t2,t4,hMb];refine Fj (v:=.i .u64 (AM t v0.secs)) (W7 t v0.secs t0 he.s0 t1 he.s1 rfl) rfl rfl ?_;simp only[Aa,simprocAttr,zb,zf,hlen,t2,t4,hMb,Bd,BX];have hO:OutO cap v0 t p M.length L kp v (M++[Bv (wt v0 t (AM t v0.secs))]) []:=⟨hN1.app _,hkR.app _,.inl ⟨rfl,BA hNp⟩,Bd _ _,h2p,hNl⟩;have hlen1:=CS hO.new;generalize M.length=q0 at *;generalize M++[Bv (wt v0 t (AM t v0.secs))]=M at *;have hhi:=hO.hi;refine⟨⟨by omega,by omega⟩,?_⟩;subst hY;refine Ae fun Y hY=>?_;refine CV (fun o tm=>OutO cap v0 t p q0 L kp v o ((kp.filter fun e=>AG e.id.text v0.id.text))/\tm.length=157/\tm[4]? = some (.p 1 0)/\tm[6]? = some (.p 2 0)/\tm[7]? = some v/\tm[13]? = some (.p p 0)/\tm[14]? = some (.p q0 0)) ?_ ?_
 ·refine Ae fun X hX=>?_;refine CV (fun o t'=>o=M/\t'.length=157/\t'[4]? = some (.p 1 0)/\t'[6]? = some (.p 2 0)/\t'[7]? = some v/\t'[13]? = some (.p p 0)/\t'[14]? = some (.p q0 0)/\t'[108]? = some v/\t'[109]? = some (.i .i64 kp.length)/\t'[110]? = some (.i .i64 0)) ?_ ?_
  ·rcases hO.kpr with ⟨h8,h9⟩|⟨q,g,h1,h2,h8,h3⟩
   ·rw[h9] at t7;simp only[Aa,simprocAttr,Bw,zb,zf,hlen,t4,t6,t7,and_self,h8,h9,qp]
   ·rw[h8] at t7;simp only[Aa,simprocAttr,Bw,zb,zf,hlen,t4,t6,t7,h3,and_self,h8]
  clear hlen t4 t6 t7 t2 t3;rintro _ tm ⟨rfl,hlen,t4,t6,t7,t13,t14,ta,tb,tc⟩;subst hX;rw[C6];refine BI (fun m o tm=>∃i:Nat,m=kp.length - i/\i<=kp.length/\OutO cap v0 t p q0 L kp v o (((kp.take i).filter fun e=>AG e.id.text v0.id.text))/\tm.length=157/\tm[4]? = some (.p 1 0)/\tm[6]? = some (.p 2 0)/\tm[7]? = some v/\tm[13]? = some (.p p 0)/\tm[14]? = some (.p q0 0)/\tm[108]? = some v/\tm[109]? = some (.i .i64 kp.length)/\tm[110]? = some (.i .i64 i)) kp.length ⟨0,rfl,ze _,hO,hlen,t4,t6,t7,t13,t14,ta,tb,tc⟩ ?_;clear hlen t4 t6 t7 t13 t14 ta tb tc hO;rintro m N tm ⟨i,rfl,hi,hO,hlen,t4,t6,t7,t13,t14,ta,tb,tc⟩;refine Ae fun Z hZ=>?_
  by_cases hlt:i<kp.length
  ·have hlt':(i:Int)<(kp.length:Int):=by omega
   have a1:=Hj hlt;have hel2:=Dv kp;have hnext:(kp.take (i+1)).filter (fun e=>AG e.id.text v0.id.text)=(kp.take i).filter (fun e=>AG e.id.text v0.id.text)++if AG kp[i].id.text v0.id.text=true then [kp[i]] else []:=by
    rw[qm hlt,xg]
    congr 1
    by_cases c:AG kp[i].id.text v0.id.text=true
    ·rw[if_pos c,yn (p:=fun x:GE=>AG x.id.text v0.id.text) c,jx]
    ·rw[if_neg c,yh (p:=fun x:GE=>AG x.id.text v0.id.text) c,jx]
   have hfl:((kp.take i).filter fun e=>AG e.id.text v0.id.text).length<=1000:=jr (yl _ _) (by rw[zh];omega);generalize hE:kp[i]=e at *;obtain⟨qk,gk,hq1,hq2,hv,hqk⟩:=hO.kpr.resolve_left (by rintro⟨h,_⟩;rw[h] at hlt;cases hlt);subst hv;generalize hacc:(kp.take i).filter (fun e=>AG e.id.text v0.id.text)=acc at *;simp only[Aa,simprocAttr,zb,hlen,ta,tb,tc,hlt'];subst hZ;refine Ae fun Z hZ=>?_;simp only[Aa,simprocAttr,zb,hlen,ta,tb,tc,hlt'];subst hZ;refine Ae fun Z hZ=>?_;rw[C6];refine Ae fun X hX=>?_;simp only[Aa,simprocAttr,zb,hlen,ta,tb,tc,hqk,zm,a1,Bd,BX];refine⟨by omega,by omega,?_⟩;have hM:=hO.app (Bv e);have hMe:(N++[Bv e])[N.length]? = some (Bv e):=Bd _ _;generalize N++[Bv e]=M at hM hMe ⊢;have hMb:=hM.put.b;have hMl:=CS hMe;subst hX;refine Ae fun X hX=>?_
   by_cases ck:AG e.id.text v0.id.text=true
   ·have h5:=ck;rw[if_pos ck] at hnext;rcases hM.acc with ⟨hx,h2⟩|⟨q,g,h1,h2,h3⟩
    ·simp only[Aa,simprocAttr,zb,hlen,t4,t6,t7,t13,t14,ta,tb,tc,hMb,hMe,h5];subst hX;have h2':=BA (X:=.orow 43 14 0 1 (Dj e)) h2;simp only[Aa,simprocAttr,zb,hlen,t4,t6,t7,t13,t14,ta,tb,tc,hMb,hMe,h2,h2'];subst hZ;simp only[Aa,simprocAttr,zb,zf,hlen,t4,t6,t7,t13,t14,ta,tb,tc];refine⟨by omega,kp.length - (i+1),by omega,i+1,rfl,by omega,?_,rfl⟩;subst hx;rw[hnext,qn];exact hM.fst h2 e
    ·simp only[Aa,simprocAttr,zb,hlen,t4,t6,t7,t13,t14,ta,tb,tc,hMb,hMe,h5];subst hX;have hqp:¬q=p:=by omega
     simp only[Aa,simprocAttr,zb,hlen,t4,t6,t7,t13,t14,ta,tb,tc,hMb,hMe,h2,h3,hqp];refine⟨by omega,?_⟩;subst hZ;simp only[Aa,simprocAttr,zb,zf,hlen,t4,t6,t7,t13,t14,ta,tb,tc];refine⟨by omega,kp.length - (i+1),by omega,i+1,rfl,by omega,?_,rfl⟩;rw[hnext];exact hM.nxt h1 h2 h3 e
   ·have h5:=Bool.eq_false_iff.2 ck;rw[if_neg ck,zy] at hnext;simp only[Aa,simprocAttr,zb,hlen,t4,t6,t7,t13,t14,ta,tb,tc,hMb,hMe,h5];subst hX;simp only[Aa,simprocAttr,zb,hlen,t4,t6,t7,t13,t14,ta,tb,tc,hMb,hMe,h5];subst hZ;simp only[Aa,simprocAttr,zb,zf,hlen,t4,t6,t7,t13,t14,ta,tb,tc];exact⟨by omega,kp.length - (i+1),by omega,i+1,rfl,by omega,by rw[hnext];exact hM,rfl⟩
  ·have hlt':¬(i:Int)<(kp.length:Int):=by omega
   obtain rfl:i=kp.length:=by omega
   rw[qc] at hO;simp only[Aa,simprocAttr,zb,hlen,ta,tb,tc,hlt'];subst hZ;simp only[Aa,simprocAttr,Bw,zb,zf,hlen,t4,t6,t7,t13,t14,ta,tb,tc,hlt',and_self,and_true];exact hO
 clear hlen t4 t6 t7 hO;rintro M tm ⟨hO,hlen,t4,t6,t7,t13,t14⟩;subst hY;refine Ae fun Y hY=>?_;have hfA:(kp.filter fun e=>AG e.id.text v0.id.text).length<=1000:=jr (yl _ _) (by omega);generalize hA:(kp.filter fun e=>AG e.id.text v0.id.text)=A at *;refine CV (fun o t'=>OutO cap v0 t p q0 L kp v o (A++[wt v0 t (AM t v0.secs)])/\t'.length=157/\t'[4]? = some (.p 1 0)/\t'[6]? = some (.p 2 0)/\t'[7]? = some v/\t'[13]? = some (.p p 0)/\t'[14]? = some (.p q0 0)) ?_ ?_
 ·have hn:=hO.new;have hp:=hO.lo;have hhi:=hO.hi;rcases hO.acc with ⟨hx,h2⟩|⟨q,g,h1,h2,h3⟩
  ·have h2':=BA (X:=.orow 43 14 0 1 (Dj (wt v0 t (AM t v0.secs)))) h2;have hpl:=CS h2;simp only[Aa,simprocAttr,Bw,zb,zf,hlen,t4,t6,t7,t13,t14,hn,h2,h2',and_self,and_true];subst hx;rw[qn];exact hO.fst h2 (wt v0 t (AM t v0.secs))
  ·have hqp:¬q=p:=by omega
   simp only[Aa,simprocAttr,Bw,zb,zf,hlen,t4,t6,t7,t13,t14,hn,h2,h3,hqp,and_self,and_true];exact⟨by omega,hO.nxt h1 h2 h3 (wt v0 t (AM t v0.secs))⟩
 clear hlen t4 t6 t7 t13 t14 hO;rintro M tm ⟨hO,hlen,t4,t6,t7,t13,t14⟩;have hBl:(A++[wt v0 t (AM t v0.secs)]).length<=1001:=by rw[zg];simp only[zl,qp];omega
 have hBne:A++[wt v0 t (AM t v0.secs)]≠[]:=by simp
 generalize hB:A++[wt v0 t (AM t v0.secs)]=B at *;subst hY;refine Ae fun Y hY=>?_;refine CV (fun o tm=>OutO cap v0 t p q0 L kp v o (B++(kp.filter (D3 v0.id.text)))/\tm.length=157/\tm[4]? = some (.p 1 0)/\tm[6]? = some (.p 2 0)/\tm[7]? = some v/\tm[13]? = some (.p p 0)/\tm[14]? = some (.p q0 0)) ?_ ?_
 ·refine Ae fun X hX=>?_;refine CV (fun o t'=>o=M/\t'.length=157/\t'[4]? = some (.p 1 0)/\t'[6]? = some (.p 2 0)/\t'[7]? = some v/\t'[13]? = some (.p p 0)/\t'[14]? = some (.p q0 0)/\t'[135]? = some v/\t'[136]? = some (.i .i64 kp.length)/\t'[137]? = some (.i .i64 0)) ?_ ?_
  ·rcases hO.kpr with ⟨h8,h9⟩|⟨q,g,h1,h2,h8,h3⟩
   ·rw[h9] at t7;simp only[Aa,simprocAttr,Bw,zb,zf,hlen,t4,t6,t7,t13,t14,and_self,h8,h9,qp]
   ·rw[h8] at t7;simp only[Aa,simprocAttr,Bw,zb,zf,hlen,t4,t6,t7,t13,t14,h3,and_self,h8]
  clear hlen t4 t6 t7 t13 t14;rintro _ tm ⟨rfl,hlen,t4,t6,t7,t13,t14,ta,tb,tc⟩;subst hX;rw[C6];refine BI (fun m o tm=>∃i:Nat,m=kp.length - i/\i<=kp.length/\OutO cap v0 t p q0 L kp v o (B++((kp.take i).filter (D3 v0.id.text)))/\tm.length=157/\tm[4]? = some (.p 1 0)/\tm[6]? = some (.p 2 0)/\tm[7]? = some v/\tm[13]? = some (.p p 0)/\tm[14]? = some (.p q0 0)/\tm[135]? = some v/\tm[136]? = some (.i .i64 kp.length)/\tm[137]? = some (.i .i64 i)) kp.length ⟨0,rfl,ze _,by rw[List.take_zero,jx,zy];exact hO,hlen,t4,t6,t7,t13,t14,ta,tb,tc⟩ ?_;clear hlen t4 t6 t7 t13 t14 ta tb tc hO;rintro m N tm ⟨i,rfl,hi,hO,hlen,t4,t6,t7,t13,t14,ta,tb,tc⟩;refine Ae fun Z hZ=>?_
  by_cases hlt:i<kp.length
  ·have hlt':(i:Int)<(kp.length:Int):=by omega
   have a1:=Hj hlt;have hel2:=Dv kp;have hnext:(kp.take (i+1)).filter (D3 v0.id.text)=(kp.take i).filter (D3 v0.id.text)++if D3 v0.id.text kp[i]=true then [kp[i]] else []:=by
    rw[qm hlt,xg]
    congr 1
    by_cases c:D3 v0.id.text kp[i]=true
    ·rw[if_pos c,yn c,jx]
    ·rw[if_neg c,yh c,jx]
   have hfl:((kp.take i).filter (D3 v0.id.text)).length<=1000:=jr (yl _ _) (by rw[zh];omega);generalize hE:kp[i]=e at *;obtain⟨qk,gk,hq1,hq2,hv,hqk⟩:=hO.kpr.resolve_left (by rintro⟨h,_⟩;rw[h] at hlt;cases hlt);subst hv;generalize hacc:(kp.take i).filter (D3 v0.id.text)=acc at *;have hla:(B++acc).length<=2100:=by rw[zg];omega
   simp only[Aa,simprocAttr,zb,hlen,ta,tb,tc,hlt'];subst hZ;refine Ae fun Z hZ=>?_;simp only[Aa,simprocAttr,zb,hlen,ta,tb,tc,hlt'];subst hZ;refine Ae fun Z hZ=>?_;rw[C6];refine Ae fun X hX=>?_;simp only[Aa,simprocAttr,zb,hlen,ta,tb,tc,hqk,zm,a1,Bd,BX];refine⟨by omega,by omega,?_⟩;have hM:=hO.app (Bv e);have hMe:(N++[Bv e])[N.length]? = some (Bv e):=Bd _ _;generalize N++[Bv e]=M at hM hMe ⊢;have hMb:=hM.put.b;have hMl:=CS hMe;subst hX;refine Ae fun X hX=>?_;have hgt:D3 v0.id.text e=(!AG e.id.text v0.id.text&&!(e.id.text==v0.id.text)):=rfl
   by_cases ck:D3 v0.id.text e=true
   ·have h56:=ck;rw[hgt,Bool.and_eq_true,Bool.not_eq_true',Bool.not_eq_true'] at h56;obtain⟨h5,h6⟩:=h56;rw[if_pos ck] at hnext;rcases hM.acc with ⟨hx,h2⟩|⟨q,g,h1,h2,h3⟩
    ·exact absurd (List.append_eq_nil_iff.1 hx).1 hBne
    ·simp only[Aa,simprocAttr,zb,hlen,t4,t6,t7,t13,t14,ta,tb,tc,hMb,hMe,h5,h6,Bool.not_false,Bool.not_true,Bool.and_self,Bool.false_and];subst hX;have hqp:¬q=p:=by omega
     simp only[Aa,simprocAttr,zb,hlen,t4,t6,t7,t13,t14,ta,tb,tc,hMb,hMe,h2,h3,hqp];refine⟨by omega,?_⟩;subst hZ;simp only[Aa,simprocAttr,zb,zf,hlen,t4,t6,t7,t13,t14,ta,tb,tc];refine⟨by omega,kp.length - (i+1),by omega,i+1,rfl,by omega,?_,rfl⟩;rw[hnext,<-zu];have hz:=hM.nxt h1 h2 h3 e;rw[zg] at hz;exact hz
   ·rw[if_neg ck,zy] at hnext;have h56:=Bool.eq_false_iff.2 ck;rw[hgt] at h56
    cases h5:AG e.id.text v0.id.text with
    | true=>
     simp only[Aa,simprocAttr,zb,hlen,t4,t6,t7,t13,t14,ta,tb,tc,hMb,hMe,h5,Bool.not_false,Bool.not_true,Bool.and_self,Bool.false_and];subst hX;simp only[Aa,simprocAttr,zb,hlen,t4,t6,t7,t13,t14,ta,tb,tc,hMb,hMe,h5,Bool.not_false,Bool.not_true,Bool.and_self,Bool.false_and];subst hZ;simp only[Aa,simprocAttr,zb,zf,hlen,t4,t6,t7,t13,t14,ta,tb,tc];exact⟨by omega,kp.length - (i+1),by omega,i+1,rfl,by omega,by rw[hnext];exact hM,rfl⟩
    | false=>
     have h6:(e.id.text==v0.id.text)=true:=by
      rw[h5,Bool.not_false,Bool.true_and] at h56
      cases h:(e.id.text==v0.id.text)
      ·rw[h] at h56;cases h56
      ·rfl
     simp only[Aa,simprocAttr,zb,hlen,t4,t6,t7,t13,t14,ta,tb,tc,hMb,hMe,h5,h6,Bool.not_false,Bool.not_true,Bool.and_self,Bool.and_false];subst hX;simp only[Aa,simprocAttr,zb,hlen,t4,t6,t7,t13,t14,ta,tb,tc,hMb,hMe,h5,h6,Bool.not_false,Bool.not_true,Bool.and_self,Bool.and_false];subst hZ;simp only[Aa,simprocAttr,zb,zf,hlen,t4,t6,t7,t13,t14,ta,tb,tc];exact⟨by omega,kp.length - (i+1),by omega,i+1,rfl,by omega,by rw[hnext];exact hM,rfl⟩
  ·have hlt':¬(i:Int)<(kp.length:Int):=by omega
   obtain rfl:i=kp.length:=by omega
   rw[qc] at hO;simp only[Aa,simprocAttr,zb,hlen,ta,tb,tc,hlt'];subst hZ;simp only[Aa,simprocAttr,Bw,zb,zf,hlen,t4,t6,t7,t13,t14,ta,tb,tc,hlt',and_self,and_true];exact hO
 clear hlen t4 t6 t7 t13 t14 hO;rintro M tm ⟨hO,hlen,t4,t6,t7,t13,t14⟩;subst hY;have hO2:=hO.put.c;rcases hO.acc with ⟨hx,h2⟩|⟨q,g,h1,h2,h3⟩
 ·exact absurd (List.append_eq_nil_iff.1 hx).1 hBne
 ·have hpp:∀M:List GE,∀o,CR o 4 (Ar M)=some (Ar M):=fun M o=>KP o 4 _;have hp:=hO.lo;have hl2:=CS hO2;have hq2:¬q=2:=by omega
  have hq2':¬2=q:=by omega
  rw[zg] at hk;simp only[hpp,Aa,simprocAttr,zb,zf,hlen,t4,t6,t7,t13,t14,h2,h3,hO2,hl2,hq2,hq2'];exact hk
end
end
section
attribute [local irreducible] run
theorem MX {q:Nat->GE->Bool} {f:GE->Bool} {L:List GE} (h:∀(j:Nat) (e:GE),L[j]? = some e->q j e=f e):∀i,CM q L i=(L.take i).filter f
 | 0=>by simp[CM]
 | i+1=>by
  rw[CM,MX h i]
  by_cases c:i<L.length
  ·rw[zq c,qm c,xg];dsimp only;rw[h i _ (zq c)]
   by_cases d:f L[i]=true
   ·rw[if_pos d,yn d,jx]
   ·rw[if_neg d,yh d,jx]
  ·rw[qg (by omega),je (show L.length<=i+1 by omega),je (show L.length<=i by omega)];simp
theorem QG {q:Nat->GE->Bool} {L:List GE} {m:Nat} (h:∀(j:Nat) (e:GE),L[j]? = some e->q j e=!decide (j=m)):∀i,CM q L i=(L.take i).eraseIdx m
 | 0=>by simp[CM]
 | i+1=>by
  rw[CM,QG h i]
  by_cases c:i<L.length
  ·have hl:(L.take i).length=i:=by rw[zh];omega
   rw[zq c,qm c];dsimp only;rw[h i _ (zq c)];rcases Nat.lt_trichotomy i m with d|d|d
   ·rw[decide_eq_false (by omega),Bool.not_false,if_pos rfl,List.eraseIdx_of_length_le (by omega),List.eraseIdx_of_length_le (by rw[zg,hl];simp only[yg];omega)]
   ·subst d;rw[decide_eq_true rfl,Bool.not_true,if_neg Bool.false_ne_true,zy,List.eraseIdx_of_length_le (by omega),List.eraseIdx_append_of_length_le (by omega),hl,Nat.sub_self];simp
   ·rw[decide_eq_false (by omega),Bool.not_false,if_pos rfl,List.eraseIdx_append_of_lt_length (by omega)]
  ·rw[qg (by omega),je (show L.length<=i+1 by omega),je (show L.length<=i by omega)];simp
theorem MB {M:List GE} {w:List UInt8} {p:Nat} (h1:∀j (h:j<M.length),j<p->AG M[j].id.text w=true) (h2:∀j (h:j<M.length),p<=j->AG w M[j].id.text=true) :
  (M.filter fun x=>AG x.id.text w)=M.take p/\M.filter (D3 w)=M.drop p:=by
 have a1:∀x∈M.take p,AG x.id.text w=true:=by
  intro x hx;obtain⟨i,hi,rfl⟩:=yf hx;rw[zh] at hi;rw[List.getElem_take];exact h1 i (by omega) (by omega)
 have a2:∀x∈M.drop p,AG w x.id.text=true:=by
  intro x hx;obtain⟨i,hi,rfl⟩:=yf hx;rw[zt] at hi;rw[List.getElem_drop];exact h2 _ (by omega) (by omega)
 constructor
 ·conv=>lhs;rw[<-jh p M]
  rw[xg,yi.2 a1,List.filter_eq_nil_iff.2 (fun x hx=>by rw[M9 (a2 x hx)];decide),zy]
 ·conv=>lhs;rw[<-jh p M]
  rw[xg,List.filter_eq_nil_iff.2 (fun x hx=>by unfold D3;rw[a1 x hx];simp),yi.2 (fun x hx=>?_),qn];unfold D3;rw[M9 (a2 x hx),beq_eq_false_iff_ne.2 (Kv (a2 x hx)).symm];rfl
theorem Ky:∀{L:List GE} {w:List UInt8} {j:Nat} (h:j<L.length),j<Bc w L->AG L[j].id.text w=true
 | e::L,w,j,h,hj=>by
  by_cases c:AG e.id.text w=true
  ·have hp:Bc w (e::L)=Bc w L+1:=by unfold Bc;rw[List.takeWhile_cons_of_pos (p:=fun x:GE=>AG x.id.text w) c];rfl
   cases j with
   | zero=>exact c
   | succ j=>exact Ky (L:=L) (Nat.lt_of_succ_lt_succ h) (by omega)
  ·have hp:Bc w (e::L)=0:=by unfold Bc;rw[List.takeWhile_cons_of_neg (p:=fun x:GE=>AG x.id.text w) c];rfl
   omega
theorem PD:∀{L:List GE} {w:List UInt8} {j:Nat},C8 L->(h:j<L.length)->Bc w L<=j->AG L[j].id.text w=false
 | e::L,w,j,hs,h,hj=>by
  by_cases c:AG e.id.text w=true
  ·have hp:Bc w (e::L)=Bc w L+1:=by unfold Bc;rw[List.takeWhile_cons_of_pos (p:=fun x:GE=>AG x.id.text w) c];rfl
   cases j with
   | zero=>omega
   | succ j=>exact PD (L:=L) (List.pairwise_cons.1 hs).2 (Nat.lt_of_succ_lt_succ h) (by omega)
  ·cases j with
   | zero=>exact Bool.eq_false_iff.2 c
   | succ j=>
    have:=(List.pairwise_cons.1 hs).1 _ (qe (Nat.lt_of_succ_lt_succ h));refine Bool.eq_false_iff.2 fun d=>c ?_;exact IG this d
theorem PE {L:List GE} {w:List UInt8} {j:Nat} (hs:C8 L) (hno:∀e∈L,e.id.text≠w) (h:j<L.length) (hj:Bc w L<=j):AG w L[j].id.text=true:=by
 have h1:=PD hs h hj;rcases NL L[j].id.text w with c|c|c
 ·rw[h1] at c;cases c
 ·exact absurd c (hno _ (qe h))
 ·exact c
theorem nQ {L:List GE} {w:List UInt8} (h:∀e∈L,e.id.text≠w):Cy w L=false:=by
 refine Bool.eq_false_iff.2 fun c=>?_;obtain⟨e,he,hk⟩:=xk.1 c;exact h e he (of_decide_eq_true hk)
theorem Vr {L:List GE} (hs:C8 L) {i:Nat} (hi:i<L.length):Bc L[i].id.text L=i/\Cy L[i].id.text L=true:=by
 refine⟨Mx (Nat.le_of_lt hi) (fun j h hj=>Ir hs hi hj) (fun j h hj=>?_),xk.2 ⟨_,qe hi,decide_eq_true rfl⟩⟩;rcases xw hj with rfl|c
 ·exact Is _
 ·exact M9 (Ir hs h c)
theorem Mg {L:List GE} {w:List UInt8} (hs:C8 L) (h:Cy w L=true):∃hi:Bc w L<L.length,L[Bc w L].id.text=w:=by
 obtain⟨e,he,hk⟩:=xk.1 h;have hk:=of_decide_eq_true hk;obtain⟨j,hj,rfl⟩:=yf he;have:=(Vr hs hj).1;rw[hk] at this;subst this;exact⟨hj,hk⟩
theorem Qp {cap l:Int} {e:GE} {L:List GE} (hs:C8 L) (hc:0<cap) (hl:LM e.id.text L l):J4 cap l e L=Fa cap e L:=by
 unfold J4 Fa;generalize e.id.text=w at hl ⊢;rcases hl with ⟨rfl,a,ha,haw⟩|⟨hno,hl⟩
 ·have hh:Cy w L=true:=xk.2 ⟨a,ha,decide_eq_true haw⟩;obtain⟨hi,hx⟩:=Mg hs hh;rw[if_pos hh];have hlo:=fun (j:Nat) (h:j<L.length) (hj:j<Bc w L)=>Ky (L:=L) (w:=w) h hj;have hgr:∀j (h:j<L.length),Bc w L<j->AG w L[j].id.text=true:=fun j h hj=>by
   have:=Ir hs h hj
   rwa [hx] at this
  generalize Bc w L=p at *;rw[MX (f:=fun x=>!decide (x.id.text=w)) (fun j x _=>by simp[CH]),qc];have hsp:(L.filter fun x=>!decide (x.id.text=w))=L.eraseIdx p:=by
   rw[List.eraseIdx_eq_take_drop_succ]
   conv=>lhs;rw[<-jh p L,List.drop_eq_getElem_cons hi]
   rw[xg,yh (by rw[hx];simp),yi.2,yi.2]
   ·intro x hxm;obtain⟨i,hi',rfl⟩:=yf hxm;rw[zt] at hi';rw[List.getElem_drop];rw[decide_eq_false (Kv (hgr _ (by omega) (by omega))).symm];rfl
   ·intro x hxm;obtain⟨i,hi',rfl⟩:=yf hxm;rw[zh] at hi';rw[List.getElem_take];rw[decide_eq_false (Kv (hlo i (by omega) (by omega)))];rfl
  rw[hsp];have hle:=List.length_eraseIdx_of_lt hi;obtain⟨q1,q2⟩:=MB (M:=L.eraseIdx p) (w:=w) (p:=p) (fun j h hj=>by
   rw[List.getElem_eraseIdx,dif_pos hj];exact hlo j _ hj) (fun j h hj=>by
   rw[List.getElem_eraseIdx,dif_neg (by omega)];exact hgr (j+1) _ (by omega))
  rw[q1,q2,List.set_eq_take_append_cons_drop,if_pos hi,List.eraseIdx_eq_take_drop_succ];have hl1:(L.take p).length=p:=by rw[zh];omega
  rw[List.take_left' hl1,List.drop_left' hl1];simp
 ·rw[nQ hno,if_neg Bool.false_ne_true]
  by_cases hf:cap<=(L.length:Int)
  ·rw[if_pos hf];rcases hl with ⟨h0,_⟩|⟨m,rfl,hm⟩
   ·rw[h0] at hf;simp at hf;omega
   rw[M0 hm];have hml:=hm.1;rw[QG (m:=m) (fun j x hx=>by
    have h1:=hno x (List.mem_of_getElem? hx);have h2:¬((m:Int)=-2):=by omega
    have h3:¬(L.length:Int)<cap:=by omega
    simp only[CH,decide_eq_false h1,decide_eq_false h2,decide_eq_false h3,Bool.not_false,Bool.true_and,Bool.false_or];rw[decide_eq_decide.2 (show ((j:Int)=(m:Int))↔j=m by omega)]),qc]
   have hle:=List.length_eraseIdx_of_lt hml;have hlo:=fun (j:Nat) (h:j<L.length) (hj:j<Bc w L)=>Ky (L:=L) (w:=w) h hj;have hgr:=fun (j:Nat) (h:j<L.length) (hj:Bc w L<=j)=>PE hs hno h hj;generalize Bc w L=p at *;obtain⟨q1,q2⟩:=MB (M:=L.eraseIdx m) (w:=w) (p:=if m<p then p - 1 else p) (fun j h hj=>by
    rw[List.getElem_eraseIdx]
    split
    ·exact hlo j _ (by split at hj<;>omega)
    ·exact hlo (j+1) _ (by split at hj<;>omega)) (fun j h hj=>by
    rw[List.getElem_eraseIdx]
    split
    ·exact hgr j _ (by split at hj<;>omega)
    ·exact hgr (j+1) _ (by split at hj<;>omega))
   rw[q1,q2];rfl
  ·rw[if_neg hf];rw[MX (f:=fun _=>true) (fun j x hx=>by
    have h1:=hno x (List.mem_of_getElem? hx);have h3:(L.length:Int)<cap:=by omega
    simp only[CH,decide_eq_false h1,decide_eq_true h3,Bool.not_false,Bool.true_and,Bool.true_or,Bool.or_true]),qc,yi.2 (fun _ _=>rfl)]
   obtain⟨q1,q2⟩:=MB (M:=L) (w:=w) (p:=Bc w L) (fun j h hj=>Ky h hj) (fun j h hj=>PE hs hno h hj);rw[q1,q2];rfl
theorem ZC {cap:Int} {e:GE} {L:List GE} (hs:C8 L):C8 (BP cap e L):=by
 unfold BP
 split
 ·rename_i h;have hl:∃l,LM e.id.text L l:=by
   by_cases c:∃x∈L,x.id.text=e.id.text
   ·exact⟨-2,.inl ⟨rfl,c⟩⟩
   ·refine((Nat.eq_zero_or_pos L.length).elim (fun h0=>⟨-1,.inr ⟨fun x hx hw=>c ⟨x,hx,hw⟩,.inl ⟨qh h0,rfl⟩⟩⟩) fun h0=>⟨B5 L,.inr ⟨fun x hx hw=>c ⟨x,hx,hw⟩,.inr ⟨_,rfl,Ny h0⟩⟩⟩)
  obtain⟨l,hl⟩:=hl;rw[<-Qp hs h.2 hl];unfold J4;have hsub:∀(q:Nat->GE->Bool) i,(CM q L i).Sublist (L.take i):=by
   intro q i
   induction i with
   | zero=>simp[CM]
   | succ i ih=>
    rw[CM]
    by_cases c:i<L.length
    ·rw[zq c,qm c];refine List.Sublist.append ih ?_;dsimp only
     split
     ·exact List.Sublist.refl _
     ·exact List.nil_sublist _
    ·rw[qg (by omega),zy];rw[je (show L.length<=i by omega)] at ih;rw[je (by omega)];exact ih
  have hk:C8 (CM (CH cap l e.id.text L) L L.length):=hs.sublist ((hsub _ _).trans (List.take_sublist _ _));generalize CM (CH cap l e.id.text L) L L.length=kp at hk ⊢;have hgt:∀x∈kp.filter (D3 e.id.text),AG e.id.text x.id.text=true:=fun x hx=>by
   have:=(jv.1 hx).2;unfold D3 at this;rw[Bool.and_eq_true,Bool.not_eq_true',Bool.not_eq_true'] at this;rcases NL x.id.text e.id.text with c|c|c
   ·rw[this.1] at c;cases c
   ·rw[c,beq_self_eq_true] at this;cases this.2
   ·exact c
  refine List.pairwise_append.2 ⟨List.pairwise_append.2 ⟨hk.filter _,List.pairwise_singleton _ _,fun a ha b hb=>?_⟩,hk.filter _,fun a ha b hb=>?_⟩
  ·rw[xi.1 hb];exact(jv.1 ha).2
  ·have h2:=hgt b hb;rcases zw.1 ha with h|h
   ·exact IG (jv.1 h).2 h2
   ·rw[xi.1 h];exact h2
 ·exact hs
theorem ZB {cap:Int} {e:GE} {L:List GE} (hl:(L.length:Int)<=cap):((BP cap e L).length:Int)<=cap:=by
 unfold BP Fa
 split
 ·rename_i h;have hc:=h.2
  split
  ·rw[zf];exact hl
  split
  ·have h0:0<L.length:=by omega
   have hm:=(Ny h0).1;have:=List.length_eraseIdx_of_lt hm;unfold CP;simp only[zg,zh,zt,yg];omega
  ·unfold CP;simp only[zg,zh,zt,yg];omega
 ·exact hl
theorem XP {cap:Int} {e:GE} {L:List GE}:(BP cap e L).length<=L.length+1:=by
 unfold BP Fa
 split
 ·split
  ·rw[zf];omega
  split
  ·have:=List.length_eraseIdx_le L (B5 L);unfold CP;simp only[zg,zh,zt,yg];omega
  ·unfold CP;simp only[zg,zh,zt,yg];omega
 ·omega
theorem Ro {cap:Int} {e:GE} {L:List GE}:∀y∈BP cap e L,y=e\/y∈L:=by
 intro y hy;unfold BP Fa at hy
 split at hy
 ·split at hy
  ·rcases List.mem_or_eq_of_mem_set hy with h|h
   ·exact .inr h
   ·exact .inl h
  split at hy
  all_goals
   unfold CP at hy;rcases zw.1 hy with h|h
   ·rcases zw.1 h with h|h
    ·first|exact .inr ((List.eraseIdx_sublist L _).subset (jo h))|exact .inr (jo h)
    ·exact .inl (xi.1 h)
   ·first|exact .inr ((List.eraseIdx_sublist L _).subset (ji h))|exact .inr (ji h)
 ·exact .inr hy
section
variable [Tabs Tryz.prog] {objs:List OB} {K:List OB->AV->Prop}
theorem Qr (cap t:Int) (e:GE) (L:List GE) (hc:0<=cap) (hs:C8 L) (he:VOk e) (t0:0<=t) (t1:t<=18446744073709551615) (hL:L.length<=1000)
  (hk:K objs (A5 cap (BP cap (wt e t (AM t e.secs)) L))):Ai Tryz.prog 19 [A5 cap L,.agg (gv e),.i .u64 t] objs K:=by
 have hgood:CA (wt e t (AM t e.secs))=CA e:=rfl;refine Wd cap t e L he t0 t1 hL (fun h=>?_) fun h1 h2 l hl=>?_
 ·unfold BP at hk;rw[hgood,if_neg (fun c=>h ⟨c.1,by omega⟩)] at hk;exact hk
 ·unfold BP at hk;rw[hgood,if_pos ⟨h1,by omega⟩] at hk;rw[Qp (e:=wt e t (AM t e.secs)) hs (by omega) hl];exact hk
end
end
section
attribute [local irreducible] run
abbrev CG:List AV:=[.i .i64 0,.i .i64 0,.s [],.s [],.i .i64 0,.i .i64 0,.s [],.s [],.i .i64 0,.b false,.i .u64 0,.nil]
def D6 (w:List UInt8) (now:Int) (L:List GE):AV :=
 if Cy w L=true then match L[Bc w L]? with
  | some e=>if now<e.st\/e.ex<=now then .tup [.agg CG,.b false] else .tup [.agg (gv e),.b true]
  | none=>.u
 else .tup [.agg CG,.b false]
section
variable [Tabs Tryz.prog] {objs:List OB} {K:List OB->AV->Prop}
theorem Qx (l:List XcP) (hl:l.length<=1000000) (hk:K objs (.b true)):Ai Tryz.prog 41 [.row l.length (A6 l),.row l.length (A6 l)] objs K:=by
 have hpl:AE [AV.row l.length (A6 l),AV.row l.length (A6 l)]=true:=by simp only[AE,AV.plain,De,Bool.and_self]
 refine AI jS hpl fun C _=>?_;rw[UU];refine Ae fun Z hZ=>?_;simp only[Aa,simprocAttr];subst hZ;refine Ae fun Z hZ=>?_;simp only[Aa,simprocAttr];subst hZ;refine Ae fun Z hZ=>?_;simp only[Aa,simprocAttr];refine BI (fun m o tm=>∃i:Nat,i<=l.length/\m=l.length - i/\tm.length=26/\tm[0]? = some (.row l.length (A6 l))/\tm[1]? = some (.row l.length (A6 l))/\tm[12]? = some (.i .i64 l.length)/\tm[13]? = some (.i .i64 (i:Int))) l.length ⟨0,ze _,rfl,rfl,rfl,rfl,rfl,rfl⟩ ?_;rintro m o tm ⟨i,hi,rfl,hlen,t0,t1,t12,t13⟩;have hxl:=La l;refine Ae fun W hW=>?_
 by_cases hlt:(i:Int)<(l.length:Int)
 ·have hi':i<l.length:=by omega
  have hat:=MA l i hi';generalize l[i]=x at hat;unfold E5 at hat;simp only[Aa,simprocAttr,zb,hlen,t12,t13,hlt];subst hW;refine Ae fun W hW=>?_;simp only[Aa,simprocAttr,zb,hlen];subst hW;refine Ae fun W hW=>?_;rw[C6];refine Ae fun V hV=>?_;simp only[Aa,simprocAttr,zb,hlen,t13];subst hV;refine Ae fun V hV=>?_;simp only[Aa,simprocAttr,zb,hlen,t0,t1,hat,decide_true,beq_self_eq_true,Bool.and_self,Bool.not_true,eq_self];refine⟨by omega,by omega,by omega,by omega,?_⟩;subst hV;simp only[Aa,simprocAttr,zb,hlen];subst hW;simp only[Aa,simprocAttr,zb,hlen,t13];exact⟨⟨by omega,by omega⟩,l.length - (i+1),by omega,i+1,by omega,rfl,t0,t1,t12,rfl⟩
 ·simp only[Aa,simprocAttr,zb,hlen,t12,t13,hlt];subst hW;refine Ae fun W hW=>?_;simp only[Aa,simprocAttr,zb,hlen];subst hZ;simp only[Aa,simprocAttr,zb,hlen];exact hk
theorem Qy (e:GE) (ht:e.tr.length<=1000000) (hk:K objs (.b true)):Ai Tryz.prog 22 [.agg (gv e),.agg (gv e)] objs K:=by
 refine AI TW (by simp only[AE,AV.plain,FI,Bool.and_self]) fun C _=>?_;rw[Ot];refine Ae fun Y hY=>?_;simp only[gv,Aa,simprocAttr];subst hY;simp only[Aa,simprocAttr,decide_true,beq_self_eq_true,Bool.and_self,eq_self];refine Ag (Qx _ ht ?_);simp only[Aa,simprocAttr];exact hk
theorem Xu (hk:K objs (.b true)):Ai Tryz.prog 22 [.agg CG,.agg CG] objs K:=by
 refine AI TW rfl fun C _=>?_;rw[Ot];refine Ae fun Y hY=>?_;simp only[Aa,simprocAttr];subst hY;simp only[Aa,simprocAttr,decide_true,beq_self_eq_true,Bool.and_self,eq_self];refine Ag (nF (fun G I ys h=>?_) (Qx [] (by decide) ?_))
 ·simp only[Ac] at h ⊢;obtain⟨y0,r0,rfl,q0,y1,r1,rfl,q1,rfl⟩:=h;exact⟨_,_,rfl,Ld q0,_,_,rfl,Ld q1,rfl⟩
 ·simp only[Aa,simprocAttr];exact hk
theorem Qw (cap:Int) (L:List GE) (hn:L.length<=1000) (ht:∀x∈L,x.tr.length<=1000000) (hk:K objs (.b true)):Ai Tryz.prog 13 [A5 cap L,A5 cap L] objs K:=by
 have hel:=Dv L;refine AI gM (by simp only[A5,AE,AV.plain,Dg,Bool.and_self]) fun C _=>?_;rw[TM];refine Ae fun Y hY=>?_;simp only[A5,Aa,simprocAttr];subst hY;refine Ae fun Y hY=>?_;simp only[Aa,simprocAttr];subst hY;refine Ae fun Y hY=>?_;simp only[Aa,simprocAttr];refine BI (fun m o tm=>∃i:Nat,m=L.length - i/\i<=L.length/\o=[.box 24 [.i .i64 cap,.row L.length (Ar L)],.box 24 [.i .i64 cap,.row L.length (Ar L)]]/\tm.length=71/\tm[2]? = some (.p 0 0)/\tm[3]? = some (.p 1 0)/\tm[22]? = some (.i .i64 L.length)/\tm[23]? = some (.i .i64 i)) L.length ⟨0,rfl,ze _,rfl,rfl,rfl,rfl,rfl,rfl⟩ ?_;rintro m _ tm ⟨i,rfl,hi,rfl,hlen,t2,t3,t22,t23⟩;refine Ae fun Z hZ=>?_
 by_cases hlt:i<L.length
 ·have hlt':(i:Int)<(L.length:Int):=by omega
  have a1:=KY hlt;have a2:=PL hlt;have a3:=Mo hlt;have htr:=ht _ (qe hlt);simp only[Aa,simprocAttr,zb,hlen,t22,t23,hlt'];subst hZ;refine Ae fun Z hZ=>?_;simp only[Aa,simprocAttr,zb,hlen,t22,t23,hlt'];subst hZ;refine Ae fun Z hZ=>?_;refine CV (fun o t=>o=[.box 24 [.i .i64 cap,.row L.length (Ar L)],.box 24 [.i .i64 cap,.row L.length (Ar L)]]/\t.length=71/\t[2]? = some (.p 0 0)/\t[3]? = some (.p 1 0)/\t[22]? = some (.i .i64 L.length)/\t[23]? = some (.i .i64 i)) ?_ ?_
  ·rw[C6];refine Ae fun X hX=>?_;simp only[Aa,simprocAttr,zb,hlen,t23];subst hX;refine Ae fun X hX=>?_;simp only[Aa,simprocAttr,zb,hlen,t2,t3,t22,t23,zm,Nat.add_zero,a1,a2,a3];refine⟨by omega,by omega,by omega,by omega,by omega,by omega,by omega,by omega,?_⟩;refine Br (v:=.b true) (Qy _ htr ⟨rfl,rfl⟩) ?_;simp only[Aa,simprocAttr,zb,hlen,t2,t3,t22,t23];subst hX;simp only[Aa,simprocAttr,zb,hlen,t2,t3,t22,t23,Bw,zf,and_self]
  clear hlen t2 t3 t22 t23;rintro _ tm ⟨rfl,hlen,t2,t3,t22,t23⟩;subst hZ;simp only[Aa,simprocAttr,zb,hlen,t2,t3,t22,t23];exact⟨by omega,L.length - (i+1),by omega,i+1,rfl,by omega,rfl⟩
 ·have hlt':¬(i:Int)<(L.length:Int):=by omega
  simp only[Aa,simprocAttr,zb,hlen,t22,t23,hlt'];subst hZ;subst hY;simp only[Aa,simprocAttr,zb,hlen,t22,t23,hlt'];exact hk
theorem Kc (cap now:Int) (w:List UInt8) (L:List GE) (hs:C8 L) (hn:L.length<=1000) (ht:∀x∈L,x.tr.length<=1000000) (hk:K objs (D6 w now L)):Ai Tryz.prog 20 [A5 cap L,.s w,.i .u64 now] objs K:=by
 have hel:=Dv L;refine AI fV (by simp only[A5,AE,AV.plain,Dg,Bool.and_self]) fun C _=>?_;rw[Tf];refine Ae fun Y hY=>?_;simp only[A5,Aa,simprocAttr];subst hY;refine Ae fun Y hY=>?_;simp only[Aa,simprocAttr];refine Ag (Mq L w hs (by omega) ?_);simp only[Aa,simprocAttr];subst hY;refine Ae fun Y hY=>?_;unfold D6 at hk
 cases hh:Cy w L with
 | false=>
  rw[hh,if_neg Bool.false_ne_true] at hk;simp only[Aa,simprocAttr];exact hk
 | true=>
  rw[hh,if_pos rfl] at hk;have hlt:=PP hh hs;rw[zq hlt] at hk;dsimp only at hk;have a1:=KY hlt;have a2:=PL hlt;have a3:=Mo hlt;have htr:=ht _ (qe hlt);generalize L[Bc w L]=e at *
  by_cases c1:now<e.st
  ·have c1':=c1;rw[if_pos (.inl c1)] at hk;simp only[Aa,simprocAttr,zm,a2,c1'];exact⟨by omega,hk⟩
  ·have c1':=c1
   by_cases c2:e.ex<=now
   ·have c2':=c2;rw[if_pos (.inr c2)] at hk;simp only[Aa,simprocAttr,zm,a2,a3,c1',c2'];exact⟨by omega,by omega,hk⟩
   ·have c2':=c2;rw[if_neg (fun h=>h.elim c1 c2)] at hk;simp only[Aa,simprocAttr,zm,a2,a3,c1',c2'];refine⟨by omega,by omega,?_⟩;subst hY;simp only[Aa,simprocAttr,zm,Nat.add_zero,a1];refine⟨by omega,by omega,?_⟩;refine Ag (KW _ htr ?_);have hxp:AE (A6 e.tr)=true:=De _;simp only[gv,hxp,Aa,simprocAttr];exact hk
theorem PG (cap now:Int) (w:List UInt8) (L:List GE) (hs:C8 L) (hn:L.length<=1000) (hk:K objs (D6 w now L)):Ai Tryz.prog 21 [A5 cap L,.s w,.i .u64 now] objs K:=by
 have hel:=Dv L;refine Gt (D6 w now L) ?_;refine AI fZ (by simp only[A5,AE,AV.plain,Dg,Bool.and_self]) fun C _=>?_;rw[Tj];refine Ae fun Y hY=>?_;simp only[A5,Aa,simprocAttr];subst hY;refine Ae fun Y hY=>?_;simp only[Aa,simprocAttr];refine BI (fun m o tm=>∃i:Nat,m=L.length - i/\i<=L.length/\(∀j (h:j<L.length),j<i->¬(L[j].id.text=w/\L[j].st<=now/\now<L[j].ex))/\o[1]? = some (.box 41 CG)/\tm.length=39/\tm[1]? = some (.s w)/\tm[2]? = some (.i .u64 now)/\tm[6]? = some (.p 1 0)/\tm[7]? = some (.b false)/\tm[11]? = some (.row L.length (Ar L))/\tm[12]? = some (.i .i64 L.length)/\tm[13]? = some (.i .i64 i)) L.length ⟨0,rfl,ze _,fun j h h0=>absurd h0 (Nat.not_lt_zero _),rfl,rfl,rfl,rfl,rfl,rfl,rfl,rfl,rfl⟩ ?_;rintro m N tm ⟨i,rfl,hi,hno,hN,hlen,t1,t2,t6,t7,t11,t12,t13⟩;refine Ae fun Z hZ=>?_
 by_cases hlt:i<L.length
 ·have hlt':(i:Int)<(L.length:Int):=by omega
  have a1:=Hj hlt;simp only[Aa,simprocAttr,zb,hlen,t12,t13,hlt'];subst hZ;refine Ae fun Z hZ=>?_;simp only[Aa,simprocAttr,zb,hlen,t12,t13,hlt'];subst hZ;refine Ae fun Z hZ=>?_;rw[C6];refine Ae fun X hX=>?_;have hpi:=fun (h:L[i].id.text=w)=>h▸Vr hs hlt;have hnx:¬(L[i].id.text=w/\L[i].st<=now/\now<L[i].ex)->∀j (h:j<L.length),j<i+1->¬(L[j].id.text=w/\L[j].st<=now/\now<L[j].ex):=fun h0 j h hj=>by
   rcases xw (Nat.le_of_lt_succ hj) with rfl|c
   ·exact h0
   ·exact hno j h c
  have hgi:L[i]? = some L[i]:=zq hlt;generalize L[i]=e at *;simp only[Aa,simprocAttr,zb,hlen,t11,t13,zm,a1,Bd,BX];refine⟨by omega,by omega,?_⟩;have hM:=BA (X:=Bv e) hN;have hMe:(N++[Bv e])[N.length]? = some (Bv e):=Bd _ _;have hNl:=CS hN;generalize N++[Bv e]=M at hM hMe ⊢;have hMl:=CS hM;subst hX;refine Ae fun X hX=>?_
  by_cases c1:e.id.text=w
  ·by_cases c2:e.st<=now
   ·by_cases c3:now<e.ex
    ·have hg:D6 w now L=.tup [.agg (gv e),.b true]:=by
      unfold D6;rw[if_pos (hpi c1).2,(hpi c1).1,hgi];dsimp only;rw[if_neg (by omega)]
     rw[hg] at hk ⊢;have hpp:∀o d,CR o d (A6 e.tr)=some (A6 e.tr):=fun o d=>Ip (De _);have hxp:AE (A6 e.tr)=true:=De _;simp only[Aa,simprocAttr,zb,hlen,t1,t2,hMe,c1,c2,c3];subst hX;simp only[hpp,hxp,Aa,simprocAttr,zb,zf,hlen,t6,t7,hMe,hM,hMl];exact⟨fun G I y hy=>hy,hk⟩
    ·simp only[Aa,simprocAttr,zb,hlen,t1,t2,hMe,c1,c2,c3];subst hX;simp only[Aa,simprocAttr,zb,hlen];subst hZ;simp only[Aa,simprocAttr,zb,zf,hlen,t1,t2,t6,t7,t11,t12,t13];exact⟨by omega,L.length - (i+1),by omega,i+1,rfl,by omega,hnx (fun h=>c3 h.2.2),hM,rfl⟩
   ·simp only[Aa,simprocAttr,zb,hlen,t1,t2,hMe,c1,c2];subst hX;simp only[Aa,simprocAttr,zb,hlen];subst hZ;simp only[Aa,simprocAttr,zb,zf,hlen,t1,t2,t6,t7,t11,t12,t13];exact⟨by omega,L.length - (i+1),by omega,i+1,rfl,by omega,hnx (fun h=>c2 h.2.1),hM,rfl⟩
  ·simp only[Aa,simprocAttr,zb,hlen,t1,t2,hMe,c1];subst hX;simp only[Aa,simprocAttr,zb,hlen];subst hZ;simp only[Aa,simprocAttr,zb,zf,hlen,t1,t2,t6,t7,t11,t12,t13];exact⟨by omega,L.length - (i+1),by omega,i+1,rfl,by omega,hnx (fun h=>c1 h.1),hM,rfl⟩
 ·have hlt':¬(i:Int)<(L.length:Int):=by omega
  obtain rfl:i=L.length:=by omega
  have hg:D6 w now L=.tup [.agg CG,.b false]:=by
   unfold D6
   by_cases hh:Cy w L=true
   ·obtain⟨hp,hx⟩:=Mg hs hh;have hno:=fun h1 h2=>hno _ hp hp ⟨hx,h1,h2⟩;rw[if_pos hh,zq hp];dsimp only;rw[if_pos];rcases Int.lt_or_le now L[Bc w L].st with c|c
    ·exact .inl c
    ·rcases Int.lt_or_le now L[Bc w L].ex with d|d
     ·exact(hno c d).elim
     ·exact .inr d
   ·rw[if_neg hh]
  rw[hg] at hk ⊢;have hNl:=CS hN;simp only[Aa,simprocAttr,zb,hlen,t12,t13,hlt'];subst hZ;subst hY;simp only[Aa,simprocAttr,zb,zf,hlen,t6,t7,hN,hNl];exact⟨fun G I y hy=>hy,hk⟩
end
end
section
variable [Tabs Tryz.prog] {objs:List OB} {K:List OB->AV->Prop}
end
section
variable [Tabs Tryz.prog] {objs:List OB} {K:List OB->AV->Prop}
end
section
variable [Tabs Tryz.prog] {objs:List OB} {K:List OB->AV->Prop}
end
section
variable [Tabs Tryz.prog] {objs:List OB} {K:List OB->AV->Prop}
end
section
variable [Tabs Tryz.prog] {objs:List OB} {K:List OB->AV->Prop}
end
section
variable [Tabs Tryz.prog] {objs:List OB} {K:List OB->AV->Prop}
end
section
variable [Tabs Tryz.prog] {objs:List OB} {K:List OB->AV->Prop}
end
section
variable [Tabs Tryz.prog] {objs:List OB} {K:List OB->AV->Prop}
end
section
attribute [local irreducible] run
def Gu (l:List UInt8):OB:=.box 77 [.row l.length (Bf l)]
theorem eY {objs:List OB} {b:Nat} {x:OB} (h:objs[b]? = some x):objs.set b x=objs:=by
 obtain⟨h1,h2⟩:=List.getElem?_eq_some_iff.1 h;rw[<-h2,List.set_getElem_self]
theorem cM (n:Int) (h0:0<=n) (h1:n<9223372036854775808):IntKind.i64.wrap n=n:=by
 have e1:IntKind.signed .i64=true:=rfl;simp only[IntKind.wrap,IntKind.bits,e1,if_true];have e2:(2:Int) ^ 64=18446744073709551616:=by decide
 have e3:(2:Int) ^ 63=9223372036854775808:=by decide
 first|(rw[Int.emod_eq_of_lt (by omega) (by omega)];split<;>omega)|(simp;omega)|omega
section
variable [Tabs Tryz.prog] {objs:List OB} {K:List OB->AV->Prop}
theorem Im (b:Nat) (l:List UInt8) (n:Int) (hl:l.length<=200) (hb:objs[b]? = some (Gu l)) (hn:1<=n) (hn2:n<=1000000) (hk:∀(l':List UInt8) (r:Int),l'.length<=200->0<=r->r<n->K (objs.set b (Gu l')) (.i .i64 r)) :
  Ai Tryz.prog 26 [.p b 0,.i .i64 n] objs K:=by
 refine CE jD fun C _=>?_;have hs:=eY hb;unfold Gu at hb
 by_cases c1:(l.length:Int)=0
 ·simp only[LI,Aa,simprocAttr,hb,c1];have:=hk l 0 hl (by omega) (by omega);rw[hs] at this;exact this
 by_cases c2:n<=1
 ·simp only[LI,Aa,simprocAttr,hb,c1,c2];have:=hk l 0 hl (by omega) (by omega);rw[hs] at this;exact this
 obtain⟨c,l',rfl⟩:∃c l',l=c::l':=by
  cases l with
  | nil=>simp at c1
  | cons c l'=>exact⟨c,l',rfl⟩
 have c3:¬((l'.length+1:Nat):Int)=0:=by omega
 have hc:=c.toNat_lt;have hcons:Bf (c::l')=.i .u8 (c.toNat:Int)::Bf l':=rfl;have hbl:=Qn l';rw[hcons] at hb;simp only[LI,Aa,simprocAttr,hb,c1,c2,c3,hcons];have e1:IntKind.i64.wrap (c.toNat:Int)=c.toNat:=cM _ (by omega) (by omega);have e2:(List.take ((l'.length+1)*1) (AV.i IntKind.u8 (c.toNat:Int)::Bf l')).drop 1=Bf l':=by
  rw[je (by rw[zl,hbl];omega),List.drop_one,List.tail_cons]
 have e3:(c.toNat:Int).tmod n=((c.toNat:Int) % n):=Int.tmod_eq_emod_of_nonneg (by omega);have h1:=Int.emod_nonneg (c.toNat:Int) (show n≠0 by omega);have h2:=Int.emod_lt_of_pos (c.toNat:Int) (show 0<n by omega);rw[e1,e2,e3];exact⟨⟨by omega,by omega⟩,by omega,by omega,hk l' _ (by rw[zl] at hl;omega) h1 h2⟩
theorem oW (l:List UInt8) (hl:l.length<=140737488351232) (hk:∀l':List UInt8,l'.length<=200->K (objs++[Gu l']) (.p objs.length 0)):Ai Tryz.prog 25 [.row l.length (Bf l)] objs K:=by
 refine CE fD fun C _=>?_;have hbl:=Qn l;simp only[SD,Aa,simprocAttr]
 by_cases c1:(200:Int)<l.length
 ·rw[if_pos c1];refine⟨⟨by omega,by omega⟩,?_⟩;have h:=hk (l.take 200) (by rw[zh];omega);have e:Bf (l.take 200)=(Bf l).take 200:=by simp[Bf,List.map_take]
  have e2:(l.take 200).length=200:=by rw[zh];omega
  unfold Gu at h;rw[e,e2] at h;exact h
 ·rw[if_neg c1];refine⟨⟨by omega,by omega⟩,?_⟩;have h:=hk l (by omega);unfold Gu at h;rw[zm,Nat.mul_one,je (by omega)];exact h
end
end
section
attribute [local irreducible] run
def Vz (k:Nat):List AV:=[.i .i64 1,.s (D2 k),.s LV,.i .i64 0]
theorem Z6 {e:GE} (h:CA e=true):BP 1 e []=[e]:=by
 unfold BP Fa;rw[if_pos ⟨h,by decide⟩,show Cy e.id.text []=false from rfl,if_neg Bool.false_ne_true,if_neg (show ¬(1:Int)<=(([]:List GE).length:Int) from by simp)]
 rfl
theorem aZ {e d:GE} (h:CA e=true) (h1:AG d.id.text e.id.text=true):BP 1 e [d]=[e]:=by
 have hm:B5 [d]=0:=M0 ⟨by simp,fun a ha=>by
  obtain rfl:a=0:=by simpa using ha
  unfold BK;rw[if_pos rfl];exact decide_eq_false (by omega)⟩
 have h2:Cy e.id.text [d]=false:=by simp only[Cy,List.any_cons,List.any_nil,Bool.or_false,decide_eq_false_iff_not];exact Kv h1
 unfold BP Fa;rw[if_pos ⟨h,by decide⟩,h2,if_neg Bool.false_ne_true,if_pos (by simp),hm];unfold CP;simp
theorem Mj (k:Nat) (s t:Int):gv (mk k s t)=[.i .i64 0,.i .i64 1,.s (D2 k),.s LV,.i .i64 0,.i .i64 0,.s [],.s [],.i .i64 0,.b true,.i .u64 s,.row 0 []]:=rfl
section
variable [Tabs Tryz.prog] {objs:List OB} {K:List OB->AV->Prop}
theorem dP {k:Nat} (hk20:k<20) (hk:K objs (.tup [.agg (Vz k),.i .i64 0])):Ai Tryz.prog 34 [.s (D2 k)] objs K:=by
 refine SL (D2 k) (by simp[D2]) ?_;have h:=mB ⟨k,hk20⟩;simp only[Ha,Bool.and_eq_true,decide_eq_true_eq] at h;have h2:=(YJ _ _).1 h.2;unfold Ez;rw[h.1,h2];exact hk
theorem HW (n:Nat) (s:Int) (hn:n<1000) (hk:K objs (.agg (gv (mk (n % 20) s 0)))):Ai Tryz.prog 17 [.i .i64 n,.i .u64 s] objs K:=by
 refine Gt (.agg (gv (mk (n % 20) s 0))) ?_;refine AI jH rfl fun C _=>?_;rw[Uy];have e1:((n:Int).tmod 20)=((n % 20:Nat):Int):=by
  rw[Int.tmod_eq_emod_of_nonneg (by omega)];omega
 have hm:n % 20<20:=Nat.mod_lt _ (by decide);generalize n % 20=k at e1 hm hk ⊢;have e2:IntKind.u8.wrap (97+(k:Int))=(((UInt8.ofNat (97+k)).toNat:Nat):Int):=by
  rw[UInt8.toNat_ofNat'];rw[IntKind.wrap_u8];omega
 refine Ae fun Y hY=>?_;simp only[Aa,simprocAttr];subst hY;refine Ae fun Y hY=>?_;simp only[Aa,simprocAttr,e1,e2];refine⟨by omega,WO [UInt8.ofNat (97+k)] 1 rfl ?_⟩;simp only[Aa,simprocAttr];refine Ag (dP hm ?_);simp only[Vz,Aa,simprocAttr];subst hY;simp only[Aa,simprocAttr];exact⟨fun G I y hy=>Vp (e:=mk k s 0) rfl hy,hk⟩
theorem mU (cap:Nat) (hc:cap<=1024) (hk:K objs (.tup [A5 cap [],.i .i64 0])):Ai Tryz.prog 10 [.i .i64 cap] objs K:=by
 refine Gt (.tup [A5 cap [],.i .i64 0]) ?_;refine AI fW rfl fun C _=>?_;rw[Tg];have e1:¬(cap:Int)<0:=by omega
 have e2:¬(1024:Int)<(cap:Int):=by omega
 refine Ae fun Y hY=>?_;simp only[Aa,simprocAttr];subst hY;simp only[Aa,simprocAttr,e1,e2];exact⟨fun G I y hy=>Vu (fun y=>Ld) hy,hk⟩
theorem qC (cap:Nat) (hc:cap<=1024) (hk:K objs (.tup [A5 cap [],.i .i64 0])):Ai Tryz.prog 11 [.i .i64 cap] objs K:=by
 refine Gt (.tup [A5 cap [],.i .i64 0]) ?_;refine AI gA rfl fun C _=>?_;rw[Tk];have e1:¬(cap:Int)<0:=by omega
 have e2:¬(1024:Int)<(cap:Int):=by omega
 refine Ae fun Y hY=>?_;simp only[Aa,simprocAttr];subst hY;simp only[Aa,simprocAttr,e1,e2];exact⟨fun G I y hy=>Vu (fun y=>Ld) hy,hk⟩
structure OkM (cap:Nat) (L:List GE):Prop where
 top:cap<=5
 len:L.length<=cap
 srt:C8 L
 ent:∀e∈L,e.tr.length<=1000000
theorem oG (l0:List UInt8) (hl0:l0.length<=140737488351232) (hk:∀(cap now:Nat) L,OkM cap L->now<=200->K objs (.tup [A5 cap L,.i .u64 now])):Ai Tryz.prog 12 [.row l0.length (Bf l0)] objs K:=by
 refine AI gK (by simp only[AE,AV.plain,Sr,Bool.and_self]) fun C _=>?_;rw[TK];refine Ae fun Y hY=>?_;simp only[Aa,simprocAttr];subst hY;refine Ae fun Y hY=>?_;simp only[Aa,simprocAttr];refine Ag (oW l0 hl0 fun l1 hl1=>?_);simp only[Aa,simprocAttr];subst hY;refine Ae fun Y hY=>?_;simp only[Aa,simprocAttr];refine Ag (Im 1 l1 6 hl1 rfl (by decide) (by decide) fun l2 r hl2 hr0 hr1=>?_);obtain⟨cap,rfl⟩:=xt hr0;simp only[Aa,simprocAttr];refine Ag (qC cap (by omega) ?_);simp only[A5,Aa,simprocAttr];subst hY;refine Ae fun Y hY=>?_;simp only[Aa,simprocAttr];subst hY;refine Ae fun Y hY=>?_;refine CV (fun o t=>∃(now:Nat) (L:List GE) (l:List UInt8),o=[.box 24 [.i .i64 0,.nil],Gu l,.box 24 [.i .i64 cap,.row L.length (Ar L)]]/\OkM cap L/\now<=200/\t.length=46/\t[2]? = some (.p 0 0)/\t[5]? = some (.p 2 0)/\t[7]? = some (.i .u64 now)) ?_ ?_
 ·refine Ae fun X hX=>?_;simp only[Aa,simprocAttr];refine Ag (Im 1 l2 20 hl2 rfl (by decide) (by decide) fun l3 r hl3 hr0' hr1'=>?_);obtain⟨n,rfl⟩:=xt hr0';simp only[Aa,simprocAttr];subst hX;rw[C6];refine BI (fun m o tm=>∃(n now:Nat) (L:List GE) (l:List UInt8),m=n/\n<=20/\now+8*n<=160/\o=[.box 24 [.i .i64 0,.nil],Gu l,.box 24 [.i .i64 cap,.row L.length (Ar L)]]/\l.length<=200/\OkM cap L/\tm.length=46/\tm[2]? = some (.p 0 0)/\tm[4]? = some (.p 1 0)/\tm[5]? = some (.p 2 0)/\tm[7]? = some (.i .u64 now)/\tm[8]? = some (.i .i64 n)) n ⟨n,0,[],l3,rfl,by omega,by omega,rfl,hl3,⟨by omega,ze _,List.Pairwise.nil,by simp⟩,rfl,rfl,rfl,rfl,rfl,rfl⟩ ?_;clear hk;rintro m _ tm ⟨n,now,L,l,rfl,hn,hnow,rfl,hl,hM,hlen,t2,t4,t5,t7,t8⟩;have hcap:=hM.top;have hlen0:=hM.len;refine Ae fun Z hZ=>?_
  by_cases hlt:0<m
  ·have hlt':(0:Int)<(m:Int):=by omega
   simp only[Aa,simprocAttr,zb,hlen,t8,hlt'];subst hZ;refine Ae fun Z hZ=>?_;rw[C6];refine Ae fun X hX=>?_;simp only[Aa,simprocAttr,zb,hlen,t4,t7];refine Ag (Im 1 l 9 hl rfl (by decide) (by decide) fun l4 r hl4 hr0 hr1=>?_);obtain⟨a,rfl⟩:=xt hr0;have w1:IntKind.u64.wrap (a:Int)=(a:Int):=by rw[IntKind.wrap_u64];omega
   have w2:IntKind.u64.wrap ((now:Int)+a)=((now+a:Nat):Int):=by rw[IntKind.wrap_u64];omega
   simp only[Aa,simprocAttr,zb,hlen,t4,t7,w1,w2];subst hX;refine Ae fun X hX=>?_;simp only[Aa,simprocAttr,zb,hlen,t4,t5,t7];refine Ag (Im 1 l4 9 hl4 rfl (by decide) (by decide) fun l5 r hl5 hr0 hr1=>?_);obtain⟨k,rfl⟩:=xt hr0;simp only[Aa,simprocAttr,zb,hlen,t4,t5,t7];refine Ag (Im 1 l5 60 hl5 rfl (by decide) (by decide) fun l6 r hl6 hr0 hr1=>?_);obtain⟨s,rfl⟩:=xt hr0;have w3:IntKind.u64.wrap (1+(s:Int))=((1+s:Nat):Int):=by rw[IntKind.wrap_u64];omega
   simp only[Aa,simprocAttr,zb,hlen,t4,t5,t7,w3];refine⟨by omega,?_⟩;refine Ag (HW k ((1+s:Nat):Int) (by omega) ?_);rw[Nat.mod_eq_of_lt (show k<20 by omega)];have hv:VOk (mk k ((1+s:Nat):Int) 0):=⟨by simp[mk,D2],by simp[mk],by show (0:Int)<=((1+s:Nat):Int);omega,by show ((1+s:Nat):Int)<=_;omega⟩;generalize mk k ((1+s:Nat):Int) 0=e at hv ⊢;simp only[gv,Aa,simprocAttr,zb,hlen,t4,t5,t7,w3];refine⟨by omega,?_⟩;refine Ag (Qr cap ((now+a:Nat):Int) e L (by omega) hM.srt hv (by omega) (by omega) (by omega) ?_);have hM2:OkM cap (BP cap (wt e ((now+a:Nat):Int) (AM ((now+a:Nat):Int) e.secs)) L):=⟨hcap,by have:=ZB (cap:=cap) (e:=wt e ((now+a:Nat):Int) (AM ((now+a:Nat):Int) e.secs)) (L:=L) (by omega);omega,ZC hM.srt,fun x hx=>by
    rcases Ro x hx with rfl|h
    ·exact hv.tl
    ·exact hM.ent x h⟩
   generalize BP cap (wt e ((now+a:Nat):Int) (AM ((now+a:Nat):Int) e.secs)) L=L2 at hM2 ⊢;have hl2:=hM2.len;have hs2:=hM2.srt;simp only[A5,Aa,simprocAttr,zb,hlen,t4,t5,t7,w3];refine⟨by omega,?_⟩;subst hX;refine Ae fun X hX=>?_;simp only[Aa,simprocAttr,zb,hlen,t4,t5,t7];refine Ag (Im 1 l6 6 hl6 rfl (by decide) (by decide) fun l7 r hl7 hr0 hr1=>?_)
   by_cases c0:r=0
   ·simp only[Aa,simprocAttr,zb,hlen,t4,t5,t7,c0];subst hX;simp only[Aa,simprocAttr,zb,hlen,t4,t5,t7,c0];refine Ag (PF cap ((now+a:Nat):Int) L2 (by omega) ?_);simp only[A5,Aa,simprocAttr,zb,hlen,t4,t5,t7];subst hZ;simp only[Aa,simprocAttr,zb,zf,hlen,t2,t4,t5,t7,t8];exact⟨by omega,m - 1,by omega,m - 1,now+a,_,l7,rfl,by omega,by omega,rfl,hl7,⟨hcap,jr (yl _ _) hl2,hs2.filter _,fun e he=>hM2.ent e (jv.1 he).1⟩,rfl,by rw[show ((m - 1:Nat):Int)=(m:Int) - 1 by omega]⟩
   ·simp only[Aa,simprocAttr,zb,hlen,t4,t5,t7,c0];subst hX;simp only[Aa,simprocAttr,zb,hlen,t4,t5,t7,c0];subst hZ;simp only[Aa,simprocAttr,zb,zf,hlen,t2,t4,t5,t7,t8];exact⟨by omega,m - 1,by omega,m - 1,now+a,L2,l7,rfl,by omega,by omega,rfl,hl7,hM2,rfl,by rw[show ((m - 1:Nat):Int)=(m:Int) - 1 by omega]⟩
  ·obtain rfl:m=0:=by omega
   have hlt':¬(0:Int)<((0:Nat):Int):=by omega
   simp only[Aa,simprocAttr,zb,hlen,t8,hlt'];subst hZ;simp only[Aa,simprocAttr,Bw,zb,zf,hlen,t2,t4,t5,t7,t8,hlt'];exact⟨now,L,l,rfl,hM,by omega,rfl⟩
 rintro _ tm ⟨now,L,l,rfl,hM,hnow,hlen,t2,t5,t7⟩;subst hY;have hpl:=Dg L;have hr:=hk cap now L hM hnow;unfold A5 at hr;simp only[hpl,Aa,simprocAttr,zb,zf,hlen,t2,t5,t7];exact hr
end
section
variable [Tabs Tryz.prog] [Shp Tryz.prog] [Pow Tryz.prog] {objs:List OB} {K:List OB->AV->Prop}
theorem Zm (hk:K objs (.b true)):Ai Tryz.prog 8 [] objs K:=by
 have g0:CA (mk 0 100 0)=true:=by decide +kernel
 have g1:CA (mk 1 5 0)=true:=by decide +kernel
 have s1:GL 1 [mk 1 5 0]=true:=by decide +kernel
 have p0:BP 1 (wt (mk 0 100 0) 0 (AM 0 (mk 0 100 0).secs)) []=[mk 0 100 0]:=Z6 g0;have p1:BP 1 (wt (mk 1 5 0) 0 (AM 0 (mk 1 5 0).secs)) [mk 0 100 0]=[mk 1 5 0]:=aZ g1 (by decide +kernel);have v0:VOk (mk 0 100 0):=⟨by decide,by decide,by decide,by decide⟩;have v1:VOk (mk 1 5 0):=⟨by decide,by decide,by decide,by decide⟩;have r0:D6 (D2 0) 0 [mk 1 5 0]=.tup [.agg CG,.b false]:=by kernel_rfl
 have r1:D6 (D2 1) 4 [mk 1 5 0]=.tup [.agg (gv (mk 1 5 0)),.b true]:=by kernel_rfl
 have ss:∀e:GE,C8 [e]:=fun e=>List.pairwise_singleton _ _;have st:∀(k:Nat) (s t:Int),∀x∈[mk k s t],x.tr.length<=1000000:=fun k s t x hx=>by rw[xi.1 hx];simp[mk]
 refine AI gL rfl fun C _=>?_;rw[TL];refine Ae fun Y hY=>?_;simp only[Aa,simprocAttr];subst hY;refine Ae fun Y hY=>?_;simp only[Aa,simprocAttr];refine Ag (mU 1 (by decide) ?_);simp only[A5,Aa,simprocAttr];subst hY;refine Ae fun Y hY=>?_;simp only[Aa,simprocAttr];refine Br (v:=.agg (gv (mk 0 100 0))) (HW 0 100 (by decide) ⟨rfl,rfl⟩) ?_;simp only[Aa,simprocAttr];refine Br (v:=A5 1 [mk 0 100 0]) (Mn 1 0 (mk 0 100 0) [] List.Pairwise.nil (by simp) v0 (by decide) (by decide) (by decide) (by rw[p0];exact⟨rfl,rfl⟩)) ?_;simp only[A5,Aa,simprocAttr];subst hY;refine Ae fun Y hY=>?_;simp only[Aa,simprocAttr];refine Fj (v:=.agg (gv (mk 1 5 0))) (HW 1 5 (by decide) rfl) rfl rfl ?_;simp only[Aa,simprocAttr];refine Fj (v:=A5 1 [mk 1 5 0]) (Mn 1 0 (mk 1 5 0) [mk 0 100 0] (ss _) (st _ _ _) v1 (by decide) (by decide) (by decide) (by rw[p1])) rfl rfl ?_;simp only[A5,Aa,simprocAttr];subst hY;refine Ae fun Y hY=>?_;simp only[Aa,simprocAttr];refine Fj (v:=.agg (gv (mk 0 1 0))) (HW 0 1 (by decide) rfl) rfl rfl ?_;simp only[Mj,Aa,simprocAttr];refine Fj (v:=D6 (D2 0) 0 [mk 1 5 0]) (Kc 1 0 (D2 0) [mk 1 5 0] (ss _) (by decide) (st _ _ _) rfl) (by simp only[AE,AV.plain,Dg,Bool.and_self]) (by rw[r0];rfl) ?_;rw[r0];simp only[Aa,simprocAttr];subst hY;refine Ae fun Y hY=>?_;simp only[Aa,simprocAttr];refine Fj (v:=.agg (gv (mk 1 1 0))) (HW 1 1 (by decide) rfl) rfl rfl ?_;simp only[Mj,Aa,simprocAttr];refine Fj (v:=D6 (D2 1) 4 [mk 1 5 0]) (Kc 1 4 (D2 1) [mk 1 5 0] (ss _) (by decide) (st _ _ _) rfl) (by simp only[AE,AV.plain,Dg,Bool.and_self]) (by rw[r1];rfl) ?_;rw[r1];simp only[Mj,Aa,simprocAttr];subst hY;have e1:(((1:Nat):Int)=1)=True:=eq_true rfl;simp only[Aa,simprocAttr,e1,decide_true];refine Ag (YB 1 [mk 1 5 0] (fun e he=>by rw[xi.1 he];exact⟨by decide,by decide,by decide,by decide,by decide⟩) ?_);rw[s1];simp only[Aa,simprocAttr];exact hk
end
end
end Go.Proofs.YtbeoijfmfkifeaaGreatDoor
namespace Go.Proofs.YtbeoijfmfkifeaaGreatDoor.Sx
open Go.RowKit
section
variable {P:Program} [Tabs P] {C:Cx} [On P C] {F:Bb} {objs:List OB} {tm:List AV}
def lQ (P:Program) (C:Cx) (sc:SCode) (F:Bb) (objs:List OB) (tm:List AV):Prop:=OY P C sc (Ex F) objs tm
theorem XN {sc:SCode} (h:run P C [.code sc] objs tm F):lQ P C sc F objs tm:=fun c ht=>F5 c sc F objs tm ht h
end
section
variable {P:Program} [Tabs P]
end
end Go.Proofs.YtbeoijfmfkifeaaGreatDoor.Sx
namespace Go.Proofs.YtbeoijfmfkifeaaGreatDoor
open Go.RowKit Go.Shelf Sx
open Int renaming toNat_natCast->zm
open List renaming append_nil->zy, drop_eq_getElem_cons->jq, filter_append->xg, filter_cons_of_neg->yh, filter_eq_self->yi, filter_nil->jx, getElem?_set->zb, length_map->jg, length_set->zf, length_take->zh, replicate->qo, take_length->qc, take_succ_eq_append_getElem->qm
open Nat renaming mul_le_mul_right->jb
section
variable {P:Program}
theorem Pb [Tabs P] {f:FuncId} {n:Nat} {ss:List SRes} {fn:Func} {c:Code} (h1:P.funcs[f]? = some fn) (h2:fn.body=some c) (h3:fn.ntmps=n) (h4:fn.results.toList.mapM (FB P)=some ss) {args:List AV} {objs:List OB} {K:List OB->AV->Prop}
  (h:∀(C:Cx) [On P C],WP P C c (Ic ss K) objs (args++qo (n - args.length) (.o undef))):Ai P f args objs K:=by
 intro C hOn G I w hin hm ys hd
 let C':Cx:=⟨C.w,C.own,I,G⟩
 haveI hOn':On P C':=⟨hOn.tab,hOn.own⟩
 have hwp:=h C';have hlen:=hd.length;have hrel:C1 C' objs (args++qo (n - args.length) (.o undef)) { tmps:=ys.toArray++Array.replicate (fn.ntmps - ys.toArray.size) undef,defers:=[] } w:=by
  refine⟨G,I,⟨hin.os,hin.tape,hin.output,hin.size,hin.block,fun _ _ _ h=>h,fun _ _ _ h=>.inl h,hin.blk,Gh.le.refl G⟩,hm,?_,rfl⟩;simp only[Array.toList_append,Array.toList_replicate,h3,List.size_toArray];refine Ac.append hd ?_;rw[hlen];have:∀k,Ac G I (qo k (.o undef)) (qo k undef):=by
   intro k
   induction k with
   | zero=>exact Ac.nil
   | succ k ih=>exact Ac.cons (by simp[Ab]) ih
  exact this _
 refine calls_of_wp h1 h2 (wp_mono (hwp _ _ hrel) ?_);rintro e a' w' ⟨objs',tm',hk,G',I',hin',hm',hd',hdef⟩;have key:Fy ss K objs' tm' ->
   a'.defers=[]/\∃v,(results fn a'.tmps).run P w'=.ok v w'/\∃y objs'' r G'' I'',Ending.returned v=.returned y/\K objs'' r/\G.le G''/\Ak.le I I''/\In C G'' I'' w'/\MemOk G'' I'' objs'' w'/\Ab G'' I'' r y:=by
  intro hk;unfold Fy at hk
  split at hk
  ·rename_i xs hxs;obtain⟨y,hy,hyd⟩:=Of (P:=P) (fn:=fn) hm' hd' ss xs h4 hxs;refine⟨hdef,y,hy,y,objs',_,G',I',rfl,hk,hin'.gh,hin'.imm,⟨hin'.os,hin'.tape,hin'.output,hin'.size,hin'.block,fun g o v hi=>hin'.imm g o v (hin.imm g o v hi),fun g o v hi=>?_,hin'.blk,hin.gh.trans hin'.gh⟩,hm',hyd⟩;rcases hin'.news g o v hi with h|h
   ·exact hin.news g o v h
   ·exact .inr h
  ·exact hk.elim
 cases e with
 | normal=>exact key hk
 | ret=>exact key hk
 | _=>exact hk.elim
theorem gF {cs:Array Value} (h:∀v∈cs.toList,v.oneCell'=true) (n:Nat):∀v∈(Builtin.zeroCells cs n).toList,v.oneCell'=true:=by
 intro v hv;simp only[Builtin.zeroCells,Array.toList_map,Array.toList_range,List.mem_map,List.mem_range] at hv;obtain⟨i,hi,rfl⟩:=hv;have h0:0<cs.size:=by
  rcases Nat.eq_zero_or_pos cs.size with h|h
  ·rw[h,Nat.mul_zero] at hi;omega
  ·exact h
 have hlt:=Nat.mod_lt i h0;rw[getElem!_pos cs _ hlt];exact h _ (Array.getElem_mem_toList hlt)
theorem O5 (G:Gh) (I:Ak):∀zs:List Value,Ac G I (zs.map .o) zs
 | []=>Ac.nil
 | z::zs=>Ac.cons (by simp[Ab]) (O5 G I zs)
theorem XY [Tabs P] {C:Cx} [On P C] {K:Bb} {objs:List OB} {tm:List AV} {id:Nat} {o1 o2 o3 o4:Oper} {T E:TypeId} {i:TypeInfo} (hu:P.underlying T=some (.slice E)) (hi:P.info? E=some i)
  (z:Value) (hv:∀w,(zeroValue E).run P w=.ok z w) (hzs:z.cells.size=i.size) (hz1:∀v∈z.cells.toList,v.oneCell'=true) (his:0<i.size)
  (a1:o1.op=.move (.tmp 0)/\o1.dst=some 36/\o1.guard=none) (a2:o2.op=.move (.tmp 5)/\o2.dst=some 37/\o2.guard=none)
  (a3:o3.op=.slice T (.tmp 36) (some (.tmp 37)) none none/\o3.dst=some 38/\o3.guard=none) (a4:o4.op=.call { callee:=.builtin .clear,args:=#[.tmp 38],argTypes:=#[T] }/\o4.dst=none/\o4.guard=none)
  {b gen n j:Nat} {xs:List AV} (hx:tm[0]? = some (.orow b gen)) (hy:tm[5]? = some (.i .i64 j)) (hb:objs[b]? = some (.orow E i.size gen n xs)) (hj:j<n) (hlen:39<=tm.length)
  (h:∀vs:List AV,vs.length=(n - j)*i.size->K .normal (objs.set b (.orow E i.size gen n (xs.take (j*i.size)++vs))) (((tm.set 36 (.orow b gen)).set 37 (.i .i64 j)).set 38 .u)) :
  WP P C (.region id #[o1,o2,o3,o4] false) K objs tm:=by
 intro a w hr;refine wp_region_list ?_;obtain⟨G,I,hin,hm,hd,hdef⟩:=hr;have e1:=Aq hd (.tmp 0);rw[show (Ad (.tmp 0)).ev tm=.orow b gen from by simp[Ad,SV.ev,hx]] at e1;have hd1:=EV hd e1 (some 36);have e2:=Aq hd1 (.tmp 5);rw[show (Ad (.tmp 5)).ev (AD tm (some 36) (.orow b gen))=.i .i64 j from by simp[Ad,SV.ev,AD,zb,hy]] at e2;have hd2:=EV hd1 e2 (some 37);have t36:(Ad (.tmp 36)).ev (AD (AD tm (some 36) (.orow b gen)) (some 37) (.i .i64 j))=.orow b gen:=by
  simp[Ad,SV.ev,AD,zb,show 36<tm.length by omega]
 have t37:(Ad (.tmp 37)).ev (AD (AD tm (some 36) (.orow b gen)) (some 37) (.i .i64 j))=.i .i64 j:=by
  simp[Ad,SV.ev,AD,zb,show 37<tm.length by omega]
 have f36:=Aq hd2 (.tmp 36);have f37:=Aq hd2 (.tmp 37);rw[t36] at f36;rw[t37] at f37;simp only[Ab] at f36 f37;obtain⟨g',v,k1,k2,k3,_⟩:=f36;obtain⟨v',ys,m1,m2,m3,m4,m5⟩:=hm.row b _ _ gen n xs hb;have hcur:=m1;rw[k1] at m1;injection m1 with m1;injection m1 with m1 m6
 have hv36:=k3 m1.symm;have m1':=m1.symm;subst m1' m6;have hvl:=m2.1;have hxl:=m3.length;rcases m2.2 with ⟨rfl,hn0⟩|⟨g,cap,cur,rfl,q3,q4,q5,q6,q7,q8⟩
 ·omega
 have hjs:(j+1)*i.size<=n*i.size:=jb _ hj;rw[Nat.succ_mul] at hjs;have hnc:n*i.size<=cap*i.size:=jb _ q5;have q1:=run_sliceBound (P:=P) w .i64 j n .sliceB (by omega) (by omega);have hrun:(Instr.sliceAt T (.slice (some ⟨g,0,none⟩) n cap) (some (.int .i64 j)) none none).run P w=.ok (.slice (some ⟨g,j*i.size,none⟩) (n - j) (cap - j)) w:=by
  simp[Instr.sliceAt,Instr.slice,run_underlying hu,Instr.sliceBounds,q1,sizeOf,typeInfo,hi,show ¬cap=j by omega,B9]
 have hd3:=EV (v:=.o (.slice (some ⟨g,j*i.size,none⟩) (n - j) (cap - j))) hd2 (by simp[Ab];rfl) (some 38);have hd3':=EV (v:=.u) (y:=.slice (some ⟨g,j*i.size,none⟩) (n - j) (cap - j)) hd2 (by simp[Ab]) (some 38);have f38:=Aq hd3 (.tmp 38);rw[show (Ad (.tmp 38)).ev (AD (AD (AD tm (some 36) (.orow b gen)) (some 37) (.i .i64 j)) (some 38) (.o (.slice (some ⟨g,j*i.size,none⟩) (n - j) (cap - j))))=.o (.slice (some ⟨g,j*i.size,none⟩) (n - j) (cap - j)) from by
  simp[Ad,SV.ev,AD,zb,show 38<tm.length by omega]] at f38
 simp only[Ab] at f38;obtain⟨zs,hzs'⟩:∃zs,zs=(Builtin.zeroCells z.cells (n - j)).toList:=⟨_,rfl⟩;have hzl:zs.length=(n - j)*i.size:=by rw[hzs',Array.length_toList,OA,hzs]
 have hzo:∀u∈zs,u.oneCell'=true:=by rw[hzs'];exact gF hz1 _
 have hmul:(n - j)*i.size=n*i.size - j*i.size:=Nat.sub_mul _ _ _;have hcs:cur.size=cap*i.size:=q7;have hclear:=SR (P:=P) w T E o4.type z hu hv zs (n - j) g (j*i.size) (cap - j) (by omega) hzs'.symm hzo (fun t ht=>by
  have:j*i.size+t<cur.size:=by omega
  simp[World.cell?,q4,this]) (fun t ht=>by simp[World.frozen?,q4])
 obtain⟨hin',hm'⟩:=PK hin hm b g (j*i.size) E i.size gen n cap xs (zs.map .o) zs hb hcur (O5 G I zs) hzo (by rw[jg,hzl,hxl,hvl];omega);have hsp:Cv xs (j*i.size) (zs.map .o)=xs.take (j*i.size)++zs.map .o:=by
  unfold Cv;rw[jg,hzl,List.drop_eq_nil_of_le (by rw[hxl,hvl];omega),zy]
 rw[hsp] at hm';have hK:=h (zs.map .o) (by rw[jg,hzl]);unfold wpList;rw[if_pos (by simp[Region.wanted,a1.2.2])];refine .inl (CK (w':=w) (by unfold execOp;rw[a1.1];rfl) ?_);rw[a1.2.1];unfold wpList;rw[if_pos (by simp[Region.wanted,a2.2.2])];refine .inl (CK (w':=w) (by unfold execOp;rw[a2.1];rfl) ?_);rw[a2.2.1];unfold wpList;rw[if_pos (by simp[Region.wanted,a3.2.2])];refine .inl (CK (w':=w) (y:=.slice (some ⟨g,j*i.size,none⟩) (n - j) (cap - j)) (by unfold execOp;rw[a3.1];simp[f37,hv36,hrun]) ?_);rw[a3.2.1];unfold wpList;rw[if_pos (by simp[Region.wanted,a4.2.2])];refine .inl (CK (w':=w.setCells g (j*i.size) zs) (y:=.tuple #[]) ?_ ?_)
 ·unfold execOp;rw[a4.1];simp only[resolve,invoke,builtin,Sem.run_bind,Sem.run_pure,Result.andThen_ok,List.map_toArray,List.map_cons,List.map_nil,f38];rw[hclear];rfl
 ·rw[a4.2.1];unfold wpList;exact⟨_,_,hK,G,I,hin',hm',hd3',hdef⟩
end
section
attribute [local irreducible] run
section
variable {P:Program} [Tabs P] {C:Cx} [On P C]
theorem GM {x y:Code} {sx:SCode} (hx:By P x=some sx) {K:Bb} {objs:List OB} {tm:List AV} (J:List OB->List AV->Prop) (h:run P C [.code sx] objs tm (D9 J K)) (hy:∀o t,J o t->WP P C y K o t):WP P C (.seq x y) K objs tm :=
 WP.seq (WP.mono (fun e o t g=>by
  cases e
  ·exact hy _ _ g
  all_goals first|exact g.elim|exact g) (XN h x hx))
omit [Tabs P] [On P C] in
theorem Gn (J:List OB->List AV->Prop) (K:Bb) (o:List OB) (t:List AV):D9 J K .normal o t=J o t:=Eq.trans rfl rfl
omit [Tabs P] [On P C] in
theorem Vx (J:List OB->List AV->Prop) (K:Bb) (o:List OB) (t:List AV):D9 J K .ret o t=K .ret o t:=Eq.trans rfl rfl
end
def DC (q:Nat) (objs o:List OB):Prop:=∀b Y,b≠q->objs[b]? = some Y->o[b]? = some Y
theorem DC.refl (q:Nat) (objs:List OB):DC q objs objs:=fun _ _ _ h=>h
theorem DC.app {q:Nat} {objs o:List OB} (h:DC q objs o) (X:OB):DC q objs (o++[X]):=fun b Y hb hY=>BA (h b Y hb hY)
theorem DC.set {q:Nat} {objs o:List OB} (h:DC q objs o) (X:OB):DC q objs (o.set q X):=fun b Y hb hY=>DK (h b Y hb hY) (fun e=>hb e.symm)
abbrev L1 (now:Int):OB:=.box 31 [.i .u64 now]
theorem RZ:Gr Tryz.prog 43:=⟨_,Tryz.func43,by kernel_rfl,of_decide_eq_true (by kernel_rfl)⟩
section
variable [Tabs Tryz.prog] {objs:List OB} {K:List OB->AV->Prop}
theorem Pa {now:Int} {c:Nat} (e:GE) (hc:objs[c]? = some (L1 now)) (hk:K (objs++[Bv e]) (.b (!AZ now e))):Ai Tryz.prog 43 [.agg (gc e),.p c 0] objs K:=by
 refine CE iZ fun C _=>?_;rw[Ut];have hc2:(objs++[Bv e])[c]? = some (L1 now):=BA hc;have e1:AV.agg (gc e)=AV.agg (Dj e):=rfl;rw[e1];simp only[Aa,simprocAttr,Bd,BX,hc2];have e2:decide (e.ex<=now)=!AZ now e:=by
  unfold AZ
  by_cases h:now<e.ex
  ·rw[decide_eq_true h,decide_eq_false (by omega)];rfl
  ·rw[decide_eq_false h,decide_eq_true (by omega)];rfl
 rw[e2];exact hk
theorem nV {now:Int} {c q gen:Nat} (L:List GE) (hn:L.length<=1000) (hqc:q≠c) (hc:objs[c]? = some (L1 now)) (hq:objs[q]? = some (.orow 43 14 gen L.length (Ar L)))
  (h1:∀o,DC q objs o->o[q]? = some (.orow 43 14 gen L.length (Ar L))->(∀e∈L,AZ now e=true)->K o (.i .i64 (-1)))
  (h2:∀o i,DC q objs o->o[q]? = some (.orow 43 14 gen L.length (Ar L))->(∀e∈L.take i,AZ now e=true)->(h:i<L.length)->AZ now L[i]=false->K o (.i .i64 i)) :
  Ai Tryz.prog 64 [.orow q gen,.fn 43 [] [.p c 0]] objs K:=by
 have hel:=Dv L;refine CE Vd fun C _=>?_;rw[OJ];refine Ae fun Y hY=>?_;simp only[Aa,simprocAttr];subst hY;refine Ae fun Y hY=>?_;refine Ae fun X hX=>?_;simp only[Aa,simprocAttr,hq];subst hX;simp only[Aa,simprocAttr];refine BI (fun m o tm=>∃i:Nat,m=L.length - i/\i<=L.length/\DC q objs o/\o[q]? = some (.orow 43 14 gen L.length (Ar L))/\(∀e∈L.take i,AZ now e=true)/\tm.length=19/\tm[0]? = some (.orow q gen)/\tm[1]? = some (.fn 43 [] [.p c 0])/\tm[7]? = some (.i .i64 L.length)/\tm[8]? = some (.i .i64 i)) L.length ⟨0,rfl,Nat.zero_le _,DC.refl _ _,hq,by simp,rfl,rfl,rfl,rfl,rfl⟩ ?_;rintro m N tm ⟨i,rfl,hi,hN,hNq,hno,hlen,t0,t1,t7,t8⟩;have hNc:=hN c _ (fun e=>hqc e.symm) hc;refine Ae fun Z hZ=>?_
 by_cases hlt:i<L.length
 ·have hlt':(i:Int)<(L.length:Int):=by omega
  have a1:=Hd L _ hlt;have hnx:AZ now L[i]=true->∀e∈L.take (i+1),AZ now e=true:=by
   intro h0 e he;rw[qm hlt] at he;rcases List.mem_append.1 he with h|h
   ·exact hno e h
   ·rw[List.mem_singleton.1 h];exact h0
  have h2i:=fun o a b=>h2 o i a b hno hlt;generalize hE:L[i]=e at *;simp only[Aa,simprocAttr,zb,hlen,t7,t8,hlt'];subst hZ;refine Ae fun Z hZ=>?_;simp only[Aa,simprocAttr,zb,hlen,t7,t8,hlt'];subst hZ;refine Ae fun Z hZ=>?_;rw[C6];refine Ae fun X hX=>?_;simp only[Aa,simprocAttr,zb,hlen,t7,t8];subst hX;refine Ae fun X hX=>?_;simp only[Aa,simprocAttr,zb,hlen,t0,t1,t7,t8,hNq,zm,a1];refine⟨by omega,by omega,?_⟩;refine He RZ (Pa e hNc ?_);have hM:=hN.app (Bv e);have hMq:=BA (X:=Bv e) hNq;generalize N++[Bv e]=M at hM hMq ⊢
  cases hk:AZ now e with
  | false=>
   simp only[Aa,simprocAttr,zb,hlen,t0,t1,t7,t8,Bool.not_false];subst hX;simp only[Aa,simprocAttr,zb,hlen,t0,t1,t7,t8];exact h2i M hM hMq hk
  | true=>
   simp only[Aa,simprocAttr,zb,hlen,t0,t1,t7,t8,Bool.not_true];subst hX;simp only[Aa,simprocAttr,zb,hlen,t0,t1,t7,t8];subst hZ;simp only[Aa,simprocAttr,zb,zf,hlen,t0,t1,t7,t8];exact⟨by omega,L.length - (i+1),by omega,i+1,rfl,by omega,hM,hMq,hnx hk,rfl⟩
 ·have hlt':¬(i:Int)<(L.length:Int):=by omega
  obtain rfl:i=L.length:=by omega
  rw[qc] at hno;simp only[Aa,simprocAttr,zb,hlen,t7,t8,hlt'];subst hZ;subst hY;simp only[Aa,simprocAttr,zb,hlen,t7,t8,hlt'];exact h1 N hN hNq hno
def OX:SCode:=.reg [⟨some 4,.mv (.c .nil),none⟩]
def OW:SCode:=.reg [⟨some 8,.mv (.t 0),none⟩,⟨some 9,.mv (.t 1),none⟩,⟨some 10,.call 64 [.t 8,.t 9],none⟩,⟨some 5,.mv (.t 10),none⟩]
def OV:SCode:=.seq (.reg [⟨some 11,.mv (.t 5),none⟩,⟨some 12,.bin .eql (.t 11) (.c (.i .i64 (-1))),none⟩]) (.cond (.t 12) (.seq (.reg [⟨some 13,.mv (.t 0),none⟩,⟨some 4,.mv (.t 13),none⟩]) .ret) .skip)
def VC:SCode:=.seq (.reg [⟨some 14,.mv (.t 5),none⟩,⟨some 15,.bin .add (.t 14) (.c (.i .i64 1)),none⟩,⟨some 6,.mv (.t 15),none⟩])
 (.blk 0
  (.loop
  (.seq (.seq (.reg [⟨some 16,.mv (.t 6),none⟩,⟨some 17,.mv (.t 0),none⟩,⟨some 18,.lenr (.t 17),none⟩,⟨some 19,.bin .lss (.t 16) (.t 18),none⟩]) (.cond (.t 19) .skip (.exit 0)))
  (.seq (.blk 1
   (.seq (.reg [⟨some 22,.mv (.t 0),none⟩,⟨some 23,.mv (.t 6),none⟩,⟨some 24,.iad 14 (.t 22) (.t 23),none⟩,⟨some 25,.loadn 14 (.t 24),none⟩,
    ⟨some 7,.alloc 43 [.i .i64 0,.i .i64 0,.s [],.s [],.i .i64 0,.i .i64 0,.s [],.s [],.i .i64 0,.b false,.i .u64 0,.nil,.i .u64 0,.i .u64 0],none⟩,⟨none,.store 14 (.t 7) (.t 25),none⟩])
   (.seq (.reg [⟨some 26,.mv (.t 1),none⟩,⟨some 27,.loadn 14 (.t 7),none⟩,⟨some 28,.callv (.t 26) [.t 27],none⟩,⟨some 29,.not (.t 28),none⟩])
   (.cond (.t 29)
   (.seq (.reg [⟨some 30,.mv (.t 0),none⟩,⟨some 31,.mv (.t 5),none⟩,⟨some 32,.loadn 14 (.t 7),none⟩,⟨some 33,.iad 14 (.t 30) (.t 31),none⟩,⟨none,.store 14 (.t 33) (.t 32),none⟩])
   (.reg [⟨some 34,.mv (.t 5),none⟩,⟨some 35,.bin .add (.t 34) (.c (.i .i64 1)),none⟩,⟨some 5,.mv (.t 35),none⟩]))
   .skip))))
  (.reg [⟨some 20,.mv (.t 6),none⟩,⟨some 21,.bin .add (.t 20) (.c (.i .i64 1)),none⟩,⟨some 6,.mv (.t 21),none⟩])))))
def VB:SCode:=.reg [⟨some 39,.mv (.t 0),none⟩,⟨some 40,.mv (.t 5),none⟩,⟨some 41,.trn 14 (.t 39) (.t 40),none⟩,⟨some 4,.mv (.t 41),none⟩]
omit [Tabs Tryz.prog] in
theorem Vt:∃(fn:Func) (c0 c1 c2 c3 c4:Code) (o1 o2 o3 o4:Oper),Tryz.prog.funcs[42]? = some fn/\fn.body=some (.seq c0 (.seq c1 (.seq c2 (.seq c3 (.seq (.region 11 #[o1,o2,o3,o4] false) (.seq c4 .ret))))))/\fn.ntmps=42/\fn.results.toList.mapM (FB Tryz.prog)=some [.tmp 4] /\
  By Tryz.prog c0=some OX/\By Tryz.prog c1=some OW/\By Tryz.prog c2=some OV/\By Tryz.prog c3=some VC/\By Tryz.prog c4=some VB /\
  (o1.op=.move (.tmp 0)/\o1.dst=some 36/\o1.guard=none)/\(o2.op=.move (.tmp 5)/\o2.dst=some 37/\o2.guard=none)/\(o3.op=.slice 22 (.tmp 36) (some (.tmp 37)) none none/\o3.dst=some 38/\o3.guard=none) /\
  (o4.op=.call { callee:=.builtin .clear,args:=#[.tmp 38],argTypes:=#[22] }/\o4.dst=none/\o4.guard=none) :=
 ⟨_,_,_,_,_,_,_,_,_,_,Tryz.func42,rfl,rfl,by kernel_rfl,by kernel_rfl,by kernel_rfl,by kernel_rfl,by kernel_rfl,by kernel_rfl,⟨rfl,rfl,rfl⟩,⟨rfl,rfl,rfl⟩,⟨rfl,rfl,rfl⟩,⟨rfl,rfl,rfl⟩⟩
omit [Tabs Tryz.prog] in
theorem YS {W:List GE} {i:Nat} (h:i<W.length) (e:GE):(W.set i e).take (i+1)=W.take i++[e]:=by
 rw[qm (by rw[zf];exact h),List.getElem_set_self,List.take_set_of_le (Nat.le_refl _)]
theorem ZT {now:Int} {c q gen:Nat} (L:List GE) (hn:L.length<=1000) (hqc:q≠c) (hc:objs[c]? = some (L1 now)) (hq:objs[q]? = some (.orow 43 14 gen L.length (Ar L)))
  (hk:∀o gen',DC q objs o->o[q]? = some (.orow 43 14 gen' (L.filter (AZ now)).length (Ar (L.filter (AZ now))))->K o (.orow q gen')) :
  Ai Tryz.prog 42 [.orow q gen,.fn 43 [] [.p c 0]] objs K:=by
 obtain⟨fn,c0,c1,c2,c3,c4,o1,o2,o3,o4,h1,h2,h3,h4,p0,p1,p2,p3,p4,a1,a2,a3,a4⟩:=Vt;refine Pb h1 h2 h3 h4 fun C _=>?_;refine GM p0 (fun o t=>objs=o/\t.length=42/\t[0]? = some (.orow q gen)/\t[1]? = some (.fn 43 [] [.p c 0])) ?_ ?_
 ·unfold OX;simp only[Aa,simprocAttr,Gn]
  all_goals exact⟨rfl,rfl,rfl,rfl⟩
 rintro _ tm ⟨rfl,hlen,t0,t1⟩;refine GM p1 (fun o t=>DC q objs o/\o[q]? = some (.orow 43 14 gen L.length (Ar L))/\t.length=42/\t[0]? = some (.orow q gen)/\t[1]? = some (.fn 43 [] [.p c 0])/\((t[5]? = some (.i .i64 (-1))/\∀e∈L,AZ now e=true)\/∃i:Nat,t[5]? = some (.i .i64 i)/\∃h:i<L.length,(∀e∈L.take i,AZ now e=true)/\AZ now L[i]=false)) ?_ ?_
 ·unfold OW;simp only[Aa,simprocAttr,zb,hlen,t0,t1];refine Ag (nV L hn hqc hc hq (fun o k1 k2 k3=>?_) fun o i k1 k2 k3 hi k4=>?_)
  ·simp only[Aa,simprocAttr,Gn,zb,zf,hlen,t0,t1];exact⟨k1,k2,.inl k3⟩
  ·simp only[Aa,simprocAttr,Gn,zb,zf,hlen,t0,t1];exact⟨k1,k2,.inr ⟨i,rfl,hi,k3,k4⟩⟩
 clear hlen t0 t1;rintro o tm ⟨hK,hoq,hlen,t0,t1,h5⟩;refine GM p2 (fun o t=>DC q objs o/\o[q]? = some (.orow 43 14 gen L.length (Ar L))/\t.length=42/\t[0]? = some (.orow q gen)/\t[1]? = some (.fn 43 [] [.p c 0])/\∃i:Nat,t[5]? = some (.i .i64 i)/\∃h:i<L.length,(∀e∈L.take i,AZ now e=true)/\AZ now L[i]=false) ?_ ?_
 ·unfold OV;refine Ae fun X hX=>?_;rcases h5 with ⟨t5,hall⟩|⟨i,t5,hi,k3,k4⟩
  ·simp only[Aa,simprocAttr,zb,hlen,t0,t1,t5];subst hX;simp only[Aa,simprocAttr,Vx,zb,zf,hlen,t0,t1,t5];have e:=yi.2 hall;have:=hk o gen hK (by rw[e];exact hoq);exact this
  ·have hne:¬(i:Int)=-1:=by omega
   simp only[Aa,simprocAttr,zb,hlen,t0,t1,t5,hne];subst hX;simp only[Aa,simprocAttr,Gn,zb,zf,hlen,t0,t1,t5];exact⟨hK,hoq,i,rfl,hi,k3,k4⟩
 clear hK hoq hlen t0 t1 h5;rintro o tm ⟨hK,hoq,hlen,t0,t1,i0,t5,hi0,k3,k4⟩;refine GM p3 (fun o t=>DC q objs o/\t.length=42/\t[0]? = some (.orow q gen)/\∃(i:Nat) (W:List GE),t[5]? = some (.i .i64 i)/\i<L.length/\W.length=L.length/\W.take i=L.filter (AZ now)/\o[q]? = some (.orow 43 14 gen L.length (Ar W))) ?_ ?_
 ·unfold VC;refine Ae fun X hX=>?_;simp only[Aa,simprocAttr,zb,hlen,t5];refine⟨by omega,?_⟩;subst hX;rw[C6];refine BI (fun m o t=>∃(i j:Nat) (W:List GE),m=L.length - j/\j<=L.length/\i<j/\DC q objs o/\W.length=L.length/\W.take i=(L.take j).filter (AZ now)/\W.drop j=L.drop j/\o[q]? = some (.orow 43 14 gen L.length (Ar W))/\t.length=42/\t[0]? = some (.orow q gen)/\t[1]? = some (.fn 43 [] [.p c 0])/\t[5]? = some (.i .i64 i)/\t[6]? = some (.i .i64 j)) (L.length - (i0+1)) ⟨i0,i0+1,L,rfl,by omega,by omega,hK,rfl,?_,rfl,hoq,?_⟩ ?_
  ·rw[qm hi0,xg,yi.2 k3,yh (by rw[k4];decide),jx,zy]
  ·simp only[Aa,simprocAttr,zb,zf,hlen,t0,t1,t5]
   rfl
  clear hK hoq hlen t0 t1 t5 k3 k4 hi0 i0;rintro m N tm ⟨i,j,W,rfl,hj,hij,hN,hWl,hWt,hWd,hNq,hlen,t0,t1,t5,t6⟩;have hel:=Dv W;have hNc:=hN c _ (fun e=>hqc e.symm) hc;refine Ae fun Z hZ=>?_;refine Ae fun X hX=>?_
  by_cases hlt:j<L.length
  ·have hlt':(j:Int)<(L.length:Int):=by omega
   have hjW:j<W.length:=by omega
   have hWj:W[j]=L[j]:=by
    have h:=hWd;rw[jq hjW,jq hlt] at h;injection h
   have hWd':W.drop (j+1)=L.drop (j+1):=by
    have h:=hWd;rw[jq hjW,jq hlt] at h;injection h
   have a1:=Hj hjW;have hnx:(L.take (j+1)).filter (AZ now)=(L.take j).filter (AZ now)++if AZ now L[j]=true then [L[j]] else []:=by
    rw[qm hlt,xg]
    congr 1
    cases c:AZ now L[j]
    ·rw[if_neg Bool.false_ne_true,yh (by rw[c];decide),jx]
    ·rw[if_pos rfl,List.filter_cons_of_pos c,jx]
   rw[hWj] at a1;have hes:=fun e=>Qk (L:=W) (i:=i) (by omega) e;generalize hE:L[j]=e at *;simp only[Aa,simprocAttr,zb,hlen,t0,t6,hNq,hlt'];subst hX;simp only[Aa,simprocAttr,zb,hlen,t0,t6,hNq,hlt'];subst hZ;refine Ae fun Z hZ=>?_;rw[C6];refine Ae fun X hX=>?_;simp only[Aa,simprocAttr,zb,hlen,t0,t6,hNq,zm,a1,Bd,BX];refine⟨by omega,by omega,?_⟩;have hM:=hN.app (Bv e);have hMq:=BA (X:=Bv e) hNq;have hMc:=BA (X:=Bv e) hNc;have hMe:(N++[Bv e])[N.length]? = some (Bv e):=Bd _ _;generalize N++[Bv e]=M at hM hMq hMc hMe ⊢;subst hX;refine Ae fun X hX=>?_;simp only[Aa,simprocAttr,zb,hlen,t0,t1,t5,t6,hMe];refine He RZ (Pa e hMc ?_);have hR:=hM.app (Bv e);have hRq:=BA (X:=Bv e) hMq;have hRe:=BA (X:=Bv e) hMe;generalize M++[Bv e]=R at hR hRq hRe ⊢
   cases hk2:AZ now e with
   | false=>
    rw[hk2,if_neg Bool.false_ne_true,zy] at hnx;simp only[Aa,simprocAttr,zb,hlen,t0,t1,t5,t6,Bool.not_false,Bool.not_true];subst hX;simp only[Aa,simprocAttr,zb,hlen,t0,t1,t5,t6];subst hZ;simp only[Aa,simprocAttr,zb,zf,hlen,t0,t1,t5,t6];exact⟨by omega,L.length - (j+1),by omega,i,j+1,W,rfl,by omega,by omega,hR,hWl,by rw[hnx];exact hWt,hWd',hRq,rfl,rfl⟩
   | true=>
    rw[hk2,if_pos rfl] at hnx;simp only[Aa,simprocAttr,zb,hlen,t0,t1,t5,t6,Bool.not_false,Bool.not_true];subst hX;have hil:(i:Int)<(L.length:Int):=by omega
    simp only[Aa,simprocAttr,zb,hlen,t0,t1,t5,t6,hRe,hRq,zm];refine⟨by omega,by omega,by omega,?_⟩;rw[show List.take (i*14) (Ar W)++Dj e++List.drop (i*14+14) (Ar W)=Ar (W.set i e) from hes e];have hiW:i<W.length:=by omega
    subst hZ;simp only[Aa,simprocAttr,zb,zf,hlen,t0,t1,t5,t6];exact⟨by omega,L.length - (j+1),by omega,i+1,j+1,W.set i e,rfl,by omega,by omega,hR.set _,by rw[zf,hWl],by rw[YS hiW,hWt,hnx],by rw[List.drop_set_of_lt (by omega)];exact hWd',by rw[if_pos (CS hRq)],rfl,rfl⟩
  ·have hlt':¬(j:Int)<(L.length:Int):=by omega
   obtain rfl:j=L.length:=by omega
   rw[qc] at hWt;simp only[Aa,simprocAttr,zb,hlen,t0,t6,hNq,hlt'];subst hX;simp only[Aa,simprocAttr,zb,hlen,t0,t6,hNq,hlt'];simp only[Aa,simprocAttr,Gn,zb,zf,hlen,t0,t1,t5,t6];exact⟨hN,i,W,rfl,hij,hWl,hWt,hNq⟩
 clear hK hoq hlen t0 t1 t5 k3 k4;rintro o tm ⟨hK,hlen,t0,i,W,t5,hi,hWl,hWt,hoq⟩;obtain⟨i00,z,hi00,hz0,hzs,hs0,_⟩:=Tryz.infoE2;have t22:Tryz.prog.underlying 22=some (.slice 43):=by kernel_rfl
 refine WP.seq (XY t22 hi00 z (fun w=>by simp[zeroValue,typeInfo,hi00,hz0]) (by rw[hzs,hs0]) ?_ (by rw[hs0];decide) a1 a2 a3 a4 t0 t5 (by rw[hs0];exact hoq) hi (by omega) fun vs hvs=>?_)
 ·have h:(Tryz.prog.info? 43).bind (·.zero)=some z:=by rw[hi00];exact hz0
  have h2:((Tryz.prog.info? 43).bind (·.zero)).map (fun z=>z.cells.toList.all (·.oneCell'))=some true:=by kernel_rfl
  rw[h,Option.map_some,Option.some.injEq,List.all_eq_true] at h2;exact h2
 rw[hs0] at hvs ⊢;rw[Gn];have hel:=Dv W;have hi14:(i+1)*14<=W.length*14:=jb _ (by omega);have htk:(List.take (i*14) (Ar W)++vs).take (i*14)=Ar (L.filter (AZ now)):=by
  rw[List.take_left' (by rw[zh,hel];omega),KZ,hWt]
 have hil:i=(L.filter (AZ now)).length:=by rw[<-hWt,zh];omega
 have hset:=F9 (X:=.orow 43 14 gen L.length (List.take (i*14) (Ar W)++vs)) hoq;have hK2:=hK.set (.orow 43 14 gen L.length (List.take (i*14) (Ar W)++vs));generalize o.set q (.orow 43 14 gen L.length (List.take (i*14) (Ar W)++vs))=N at hset hK2 ⊢;refine GM p4 (fun o t=>∃gen',DC q objs o/\o[q]? = some (.orow 43 14 gen' (L.filter (AZ now)).length (Ar (L.filter (AZ now))))/\t[4]? = some (.orow q gen')) ?_ ?_
 ·unfold VB;have hi':(i:Int)<=(L.length:Int):=by omega
  simp only[Aa,simprocAttr,zb,zf,hlen,t0,t5,hset,zm];refine⟨by omega,?_⟩;rw[Gn];refine⟨gen+1,hK2.set _,?_,?_⟩
  ·rw[F9 hset,htk,<-hil]
  ·rw[List.getElem?_set_self (by simp only[zf,hlen];decide)]
 rintro o tm ⟨gen',k1,k2,t4⟩;refine WP.ret ?_;have:=hk o gen' k1 k2;simp only[Aa,simprocAttr,t4];exact this
end
end
end Go.Proofs.YtbeoijfmfkifeaaGreatDoor
namespace Go.Proofs.YtbeoijfmfkifeaaGreatDoor
open Go.RowKit Sx
open List renaming getElem?_set->zb, length_set->zf
section
attribute [local irreducible] run
section
variable [Tabs Tryz.prog] {objs:List OB} {K:List OB->AV->Prop}
theorem nW (f:AV) (hk:K objs (.i .i64 (-1))):Ai Tryz.prog 64 [.nil,f] objs K:=by
 refine CE Vd fun C _=>?_;rw[OJ];refine Ae fun Y hY=>?_;simp only[Aa,simprocAttr];subst hY;refine Ae fun Y hY=>?_;refine Ae fun X hX=>?_;simp only[Aa,simprocAttr];subst hX;simp only[Aa,simprocAttr];refine BI (fun m o tm=>o=objs/\tm.length=19/\tm[7]? = some (.i .i64 0)/\tm[8]? = some (.i .i64 0)) 0 ⟨rfl,rfl,rfl,rfl⟩ ?_;rintro m _ tm ⟨rfl,hlen,t7,t8⟩;refine Ae fun Z hZ=>?_;simp only[Aa,simprocAttr,zb,hlen,t7,t8];subst hZ;subst hY;simp only[Aa,simprocAttr,zb,hlen,t7,t8];exact hk
theorem ZU (f:AV) (hk:K objs .nil):Ai Tryz.prog 42 [.nil,f] objs K:=by
 obtain⟨fn,c0,c1,c2,c3,c4,o1,o2,o3,o4,h1,h2,h3,h4,p0,p1,p2,p3,p4,a1,a2,a3,a4⟩:=Vt;refine Pb h1 h2 h3 h4 fun C _=>?_;refine GM p0 (fun o t=>objs=o/\t.length=42/\t[0]? = some .nil/\t[1]? = some f) ?_ ?_
 ·unfold OX;simp only[Aa,simprocAttr,Gn]
 rintro _ tm ⟨rfl,hlen,t0,t1⟩;refine GM p1 (fun o t=>objs=o/\t.length=42/\t[0]? = some .nil/\t[5]? = some (.i .i64 (-1))) ?_ ?_
 ·unfold OW;simp only[Aa,simprocAttr,zb,hlen,t0,t1];refine Ag (nW f ?_);simp only[Aa,simprocAttr,Gn,zb,zf,hlen,t0,t1,and_self]
 clear hlen t0 t1;rintro _ tm ⟨rfl,hlen,t0,t5⟩;refine GM p2 (fun o t=>False) ?_ (fun o t h=>h.elim);unfold OV;refine Ae fun X hX=>?_;simp only[Aa,simprocAttr,zb,hlen,t0,t5];subst hX;simp only[Aa,simprocAttr,Vx,zb,zf,hlen,t0,t5];exact hk
theorem qT (cap now:Int) (L:List GE) (hn:L.length<=1000) (ht:∀x∈L,x.tr.length<=1000000) (hk:K objs (A5 cap (L.filter (AZ now)))):Ai Tryz.prog 23 [A5 cap L,.i .u64 now] objs K:=by
 have hel:=Dv L;have hpp:∀M:List GE,∀o,CR o 4 (Ar M)=some (Ar M):=fun M o=>KP o 4 _;refine Gt (A5 cap (L.filter (AZ now))) ?_;refine AI iF (by simp only[A5,AE,AV.plain,Dg,Bool.and_self]) fun C _=>?_;rw[Uo];refine Ae fun Y hY=>?_;simp only[A5,Aa,simprocAttr];subst hY;refine Ae fun Y hY=>?_;simp only[Aa,simprocAttr];refine Ag (Rk L (by omega) ht (fun hL=>?_) ?_)
 ·subst hL;simp only[Aa,simprocAttr];refine Ag (ZU _ ?_);simp only[Aa,simprocAttr];subst hY;simp only[Aa,simprocAttr];exact⟨fun G I y hy=>LU hy,hk⟩
 ·simp only[Aa,simprocAttr];refine Ag (ZT (now:=now) L hn (by decide) rfl rfl fun o gen' k1 k2=>?_);have b0:=k1 0 _ (by decide) rfl;have b2:=k1 2 _ (by decide) rfl;have l0:=CS b0;have l2:=CS b2;generalize L.filter (AZ now)=F at *;simp only[Aa,simprocAttr,b0];subst hY;simp only[hpp,Aa,simprocAttr,zb,zf,b0,b2,k2,l0,l2];exact⟨fun G I y hy=>hy,hk⟩
end
end
end Go.Proofs.YtbeoijfmfkifeaaGreatDoor
