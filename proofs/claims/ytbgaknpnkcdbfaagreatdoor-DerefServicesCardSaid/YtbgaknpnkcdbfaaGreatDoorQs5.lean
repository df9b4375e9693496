/- The texts that the proofs of these statements reach, in their order, as few files. -/
import Derived.KernelRfl
import Derived.Lib.LastIndexByte
import Derived.Lib.Replace
import Derived.Lib.CountLaws
import Derived.Lib.Join
import Derived.Test.YtbgaknpnkcdbfaaGreatDoorProg
import Derived.Test.YtbgaknpnkcdbfaaGreatDoorQs4
set_option linter.unusedVariables false
set_option linter.unusedSimpArgs false
set_option maxRecDepth 100000
namespace Go.Proofs.YtbgaknpnkcdbfaaGreatDoor
open Go.RowKit Sx
open Int renaming toNat_natCast->zt
open Lib renaming hasPrefix->zj
open List renaming Perm->jf, cons_append->ja, drop_drop->jo, getD_eq_getElem?_getD->jz, getElem?_append_left->qh, getElem?_eq_getElem->zk, getElem?_eq_none->qq, getElem?_eq_some_iff->zf, getElem?_map->je, getElem?_set->za, getElem?_set_ne->zo, getElem?_set_self->zm, length_append->zg, length_cons->zp, length_drop->zr, length_map->qk, length_nil->qd, length_set->zh, length_take->zq, map_cons->zl, map_nil->qa, mem_append->qc, mem_append_left->xi, mem_append_right->xo, mem_cons->zv, nodup_cons->xz, sublist_cons_self->jp, take_append_drop->xl, take_length->jh
open Nat renaming le_refl->ze, le_trans->qg, zero_le->zd
open Option renaming map_some->jt
section
attribute [local irreducible] run
mutual
def AY:JV->Prop
 | .mk k t ks its=>(Lit.int .i64 k).wf=true/\t.length<=140737488351232/\ks.length<=140737488351232/\(∀k∈ks,k.length<=140737488351232)/\its.length<=140737488351232/\B6 its
def B6:List JV->Prop
 | []=>True
 | v::l=>AY v/\B6 l
end
theorem RU:∀{l:List JV} (h:B6 l) {i:Nat} (hi:i<l.length),AY l[i]
 | a::l,h,0,hi=>by rw[B6] at h;exact h.1
 | a::l,h,i+1,hi=>by rw[B6] at h;exact RU h.2 (by simpa using hi)
theorem AY.its {v:JV} (h:AY v) {i:Nat} (hi:i<v.items.length):AY v.items[i]:=by
 cases v with
 | mk k t ks its=>rw[AY] at h;exact RU h.2.2.2.2.2 hi
theorem AY.lens {v:JV} (h:AY v):v.keys.length<=140737488351232/\v.items.length<=140737488351232/\v.text.length<=140737488351232/\∀k∈v.keys,k.length<=140737488351232:=by
 cases v with
 | mk k t ks its=>rw[AY] at h;exact⟨h.2.2.1,h.2.2.2.2.1,h.2.1,h.2.2.2.1⟩
mutual
/-- not too many keys and items, wherever -/
def Bo:JV->Prop
 | .mk k t ks its=>ks.length<=1099511627780/\its.length<=1099511627776/\BN its
def BN:List JV->Prop
 | []=>True
 | v::l=>Bo v/\BN l
end
theorem RQ:∀{l:List JV},(∀(i:Nat) (h:i<l.length),Bo l[i])->BN l
 | [],_=>by rw[BN];trivial
 | v::l,h=>by
  rw[BN];exact⟨h 0 (by simp),RQ fun i hi=>by have:=h (i+1) (by simpa using hi);simpa only[List.getElem_cons_succ] using this⟩
theorem Oc:∀{l:List JV} (h:BN l) {i:Nat} (hi:i<l.length),Bo l[i]
 | a::l,h,0,hi=>by rw[BN] at h;exact h.1
 | a::l,h,i+1,hi=>by rw[BN] at h;exact Oc h.2 (by simpa using hi)
theorem Bo.lens {v:JV} (h:Bo v):v.keys.length<=1099511627780/\v.items.length<=1099511627776:=by
 cases v;rw[Bo] at h;exact⟨h.1,h.2.1⟩
theorem Bo.its {v:JV} (h:Bo v) {i:Nat} (hi:i<v.items.length):Bo v.items[i]:=by
 cases v with
 | mk k t ks its=>rw[Bo] at h;exact Oc h.2.2 hi
theorem Bo.of {v:JV} (h1:v.keys.length<=1099511627780) (h2:v.items.length<=1099511627776) (h3:∀(i:Nat) (h:i<v.items.length),Bo v.items[i]):Bo v:=by
 cases v;rw[Bo];exact⟨h1,h2,RQ h3⟩
mutual
/-- short texts, not too many keys and items, wherever -/
def Dr:JV->Prop
 | .mk k t ks its=>ks.length<=1099511627780/\its.length<=1099511627776/\t.length<=300/\(∀k∈ks,k.length<=300)/\EY its
def EY:List JV->Prop
 | []=>True
 | v::l=>Dr v/\EY l
end
theorem RS:∀{l:List JV},(∀(i:Nat) (h:i<l.length),Dr l[i])->EY l
 | [],_=>by rw[EY];trivial
 | v::l,h=>by
  rw[EY];exact⟨h 0 (by simp),RS fun i hi=>by have:=h (i+1) (by simpa using hi);simpa only[List.getElem_cons_succ] using this⟩
theorem RR:∀{l:List JV} (h:EY l) {i:Nat} (hi:i<l.length),Dr l[i]
 | a::l,h,0,hi=>by rw[EY] at h;exact h.1
 | a::l,h,i+1,hi=>by rw[EY] at h;exact RR h.2 (by simpa using hi)
theorem Dr.lens {v:JV} (h:Dr v):v.keys.length<=1099511627780/\v.items.length<=1099511627776/\v.text.length<=300/\∀k∈v.keys,k.length<=300:=by
 cases v;rw[Dr] at h;exact⟨h.1,h.2.1,h.2.2.1,h.2.2.2.1⟩
theorem Dr.its {v:JV} (h:Dr v) {i:Nat} (hi:i<v.items.length):Dr v.items[i]:=by
 cases v with
 | mk k t ks its=>rw[Dr] at h;exact RR h.2.2.2.2 hi
theorem Dr.of {v:JV} (h1:v.keys.length<=1099511627780) (h2:v.items.length<=1099511627776) (h3:v.text.length<=300) (h4:∀k∈v.keys,k.length<=300) (h5:∀(i:Nat) (h:i<v.items.length),Dr v.items[i]):Dr v:=by
 cases v;rw[Dr];exact⟨h1,h2,h3,h4,RS h5⟩
mutual
theorem Dr.bd:∀{v:JV},Dr v->Bo v
 | .mk k t ks its,h=>by rw[Dr] at h;rw[Bo];exact⟨h.1,h.2.1,EY.bd h.2.2.2.2⟩
theorem EY.bd:∀{l:List JV},EY l->BN l
 | [],_=>by rw[BN];trivial
 | v::l,h=>by rw[EY] at h;rw[BN];exact⟨Dr.bd h.1,EY.bd h.2⟩
end
mutual
/-- no slice too long, wherever -/
def FE:JV->Prop
 | .mk k t ks its=>ks.length<=140737488351232/\its.length<=140737488351232/\F7 its
def F7:List JV->Prop
 | []=>True
 | v::l=>FE v/\F7 l
end
mutual
theorem AY.ln:∀{v:JV},AY v->FE v
 | .mk k t ks its,h=>by rw[AY] at h;rw[FE];exact⟨h.2.2.1,h.2.2.2.2.1,B6.ln h.2.2.2.2.2⟩
theorem B6.ln:∀{l:List JV},B6 l->F7 l
 | [],_=>by rw[F7];trivial
 | v::l,h=>by rw[B6] at h;rw[F7];exact⟨AY.ln h.1,B6.ln h.2⟩
end
mutual
theorem Bo.ln:∀{v:JV},Bo v->FE v
 | .mk k t ks its,h=>by rw[Bo] at h;rw[FE];exact⟨by omega,by omega,BN.ln h.2.2⟩
theorem BN.ln:∀{l:List JV},BN l->F7 l
 | [],_=>by rw[F7];trivial
 | v::l,h=>by rw[BN] at h;rw[F7];exact⟨Bo.ln h.1,BN.ln h.2⟩
end
theorem RT:∀{l:List JV} (h:F7 l) {i:Nat} (hi:i<l.length),FE l[i]
 | a::l,h,0,hi=>by rw[F7] at h;exact h.1
 | a::l,h,i+1,hi=>by rw[F7] at h;exact RT h.2 (by simpa using hi)
theorem FE.its {v:JV} (h:FE v) {i:Nat} (hi:i<v.items.length):FE v.items[i]:=by
 cases v with
 | mk k t ks its=>rw[FE] at h;exact RT h.2.2 hi
theorem FE.lens {v:JV} (h:FE v):v.keys.length<=140737488351232/\v.items.length<=140737488351232:=by
 cases v with
 | mk k t ks its=>rw[FE] at h;exact⟨h.1,h.2.1⟩
section
variable [Tabs Tryz.prog]
end
end
section
attribute [local irreducible] run
def DR (key:List UInt8):List (List UInt8)->Nat
 | []=>0
 | k::l=>if k=key then 0 else DR key l+1
theorem Kr {key:List UInt8}:∀{l:List (List UInt8)},DR key l<l.length->l[DR key l]? = some key
 | [],h=>by simp[DR] at h
 | k::l,h=>by
  unfold DR at h ⊢
  by_cases c:k=key
  ·rw[if_pos c,c];rfl
  ·rw[if_neg c] at h ⊢;simpa using Kr (l:=l) (by simpa using h)
theorem Oa {key:List UInt8}:∀{l:List (List UInt8)} {i:Nat},l[i]? = some key->DR key l<=i
 | [],i,h=>by simp at h
 | k::l,0,h=>by
  simp only[List.getElem?_cons_zero,Option.some.injEq] at h;unfold DR;rw[if_pos h];omega
 | k::l,i+1,h=>by
  unfold DR
  split
  ·omega
  ·have:=Oa (l:=l) (i:=i) (by simpa using h);omega
def An (v:JV) (key:List UInt8):JV×Bool :=
 if v.kind=7/\DR key v.keys<v.keys.length then (match v.items[DR key v.keys]? with|some x=>(x,true)|none=>(Cm,false)) else (Cm,false)
def CT (R:JV×Bool):AV:=.tup [.agg (AP R.1),.b R.2]
theorem OZ {v:JV} {key:List UInt8} (h:¬v.kind=7):An v key=(Cm,false):=by unfold An;rw[if_neg (fun k=>h k.1)]
theorem XB {v:JV} {key:List UInt8} {i:Nat} (h:v.kind=7) (hk:v.keys[i]? = some key) (hi:i<v.items.length) (hall:∀j,j<i->v.keys[j]?≠some key\/v.items.length<=j):An v key=(v.items[i],true):=by
 have hl:=(zf.1 hk).1;have h1:=Oa hk;have h2:DR key v.keys=i:=by
  rcases Nat.lt_or_ge (DR key v.keys) i with h3|h3
  ·have h4:=Kr (l:=v.keys) (key:=key) (by omega);rcases hall _ h3 with h5|h5
   ·exact absurd h4 h5
   ·omega
  ·omega
 unfold An;rw[if_pos ⟨h,by omega⟩,h2,zk hi]
theorem XC {v:JV} {key:List UInt8} (hall:∀j,j<v.keys.length->v.keys[j]?≠some key\/v.items.length<=j):An v key=(Cm,false):=by
 unfold An
 split
 ·rename_i h;have h4:=Kr h.2;rcases hall _ h.2 with h5|h5
  ·exact absurd h4 h5
  ·rw[qq h5]
 ·rfl
theorem Rx {b:Bool} {G:Gh} {I:Al} {y:Value} (h:Ab G I (.tup [.agg [.i .i64 0,.s [],.nil,.nil],.b b]) y):Ab G I (CT (Cm,b)) y:=by
 unfold CT Cm;rw[AP,EH];simp only[Ad,Ab] at h ⊢;obtain⟨ys,h1,y0,l0,rfl,⟨zs,rfl,⟨z0,m0,rfl,q0,z1,m1,rfl,q1,z2,m2,rfl,q2,z3,m3,rfl,q3,q4⟩,hz⟩,h2⟩:=h;refine⟨_,h1,_,_,rfl,⟨_,rfl,⟨_,_,rfl,q0,_,_,rfl,q1,_,_,rfl,?_,_,_,rfl,?_,q4⟩,hz⟩,h2⟩
 ·exact⟨none,0,[],q2,⟨ze _,fun ad h=>by cases h⟩,rfl,by simp,by simp⟩
 ·exact⟨none,0,[],q3,⟨ze _,fun ad h=>by cases h⟩,rfl,by simp,by simp⟩
theorem Li {P:Program} [Tabs P] {f:FuncId} {args:List AV} {objs:List OB} {K:List OB->AV->Prop} (r':AV) (hc:Ah P f args objs (fun o r=>(∀G I y,Ab G I r y->Ab G I r' y)/\K o r')):Ah P f args objs K:=by
 intro C _ G I w hin hm ys hd;refine(hc C G I w hin hm ys hd).mono ?_;rintro e w' ⟨y,objs',r,G',I',he,⟨hr,hk⟩,h1,h2,h3,h4,hy⟩;exact⟨y,objs',r',G',I',he,hk,h1,h2,h3,h4,hr _ _ _ hy⟩
section
variable [Tabs Tryz.prog] {objs:List OB} {K:List OB->AV->Prop}
theorem KU (v:JV) (key:List UInt8) (hv:AY v) (hk:K objs (CT (An v key))):Ah Tryz.prog 71 [.agg (AP v),.s key] objs K:=by
 obtain⟨l1,l2,l3,l4⟩:=hv.lens;refine Li (CT (An v key)) ?_;refine AF Vq (by simp only[AE,AV.plain,Dw,Bool.and_self]) fun C _=>?_;have fin:∀{o:List OB},An v key=(Cm,false)->((∀G I y,Ab G I (.tup [.agg [.i .i64 0,.s [],.nil,.nil],.b false]) y->Ab G I (CT (An v key)) y)/\K objs (CT (An v key))):=fun {o} h=>⟨fun G I y hy=>by rw[h];exact Rx hy,hk⟩;rw[PK];refine Ac fun Y hY=>?_;simp only[Aa,simprocAttr];have e0:OB.box 30 (AP v)=OB.box 30 [.i .i64 v.kind,.s v.text,.row v.keys.length (v.keys.map .s),.row v.items.length (Ak v.items)]:=by rw[AZ]
 rw[e0];subst hY;refine Ac fun Y hY=>?_
 by_cases c1:v.kind=7
 rotate_left
 ·simp only[Aa,simprocAttr,c1,decide_false,Bool.not_false];exact fin (o:=[]) (OZ c1)
 simp only[Aa,simprocAttr,c1,decide_true,Bool.not_true];subst hY;refine Ac fun Y hY=>?_;simp only[Aa,simprocAttr];refine B4 (fun n o tm=>∃i:Nat,i<=v.keys.length/\n=v.keys.length - i/\o=[OB.box 30 [.i .i64 7,.s v.text,.row v.keys.length (v.keys.map .s),.row v.items.length (Ak v.items)],OB.box 30 [.i .i64 0,.s [],.nil,.nil]]/\(∀j,j<i->v.keys[j]?≠some key\/v.items.length<=j)/\tm.length=38/\tm[1]? = some (.s key)/\tm[2]? = some (.p 0 0)/\tm[4]? = some (.p 1 0)/\tm[13]? = some (.i .i64 (v.keys.length:Int))/\tm[14]? = some (.i .i64 (i:Int))) v.keys.length ⟨0,zd _,rfl,rfl,fun j h=>by omega,rfl,rfl,rfl,rfl,rfl,rfl⟩ ?_;rintro n _ tm ⟨i,hi,rfl,rfl,hall,hlen,t1,t2,t4,t13,t14⟩;refine Ac fun Z hZ=>?_
 by_cases hlt:(i:Int)<(v.keys.length:Int)
 ·have hi':i<v.keys.length:=by omega
  have kv:(v.keys.map AV.s)[i*1]? = some (.s v.keys[i]):=by rw[Nat.mul_one,je,zk hi'];rfl
  have kv2:v.keys[i]? = some v.keys[i]:=zk hi';generalize v.keys[i]=x at kv kv2;simp only[Aa,simprocAttr,za,hlen,t1,t2,t4,t13,t14,hlt];subst hZ;refine Ac fun Z hZ=>?_;simp only[Aa,simprocAttr,za,hlen];subst hZ;refine Ac fun W hW=>?_;rw[DJ];refine Ac fun Z hZ=>?_;simp only[Aa,simprocAttr,za,hlen,t14];subst hZ;refine Ac fun Z hZ=>?_;have next:(x=key->v.items.length<=i)->∀j,j<i+1->v.keys[j]?≠some key\/v.items.length<=j:=by
   intro h j hj
   by_cases e:j=i
   ·subst e
    by_cases ex:x=key
    ·exact .inr (h ex)
    ·left;rw[kv2];intro h;injection h with h;exact ex h
   ·exact hall j (by omega)
  by_cases c2:x=key
  ·by_cases c3:(i:Int)<v.items.length
   ·have hi2:i<v.items.length:=by omega
    have hg:=XB c1 (by rw[kv2,c2]) hi2 hall;have jv:=FK hi2;have jvl:=Fy v.items;have hq:=AZ v.items[i];rw[hq] at jv;simp only[Aa,simprocAttr,za,hlen,t1,t2,kv,qk,c2,c3,decide_true];refine⟨by omega,?_⟩;subst hZ;simp only[Aa,simprocAttr,za,hlen,t1,t2,t4,jv];refine⟨by omega,by omega,?_⟩;simp only[pub,AV.plain,Hl,I0,Aa,simprocAttr];refine⟨fun G I y hy=>?_,hk⟩;rw[hg,CT,hq];exact hy
   ·simp only[Aa,simprocAttr,za,hlen,t1,t2,kv,qk,c2,c3,decide_true,decide_false];refine⟨by omega,?_⟩;subst hZ;simp only[Aa,simprocAttr,za,hlen,t1,t2,t4];subst hW;simp only[Aa,simprocAttr,za,hlen,t1,t2,t4,t13,t14];exact⟨by omega,v.keys.length - (i+1),by omega,i+1,by omega,rfl,next (fun _=>by omega),rfl⟩
  ·simp only[Aa,simprocAttr,za,hlen,t1,t2,kv,qk,c2,decide_false];refine⟨by omega,?_⟩;subst hZ;simp only[Aa,simprocAttr,za,hlen,t1,t2,t4];subst hW;simp only[Aa,simprocAttr,za,hlen,t1,t2,t4,t13,t14];exact⟨by omega,v.keys.length - (i+1),by omega,i+1,by omega,rfl,next (fun h=>absurd h c2),rfl⟩
 simp only[Aa,simprocAttr,za,hlen,t1,t2,t4,t13,t14,hlt];subst hZ;subst hY;simp only[Aa,simprocAttr,za,hlen,t1,t2,t4,t13,t14,hlt];exact fin (o:=[]) (XC fun j hj=>hall j (by omega))
theorem eI (ks:List (List UInt8)) (key:List UInt8) (hl:ks.length<=140737488351232) (hk:K objs (.i .i64 (if DR key ks<ks.length then (DR key ks:Int) else -1))):Ah Tryz.prog 124 [.row ks.length (ks.map .s),.s key] objs K:=by
 refine AF oR (by simp only[AE,AV.plain,Hl,Bool.and_self]) fun C _=>?_;rw[WO];refine Ac fun Y hY=>?_;simp only[Aa,simprocAttr];subst hY;refine Ac fun Y hY=>?_;simp only[Aa,simprocAttr];refine B4 (fun n o tm=>∃i:Nat,i<=ks.length/\n=ks.length - i/\o=[]/\(∀j,j<i->ks[j]?≠some key)/\tm.length=19/\tm[0]? = some (.row ks.length (ks.map .s))/\tm[1]? = some (.s key)/\tm[7]? = some (.i .i64 (ks.length:Int))/\tm[8]? = some (.i .i64 (i:Int))) ks.length ⟨0,zd _,rfl,rfl,fun j h=>by omega,rfl,rfl,rfl,rfl,rfl⟩ ?_;rintro n _ tm ⟨i,hi,rfl,rfl,hall,hlen,t0,t1,t7,t8⟩;refine Ac fun Z hZ=>?_
 by_cases hlt:(i:Int)<(ks.length:Int)
 ·have hi':i<ks.length:=by omega
  have kv:(ks.map AV.s)[i*1]? = some (.s ks[i]):=by rw[Nat.mul_one,je,zk hi'];rfl
  have kv2:ks[i]? = some ks[i]:=zk hi';generalize ks[i]=x at kv kv2;simp only[Aa,simprocAttr,za,hlen,t0,t1,t7,t8,hlt];subst hZ;refine Ac fun Z hZ=>?_;simp only[Aa,simprocAttr,za,hlen];subst hZ;refine Ac fun W hW=>?_;rw[DJ];refine Ac fun Z hZ=>?_;simp only[Aa,simprocAttr,za,hlen,t8];subst hZ;refine Ac fun Z hZ=>?_
  by_cases c2:key=x
  ·have h2:DR key ks=i:=by
    have h1:=Oa (key:=key) (l:=ks) (i:=i) (by rw[kv2,c2]);rcases Nat.lt_or_ge (DR key ks) i with h3|h3
    ·exact absurd (Kr (by omega)) (hall _ h3)
    ·omega
   rw[if_pos (by omega),h2] at hk;simp only[Aa,simprocAttr,za,hlen,t0,t1,kv,qk,c2,decide_true];refine⟨by omega,?_⟩;subst hZ;simp only[Aa,simprocAttr,za,hlen];exact hk
  ·simp only[Aa,simprocAttr,za,hlen,t0,t1,kv,qk,c2,decide_false];refine⟨by omega,?_⟩;subst hZ;simp only[Aa,simprocAttr,za,hlen];subst hW;simp only[Aa,simprocAttr,za,hlen,t0,t1,t7,t8];refine⟨by omega,ks.length - (i+1),by omega,i+1,by omega,rfl,fun j hj=>?_,rfl⟩
   by_cases e:j=i
   ·subst e;rw[kv2];intro h;injection h with h;exact c2 h.symm
   ·exact hall j (by omega)
 simp only[Aa,simprocAttr,za,hlen,t0,t1,t7,t8,hlt];subst hZ;subst hY;simp only[Aa,simprocAttr,za,hlen,t0,t1,t7,t8,hlt];rw[if_neg (fun h=>hall _ (by omega) (Kr h))] at hk;exact hk
end
end
open Nat renaming reduceAdd -> z6, reduceSub -> z7, reduceLeDiff -> z8, reduceLT -> j4, reduceMul -> j5, reduceEqDiff -> j6
open Int renaming reduceToNat -> j7, reduceAdd -> j8, reduceSub -> j9, reduceMul -> x0, reduceNeg -> x6, reduceLT -> x7, reduceLE -> x8, reduceEq -> x9, reduceNe -> y4
section
attribute [local irreducible] run
theorem TY {P:Program} [Tabs P] {f:FuncId} {objs:List OB} {K:List OB->AV->Prop} (h:∀b,Ah P f [.zn b] objs K):Ah P f [.row 0 []] objs K:=by
 intro C _ G I w hin hm ys hd;have hd':=hd;simp only[Ad,Ab] at hd';obtain⟨y,l,rfl,⟨a,c,cells,rfl,hq,hc⟩,hl⟩:=hd';refine h a.isNone C G I w hin hm _ ?_;simp only[Ad,Ab];exact⟨_,_,rfl,⟨a,c,by simp,rfl,by simpa using hq.2⟩,hl⟩
theorem aE {G:Gh} {I:Al} {y:Value} (h:Ab G I .nil y):Ab G I (.row 0 []) y:=by
 simp only[Ad,Ab] at h ⊢;exact⟨none,0,[],h,⟨ze _,fun ad h=>by cases h⟩,rfl,by simp,by simp⟩
theorem TM:∀(ks:List (List UInt8)) (o:List OB) (d:Nat),CC o (d+1) (ks.map AV.s)=some (ks.map AV.s)
 | [],o,d=>by simp only[qa,CC]
 | k::ks,o,d=>by simp only[zl,CC,pub,AV.plain,if_true,TM ks o d]
theorem RO:∀(l:List JV) (o:List OB) (d:Nat),CC o (d+1) (Ak l)=some (Ak l)
 | [],o,d=>by rw[EH];simp only[CC]
 | v::l,o,d=>by
  rw[FX,AZ];simp only[ja,List.nil_append,CC,pub,AV.plain,Hl,I0,if_true,RO l o d]
theorem XL {l:List JV} {i:Nat} (hi:i<l.length):List.take (i*4) (Ak l)++AP l[i]++List.drop (i*4+4) (Ak l)=Ak l:=by
 rw[<-FK hi,<-jo,List.append_assoc,xl,xl]
theorem X5 {a b c:AV} {G:Gh} {I:Al} {y:Value} (h:Ab G I (.agg [a,b,c,.nil]) y):Ab G I (.agg [a,b,c,.row 0 []]) y:=by
 simp only[Ab,Ad] at h ⊢;obtain⟨zs,rfl,⟨z0,m0,rfl,q0,z1,m1,rfl,q1,z2,m2,rfl,q2,z3,m3,rfl,q3,q4⟩,hz⟩:=h;exact⟨_,rfl,⟨_,_,rfl,q0,_,_,rfl,q1,_,_,rfl,q2,_,_,rfl,⟨none,0,[],q3,⟨ze _,fun ad h=>by cases h⟩,rfl,by simp,by simp⟩,q4⟩,hz⟩
section
variable [Tabs Tryz.prog] {objs:List OB} {K:List OB->AV->Prop}
theorem Z4 (ks:List (List UInt8)) (hl:ks.length<=1099511627780) (hk:K objs (.row ks.length (ks.map .s))):Ah Tryz.prog 166 [.row ks.length (ks.map .s)] objs K:=by
 cases ks with
 | nil=>
  refine TY fun b=>?_;refine Li (.row 0 []) ?_;refine AF WM rfl fun C _=>?_;rw[Qn]
  cases b with
  | true=>
   simp only[Aa,z6,z7,z8,j4,j5,j6,j7,j8,j9,x0,x6,x7,x8,x9,y4,reduceCtorEq,↓reduceIte,Bool.false_eq_true];exact⟨fun G I y hy=>aE hy,hk⟩
  | false=>
   simp only[Aa,z6,z7,z8,j4,j5,j6,j7,j8,j9,x0,x6,x7,x8,x9,y4,reduceCtorEq,↓reduceIte,Bool.false_eq_true];exact⟨by decide,fun G I y hy=>hy,hk⟩
 | cons k ks=>
  refine AF WM (by simp only[AE,AV.plain,Hl,Bool.and_self]) fun C _=>?_;rw[Qn];have hp:∀(o:List OB) (d:Nat),CC o (d+1) (ks.map AV.s)=some (ks.map AV.s):=fun o d=>TM ks o d;simp only[zl,Aa,z6,z7,z8,j4,j5,j6,j7,j8,j9,x0,x6,x7,x8,x9,y4,reduceCtorEq,↓reduceIte,hp,qk];simp only[zp] at hl;refine⟨by omega,⟨by omega,by omega,by omega⟩,?_⟩;rw[Nat.zero_add];exact hk
theorem Z5 (v:JV) (l:List JV) (hl:(v::l).length<=1099511627776) (hk:K (objs++[.orow 30 4 1 (v::l).length (Ak (v::l))]) (.orow objs.length 1)):Ah Tryz.prog 167 [.row (v::l).length (Ak (v::l))] objs K:=by
 have hjl:=Fy (v::l);have e0:Ak (v::l)=.i .i64 v.kind::(.s v.text::.row v.keys.length (v.keys.map .s)::.row v.items.length (Ak v.items)::Ak l):=by rw[FX,AZ];rfl
 generalize hX:AV.s v.text::.row v.keys.length (v.keys.map .s)::.row v.items.length (Ak v.items)::Ak l=X at e0;rw[e0] at hk hjl ⊢;generalize (v::l).length=n at hk hl hjl ⊢;refine DI WK fun C _=>?_;rw[Qo];simp only[Aa,z6,z7,z8,j4,j5,j6,j7,j8,j9,x0,x6,x7,x8,x9,y4,reduceCtorEq,↓reduceIte];refine⟨by omega,?_⟩;simp only[Aa,z6,z7,z8,j4,j5,j6,j7,j8,j9,x0,x6,x7,x8,x9,y4,reduceCtorEq,↓reduceIte,AG,BB];rw[Nat.zero_add];exact⟨⟨by simp only[zp] at hjl;omega,by omega,by omega⟩,hk⟩
theorem dA (h1:K objs .nil) (h2:K (objs++[.orow 30 4 1 0 []]) (.orow objs.length 1)):Ah Tryz.prog 167 [.row 0 []] objs K:=by
 refine TY fun b=>?_;refine DI WK fun C _=>?_;rw[Qo]
 cases b with
 | true=>
  simp only[Aa,z6,z7,z8,j4,j5,j6,j7,j8,j9,x0,x6,x7,x8,x9,y4,reduceCtorEq,↓reduceIte,Bool.false_eq_true];exact h1
 | false=>
  simp only[Aa,z6,z7,z8,j4,j5,j6,j7,j8,j9,x0,x6,x7,x8,x9,y4,reduceCtorEq,↓reduceIte,Bool.false_eq_true];refine⟨by decide,?_⟩;simp only[Aa,z6,z7,z8,j4,j5,j6,j7,j8,j9,x0,x6,x7,x8,x9,y4,reduceCtorEq,↓reduceIte,AG,BB];exact h2
theorem cZ:∀(m:Nat) (v:JV),v.size<m->Bo v->∀{objs:List OB} {K:List OB->AV->Prop},K objs (.agg (AP v))->Ah Tryz.prog 125 [.agg (AP v)] objs K:=by
 intro m
 induction m with
 | zero=>intro v h;omega
 | succ m ih=>
  intro v hm hv objs K hk;obtain⟨l1,l2⟩:=hv.lens;refine Li (.agg (AP v)) ?_;refine AF mR (by simp only[AE,AV.plain,Dw,Bool.and_self]) fun C _=>?_;rw[Wd];refine Ac fun Y hY=>?_;simp only[Aa,simprocAttr];have e0:OB.box 30 (AP v)=OB.box 30 [.i .i64 v.kind,.s v.text,.row v.keys.length (v.keys.map .s),.row v.items.length (Ak v.items)]:=by rw[AZ]
  rw[e0];subst hY;refine Ac fun Y hY=>?_;simp only[Aa,simprocAttr];refine Ae (Z4 v.keys l1 ?_);simp only[Aa,simprocAttr];subst hY;refine Ac fun Y hY=>?_;have tailA:∀tm:List AV,tm.length=30->tm[1]? = some (.p 0 0)->tm[2]? = some (.p 1 0)->run Tryz.prog C [.code Y] [OB.box 30 [.i .i64 v.kind,.s v.text,.row v.keys.length (v.keys.map .s),.orow 2 1],OB.box 30 [.i .i64 0,.s [],.nil,.nil],.orow 30 4 1 v.items.length (Ak v.items)] tm (Ip [.celln 2 4] fun r=>(∀G I y,Ab G I r y->Ab G I (.agg (AP v)) y)/\K objs (.agg (AP v))):=by
   intro tm hlen t1 t2;subst hY;refine Ac fun Y hY=>?_;simp only[Aa,simprocAttr,za,hlen,t1,t2];refine B4 (fun n o tm=>∃i:Nat,i<=v.items.length/\n=v.items.length - i/\o=[OB.box 30 [.i .i64 v.kind,.s v.text,.row v.keys.length (v.keys.map .s),.orow 2 1],OB.box 30 [.i .i64 0,.s [],.nil,.nil],.orow 30 4 1 v.items.length (Ak v.items)]/\tm.length=30/\tm[1]? = some (.p 0 0)/\tm[2]? = some (.p 1 0)/\tm[14]? = some (.i .i64 (v.items.length:Int))/\tm[15]? = some (.i .i64 (i:Int))) v.items.length ⟨0,zd _,rfl,rfl,?_⟩ ?_
   ·simp only[Aa,simprocAttr,zh,za,hlen,t1,t2,Int.cast_ofNat_Int,and_self]
   clear hlen t1 t2;rintro n _ tm ⟨i,hi,rfl,rfl,hlen,t1,t2,t14,t15⟩;refine Ac fun Z hZ=>?_
   by_cases hlt:(i:Int)<(v.items.length:Int)
   ·have hi':i<v.items.length:=by omega
    have hjc:=FK hi';have hjl:=Fy v.items;have hit:=hv.its hi';have hsz:=fP hi';have hcall:=fun {objs:List OB} {K:List OB->AV->Prop} (h:K objs (.agg (AP v.items[i])))=>ih v.items[i] (by omega) hit (objs:=objs) (K:=K) h;simp only[Aa,simprocAttr,za,hlen,t1,t2,t14,t15,hlt];subst hZ;refine Ac fun Z hZ=>?_;simp only[Aa,simprocAttr,za,hlen];subst hZ;refine Ac fun W hW=>?_;rw[DJ];refine Ac fun Z hZ=>?_;simp only[Aa,simprocAttr,za,hlen,t15];subst hZ;have hbk:=XL hi';have hcl:=MB v.items[i];simp only[Aa,simprocAttr,za,hlen,t1,hjc];refine⟨⟨by omega,by omega⟩,by omega,?_⟩;refine Dl (hcall ⟨rfl,rfl⟩) ?_;simp only[Aa,simprocAttr,za,hlen,t1,t2];refine⟨by omega,?_⟩;simp only[Aa,simprocAttr,za,hlen,t1,t2,hbk,hcl];refine⟨by omega,?_⟩;subst hW;simp only[Aa,simprocAttr,za,hlen,t1,t2,t14,t15];exact⟨by omega,v.items.length - (i+1),by omega,i+1,by omega,rfl,rfl⟩
   simp only[Aa,simprocAttr,za,hlen,t1,t2,t14,t15,hlt];subst hZ;subst hY;simp only[Aa,simprocAttr,za,hlen,t1,t2,t14,t15,hlt];simp only[Hl,RO,pub,Aa,simprocAttr];refine⟨fun G I y hy=>?_,hk⟩;rw[AZ];exact hy
  simp only[Aa,simprocAttr]
  cases hits:v.items with
  | nil=>
   rw[hits] at tailA;rw[EH] at tailA ⊢;refine dA ?_ ?_
   ·simp only[Aa,simprocAttr];subst hY;refine Ac fun Y hY=>?_;simp only[Aa,simprocAttr];refine B4 (fun n o tm=>n=0/\o=[OB.box 30 [.i .i64 v.kind,.s v.text,.row v.keys.length (v.keys.map .s),.nil],OB.box 30 [.i .i64 0,.s [],.nil,.nil]]/\tm.length=30/\tm[1]? = some (.p 0 0)/\tm[2]? = some (.p 1 0)/\tm[14]? = some (.i .i64 0)/\tm[15]? = some (.i .i64 0)) 0 ⟨rfl,rfl,rfl,rfl,rfl,rfl,rfl⟩ ?_;rintro n _ tm ⟨rfl,rfl,hlen,t1,t2,t14,t15⟩;refine Ac fun Z hZ=>?_;simp only[Aa,simprocAttr,za,hlen,t1,t2,t14,t15];subst hZ;subst hY;simp only[Aa,simprocAttr,za,hlen,t1,t2,t14,t15];simp only[Hl,pub,Aa,simprocAttr];refine⟨fun G I y hy=>?_,hk⟩;rw[AZ,hits,EH];exact X5 hy
   ·simp only[Aa,simprocAttr];exact tailA _ rfl rfl rfl
  | cons a l=>
   rw[hits] at tailA;refine Ae (Z5 a l (by rw[<-hits];exact l2) ?_);simp only[Aa,simprocAttr];exact tailA _ rfl rfl rfl
end
end
section
attribute [local irreducible] run
end
section
attribute [local irreducible] run
structure WfM (σ:Ms) (a:Nat):Prop where
 top:(σ.st=1\/σ.st=2\/σ.st=3\/σ.st=4\/σ.st=5)->σ.stk≠[]
 obj:(σ.st=2\/σ.st=3\/σ.st=4)->∀f r,σ.stk=f::r->f.obj=true
 len:∀f∈σ.stk,f.ks.length<=a/\f.its.length<=a
 deep:σ.stk.length<=64
 few:σ.nodes<=20000
end
section
attribute [local irreducible] run
def DM (t:Tk):List AV:=[.i .i64 t.1,.s t.2.1,.i .i64 t.2.2]
def Er (t:Tk):AV:=.agg (DM t)
def Ef (E sz n:Nat) (xs:List AV) (X:AV) (L:List (Nat×OB)):Prop :=
 (n=0/\xs=[]/\X=.nil/\L=[])\/∃b g,X=.orow b g/\L=[(b,.orow E sz g n xs)]
section
variable [Tabs Tryz.prog] {objs:List OB} {K:List OB->AV->Prop}
end
end
section
attribute [local irreducible] run
section
variable [Tabs Tryz.prog] {objs:List OB} {K:List OB->AV->Prop}
end
end
section
attribute [local irreducible] run
theorem Au.set0 {α:Type} {B:List (Nat×α)} {o:List α} {i:Nat} {x:α} (y:α) (h:Au ((i,x)::B) o):Au ((i,y)::B) (o.set i y):=Au.set (A:=[]) y h
theorem Au.set1 {α:Type} {a:Nat×α} {B:List (Nat×α)} {o:List α} {i:Nat} {x:α} (y:α) (h:Au (a::(i,x)::B) o):Au (a::(i,y)::B) (o.set i y):=Au.set (A:=[a]) y h
theorem Au.set2 {α:Type} {a b:Nat×α} {B:List (Nat×α)} {o:List α} {i:Nat} {x:α} (y:α) (h:Au (a::b::(i,x)::B) o):Au (a::b::(i,y)::B) (o.set i y):=Au.set (A:=[a,b]) y h
theorem Au.ne {α:Type} {a b:Nat×α} {A B C:List (Nat×α)} {o:List α} (h:Au (A++a::(B++b::C)) o):a.1≠b.1:=by
 have:=h.1;simp only[List.map_append,zl] at this;rw[List.nodup_append] at this;obtain⟨_,h2,_⟩:=this;rw[xz] at h2;intro e;exact h2.1 (by rw[e];simp)
theorem sub_self {b g n:Nat} {xs:List AV}:Dj b g n xs (.orow b g)=.row n xs:=by simp[Dj]
section
variable {P:Program} [Tabs P] {f:FuncId} {o:List OB} {K:List OB->AV->Prop} {p rr g st' nodes E sz n E' g' n' sz':Nat} {st k:Int} {txt:List UInt8} {xs cs ys:List AV} {X Y r0 r1 r2 r3:AV} {Lx L:List (Nat×OB)}
end
section
variable [Tabs Tryz.prog] {objs:List OB} {K:List OB->AV->Prop}
end
end
section
attribute [local irreducible] run
def Ax (t:Tk):OB:=.box 44 (DM t)
section
variable [Tabs Tryz.prog] [Pow Tryz.prog] {objs:List OB} {K:List OB->AV->Prop} {M:List (Nat×OB)}
end
end
section
attribute [local irreducible] run
theorem WfM.mono {σ:Ms} {a b:Nat} (h:WfM σ a) (hab:a<=b):WfM σ b:=⟨h.top,h.obj,fun f hf=>by have:=h.len f hf;omega,h.deep,h.few⟩
theorem Qt {P:Program} [Tabs P] {f:FuncId} {args:List AV} {objs:List OB} {K:List OB->AV->Prop} (r':AV) (hc:Ah P f args objs (fun o r=>(∀G I y,Ab G I r y->Ab G I r' y)/\K o r')):Ah P f args objs K:=by
 intro C _ G I w hin hm ys hd;refine(hc C G I w hin hm ys hd).mono ?_;rintro e w' ⟨y,objs',r,G',I',he,⟨hr,hk⟩,h1,h2,h3,h4,hy⟩;exact⟨y,objs',r',G',I',he,hk,h1,h2,h3,h4,hr _ _ _ hy⟩
def Nx:List AV:=[.i .i64 0,.s [],.nil,.nil]
def GF (R:JV×Int×Int):AV:=.tup [.agg (AP R.1),.i .i64 R.2.1,.i .i64 R.2.2]
theorem tW {a e:Int} {G:Gh} {I:Al} {y:Value} (h:Ab G I (.tup [.agg Nx,.i .i64 a,.i .i64 e]) y):Ab G I (GF (Cm,a,e)) y:=by
 unfold GF Cm;rw[AP,EH];unfold Nx at h;simp only[Ad,Ab] at h ⊢;obtain⟨ys,h1,y0,l0,rfl,⟨zs,rfl,⟨z0,m0,rfl,q0,z1,m1,rfl,q1,z2,m2,rfl,q2,z3,m3,rfl,q3,q4⟩,hz⟩,h2⟩:=h;refine⟨_,h1,_,_,rfl,⟨_,rfl,⟨_,_,rfl,q0,_,_,rfl,q1,_,_,rfl,?_,_,_,rfl,?_,q4⟩,hz⟩,h2⟩
 ·exact⟨none,0,[],q2,⟨ze _,fun ad h=>by cases h⟩,rfl,by simp,by simp⟩
 ·exact⟨none,0,[],q3,⟨ze _,fun ad h=>by cases h⟩,rfl,by simp,by simp⟩
section
variable [Tabs Tryz.prog] [Pow Tryz.prog] [Utf Tryz.prog] {objs:List OB} {K:List OB->AV->Prop}
end
end
section
attribute [local irreducible] run
section
variable [Tabs Tryz.prog] [Pow Tryz.prog] [Utf Tryz.prog] {objs:List OB} {K:List OB->AV->Prop}
end
end
section
attribute [local irreducible] run
section
variable [Tabs Tryz.prog] {objs:List OB} {K:List OB->AV->Prop}
theorem ZQ (v:JV) (key:List UInt8) (hv:AY v) (hb:Bo v) (hk:K objs (CT (An v key))):Ah Tryz.prog 78 [.agg (AP v),.s key] objs K:=by
 obtain⟨l1,l2,l3,l4⟩:=hv.lens;refine Li (CT (An v key)) ?_;refine AF lL (by simp only[AE,AV.plain,Dw,Bool.and_self]) fun C _=>?_;have fin:∀{o:List OB},An v key=(Cm,false)->((∀G I y,Ab G I (.tup [.agg [.i .i64 0,.s [],.nil,.nil],.b false]) y->Ab G I (CT (An v key)) y)/\K objs (CT (An v key))):=fun {o} h=>⟨fun G I y hy=>by rw[h];exact Rx hy,hk⟩;rw[VB];refine Ac fun Y hY=>?_;simp only[Aa,simprocAttr];have e0:OB.box 30 (AP v)=OB.box 30 [.i .i64 v.kind,.s v.text,.row v.keys.length (v.keys.map .s),.row v.items.length (Ak v.items)]:=by rw[AZ]
 rw[e0];subst hY;refine Ac fun Y hY=>?_
 by_cases c1:v.kind=7
 rotate_left
 ·simp only[Aa,simprocAttr,c1,decide_false,Bool.not_false];exact fin (o:=[]) (OZ c1)
 simp only[Aa,simprocAttr,c1,decide_true,Bool.not_true];subst hY;refine Ac fun Y hY=>?_;simp only[Aa,simprocAttr];refine Ae (eI v.keys key l1 ?_);have hg:An v key=if DR key v.keys<v.keys.length then (match v.items[DR key v.keys]? with|some x=>(x,true)|none=>(Cm,false)) else (Cm,false):=by
  unfold An
  by_cases c:DR key v.keys<v.keys.length
  ·rw[if_pos ⟨c1,c⟩,if_pos c];try (cases v.items[DR key v.keys]?<;>rfl)
  ·rw[if_neg (fun h=>c h.2),if_neg c]
 generalize DR key v.keys=i at hg ⊢;simp only[Aa,simprocAttr];subst hY;refine Ac fun Y hY=>?_
 by_cases c2:i<v.keys.length
 rotate_left
 ·rw[if_neg c2] at hg;simp only[if_neg c2,Aa,simprocAttr,decide_true];exact fin (o:=[]) hg
 have c2':¬(i:Int)<0:=by omega
 simp only[if_pos c2] at hg ⊢
 by_cases c3:(v.items.length:Int)<=i
 ·have:v.items[i]? = none:=qq (by omega);rw[this] at hg;simp only[Aa,simprocAttr,c2',c3,decide_true];exact fin (o:=[]) hg
 have hi:i<v.items.length:=by omega
 rw[zk hi] at hg;have jv:=FK hi;have jvl:=Fy v.items;have hbi:=hb.its hi;have hq:=AZ v.items[i];have hcl:=fun {objs:List OB} {K:List OB->AV->Prop} (h:K objs (.agg (AP v.items[i])))=>cZ (v.items[i].size+1) v.items[i] (Nat.lt_succ_self _) hbi (objs:=objs) (K:=K) h;simp only[Aa,simprocAttr,c2',c3,decide_true];subst hY;simp only[Aa,simprocAttr,jv];refine⟨⟨by omega,by omega,by omega⟩,by omega,?_⟩;refine Ae (hcl ?_);rw[hq];simp only[Aa,simprocAttr];simp only[pub,AV.plain,Hl,I0,Aa,simprocAttr];refine⟨fun G I y hy=>?_,hk⟩;rw[hg,CT,hq];exact hy
end
section
variable [Tabs Tryz.prog] [Pow Tryz.prog] [Utf Tryz.prog]
end
end
section
attribute [local irreducible] run
structure GB (s:List UInt8) (ρ:Rs):Prop where
 p0:0<=ρ.pos
 p1:ρ.pos<=s.length
 n0:ρ.fail=0->(ρ.nodes:Int)<=ρ.pos
 n1:(ρ.nodes:Int)<=s.length+1
def GT (ρ:Rs) (t:Tk):Prop:=ρ.fail=0->t.1=1\/(ρ.nodes:Int)+1<=ρ.pos
theorem IF {s:List UInt8} {ρ:Rs} (h:GB s ρ) (a e:Int) (he:¬e=0):GB s (Bs ρ a e):=by
 unfold Bs
 split
 ·exact⟨h.p0,h.p1,fun h'=>absurd h' he,h.n1⟩
 ·exact h
theorem Eu {s:List UInt8} {ρ:Rs} (h:GB s ρ):GB s (Aj s ρ).2/\GT (Aj s ρ).2 (Aj s ρ).1:=by
 unfold Aj
 by_cases c1:ρ.fail=0
 ·rw[if_neg (fun h=>h c1)]
  by_cases c2:(B3 s ρ.pos).2.2=0
  ·rw[if_neg (fun h=>h c2)];obtain⟨n1,n2,n3,n4⟩:=Y6 h.p0 c2;have hn:=h.n0 c1;refine⟨⟨by have:=h.p0;show 0<=(B3 s ρ.pos).2.1;omega,n2,fun _=>by show (ρ.nodes:Int)<=(B3 s ρ.pos).2.1;omega,h.n1⟩,fun _=>?_⟩
   by_cases c3:(B3 s ρ.pos).1.1=1
   ·exact .inl c3
   ·have:=n3 c3;exact .inr (by show (ρ.nodes:Int)+1<=(B3 s ρ.pos).2.1;omega)
  ·rw[if_pos c2];refine⟨IF h _ _ c2,fun hf=>?_⟩;exfalso;unfold Bs at hf;rw[if_pos c1] at hf;exact c2 hf
 ·rw[if_pos c1];exact⟨h,fun hf=>absurd hf c1⟩
theorem JC {s:List UInt8} {ρ:Rs} (h:GB s ρ) (t:Tk) (c:UInt8):GB s (Bx ρ t c):=by
 unfold Bx
 split
 ·exact IF h _ _ (by decide)
 ·exact h
theorem Ri {s:List UInt8} {ρ:Rs} (h:GB s ρ) (t:Tk) (ks:List (List UInt8)):GB s (EZ ρ t ks):=by
 unfold EZ;have h1:GB s (if ¬t.1=3 then Bs ρ t.2.2 140 else ρ):=by
  split
  ·exact IF h _ _ (by decide)
  ·exact h
 dsimp only
 split
 ·exact IF h1 _ _ (by decide)
 ·exact h1
def GV (s:List UInt8) (val:Rs->Tk->JV×Rs):Prop:=∀ρ t,GB s ρ->GT ρ t->GB s (val ρ t).2
theorem RE {s:List UInt8} {val:Rs->Tk->JV×Rs} (hv:GV s val):∀(n:Nat) (ρ:Rs) (t:Tk) (acc:List JV),GB s ρ->GT ρ t->GB s (DG s val n ρ t acc).2
 | 0,ρ,t,acc,h,_=>h
 | n+1,ρ,t,acc,h,ht=>by
  rw[DG]
  split
  ·exact h
  dsimp only;have h1:=hv ρ t h ht;generalize val ρ t=a at h1 ⊢;have h2:=(Eu h1).1;generalize Aj s a.2=b at h2 ⊢
  split
  ·exact h2
  ·obtain⟨h3,h4⟩:=Eu (JC h2 b.1 44);exact RE hv n _ _ _ h3 h4
theorem RF {s:List UInt8} {val:Rs->Tk->JV×Rs} (hv:GV s val):∀(n:Nat) (ρ:Rs) (t:Tk) (ks:List (List UInt8)) (its:List JV),GB s ρ->GB s (CF s val n ρ t ks its).2
 | 0,ρ,t,ks,its,h=>h
 | n+1,ρ,t,ks,its,h=>by
  rw[CF]
  split
  ·exact h
  dsimp only;have h1:=(Eu (Ri h t ks)).1;generalize Aj s (EZ ρ t ks)=a at h1 ⊢;obtain⟨h2,h2'⟩:=Eu (JC h1 a.1 58);generalize Aj s (Bx a.2 a.1 58)=b at h2 h2' ⊢;have h3:=hv _ _ h2 h2';generalize val b.2 b.1=v at h3 ⊢;have h4:=(Eu h3).1;generalize Aj s v.2=c at h4 ⊢
  split
  ·exact h4
  ·have h5:=(Eu (JC h4 c.1 44)).1;exact RF hv n _ _ _ _ h5
theorem S6 {s:List UInt8} {ρ:Rs} {t:Tk} (h:GB s ρ) (ht:GT ρ t) (h1:¬t.1=1) (hf:ρ.fail=0):GB s (B2 ρ t):=by
 have hn:=(ht hf).resolve_left h1;have hp1:=h.p1;unfold B2;dsimp only;have h2:∃fa wa,(if t.1=4/\¬(BI t.2.1).1=0 then Bs ρ t.2.2 (BI t.2.1).1 else ρ)=⟨ρ.pos,ρ.nodes,fa,wa⟩:=by
  split
  ·unfold Bs;rw[if_pos hf];exact⟨_,_,rfl⟩
  ·exact⟨_,_,rfl⟩
 obtain⟨fa,wa,h2⟩:=h2;rw[h2];have h3:∀f w,GB s ⟨ρ.pos,ρ.nodes+1,f,w⟩:=fun f w=>⟨h.p0,h.p1,fun _=>by show ((ρ.nodes+1:Nat):Int)<=ρ.pos;omega,by show ((ρ.nodes+1:Nat):Int)<=_;omega⟩
 split
 ·exact IF (h3 _ _) _ _ (by decide)
 ·exact h3 _ _
theorem tH {s:List UInt8} {val:Rs->Tk->JV×Rs} (hv:GV s val) {ρ:Rs} (h:GB s ρ):GB s (DC s val ρ).2:=by
 unfold DC;dsimp only;obtain⟨h1,h2⟩:=Eu h
 split
 ·exact h1
 ·exact RE hv _ _ _ _ h1 h2
theorem tI {s:List UInt8} {val:Rs->Tk->JV×Rs} (hv:GV s val) {ρ:Rs} (h:GB s ρ):GB s (DT s val ρ).2:=by
 unfold DT;dsimp only;have h1:=(Eu h).1
 split
 ·exact h1
 ·exact RF hv _ _ _ _ _ h1
theorem Rr {t:Tk} (h:¬BZ t=0):¬t.1=1:=by
 intro h1
 apply h
 have e1:∀c,Ch t c=false:=fun c=>by simp[Ch,h1]
 simp[BZ,h1,e1]
theorem L0 (s:List UInt8):∀(f:Nat) (d:Nat),GV s (fun ρ t=>AW s f ρ t d)
 | 0,d=>fun ρ t h _=>h
 | f+1,d=>fun ρ t h ht=>by
  dsimp only;rw[AW]
  by_cases c0:ρ.fail=0
  ·rw[if_neg (fun h=>h c0)]
   split
   ·exact IF h _ _ (by decide)
   rename_i c1;have hc:=S6 h ht (Rr c1) c0
   split
   ·exact IF h _ _ (by decide)
   split
   ·exact hc
   split
   ·exact tH (L0 s f (d+1)) hc
   split
   ·exact tI (L0 s f (d+1)) hc
   split
   ·exact hc
   ·exact hc
  ·rw[if_pos c0];exact h
end
section
attribute [local irreducible] run
theorem L7:∀{a b:List JV},BN a->BN b->BN (a++b)
 | [],b,_,hb=>hb
 | v::l,b,ha,hb=>by
  rw[BN] at ha;rw[ja,BN];exact⟨ha.1,L7 ha.2 hb⟩
theorem GN (k:Int) (t:List UInt8):Bo (.mk k t [] []):=by rw[Bo];exact⟨by simp,by simp,by rw[BN];trivial⟩
def QM (val:Rs->Tk->JV×Rs):Prop:=∀ρ t,Bo (val ρ t).1
theorem OO {s:List UInt8} {val:Rs->Tk->JV×Rs} (hv:QM val):∀(n:Nat) (ρ:Rs) (t:Tk) (acc:List JV),BN acc->BN (DG s val n ρ t acc).1/\(DG s val n ρ t acc).1.length<=acc.length+n
 | 0,ρ,t,acc,h=>⟨h,ze acc.length⟩
 | n+1,ρ,t,acc,h=>by
  rw[DG]
  split
  ·exact⟨h,by show acc.length<=_;omega⟩
  dsimp only;have h1:=hv ρ t;generalize val ρ t=a at h1 ⊢;have h2:BN (acc++[a.1]):=L7 h (by rw[BN,BN];exact⟨h1,trivial⟩)
  split
  ·exact⟨h2,by simp only[zg,zp,qd];omega⟩
  ·obtain⟨h3,h4⟩:=OO hv n (Aj s (Bx (Aj s a.2).2 (Aj s a.2).1 44)).2 (Aj s (Bx (Aj s a.2).2 (Aj s a.2).1 44)).1 (acc++[a.1]) h2;refine⟨h3,qg h4 ?_⟩;simp only[zg,zp,qd];omega
theorem OS {s:List UInt8} {val:Rs->Tk->JV×Rs} (hv:QM val):∀(n:Nat) (ρ:Rs) (t:Tk) (ks:List (List UInt8)) (its:List JV),BN its->BN (CF s val n ρ t ks its).1.2/\(CF s val n ρ t ks its).1.2.length<=its.length+n/\(CF s val n ρ t ks its).1.1.length<=ks.length+n
 | 0,ρ,t,ks,its,h=>⟨h,ze its.length,ze ks.length⟩
 | n+1,ρ,t,ks,its,h=>by
  rw[CF]
  split
  ·exact⟨h,by show its.length<=_;omega,by show ks.length<=_;omega⟩
  dsimp only;generalize Aj s (EZ ρ t ks)=a;generalize Aj s (Bx a.2 a.1 58)=b;have h1:=hv b.2 b.1;generalize val b.2 b.1=v at h1 ⊢;have h2:BN (its++[v.1]):=L7 h (by rw[BN,BN];exact⟨h1,trivial⟩);generalize Aj s v.2=c
  split
  ·exact⟨h2,by simp only[zg,zp,qd];omega,by simp only[zg,zp,qd];omega⟩
  ·generalize Aj s (Bx c.2 c.1 44)=d;obtain⟨h3,h4,h5⟩:=OS hv n d.2 d.1 (ks++[t.2.1]) (its++[v.1]) h2;refine⟨h3,qg h4 ?_,qg h5 ?_⟩
   ·simp only[zg,zp,qd];omega
   ·simp only[zg,zp,qd];omega
theorem KO {s:List UInt8} (hs:s.length<=1048576):∀(f d:Nat),QM (fun ρ t=>AW s f ρ t d)
 | 0,d=>fun ρ t=>GN _ _
 | f+1,d=>fun ρ t=>by
  dsimp only;rw[AW]
  split
  ·exact GN _ _
  split
  ·exact GN _ _
  split
  ·exact GN _ _
  split
  ·exact GN _ _
  split
  ·unfold DC;dsimp only
   split
   ·exact GN _ _
   ·obtain⟨h1,h2⟩:=OO (s:=s) (KO hs f (d+1)) (s.length+2) (Aj s (B2 ρ t)).2 (Aj s (B2 ρ t)).1 [] (by rw[BN];trivial);rw[Bo];refine⟨by simp,?_,h1⟩;simp only[qd] at h2;omega
  split
  ·unfold DT;dsimp only
   split
   ·exact GN _ _
   ·obtain⟨h1,h2,h3⟩:=OS (s:=s) (KO hs f (d+1)) (s.length+2) (Aj s (B2 ρ t)).2 (Aj s (B2 ρ t)).1 [] [] (by rw[BN];trivial);rw[Bo];simp only[qd] at h2 h3;refine⟨?_,?_,h1⟩
    ·show (CF s _ _ _ _ [] []).1.1.length<=_;omega
    ·show (CF s _ _ _ _ [] []).1.2.length<=_;omega
  split
  ·exact GN _ _
  ·exact GN _ _
theorem O5 {s:List UInt8} (hs:s.length<=1048576):Bo (EF s).1:=by
 unfold EF;rw[if_neg (by omega)];dsimp only;generalize hρ:(if (Aj s (AW s 65 (Aj s AQ).2 (Aj s AQ).1 0).2).2.fail=0/\¬(Aj s (AW s 65 (Aj s AQ).2 (Aj s AQ).1 0).2).1.1=1 then Bs (Aj s (AW s 65 (Aj s AQ).2 (Aj s AQ).1 0).2).2 (Aj s (AW s 65 (Aj s AQ).2 (Aj s AQ).1 0).2).1.2.2 140 else (Aj s (AW s 65 (Aj s AQ).2 (Aj s AQ).1 0).2).2)=ρ
 by_cases c:¬ρ.fail=0
 ·rw[if_pos c];exact GN _ _
 ·rw[if_neg c];exact KO hs 65 0 _ _
theorem IS (ρ:Rs) (a e:Int):(Bs ρ a e).nodes=ρ.nodes:=by unfold Bs;split<;>rfl
theorem Ej (s:List UInt8) (ρ:Rs):(Aj s ρ).2.nodes=ρ.nodes:=by
 unfold Aj
 split
 ·rfl
 split
 ·exact IS _ _ _
 ·rfl
theorem Jz (ρ:Rs) (t:Tk) (c:UInt8):(Bx ρ t c).nodes=ρ.nodes:=by
 unfold Bx
 split
 ·exact IS _ _ _
 ·rfl
theorem Q2 (ρ:Rs) (t:Tk) (ks:List (List UInt8)):(EZ ρ t ks).nodes=ρ.nodes:=by
 unfold EZ;dsimp only
 split<;>split<;>simp only[IS]
theorem cB (ρ:Rs) (t:Tk):(B2 ρ t).nodes=ρ.nodes+1:=by
 unfold B2;dsimp only;generalize hx:(if t.1=4/\¬(BI t.2.1).1=0 then Bs ρ t.2.2 (BI t.2.1).1 else ρ)=x;have h:x.nodes=ρ.nodes:=by
  rw[<-hx]
  split
  ·exact IS _ _ _
  ·rfl
 by_cases c:20000<x.nodes+1
 ·rw[if_pos c,IS];show x.nodes+1=_;omega
 ·rw[if_neg c];show x.nodes+1=_;omega
def Qx (val:Rs->Tk->JV×Rs):Prop:=∀ρ t,ρ.nodes<=(val ρ t).2.nodes
theorem Ss {s:List UInt8} {val:Rs->Tk->JV×Rs} (hv:Qx val):∀(n:Nat) (ρ:Rs) (t:Tk) (acc:List JV),ρ.nodes<=(DG s val n ρ t acc).2.nodes
 | 0,ρ,t,acc=>ze _
 | n+1,ρ,t,acc=>by
  rw[DG]
  split
  ·exact ze _
  dsimp only;have h1:=hv ρ t;generalize val ρ t=a at h1 ⊢
  split
  ·rw[Ej];exact h1
  ·have h2:=Ss (s:=s) hv n (Aj s (Bx (Aj s a.2).2 (Aj s a.2).1 44)).2 (Aj s (Bx (Aj s a.2).2 (Aj s a.2).1 44)).1 (acc++[a.1]);rw[Ej,Jz,Ej] at h2;omega
theorem Sj {s:List UInt8} {val:Rs->Tk->JV×Rs} (hv:Qx val):∀(n:Nat) (ρ:Rs) (t:Tk) (ks:List (List UInt8)) (its:List JV),ρ.nodes<=(CF s val n ρ t ks its).2.nodes
 | 0,ρ,t,ks,its=>ze _
 | n+1,ρ,t,ks,its=>by
  rw[CF]
  split
  ·exact ze _
  dsimp only;have e1:=Ej s (EZ ρ t ks);rw[Q2] at e1;generalize Aj s (EZ ρ t ks)=a at e1 ⊢;have e2:=Ej s (Bx a.2 a.1 58);rw[Jz] at e2;generalize Aj s (Bx a.2 a.1 58)=b at e2 ⊢;have h1:=hv b.2 b.1;generalize val b.2 b.1=v at h1 ⊢;have e3:=Ej s v.2;generalize Aj s v.2=c at e3 ⊢
  split
  ·show _<=c.2.nodes;omega
  ·have e4:=Ej s (Bx c.2 c.1 44);rw[Jz] at e4;generalize Aj s (Bx c.2 c.1 44)=d at e4 ⊢;have h2:=Sj (s:=s) hv n d.2 d.1 (ks++[t.2.1]) (its++[v.1]);omega
theorem OU (s:List UInt8):∀(f d:Nat),Qx (fun ρ t=>AW s f ρ t d)/\∀ρ t,0<f->(AW s f ρ t d).2.fail=0->ρ.nodes+1<=(AW s f ρ t d).2.nodes
 | 0,d=>⟨fun ρ t=>ze _,fun ρ t h=>absurd h (Nat.lt_irrefl 0)⟩
 | f+1,d=>by
  have hm:=(OU s f (d+1)).1;have key:∀ρ t,((AW s (f+1) ρ t d).2.nodes=ρ.nodes/\¬(AW s (f+1) ρ t d).2.fail=0)\/ρ.nodes+1<=(AW s (f+1) ρ t d).2.nodes:=by
   intro ρ t;rw[AW]
   by_cases c0:ρ.fail=0
   rotate_left
   ·rw[if_pos c0];exact .inl ⟨rfl,c0⟩
   rw[if_neg (fun h=>h c0)];have hst:∀a e:Int,¬e=0->(Bs ρ a e).nodes=ρ.nodes/\¬(Bs ρ a e).fail=0:=fun a e he=>⟨IS _ _ _,by unfold Bs;rw[if_pos c0];exact he⟩
   split
   ·exact .inl (hst _ _ (by decide))
   split
   ·exact .inl (hst _ _ (by decide))
   have hc:=cB ρ t
   split
   ·right;show _<=(B2 ρ t).nodes;omega
   split
   ·right;unfold DC;dsimp only
    split
    ·rw[Ej];omega
    ·have h:=Ss (s:=s) hm (s.length+2) (Aj s (B2 ρ t)).2 (Aj s (B2 ρ t)).1 [];rw[Ej] at h;show _<=(DG s _ _ _ _ []).2.nodes;omega
   split
   ·right;unfold DT;dsimp only
    split
    ·rw[Ej];omega
    ·have h:=Sj (s:=s) hm (s.length+2) (Aj s (B2 ρ t)).2 (Aj s (B2 ρ t)).1 [] [];rw[Ej] at h;show _<=(CF s _ _ _ _ [] []).2.nodes;omega
   split
   ·right;show _<=(B2 ρ t).nodes;omega
   ·right;show _<=(B2 ρ t).nodes;omega
  refine⟨fun ρ t=>?_,fun ρ t _ hf=>?_⟩
  ·rcases key ρ t with h|h
   ·exact Nat.le_of_eq h.1.symm
   ·show ρ.nodes<=(AW s (f+1) ρ t d).2.nodes;omega
  ·rcases key ρ t with h|h
   ·exact absurd hf h.2
   ·exact h
end
section
attribute [local irreducible] run
def At (s:List UInt8) (ρ:Rs):OB:=.box 41 [.s s,.i .i64 ρ.pos,.i .i64 (ρ.nodes:Int),.i .i64 ρ.fail,.i .i64 ρ.wh]
section
variable [Tabs Tryz.prog] {objs:List OB} {K:List OB->AV->Prop} {L:List (Nat×OB)} {p:Nat} {s:List UInt8} {ρ:Rs}
theorem Gc (t:Tk) (c:UInt8) (hk:K objs (.b (Ch t c))):Ah Tryz.prog 27 [Er t,.s [c]] objs K:=by
 refine AF jO rfl fun C _=>?_;unfold Ch at hk
 by_cases c1:t.1=2
 ·by_cases c2:t.2.1=[c]
  ·simp only[c1,c2,decide_true,Bool.and_self] at hk;simp only[My,Er,DM,Aa,simprocAttr,c1,c2];exact hk
  ·simp only[c1,c2,decide_true,decide_false,Bool.and_false] at hk;simp only[My,Er,DM,Aa,simprocAttr,c1,c2];exact hk
 ·simp only[c1,decide_false,Bool.false_and] at hk;simp only[My,Er,DM,Aa,simprocAttr,c1];exact hk
theorem YB (l:List UInt8) (hk:K objs (.i .i64 (FP l))):Ah Tryz.prog 29 [.s l] objs K:=by
 refine AF kW rfl fun C _=>?_;unfold FP Nv NB at hk
 by_cases c1:l=[116,114,117,101]
 ·rw[if_pos c1] at hk;simp only[MJ,Aa,simprocAttr,c1];exact hk
 rw[if_neg c1] at hk
 by_cases c2:l=[102,97,108,115,101]
 ·rw[if_pos c2] at hk;have n1:¬([102,97,108,115,101]:List UInt8)=[116,114,117,101]:=by decide
  simp only[MJ,Aa,simprocAttr,c2,n1];exact hk
 ·rw[if_neg c2] at hk;simp only[MJ,Aa,simprocAttr,c1,c2];exact hk
theorem Gl (hO:Au ((p,At s ρ)::L) objs) (a e:Int) (hk:∀o,Au ((p,At s (Bs ρ a e))::L) o->K o (.tup [])):Ah Tryz.prog 11 [.p p 0,.i .i64 a,.i .i64 e] objs K:=by
 refine DI nY fun C _=>?_;have e1:=hO.get (i:=p) (x:=At s ρ) (by simp);have hlt:=hO.lt (i:=p) (x:=At s ρ) (by simp);have gs:∀x,(objs.set p x)[p]? = some x:=fun x=>zm hlt;unfold At at e1;unfold Bs at hk
 by_cases c1:ρ.fail=0
 ·rw[if_pos c1] at hk;simp only[Qm,Aa,simprocAttr,e1,c1,gs,List.set_set];exact hk _ (hO.set0 _)
 ·rw[if_neg c1] at hk;simp only[Qm,Aa,simprocAttr,e1,c1];exact hk _ hO
theorem GK [Utf Tryz.prog] (hs:s.length<=140737488351232) (hO:Au ((p,At s ρ)::L) objs) (hk:∀o,Au ((p,At s (Aj s ρ).2)::L) o->K o (Er (Aj s ρ).1)):Ah Tryz.prog 10 [.p p 0] objs K:=by
 refine DI nX fun C _=>?_;have hO1:=hO.new (.box 44 [.i .i64 0,.s [],.i .i64 0]);have e1:=hO1.get (i:=p) (x:=At s ρ) (by simp);unfold At at e1;unfold Aj at hk;rw[WD];refine Ac fun Y hY=>?_;simp only[Aa,simprocAttr];have hlen:objs.length<(objs++[OB.box 44 [.i .i64 0,.s [],.i .i64 0]]).length:=by simp
 generalize hq:objs.length=q at hO1 hlen ⊢;generalize objs++[OB.box 44 [.i .i64 0,.s [],.i .i64 0]]=o1 at hO1 e1 hlen ⊢;have e0:=hO1.get (i:=q) (x:=.box 44 [.i .i64 0,.s [],.i .i64 0]) (by simp);have gs:∀x,(o1.set q x)[q]? = some x:=fun x=>zm hlen;subst hY;refine Ac fun Y hY=>?_
 by_cases c1:ρ.fail=0
 rotate_left
 ·rw[if_pos c1] at hk;simp only[Aa,simprocAttr,e1,c1,e0,gs];exact hk _ ((hO1.set0 (.box 44 [.i .i64 0,.s [],.i .i64 0])).sub (jp _ _))
 rw[if_neg (fun h=>h c1)] at hk;simp only[Aa,simprocAttr,e1,c1];subst hY;refine Ac fun Y hY=>?_;have hne:¬p=o1.length:=fun h=>by
  have:=hO1.lt (i:=p) (x:=At s ρ) (by simp);omega
 simp only[Aa,simprocAttr,e1];refine NK (iH s ρ.pos hs rfl) rfl rfl ?_;generalize B3 s ρ.pos=N at hk ⊢;obtain⟨T,too,e⟩:=N;simp only at hk;unfold NM;simp only[Aa,simprocAttr,AG,BB,hne];have f1:∀x y z,OB.box 44 [.i .i64 x,.s y,.i .i64 z]=Ax (x,y,z):=fun _ _ _=>rfl;rw[f1];have hO2:=hO1.new (Ax T);have g0:=hO2.get (i:=o1.length) (x:=Ax T) (by simp);have g1:=hO2.get (i:=p) (x:=At s ρ) (by simp);have g2:=hO2.get (i:=q) (x:=.box 44 [.i .i64 0,.s [],.i .i64 0]) (by simp);have hq2:=hO2.lt (i:=q) (x:=.box 44 [.i .i64 0,.s [],.i .i64 0]) (by simp);generalize o1++[Ax T]=o2 at hO2 g0 g1 g2 hq2 ⊢;unfold Ax DM at g0;unfold At at g1;have gs2:∀x,(o2.set q x)[q]? = some x:=fun x=>zm hq2;subst hY;refine Ac fun Y hY=>?_
 by_cases c2:e=0
 rotate_left
 ·rw[if_pos c2] at hk;simp only[Aa,simprocAttr,c2,g1];refine Ae (Gl (L:=(o1.length,Ax T)::(q,.box 44 [.i .i64 0,.s [],.i .i64 0])::L) (hO2.perm (jf.trans (jf.cons _ (jf.swap _ _ _)) (jf.swap _ _ _))) ρ.pos e fun o ho=>?_);have k2:=ho.get (i:=q) (x:=.box 44 [.i .i64 0,.s [],.i .i64 0]) (by simp);have kq:=ho.lt (i:=q) (x:=.box 44 [.i .i64 0,.s [],.i .i64 0]) (by simp);have gs3:∀x,(o.set q x)[q]? = some x:=fun x=>zm kq;simp only[Aa,simprocAttr,k2,gs3];exact hk _ ((Au.set2 (.box 44 [.i .i64 0,.s [],.i .i64 0]) ho).sub (((jp _ _).trans (jp _ _)).cons_cons _))
 subst c2;rw[if_neg (fun h=>h rfl)] at hk;have hne2:¬p=q:=fun h=>hO2.ne (A:=[_]) (B:=[]) h.symm;have hne3:¬p=o1.length:=fun h=>hO2.ne (A:=[]) (B:=[_]) h.symm;have gx0:∀x,(o2.set p x)[o1.length]? = some (.box 44 [.i .i64 T.1,.s T.2.1,.i .i64 T.2.2]):=fun x=>by rw[zo hne3];exact g0
 have gx2:∀x,(o2.set p x)[q]? = some (.box 44 [.i .i64 0,.s [],.i .i64 0]):=fun x=>by rw[zo hne2];exact g2
 have gx3:∀x y,((o2.set p x).set q y)[q]? = some y:=fun x y=>zm (by rw[zh];exact hq2);simp only[Aa,simprocAttr];subst hY;simp only[Aa,simprocAttr,g1,gx0,gx2,gx3];have hF:=(Au.set1 (Ax T) (Au.set2 (At s ⟨too,ρ.nodes,ρ.fail,ρ.wh⟩) hO2)).sub (L':=(p,At s ⟨too,ρ.nodes,ρ.fail,ρ.wh⟩)::L) ((jp _ _).trans (jp _ _));exact hk _ hF
end
end
section
attribute [local irreducible] run
def AM:OB:=.box 30 [.i .i64 0,.s [],.nil,.nil]
def Br (k:Int) (X Y:AV):OB:=.box 30 [.i .i64 k,.s [],X,Y]
def CN (L:List (Nat×OB)):Prop:=∀z∈L,∀b g n xs,(∀y∈L,y.1≠b)->IA b g n xs z.2=z.2
theorem II {b g n:Nat} {xs:List AV}:∀{l:List AV},AE l=true->l.map (Dj b g n xs)=l
 | [],_=>rfl
 | x::l,h=>by
  simp only[AE,Bool.and_eq_true] at h;rw[zl,Uh h.1,II h.2]
theorem jT {z:Nat×OB} {L:List (Nat×OB)} (h:CN L) (hz:∀b g n xs,(∀y∈z::L,y.1≠b)->IA b g n xs z.2=z.2):CN (z::L):=by
 intro y hy b g n xs hb;rcases zv.1 hy with rfl|hy
 ·exact hz b g n xs hb
 ·exact h y hy b g n xs fun y hy=>hb y (List.mem_cons_of_mem _ hy)
theorem Qa {i:Nat} {T:Nat} {cs:List AV} {L:List (Nat×OB)} (h:CN L) (hp:AE cs=true):CN ((i,.box T cs)::L) :=
 jT h fun b g n xs _=>by show OB.box T _=_;rw[II hp]
theorem iL {E sz n:Nat} {xs:List AV} {X:AV} {R A B:List (Nat×OB)} (hs:Ef E sz n xs X R) (h:CN (A++B)):CN (A++(R++B)):=by
 intro y hy b g m ys hb;have hAB:∀y∈A++B,y.1≠b:=fun y hy=>hb y (by
  rcases qc.1 hy with h|h
  ·exact xi _ h
  ·exact xo _ (xo _ h))
 rcases qc.1 hy with hy|hy
 ·exact h y (xi _ hy) b g m ys hAB
 rcases qc.1 hy with hy|hy
 ·rcases hs with ⟨_,_,_,rfl⟩|⟨b',g',_,rfl⟩
  ·cases hy
  ·simp only[zv,List.not_mem_nil,or_false] at hy;subst hy;rfl
 ·exact h y (xo _ hy) b g m ys hAB
theorem Oe {E sz n:Nat} {xs:List AV} {X:AV} {R:List (Nat×OB)} (hs:Ef E sz n xs X R) {b g m:Nat} {ys:List AV} (hb:∀y∈R,y.1≠b):Dj b g m ys X=X:=by
 rcases hs with ⟨_,_,rfl,_⟩|⟨b',g',rfl,rfl⟩
 ·rfl
 ·exact if_neg (fun h=>hb (b',.orow E sz g' n xs) (by simp) h.1)
def J5 (n:Nat) (xs:List AV) (X:AV):Prop:=(n=0/\xs=[]/\X=.nil)\/X=.row n xs
theorem RK {n:Nat} {xs:List AV} {X:AV} (h:J5 n xs X) {G:Gh} {I:Al} {y:Value} (hd:Ab G I X y):Ab G I (.row n xs) y:=by
 rcases h with ⟨rfl,rfl,rfl⟩|rfl
 ·exact ZT hd
 ·exact hd
section
variable {P:Program} [Tabs P] {f:FuncId} {args:List AV} {objs:List OB} {K:List OB->AV->Prop}
theorem PM (hc:Ah P f args objs (fun o r=>K o r\/∃b E sz gen n xs,o[b]? = some (.orow E sz gen n xs)/\K (GC o b gen n xs) (G5 b gen n xs r))):Ah P f args objs K:=by
 intro C _ G I w hin hm ys hd;refine(hc C G I w hin hm ys hd).mono ?_;rintro e w' ⟨y,objs',r,G',I',he,hk,h1,h2,h3,h4,hy⟩;rcases hk with hk|⟨b,E,sz,gen,n,xs,hb,hk⟩
 ·exact⟨y,objs',r,G',I',he,hk,h1,h2,h3,h4,hy⟩
 ·obtain⟨v',vs,m1,m2,m3,m4,m5⟩:=h4.row b E sz gen n xs hb;obtain⟨hin',hm'⟩:=XT (P:=P) hb h3 h4;exact⟨y,_,_,_,_,he,hk,h1.trans (NT m1),fun g o v h=>.inl (h2 g o v h),hin',hm',aF h4 hb r y hy⟩
end
theorem RM {E sz n:Nat} {xs:List AV} {X:AV} {R A B:List (Nat×OB)} {o:List OB} (hs:Ef E sz n xs X R) (hO:Au (A++(R++B)) o) (hA:CN (A++B)) :
  (R=[]/\J5 n xs X)\/∃b g,X=.orow b g/\o[b]? = some (.orow E sz g n xs)/\Au (A++B) (GC o b g n xs)/\∀y∈A++B,y.1≠b:=by
 rcases hs with ⟨h1,h2,h3,rfl⟩|⟨b,g,rfl,rfl⟩
 ·exact .inl ⟨rfl,.inl ⟨h1,h2,h3⟩⟩
 ·right;have hP:Au ((b,.orow E sz g n xs)::(A++B)) o:=hO.perm (by simp);have hne:∀y∈A++B,y.1≠b:=by
   have:=hP.1;rw[zl,xz] at this;exact fun y hy e=>this.1 (by show b∈_;rw[<-e];exact List.mem_map_of_mem hy)
  exact⟨b,g,rfl,hP.get (by simp),hP.mapset (IA b g n xs) (fun z hz=>hA z hz b g n xs hne),hne⟩
theorem St {P:Program} [Tabs P] {f:FuncId} {args:List AV} {objs:List OB} {K:List OB->AV->Prop} {E1 s1 E2 s2:Nat} (v:JV) {z:Nat×OB} {L:List (Nat×OB)} (hC:CN (z::L)) (hk:∀o,Au (z::L) o->K o (.agg (AP v)))
  (hc:Ah P f args objs (fun o r=>∃X R1 Y R2,Ef E1 s1 v.keys.length (v.keys.map .s) X R1/\Ef E2 s2 v.items.length (Ak v.items) Y R2/\Au (z::(R1++(R2++L))) o/\r=.agg [.i .i64 v.kind,.s v.text,X,Y])):Ah P f args objs K:=by
 refine Qt (.agg (AP v)) ?_;refine PM ?_;refine PM ?_;refine hc.mono ?_;rintro o r ⟨X,R1,Y,R2,hX,hY,hO,rfl⟩;have fin:∀{X' Y':AV},J5 v.keys.length (v.keys.map .s) X'->J5 v.items.length (Ak v.items) Y'->∀G I y,Ab G I (.agg [.i .i64 v.kind,.s v.text,X',Y']) y->Ab G I (.agg (AP v)) y:=by
  intro X' Y' h1 h2 G I y hy;rw[AZ];simp only[Ad,Ab] at hy ⊢;obtain⟨zs,rfl,⟨z0,m0,rfl,q0,z1,m1,rfl,q1,z2,m2,rfl,q2,z3,m3,rfl,q3,q4⟩,hz⟩:=hy;exact⟨_,rfl,⟨_,_,rfl,q0,_,_,rfl,q1,_,_,rfl,RK h1 q2,_,_,rfl,RK h2 q3,q4⟩,hz⟩
 have hC2:CN ([z]++(R2++L)):=iL (A:=[z]) hY hC;have step2:∀(o:List OB) (X':AV),J5 v.keys.length (v.keys.map .s) X'->Au ([z]++(R2++L)) o ->
   (((∀G I y,Ab G I (.agg [.i .i64 v.kind,.s v.text,X',Y]) y->Ab G I (.agg (AP v)) y)/\K o (.agg (AP v)))\/∃b E sz gen n xs,o[b]? = some (.orow E sz gen n xs)/\(∀G I y,Ab G I (G5 b gen n xs (.agg [.i .i64 v.kind,.s v.text,X',Y])) y->Ab G I (.agg (AP v)) y)/\K (GC o b gen n xs) (.agg (AP v))):=by
  intro o X' h1 hO;rcases RM hY hO hC with ⟨rfl,h2⟩|⟨b,g,rfl,hb,hO2,hne⟩
  ·exact .inl ⟨fin h1 h2,hk _ hO⟩
  ·refine .inr ⟨b,_,_,g,_,_,hb,fun G I y hy=>?_,hk _ hO2⟩;refine fin h1 (.inr rfl) G I y ?_;have e1:Dj b g v.items.length (Ak v.items) (.orow b g)=.row v.items.length (Ak v.items):=if_pos ⟨rfl,rfl⟩;have e2:Dj b g v.items.length (Ak v.items) X'=X':=by
    rcases h1 with ⟨_,_,rfl⟩|rfl<;>rfl
   simp only[G5,zl,qa,e1,e2] at hy;exact hy
 rcases RM (A:=[z]) hX hO hC2 with ⟨rfl,h1⟩|⟨b,g,rfl,hb,hO2,hne⟩
 ·exact .inl (step2 o X h1 hO)
 ·refine .inr ⟨b,_,_,g,_,_,hb,?_⟩;have h1:J5 v.keys.length (v.keys.map .s) (.row v.keys.length (v.keys.map AV.s)):=.inr rfl;have e1:Dj b g v.keys.length (v.keys.map .s) (.orow b g)=.row v.keys.length (v.keys.map .s):=if_pos ⟨rfl,rfl⟩;have e2:Dj b g v.keys.length (v.keys.map .s) Y=Y:=Oe hY fun y hy=>hne y (by simp[hy]);have e3:G5 b g v.keys.length (v.keys.map .s) (.agg [.i .i64 v.kind,.s v.text,.orow b g,Y])=.agg [.i .i64 v.kind,.s v.text,.row v.keys.length (v.keys.map .s),Y]:=by
   simp only[G5,zl,qa,e1,e2];rfl
  rw[e3];exact step2 _ _ h1 hO2
end
section
attribute [local irreducible] run
structure PrP where
 name:List UInt8
 val:List UInt8
 nul:Bool
structure LkP where
 rel:List UInt8
 typ:List UInt8
 href:List UInt8
 tmp:List UInt8
 tit:List PrP
 pro:List PrP
end
section
attribute [local irreducible] run
theorem Cs {G:Gh} {I:Al} {y:Value} (h:Ab G I .nil y):Ab G I (.row 0 []) y:=by
 simp only[Ad,Ab] at h ⊢;exact⟨none,0,[],h,⟨ze _,fun ad h=>by cases h⟩,rfl,by simp,by simp⟩
theorem Gf {P:Program} [Tabs P] {f:FuncId} {args:List AV} {objs:List OB} {K:List OB->AV->Prop} (r':AV) (hc:Ah P f args objs (fun o r=>(∀G I y,Ab G I r y->Ab G I r' y)/\K o r')):Ah P f args objs K:=by
 intro C _ G I w hin hm ys hd;refine(hc C G I w hin hm ys hd).mono ?_;rintro e w' ⟨y,objs',r,G',I',he,⟨hr,hk⟩,h1,h2,h3,h4,hy⟩;exact⟨y,objs',r',G',I',he,hk,h1,h2,h3,h4,hr _ _ _ hy⟩
theorem Dx:∀l:List (List UInt8),AE (l.map AV.s)=true
 | []=>rfl
 | _::l=>Dx l
mutual
theorem Ke {o:List OB}:∀{d:Nat} {x:AV},x.plain=true->pub o d x=some x
 | d,.agg cs,h=>by
  simp only[pub];rw[H6 (show AE cs=true from h)];rfl
 | d,.tup cs,h=>by
  simp only[pub];rw[H6 (show AE cs=true from h)];rfl
 | d,.s l,h=>by cases d<;>(simp only[pub];rfl)
 | d,.i k n,h=>by cases d<;>(simp only[pub];rfl)
 | d,.b x,h=>by cases d<;>(simp only[pub];rfl)
 | d,.nil,h=>by cases d<;>(simp only[pub];rfl)
 | d,.zn x,h=>by cases d<;>(simp only[pub];rfl)
 | d,.o v,h=>by cases d<;>(simp only[pub];rfl)
 | d,.u,h=>by cases d<;>(simp only[pub];rfl)
 | d,.row n xs,h=>by cases d<;>(simp only[pub];rw[if_pos h])
 | d,.crow n xs,h=>by cases d<;>(simp only[pub];rw[if_pos h])
 | d,.prow xs j,h=>by cases d<;>(simp only[pub];rw[if_pos h])
 | d,.fn f fs cs,h=>by cases d<;>(simp only[pub];rw[if_pos h])
 | d,.p b off,h=>by simp[AV.plain] at h
 | d,.orow b g,h=>by simp[AV.plain] at h
 | d,.porow b g j,h=>by simp[AV.plain] at h
 | d,.bsl b off n,h=>by simp[AV.plain] at h
 | d,.m b,h=>by simp[AV.plain] at h
theorem H6 {o:List OB}:∀{d:Nat} {xs:List AV},AE xs=true->CC o d xs=some xs
 | d,[],h=>by simp only[CC]
 | d,x::xs,h=>by
  simp only[AE,Bool.and_eq_true] at h;simp only[CC];rw[Ke h.1,H6 h.2]
end
end
section
attribute [local irreducible] run
def As (a b:Int):Int:=if a=0 then b else a
def FC:OB->Prop
 | .box _ cs=>AE cs=true
 | _=>True
theorem Zs {X:OB} (h:FC X) (b g n:Nat) (xs:List AV):IA b g n xs X=X:=by
 cases X with
 | box T cs=>show OB.box T _=_;rw[II h]
 | _=>rfl
def Jd (m:Nat):OB->Prop
 | .box _ cs=>∀c∈cs,c.plain=true\/∃r g,c=.orow r g/\r<m
 | _=>True
theorem UF:∀{l:List AV},AE l=true->∀c∈l,c.plain=true
 | [],_,c,h=>by cases h
 | a::l,hp,c,h=>by
  simp only[AE,Bool.and_eq_true] at hp;rcases zv.1 h with rfl|h
  ·exact hp.1
  ·exact UF hp.2 c h
theorem FC.m {Y:OB} (h:FC Y) (m:Nat):Jd m Y:=by
 cases Y with
 | box T cs=>exact fun c hc=>.inl (UF h c hc)
 | _=>trivial
theorem Jd.mono {m m':Nat} {Y:OB} (h:Jd m Y) (hm:m<=m'):Jd m' Y:=by
 cases Y with
 | box T cs=>
  intro c hc;rcases h c hc with h|⟨r,g,h1,h2⟩
  ·exact .inl h
  ·exact .inr ⟨r,g,h1,Nat.lt_of_lt_of_le h2 hm⟩
 | _=>trivial
theorem Zr {m b g n:Nat} {xs:List AV} {X:OB} (h:Jd m X) (hm:m<=b):IA b g n xs X=X:=by
 cases X with
 | box T cs=>
  have e:∀c∈cs,Dj b g n xs c=id c:=by
   intro c hc;rcases h c hc with h|⟨r,g',rfl,h2⟩
   ·exact Uh h
   ·simp only[Dj];rw[if_neg (by omega)];rfl
  show OB.box T _=_;rw[show cs.map (Dj b g n xs)=cs from(List.map_congr_left e).trans (List.map_id cs)]
 | _=>rfl
def BH (o o':List OB) (b:Nat) (X:OB):Prop:=o'[b]? = some X/\o.length<=o'.length/\∀i Y,i≠b->o[i]? = some Y->Jd o.length Y->o'[i]? = some Y
theorem BH.app {o o':List OB} {b:Nat} {X:OB} (h:BH o o' b X) (z:OB):BH o (o'++[z]) b X:=by
 obtain⟨h1,h2,h3⟩:=h;refine⟨by rw[qh (zf.1 h1).1];exact h1,by simp;omega,fun i Y hb hi hp=>?_⟩;have:=h3 i Y hb hi hp;rw[qh (zf.1 this).1];exact this
theorem BH.refl {o:List OB} {b:Nat} {X:OB} (h:o[b]? = some X):BH o o b X:=⟨h,ze _,fun _ _ _ h _=>h⟩
theorem BH.trans {o o1 o2:List OB} {b:Nat} {X Y:OB} (h1:BH o o1 b X) (h2:BH o1 o2 b Y):BH o o2 b Y :=
 ⟨h2.1,qg h1.2.1 h2.2.1,fun i Z hb hi hp=>h2.2.2 i Z hb (h1.2.2 i Z hb hi hp) (hp.mono h1.2.1)⟩
theorem BH.set {o o':List OB} {b:Nat} {X:OB} (h:BH o o' b X) (Y:OB):BH o (o'.set b Y) b Y:=by
 obtain⟨h1,h2,h3⟩:=h;refine⟨zm (zf.1 h1).1,by simp;exact h2,fun i Z hb hi hp=>?_⟩;rw[zo (fun e=>hb e.symm)];exact h3 i Z hb hi hp
theorem BH.own {o o':List OB} {b:Nat} {X:OB} (h:BH o o' b X) (j:Nat) (Y:OB) (hj:o.length<=j) (hb:b<o.length):BH o (o'.set j Y) b X:=by
 obtain⟨h1,h2,h3⟩:=h;refine⟨by rw[zo (by omega)];exact h1,by simp;exact h2,fun i Z hn hi hp=>?_⟩;have:=(zf.1 hi).1;rw[zo (by omega)];exact h3 i Z hn hi hp
theorem BH.pub {o o':List OB} {b:Nat} {X:OB} (h:BH o o' b X) (hX:FC X) (r g n:Nat) (xs:List AV) (hr:o.length<=r) (hb:b<o.length):BH o (GC o' r g n xs) b X:=by
 obtain⟨h1,h2,h3⟩:=h;unfold GC;refine⟨by rw[zo (by omega),je,h1,jt,Zs hX],by simp;exact h2,fun i Z hn hi hp=>?_⟩;have:=(zf.1 hi).1;rw[zo (by omega),je,h3 i Z hn hi hp,jt,Zr hp hr]
def FF (m:Nat) (l:List (List UInt8)) (o:List OB) (X:AV):Prop:=(l=[]/\X=.nil)\/∃r g,X=.orow r g/\m<=r/\o[r]? = some (.orow 9 1 g l.length (l.map .s))
theorem FF.mono {m:Nat} {l:List (List UInt8)} {o:List OB} {X:AV} (h:FF m l o X) (z:OB):FF m l (o++[z]) X:=by
 rcases h with h|⟨r,g,h1,h0,h2⟩
 ·exact .inl h
 ·exact .inr ⟨r,g,h1,h0,by rw[qh (zf.1 h2).1];exact h2⟩
theorem IY {v:JV} (hv:AY v) (key:List UInt8):AY (An v key).1:=by
 unfold An
 split
 ·split
  ·rename_i x hx;obtain⟨hi,rfl⟩:=zf.1 hx;exact hv.its hi
  ·rw[Cm,AY];exact⟨by decide,by simp,by simp,by simp,by simp,by rw[B6];trivial⟩
 ·rw[Cm,AY];exact⟨by decide,by simp,by simp,by simp,by simp,by rw[B6];trivial⟩
theorem Xc:Bo Cm:=by rw[Cm,Bo];exact⟨by simp,by simp,by rw[BN];trivial⟩
theorem ZR {v:JV} (hv:Bo v) (key:List UInt8):Bo (An v key).1:=by
 unfold An
 split
 ·split
  ·rename_i x hx;obtain⟨hi,rfl⟩:=zf.1 hx;obtain⟨k,t,ks,its⟩:=v;rw[Bo] at hv;exact Oc hv.2.2 hi
  ·exact Xc
 ·exact Xc
end
theorem KM (x:UInt8) (t set:List UInt8):Aq (x::t) set=if AI x set=true then 0 else Aq t set+1:=by
 unfold Aq;rw[List.findIdx_cons]
 cases AI x set<;>rfl
theorem He (c:UInt8):∀l:List UInt8,(Aq l [c]<l.length->Af c l=(l.take (Aq l [c]),l.drop (Aq l [c]+1),true))/\(¬Aq l [c]<l.length->Af c l=(l,[],false))
 | []=>⟨fun h=>absurd h (by simp),fun _=>rfl⟩
 | x::t=>by
  have ih:=He c t;rw[KM,CO]
  by_cases hx:x=c
  ·subst hx;have:AI x [x]=true:=by simp[AI]
   rw[if_pos this,if_pos rfl];exact⟨fun _=>by simp,fun h=>absurd (by simp) h⟩
  ·have:¬AI x [c]=true:=by simp[AI,hx]
   rw[if_neg this,if_neg hx];refine⟨fun h=>?_,fun h=>?_⟩
   ·rw[ih.1 (by simp at h;omega)];simp
   ·rw[ih.2 (by simp at h ⊢;omega)]
theorem gS (x:UInt8) (t:List UInt8):A8 (x::t)=if x=47 then [] else x::A8 t:=by
 unfold A8;rw[CO]
 split<;>rfl
theorem N0:∀l:List UInt8,(∀h:Aq l [58,47]<l.length,l[Aq l [58,47]]=58->(Af 58 (A8 l)).1=l.take (Aq l [58,47])/\(Af 58 (A8 l)).1.length=Aq l [58,47]/\(Af 58 (A8 l)).2.2=true) /\
  ((∀h:Aq l [58,47]<l.length,l[Aq l [58,47]]≠58)->(Af 58 (A8 l)).2.2=false)
 | []=>⟨fun h=>absurd h (by simp),fun _=>rfl⟩
 | x::t=>by
  have ih:=N0 t;rw[gS]
  by_cases h47:x=47
  ·subst h47;have e:Aq (47::t) [58,47]=0:=by rw[KM,if_pos (by decide)]
   rw[if_pos rfl];refine⟨fun h he=>?_,fun _=>rfl⟩;simp only[e] at he;exact absurd he (by simp)
  ·rw[if_neg h47,CO]
   by_cases h58:x=58
   ·subst h58;have e:Aq (58::t) [58,47]=0:=by rw[KM,if_pos (by decide)]
    rw[if_pos rfl];refine⟨fun h he=>by simp[e],fun h=>?_⟩;exact absurd (by simp[e]) (h (by simp[e]))
   ·have e:Aq (x::t) [58,47]=Aq t [58,47]+1:=by rw[KM,if_neg (by simp[AI,h47,h58])]
    rw[if_neg h58];simp only[e];refine⟨fun h he=>?_,fun h=>?_⟩
    ·obtain⟨h1,h2,h3⟩:=ih.1 (by simp at h;omega) (by simpa using he);exact⟨by simp[h1],by simp[h2],h3⟩
    ·exact ih.2 (fun h'=>by have:=h (by simp;omega);simpa using this)
theorem ZY (R:List UInt8):(R.take (2+(((A8 (R.drop 2)).length:Nat):Int)).toNat).drop 2=A8 (R.drop 2):=by
 have hfe:=(Gs (R.drop 2)).1;rw[show (2+(((A8 (R.drop 2)).length:Nat):Int)).toNat=2+(A8 (R.drop 2)).length by omega,<-List.take_drop,<-hfe]
theorem cV (R:List UInt8):R.drop (2+(((A8 (R.drop 2)).length:Nat):Int)).toNat=(R.drop 2).drop (A8 (R.drop 2)).length:=by
 rw[show (2+(((A8 (R.drop 2)).length:Nat):Int)).toNat=2+(A8 (R.drop 2)).length by omega,jo]
def uJ (sc au fr qu:List UInt8) (hs ha hq hf:Bool) (r:List UInt8) (o:List OB) (t:List AV):Prop :=
 o=[.box 99 [.s [],.s [],.s [],.s [],.s [],.b false,.b false,.b false,.b false],.box 99 [.s sc,.s au,.s [],.s qu,.s fr,.b hs,.b ha,.b hq,.b hf]]/\t.length=87/\t[0]? = some (.s r)/\t[2]? = some (.p 0 0)/\t[4]? = some (.p 1 0)
section
variable [Tabs Tryz.prog] {objs:List OB} {K:List OB->AV->Prop}
theorem O8 (s:List UInt8) (hs:s.length<=140737488351232) (hk:K objs (.tup [AR (AB s).2,.i .i64 (AB s).1])):Ah Tryz.prog 107 [.s s] objs K:=by
 have hm:maxLen=2 ^ 63 - 1:=rfl;refine AF lN rfl fun C _=>?_;rw[VE];refine Ac fun Z hZ=>?_;simp only[Aa,simprocAttr];subst hZ;refine Ac fun Z hZ=>?_
 by_cases hb:16384<s.length
 ·have hb':(16384:Int)<s.length:=by omega
  unfold AB at hk;rw[if_pos hb] at hk;simp only[Aa,simprocAttr,hb'];exact hk
 have hb':¬(16384:Int)<s.length:=by omega
 simp only[Aa,simprocAttr,hb'];subst hZ;refine Ac fun Z hZ=>?_;simp only[Aa,simprocAttr];subst hZ;refine Ac fun Z hZ=>?_;refine Bq (fun o t=>∃(l1 fr:List UInt8) (bf:Bool),Af 35 s=(l1,fr,bf)/\l1.length<=s.length/\uJ [] [] fr [] false false false bf l1 o t) ?_ ?_
 ·refine Ac fun Y hY=>?_;simp only[Aa,simprocAttr];refine Ae (ES s [35] (by omega) (by simp;omega) ?_);simp only[Aa,simprocAttr];subst hY;have c:=He 35 s
  by_cases h:Aq s [35]<s.length
  ·have h':((Aq s [35]:Nat):Int)<s.length:=by omega
   have e1:((Aq s [35]:Int)+1).toNat=Aq s [35]+1:=by omega
   simp only[Aa,simprocAttr,h',c.1 h,Ap,zt,e1,jh];exact⟨⟨by omega,by omega⟩,⟨by omega,by omega,by omega⟩,⟨by omega,by omega⟩,_,_,_,rfl,by rw[zq];omega,rfl,rfl,rfl,rfl,rfl⟩
  ·have h':¬((Aq s [35]:Nat):Int)<s.length:=by omega
   simp only[Aa,simprocAttr,h',c.2 h,Ap];exact⟨_,_,_,rfl,ze _,rfl,rfl,rfl,rfl,rfl⟩
 rintro _ t ⟨l1,fr,bf,e35,hl1,rfl,hlen,t0,t2,t4⟩;subst hZ;refine Ac fun Z hZ=>?_;refine Bq (fun o t=>∃(l2 qu:List UInt8) (bq:Bool),Af 63 l1=(l2,qu,bq)/\l2.length<=s.length/\uJ [] [] fr qu false false bq bf l2 o t) ?_ ?_
 ·refine Ac fun Y hY=>?_;simp only[Aa,simprocAttr,za,hlen,t0,t2,t4];refine Ae (ES l1 [63] (by omega) (by simp;omega) ?_);simp only[Aa,simprocAttr,za,hlen,t0,t2,t4];subst hY;have c:=He 63 l1
  by_cases h:Aq l1 [63]<l1.length
  ·have h':((Aq l1 [63]:Nat):Int)<l1.length:=by omega
   have e1:((Aq l1 [63]:Int)+1).toNat=Aq l1 [63]+1:=by omega
   simp only[Aa,simprocAttr,za,hlen,t0,t2,t4,h',c.1 h,Ap,zt,e1,jh,uJ];exact⟨⟨by omega,by omega⟩,⟨by omega,by omega,by omega⟩,⟨by omega,by omega⟩,_,_,_,rfl,by rw[zq];omega,rfl,rfl⟩
  ·have h':¬((Aq l1 [63]:Nat):Int)<l1.length:=by omega
   simp only[Aa,simprocAttr,za,hlen,t0,t2,t4,h',c.2 h,Ap,uJ];exact⟨_,_,_,rfl,hl1,rfl,rfl⟩
 clear hlen t0 t2 t4;rintro _ t ⟨l2,qu,bq,e63,hl2,rfl,hlen,t0,t2,t4⟩;rw[U6 hb e35 e63] at hk;subst hZ;refine Ac fun Z hZ=>?_;refine Bq (fun o t=>∃(r sc:List UInt8) (hs:Bool),r.length<=s.length/\K objs (.tup [AR ⟨sc,ED r,FN r,qu,fr,hs,E6 r,bq,bf⟩,.i .i64 0])/\uJ sc [] fr qu hs false bq bf r o t) ?_ ?_
 ·refine Ac fun Y hY=>?_;simp only[Aa,simprocAttr,za,hlen,t0,t2,t4];refine Ae (ES l2 [58,47] (by omega) (by simp;omega) ?_);simp only[Aa,simprocAttr,za,hlen,t0,t2,t4];subst hY;refine Ac fun Y hY=>?_;have c:=N0 l2;unfold Lz at hk
  by_cases h:∃h:Aq l2 [58,47]<l2.length,l2[Aq l2 [58,47]]=58
  ·obtain⟨h,hc⟩:=h;obtain⟨q1,q2,q3⟩:=c.1 h hc;have h':((Aq l2 [58,47]:Nat):Int)<l2.length:=by omega
   have e1:((Aq l2 [58,47]:Int)+1).toNat=Aq l2 [58,47]+1:=by omega
   have e2:l2.getD (Aq l2 [58,47]) 0=58:=by rw[jz,zk h,hc];rfl
   have e3:((58:UInt8).toNat:Int)=58:=rfl;rw[q2,q1,q3] at hk;simp only[Aa,simprocAttr,za,hlen,t0,t2,t4,h',zt,e2,e3];subst hY;simp only[Aa,simprocAttr,za,hlen,t0,t2,t4,h',zt,jh];refine⟨by omega,⟨by omega,by omega⟩,Ae (fL (l2.take (Aq l2 [58,47])) (by rw[zq];omega) ?_)⟩
   cases hsb:Fw (l2.take (Aq l2 [58,47])) with
   | false=>
    rw[hsb] at hk;simp only[Aa,simprocAttr,za,hlen,t0,t2,t4,GM];exact hk
   | true=>
    rw[hsb] at hk;simp only[Aa,simprocAttr,za,hlen,t0,t2,t4,Ap,zt,e1,jh,uJ];exact⟨⟨by omega,by omega⟩,⟨by omega,by omega⟩,⟨by omega,by omega,by omega⟩,l2.drop (Aq l2 [58,47]+1),l2.take (Aq l2 [58,47]),true,by rw[zr];omega,hk,rfl,rfl⟩
  ·have q3:=c.2 fun h' e=>h ⟨h',e⟩;rw[q3] at hk
   by_cases h1:Aq l2 [58,47]<l2.length
   ·have h':((Aq l2 [58,47]:Nat):Int)<l2.length:=by omega
    have e2:¬((l2.getD (Aq l2 [58,47]) 0).toNat:Int)=58:=fun e=>h ⟨h1,by
     rw[jz,zk h1] at e;exact UInt8.toNat_inj.1 (by have:(58:UInt8).toNat=58:=rfl;simp only[Option.getD_some] at e;omega)⟩
    simp only[Aa,simprocAttr,za,hlen,t0,t2,t4,h',zt,e2];subst hY;simp only[Aa,simprocAttr,za,hlen,t0,t2,t4,h',Ap,uJ];exact⟨by omega,l2,[],false,hl2,hk,rfl,rfl⟩
   ·have h':¬((Aq l2 [58,47]:Nat):Int)<l2.length:=by omega
    simp only[Aa,simprocAttr,za,hlen,t0,t2,t4,h'];subst hY;simp only[Aa,simprocAttr,za,hlen,t0,t2,t4,Ap,uJ];exact⟨l2,[],false,hl2,hk,rfl,rfl⟩
 clear hk hlen t0 t2 t4;rintro _ t ⟨r,sc,hs,hr,hk,rfl,hlen,t0,t2,t4⟩;subst hZ;refine Ac fun Z hZ=>?_;refine Bq (uJ sc (ED r) fr qu hs (E6 r) bq bf (FN r)) ?_ ?_
 ·refine Ac fun Y hY=>?_;simp only[Aa,simprocAttr,za,hlen,t0,t2,t4];refine Ae (I1 r [47,47] (by omega) ?_);unfold FN ED
  cases h:E6 r with
  | false=>
   rw[show zj r [47,47]=false from h];subst hY;simp only[Aa,simprocAttr,za,hlen,t0,t2,t4,Ap,uJ]
  | true=>
   have h2:=fC h;have hd:(r.drop 2).length=r.length - 2:=zr ..;have hf:=(Gs (r.drop 2)).2;rw[show zj r [47,47]=true from h];subst hY;simp only[Aa,simprocAttr,za,hlen,t0,t2,t4,zt];refine⟨by omega,Ae (ES (r.drop 2) [47] (by omega) (by simp;omega) ?_)⟩;rw[show Aq (r.drop 2) [47]=(A8 (r.drop 2)).length from L6 47 _];simp only[Aa,simprocAttr,za,hlen,t0,t2,t4,zt,Ap,uJ];rw[ZY,cV];exact⟨⟨by omega,by omega⟩,⟨by omega,by omega⟩,⟨by omega,by omega,by omega⟩,rfl,rfl⟩
 ·clear hlen t0 t2 t4;rintro _ t ⟨rfl,hlen,t0,t2,t4⟩;subst hZ;simp only[Aa,simprocAttr,za,hlen,t0,t2,t4];exact hk
end
end Go.Proofs.YtbgaknpnkcdbfaaGreatDoor
namespace Go.Proofs.YtbgaknpnkcdbfaaGreatDoor
open Go.RowKit
open Lib renaming hid->zb
open Nat renaming le_refl->ze
def DZ (l:List UInt8):Int×List UInt8×Nat :=
 if (CM (Af 58 l).1).1≠0 then ((CM (Af 58 l).1).1,[],0)
 else if (Af 58 l).2.2=false then (0,(CM (Af 58 l).1).2,0)
 else if (DF (Af 58 l).2.1).1≠0 then ((DF (Af 58 l).2.1).1,[],0)
 else (0,(CM (Af 58 l).1).2,if (DF (Af 58 l).2.1).2=443 then 0 else (DF (Af 58 l).2.1).2)
def Gw (r:Int×List UInt8×Nat):Value:=.tuple #[.agg #[.string (S r.2.1),.int .i64 r.2.2],.int .i64 r.1]
theorem cS (s:ByteArray) (w:World) (hs:s.size<=maxLen) :
  Calls Tryz.prog 90 #[.string s] w fun e w'=>e=.returned (Gw (DZ s.data.toList))/\Qb w w':=by
 obtain⟨p,q,b,hcut⟩:∃p q b,Af 58 s.data.toList=(p,q,b):=⟨_,_,_,rfl⟩;obtain⟨he,h,hh⟩:∃he h,CM p=(he,h):=⟨_,_,rfl⟩;obtain⟨pe,pn,hp⟩:∃pe pn,DF q=(pe,pn):=⟨_,_,rfl⟩;have HC:=zb hcut;have HH:=zb hh;have HP:=zb hp;have hsp:(S p).size<=maxLen:=by
  have:=(EG 58 s.data.toList).1;rw[hcut,Ay] at this;rw[AL];simp at this;omega
 have hsq:(S q).size<=maxLen:=by
  have:=(EG 58 s.data.toList).2;rw[hcut,Ay] at this;rw[AL];simp at this;omega
 have HE:Hid (DZ s.data.toList=if he≠0 then (he,[],0) else if b=false then (0,h,0) else if pe≠0 then (pe,[],0) else (0,h,if pn=443 then 0 else pn)):=zb (by
  unfold DZ;rw[hcut];simp only;rw[hh,hp])
 clear hcut hh hp
 by_cases hee:he=0
 ·subst hee;rcases b with _|_
  ·have HF:Hid (DZ s.data.toList=(0,h,0)):=zb (by rw[HE.out,if_neg (by simp),if_pos rfl])
   go_enter Tryz.func90,Tryz.ntmps90
   go_wp2_with fail
   refine(D7 s 58 _ hs).mono ?_;rintro e w1 ⟨rfl,hq1⟩;rw[HC.out];unfold DD
   go_wp2_with fail
   refine(Ky _ _ hsp).mono ?_;rintro e w2 ⟨rfl,hq2⟩;rw[AO,HH.out];unfold Dd;have hk:=(BL.new w _ _).qb (hq1.trans hq2);have hc0:=hk.cell 0;have hc1:=hk.cell 1;have hf0:=hk.frozen 0;have hf1:=hk.frozen 1;simp at hc0 hc1
   go_wp2_with fail
   exact bodyPost_ret (v:=Gw (0,h,0)) (by simp[results,Tryz.results90,go_sem,hc0,hc1,hf0,hf1,Gw]) rfl ⟨by rw[HF.out],((((Qb.refl w).alloc _).trans (hq1.trans hq2)).set (ze _) _).set (ze _) _⟩
  ·by_cases hpe:pe=0
   ·subst hpe
    by_cases h443:pn=443
    ·subst h443;have HF:Hid (DZ s.data.toList=(0,h,0)):=zb (by rw[HE.out,if_neg (by simp),if_neg (by simp),if_neg (by simp),if_pos rfl])
     go_enter Tryz.func90,Tryz.ntmps90
     go_wp2_with fail
     refine(D7 s 58 _ hs).mono ?_;rintro e w1 ⟨rfl,hq1⟩;rw[HC.out];unfold DD
     go_wp2_with fail
     refine(Ky _ _ hsp).mono ?_;rintro e w2 ⟨rfl,hq2⟩;rw[AO,HH.out];unfold Dd
     go_wp2_with fail
     refine(Ot _ _ hsq).mono ?_;rintro e w3 ⟨rfl,rfl⟩;rw[AO,HP.out];unfold Kb;have hk:=(BL.new w _ _).qb (hq1.trans hq2);have hc0:=hk.cell 0;have hc1:=hk.cell 1;have hf0:=hk.frozen 0;have hf1:=hk.frozen 1;simp at hc0 hc1
     go_wp2_with fail
     exact bodyPost_ret (v:=Gw (0,h,0)) (by simp[results,Tryz.results90,go_sem,hc0,hc1,hf0,hf1,Gw]) rfl ⟨by rw[HF.out],((((Qb.refl w).alloc _).trans (hq1.trans hq2)).set (ze _) _).set (ze _) _⟩
    ·have HF:Hid (DZ s.data.toList=(0,h,pn)):=zb (by rw[HE.out,if_neg (by simp),if_neg (by simp),if_neg (by simp),if_neg h443]);have hb4:((pn:Int)==443)=false:=by rw[beq_eq_false_iff_ne];omega
     go_enter Tryz.func90,Tryz.ntmps90
     go_wp2_with fail
     refine(D7 s 58 _ hs).mono ?_;rintro e w1 ⟨rfl,hq1⟩;rw[HC.out];unfold DD
     go_wp2_with fail
     refine(Ky _ _ hsp).mono ?_;rintro e w2 ⟨rfl,hq2⟩;rw[AO,HH.out];unfold Dd
     go_wp2_with fail
     refine(Ot _ _ hsq).mono ?_;rintro e w3 ⟨rfl,rfl⟩;rw[AO,HP.out];unfold Kb;have hk:=(BL.new w _ _).qb (hq1.trans hq2);have hc0:=hk.cell 0;have hc1:=hk.cell 1;have hf0:=hk.frozen 0;have hf1:=hk.frozen 1;simp at hc0 hc1
     go_wp2_with fail
     exact bodyPost_ret (v:=Gw (0,h,pn)) (by simp[results,Tryz.results90,go_sem,hc0,hc1,hf0,hf1,Gw]) rfl ⟨by rw[HF.out],((((Qb.refl w).alloc _).trans (hq1.trans hq2)).set (ze _) _).set (ze _) _⟩
   ·have HF:Hid (DZ s.data.toList=(pe,[],0)):=zb (by rw[HE.out,if_neg (by simp),if_neg (by simp),if_pos hpe]);have hb:=bne_iff_ne.2 hpe
    go_enter Tryz.func90,Tryz.ntmps90
    go_wp2_with fail
    refine(D7 s 58 _ hs).mono ?_;rintro e w1 ⟨rfl,hq1⟩;rw[HC.out];unfold DD
    go_wp2_with fail
    refine(Ky _ _ hsp).mono ?_;rintro e w2 ⟨rfl,hq2⟩;rw[AO,HH.out];unfold Dd
    go_wp2_with fail
    refine(Ot _ _ hsq).mono ?_;rintro e w3 ⟨rfl,rfl⟩;rw[AO,HP.out];unfold Kb;have hk:=(BL.new w _ _).qb (hq1.trans hq2);have hc0:=hk.cell 0;have hc1:=hk.cell 1;have hf0:=hk.frozen 0;have hf1:=hk.frozen 1;simp at hc0 hc1
    go_wp2_with fail
    exact bodyPost_ret (v:=Gw (pe,[],0)) (by simp[results,Tryz.results90,go_sem,hc0,hc1,hf0,hf1,Gw]) rfl ⟨by rw[HF.out],((((Qb.refl w).alloc _).trans (hq1.trans hq2)).set (ze _) _).set (ze _) _⟩
 ·have HF:Hid (DZ s.data.toList=(he,[],0)):=zb (by rw[HE.out,if_pos hee]);have hb:(he != 0)=true:=bne_iff_ne.2 hee
  go_enter Tryz.func90,Tryz.ntmps90
  go_wp2_with fail
  refine(D7 s 58 _ hs).mono ?_;rintro e w1 ⟨rfl,hq1⟩;rw[HC.out];unfold DD
  go_wp2_with fail
  refine(Ky _ _ hsp).mono ?_;rintro e w2 ⟨rfl,hq2⟩;rw[AO,HH.out];unfold Dd;have hk:=(BL.new w _ _).qb (hq1.trans hq2);have hc0:=hk.cell 0;have hc1:=hk.cell 1;have hf0:=hk.frozen 0;have hf1:=hk.frozen 1;simp at hc0 hc1
  go_wp2_with fail
  exact bodyPost_ret (v:=Gw (he,[],0)) (by simp[results,Tryz.results90,go_sem,hc0,hc1,hf0,hf1,Gw]) rfl ⟨by rw[HF.out],((((Qb.refl w).alloc _).trans (hq1.trans hq2)).set (ze _) _).set (ze _) _⟩
end Go.Proofs.YtbgaknpnkcdbfaaGreatDoor
namespace Go.Proofs.YtbgaknpnkcdbfaaGreatDoor
open Lib renaming hid->zb
open List renaming append_assoc->zu, append_nil->qm
open Nat renaming le_refl->ze
theorem jQ (l:List UInt8):(Bw l).length=l.length:=by simp[Bw]
open Go.RowKit
theorem qI {c:UInt8} (h:c≠37):((c.toNat:Int)==37)=false:=by
 rw[beq_eq_false_iff_ne];intro e;exact h (UInt8.toNat_inj.1 (show c.toNat=37 from by omega))
theorem JU {c:UInt8} {l:List UInt8} (h:BY c=true):D3 c l=true:=by unfold D3;rw[h];rfl
theorem TL {c:UInt8} {l:List UInt8} (h:BY c=false) (hc:c≠37):D3 c l=AI c l:=by
 have h1:(c.toNat != 37)=true:=bne_iff_ne.2 (fun e=>hc (UInt8.toNat_inj.1 e));unfold D3;rw[h,h1];rfl
theorem vZ:BY 37=false:=by decide
set_option maxHeartbeats 800000 in
theorem eF (s also:ByteArray) (w:World) (ha:also.size<=maxLen) :
  Calls Tryz.prog 110 #[.string s,.string also] w fun e w'=>e=.returned (Dd (Am s.data.toList also.data.toList))/\Qb w w':=by
 by_cases hs:s.size<=16384
 ·have hd:Am s.data.toList also.data.toList=Ao (Bb also.data.toList) 0 s.data.toList []:=by unfold Am C9;rw[if_neg (by rw[Ay];omega)]
  rw[hd]
  go_enter Tryz.func110,Tryz.ntmps110
  go_wp2_with fail
  go_loopw [6,7,8,9] (fun v i _ _ wr=>∃k:Nat,∃l,k<=s.size/\i=.int .i64 k/\A0 wr w.heap.size v l/\l.length<=3*k/\Hid (Ao (Bb also.data.toList) 0 s.data.toList []=Ao (Bb also.data.toList) 0 (s.data.toList.drop k) l)/\Qb w wr) (fun _ i _ _ _=>s.size - (intOf i).toNat)
  case atStart=>exact⟨0,[],Nat.zero_le _,rfl,A0.nil _ _,Nat.zero_le _,zb rfl,Qb.refl w⟩
  case round=>
   obtain⟨k,l,hk,rfl,hrow,hlen,HR,hq⟩:=hrel;have hB:w.heap.size<=wr.heap.size:=hq.size
   by_cases hlt:k<s.size
   ·by_cases hc:s[k]=37
    ·have h37:((s[k].toNat:Int) != 37)=false:=by rw[hc];rfl
     have HC:=zb hc;clear hc;rcases he:BF (s.data.toList.drop k) with _|_
     ·have HE:=zb (LY (Bb also.data.toList) s k l hlt HC.out he)
      go_wp2_with (go_at_call 147;refine(K1 s k hlt (by omega) HC.out _).mono ?_;rintro e w0 ⟨rfl,hq1⟩;have hrow0:=hrow.below hq1)
      go_ret2
      exact⟨by rw[HR.out,HE.out];rfl,hq.trans hq1⟩
     ·have HV:=zb (Oz he);have HE0:=zb he;have h2:=Py s k he;rcases hu:BY (Fi (s.data.toList.drop k)) with _|_
      ·have ha1:Bb also.data.toList l (Bj (s.data.toList.drop k)) true=(0,l++BX (Fi (s.data.toList.drop k))):=by rw[<-HV.out];exact JE hu
       have HE:=zb (Ks (Bb also.data.toList) s k l hlt HC.out he (by rw[ha1]));have HJ:=zb (NO (Bb also.data.toList) s (k+1) (k+3) (by omega) (l++BX (Fi (s.data.toList.drop k))));have HA:=zb ha1;have hsz:(S (BX (Fi (s.data.toList.drop k)))).size<=3:=by rw[AL];exact ze _
       clear ha1
       go_wp2_with (first|(go_at_call 147;refine(K1 s k hlt (by omega) HC.out _).mono ?_;rintro e w0 ⟨rfl,hq1⟩;have hrow0:=hrow.below hq1)|(go_at_call 155;refine(KZ _ _).mono ?_;rintro e w' ⟨rfl,rfl⟩)|(go_at_call 148;refine(Vc _ _).mono ?_;rintro e w3 ⟨rfl,hq3⟩;have hrow3:=hrow0.below hq3)|(at_builtin;refine nH rfl (.tmp 56) (.tmp 58) rfl w.heap.size _ l rfl hrow3 _ rfl (by omega) (by have:=hq1.size;have:=hq3.size;omega) ?_;intro v1 w1 hr1 hb1))
       go_roundw
       case rel=>exact⟨k+3,_,by omega,by go_num,hr1,by simp[BX];omega,zb (by rw[HR.out,HE.out,HA.out,<-HJ.out]),Below.trans ((hq.trans hq1).trans hq3) hb1⟩
       case measure=>simp[intOf];omega
      ·have ha1:Bb also.data.toList l (Bj (s.data.toList.drop k)) true=(0,l++[Fi (s.data.toList.drop k)]):=by
        rw[<-HV.out];exact Fx (by rw[hu];rfl) (JU hu)
       have HE:=zb (Ks (Bb also.data.toList) s k l hlt HC.out he (by rw[ha1]));have HJ:=zb (NO (Bb also.data.toList) s (k+1) (k+3) (by omega) (l++[Fi (s.data.toList.drop k)]));have HA:=zb ha1;clear ha1
       go_wp2_with (first|(go_at_call 147;refine(K1 s k hlt (by omega) HC.out _).mono ?_;rintro e w0 ⟨rfl,hq1⟩;have hrow0:=hrow.below hq1)|(go_at_call 155;refine(KZ _ _).mono ?_;rintro e w' ⟨rfl,rfl⟩)|(at_builtin;refine Ih rfl (.tmp 52) (.tmp 54) rfl w.heap.size _ l [Fi (s.data.toList.drop k)] rfl (hrow0.alloc _) _ _ _ rfl rfl (Hy _ _) (by simp;omega) (by have:=hq1.size;simp;omega) ?_;intro v1 w1 hr1 hb1))
       go_roundw
       case rel=>exact⟨k+3,_,by omega,by go_num,hr1,by simp;omega,zb (by rw[HR.out,HE.out,HA.out,<-HJ.out]),Below.trans ((hq.trans hq1).alloc _) hb1⟩
       case measure=>simp[intOf];omega
    ·have h37:((s[k].toNat:Int) != 37)=true:=by have:=qI hc;simpa using this
     have HC:=zb hc;clear hc;rcases hp:D3 s[k] also.data.toList with _|_
     ·have hu:BY s[k]=false:=by
       rcases hu:BY s[k] with _|_
       ·rfl
       ·rw[JU hu] at hp;cases hp
      have hi:AI s[k] also.data.toList=false:=by rw[<-TL hu HC.out];exact hp
      have ha1:Bb also.data.toList l s[k] false=(1,[]):=Mg rfl hp;have HE:=zb (P1 (Bb also.data.toList) s k l hlt HC.out (by rw[ha1];decide));have HA:=zb ha1;clear ha1 hp
      go_wp2_with (first|(go_at_call 155;refine(KZ _ _).mono ?_;rintro e w' ⟨rfl,rfl⟩)|(go_at_call 73;refine(GJ _ _ _ ha).mono ?_;rintro e w' ⟨rfl,rfl⟩))
      go_ret2
      exact⟨by rw[HR.out,HE.out,HA.out];rfl,hq⟩
     ·have ha1:Bb also.data.toList l s[k] false=(0,l++[s[k]]):=Fx rfl hp;have HE:=zb (LR (Bb also.data.toList) s k l hlt HC.out (by rw[ha1]));have HA:=zb ha1;clear ha1;rcases hu:BY s[k] with _|_
      ·have hi:AI s[k] also.data.toList=true:=by rw[<-TL hu HC.out];exact hp
       clear hp
       go_wp2_with (first|(go_at_call 155;refine(KZ _ _).mono ?_;rintro e w' ⟨rfl,rfl⟩)|(go_at_call 73;refine(GJ _ _ _ ha).mono ?_;rintro e w' ⟨rfl,rfl⟩)|(at_builtin;refine Ih rfl (.tmp 36) (.tmp 40) rfl w.heap.size _ l [s[k]] rfl (hrow.alloc _) _ _ _ rfl rfl (Hy _ _) (by simp;omega) (by simp;omega) ?_;intro v1 w1 hr1 hb1))
       go_roundw
       case rel=>exact⟨k+1,_,by omega,by go_num,hr1,by simp;omega,zb (by rw[HR.out,HE.out,HA.out,Nat.sub_self]),Below.trans (hq.alloc _) hb1⟩
       case measure=>simp[intOf];omega
      ·clear hp
       go_wp2_with (first|(go_at_call 155;refine(KZ _ _).mono ?_;rintro e w' ⟨rfl,rfl⟩)|(go_at_call 73;refine(GJ _ _ _ ha).mono ?_;rintro e w' ⟨rfl,rfl⟩)|(at_builtin;refine Ih rfl (.tmp 36) (.tmp 40) rfl w.heap.size _ l [s[k]] rfl (hrow.alloc _) _ _ _ rfl rfl (Hy _ _) (by simp;omega) (by simp;omega) ?_;intro v1 w1 hr1 hb1))
       go_roundw
       case rel=>exact⟨k+1,_,by omega,by go_num,hr1,by simp;omega,zb (by rw[HR.out,HE.out,HA.out,Nat.sub_self]),Below.trans (hq.alloc _) hb1⟩
       case measure=>simp[intOf];omega
   ·have HE:=zb (LZ (Bb also.data.toList) s k l 0 hlt);have hst:=JD hrow
    go_wp2_with fail
    go_ret2
    exact⟨by rw[HR.out,HE.out];rfl,hq⟩
 ·have hd:Am s.data.toList also.data.toList=(5,[]):=by unfold Am C9;rw[if_pos (by rw[Ay];omega)]
  rw[hd]
  go_enter Tryz.func110,Tryz.ntmps110
  go_wp2_with fail
  go_ret2
  exact⟨rfl,Qb.refl _⟩
theorem Uw:∀n:Fin 16,A9 (Cb n.val)=true/\EW (Cb n.val)=n.val/\Cb n.val≠37:=by decide
theorem RA (c:UInt8) (r:List UInt8):BF (BX c++r)=true/\Bj (BX c++r)=c:=by
 have hc:=c.toNat_lt;have h1:=Uw ⟨c.toNat / 16,by omega⟩;have h2:=Uw ⟨c.toNat % 16,by omega⟩;simp only at h1 h2
 constructor
 ·show (A9 (Cb (c.toNat / 16))&&A9 (Cb (c.toNat % 16)))=true;rw[h1.1,h2.1];rfl
 ·show UInt8.ofNat (16*EW (Cb (c.toNat / 16))+EW (Cb (c.toNat % 16)))=c;rw[h1.2.1,h2.2.1,show 16*(c.toNat / 16)+c.toNat % 16=c.toNat from by omega];exact UInt8.ofNat_toNat
theorem SY (add:G6) (c:UInt8) (r out:List UInt8) (o2:List UInt8) (h:add out c true=(0,o2)):Ao add 0 (BX c++r) out=Ao add 0 r o2:=by
 have h1:=RA c r;show Ao add 0 (37::([Cb (c.toNat / 16),Cb (c.toNat % 16)]++r)) out=_;have e:(37::([Cb (c.toNat / 16),Cb (c.toNat % 16)]++r):List UInt8)=BX c++r:=rfl;rw[Ao,if_pos rfl,e,if_pos h1.1,h1.2,h,if_pos rfl,FV]
 rfl
theorem Mo (add:G6) (c:UInt8) (r out:List UInt8) (o2:List UInt8) (hc:c≠37) (h:add out c false=(0,o2)):Ao add 0 ([c]++r) out=Ao add 0 r o2:=by
 show Ao add 0 (c::r) out=_;rw[Ao,if_neg hc,h,if_pos rfl]
def qA (also l y a:List UInt8):Prop :=
 (∀o r,Ao (Bb also) 0 (y++r) o=Ao (Bb also) 0 r (o++y))/\(∀o,Ao A5 0 l o=(0,o++a))/\(∀o r,Ao A5 0 (y++r) o=Ao A5 0 r (o++a))/\y.length<=l.length
theorem Hi {c:UInt8} {t:List UInt8} (h:BF (c::t)=true):∃a b r,t=a::b::r:=by
 match t,h with
 | a::b::r,_=>exact⟨a,b,r,rfl⟩
theorem Uy {x:UInt8} (h:BY x=true):x≠37:=by
 rintro rfl;rw[vZ] at h;cases h
theorem Pg (also:List UInt8):∀(n:Nat) (l out x:List UInt8),l.length<=n->Ao (Bb also) 0 l out=(0,x)->∃y a,x=out++y/\qA also l y a:=by
 intro n
 induction n with
 | zero=>
  intro l out x hl h;have:l=[]:=List.eq_nil_of_length_eq_zero (by omega);subst this;rw[Ao] at h;obtain rfl:out=x:=by injection h
  exact⟨[],[],by simp,by simp,by intro o;rw[Ao,qm],by simp,ze _⟩
 | succ n ih=>
  intro l out x hl h
  cases l with
  | nil=>
   rw[Ao] at h;obtain rfl:out=x:=by injection h
   exact⟨[],[],by simp,by simp,by intro o;rw[Ao,qm],by simp,ze _⟩
  | cons c t=>
   by_cases hc:c=37
   ·rcases he:BF (c::t) with _|_
    ·rw[Ao,if_pos hc,if_neg (by rw[he];exact Bool.false_ne_true)] at h;injection h with h1 _
     exact absurd h1 (by decide)
    ·obtain⟨a,b,r,rfl⟩:=Hi he;have hd:∀o,Ao A5 0 (c::a::b::r) o=Ao A5 0 r (o++[Bj (c::a::b::r)]):=by
      intro o;rw[Ao,if_pos hc,if_pos he];show (if (0:Int)=0 then Ao A5 2 (a::b::r) _ else _)=_;rw[if_pos rfl,FV]
      rfl
     rcases hu:BY (Bj (c::a::b::r)) with _|_
     ·rw[Ao,if_pos hc,if_pos he,JE hu,if_pos rfl,FV] at h;obtain⟨y,m,rfl,h1,h2,h3,h4⟩:=ih r _ x (by simp at hl ⊢;omega) h;refine⟨BX (Bj (c::a::b::r))++y,Bj (c::a::b::r)::m,by simp,?_,?_,?_,?_⟩
      ·intro o r';rw[zu,SY _ _ _ _ _ (JE hu),h1,zu]
      ·intro o;rw[hd,h2,zu];rfl
      ·intro o r';rw[zu,SY A5 _ _ _ _ rfl,h3,zu];rfl
      ·rw[List.length_append,Mk];simp;omega
     ·rw[Ao,if_pos hc,if_pos he,Fx (by rw[hu];rfl) (JU hu),if_pos rfl,FV] at h;obtain⟨y,m,rfl,h1,h2,h3,h4⟩:=ih r _ x (by simp at hl ⊢;omega) h;refine⟨[Bj (c::a::b::r)]++y,Bj (c::a::b::r)::m,by simp,?_,?_,?_,?_⟩
      ·intro o r';rw[zu,Mo _ _ _ _ _ (Uy hu) (Fx rfl (JU hu)),h1,zu]
      ·intro o;rw[hd,h2,zu];rfl
      ·intro o r';rw[zu,Mo A5 _ _ _ _ (Uy hu) rfl,h3,zu];rfl
      ·simp;omega
   ·rcases hp:D3 c also with _|_
    ·rw[Ao,if_neg hc,Mg rfl hp,if_neg (by decide)] at h;injection h with h1 _
     exact absurd h1 (by decide)
    ·rw[Ao,if_neg hc,Fx rfl hp,if_pos rfl] at h;obtain⟨y,m,rfl,h1,h2,h3,h4⟩:=ih t _ x (by simp at hl;omega) h;refine⟨[c]++y,c::m,by simp,?_,?_,?_,?_⟩
     ·intro o r';rw[zu,Mo _ _ _ _ _ hc (Fx rfl hp),h1,zu]
     ·intro o;rw[Ao,if_neg hc];show (if (0:Int)=0 then Ao A5 0 t _ else _)=_;rw[if_pos rfl,h2];show (0,(o++[c])++m)=_;rw[zu];rfl
     ·intro o r';rw[zu,Mo A5 _ _ _ _ hc rfl,h3,zu];rfl
     ·simp;omega
theorem E9 (l also x:List UInt8) (h:Am l also=(0,x)):Am x also=(0,x)/\(∃a,A6 l=(0,a)/\A6 x=(0,a))/\x.length<=l.length:=by
 unfold Am C9 at h
 by_cases hlen:16384<l.length
 ·rw[if_pos hlen] at h;injection h with h1 _
  exact absurd h1 (by decide)
 ·rw[if_neg hlen] at h;obtain⟨y,a,rfl,h1,h2,h3,h4⟩:=Pg also l.length l [] x (ze _) h;have e1:=h1 [] [];have e3:=h3 [] [];rw[qm,Ao,List.nil_append] at e1 e3;refine⟨?_,⟨a,?_,?_⟩,h4⟩
  ·unfold Am C9;rw[if_neg (by omega),e1]
  ·unfold A6 C9;rw[if_neg hlen,h2];rfl
  ·unfold A6 C9;rw[if_neg (by omega),e3]
theorem MP (add:G6):∀(l out:List UInt8) (n:Nat),(Ao add n l out).1≠0->(Ao add n l out).2=[]
 | [],out,n=>by intro h;cases n<;>(rw[Ao] at h;exact absurd rfl h)
 | c::l,out,n+1=>by intro h;rw[Ao] at h ⊢;exact MP add l out n h
 | c::l,out,0=>by
  intro h;rw[Ao] at h ⊢
  split at h
  ·rename_i hc;rw[if_pos hc]
   split at h
   ·rename_i he;rw[if_pos he]
    split at h
    ·rename_i ha;rw[if_pos ha];exact MP add l _ 2 h
    ·rename_i ha;rw[if_neg ha]
   ·rename_i he;rw[if_neg he]
  ·rename_i hc;rw[if_neg hc]
   split at h
   ·rename_i ha;rw[if_pos ha];exact MP add l _ 0 h
   ·rename_i ha;rw[if_neg ha]
theorem jW (l also:List UInt8) (h:(Am l also).1≠0):(Am l also).2=[]:=by
 unfold Am C9 at h ⊢
 split
 ·rfl
 ·rename_i hl;rw[if_neg hl] at h;exact MP _ _ _ _ h
end Go.Proofs.YtbgaknpnkcdbfaaGreatDoor
namespace Go.Proofs.YtbgaknpnkcdbfaaGreatDoor
open Lib renaming lastIndexByte->xp
open List renaming getElem?_set->za, length_append->zg, length_cons->zp, length_nil->qd, length_take->zq, mem_cons->zv
def Hn (also:List UInt8) (c:UInt8):Bool:=c==37||A9 c||D3 c also
theorem mG (also:List UInt8):∀(n:Nat) (l out x:List UInt8),l.length<=n->Ao (Bb also) 0 l out=(0,x)->l.all (Hn also)=true:=by
 intro n
 induction n with
 | zero=>
  intro l out x hl h;have:l=[]:=List.eq_nil_of_length_eq_zero (by omega);subst this;rfl
 | succ n ih=>
  intro l out x hl h
  cases l with
  | nil=>rfl
  | cons c t=>
   by_cases hc:c=37
   ·rcases he:BF (c::t) with _|_
    ·rw[Ao,if_pos hc,if_neg (by rw[he];exact Bool.false_ne_true)] at h;injection h with h1 _
     exact absurd h1 (by decide)
    ·obtain⟨a,b,r,rfl⟩:=Hi he;have hab:A9 a=true/\A9 b=true:=by
      have:(A9 a&&A9 b)=true:=he;simpa using this
     have hr:∃o2,Ao (Bb also) 0 r o2=(0,x):=by
      rcases hu:BY (Bj (c::a::b::r)) with _|_
      ·rw[Ao,if_pos hc,if_pos he,JE hu,if_pos rfl,FV] at h;exact⟨_,h⟩
      ·rw[Ao,if_pos hc,if_pos he,Fx (by rw[hu];rfl) (JU hu),if_pos rfl,FV] at h;exact⟨_,h⟩
     obtain⟨o2,hr⟩:=hr;have:=ih r o2 x (by simp at hl ⊢;omega) hr;simp[Hn,hc,hab.1,hab.2,this]
   ·rcases hp:D3 c also with _|_
    ·rw[Ao,if_neg hc,Mg rfl hp,if_neg (by decide)] at h;injection h with h1 _
     exact absurd h1 (by decide)
    ·rw[Ao,if_neg hc,Fx rfl hp,if_pos rfl] at h;have:=ih t _ x (by simp at hl;omega) h;simp[Hn,hp,this]
theorem gW {l also x:List UInt8} (h:Am l also=(0,x)):l.all (Hn also)=true:=by
 unfold Am C9 at h
 split at h
 ·injection h with h1 _
  exact absurd h1 (by decide)
 ·exact mG also l.length l [] x (Nat.le_refl _) h
theorem KE {l also x:List UInt8} (h:Am l also=(0,x)):l.length<=16384:=by
 unfold Am C9 at h
 split at h
 ·injection h with h1 _
  exact absurd h1 (by decide)
 ·omega
theorem VX {l also x:List UInt8} (h:Am l also=(0,x)):x.all (Hn also)=true:=gW (E9 l also x h).1
theorem JP (c:UInt8):∀(a b:List UInt8),c∉a->Af c (a++c::b)=(a,b,true)
 | [],b,_=>by simp[Af]
 | x::a,b,h=>by
  simp only[zv,not_or] at h;rw[List.cons_append,CO,if_neg (fun e=>h.1 e.symm),JP c a b h.2]
theorem KL (c:UInt8):∀(a:List UInt8),c∉a->Af c a=(a,[],false)
 | [],_=>rfl
 | x::a,h=>by
  simp only[zv,not_or] at h;rw[CO,if_neg (fun e=>h.1 e.symm),KL c a h.2]
open Go.RowKit Sx
def C8 (h:List UInt8) (p:Int):AV:=.agg [.s h,.i .i64 p]
def Im (h:List UInt8) (p:Int):List UInt8:=if p=0 then h else h++[58]++Lib.itoa p
theorem OC (h:List UInt8) (p:Int) (h0:-9223372036854775808<=p) (h1:p<=9223372036854775807):(Im h p).length<=h.length+22:=by
 have:=Lib.itoa_length_le p h0 h1;unfold Im
 split
 ·omega
 ·simp only[zg,zp,qd];omega
theorem ZK (l:List UInt8) (c:UInt8):((Aq l [c]:Nat):Int)<l.length↔(Af c l).2.2=true:=by
 have h:=He c l
 constructor
 ·intro h1;rw[h.1 (by omega)]
 ·intro h1
  apply Classical.byContradiction
  intro h2;rw[h.2 (by omega)] at h1;cases h1
theorem bV (l:List UInt8):(DF l).2<=65535:=by
 unfold DF
 split
 ·exact PV 65535 l
 ·exact Nat.zero_le _
theorem ZM (l:List UInt8):(DZ l).2.2<=65535:=by
 have:=bV (Af 58 l).2.1;unfold DZ
 repeat' split
 all_goals simp only[Nat.zero_le]
 all_goals omega
section
variable [Tabs Tryz.prog] {objs:List OB} {K:List OB->AV->Prop}
theorem SQ (s:List UInt8) (hs:s.length<=1000000) (hk:K objs (.tup [.s (CM s).2,.i .i64 (CM s).1])):Ah Tryz.prog 153 [.s s] objs K :=
 conv (vs:=[.string (S s)]) rfl rfl (fun w=>eE (S s) w (by rw[AL];exact hs)) hk
theorem aJ (s:List UInt8) (hs:s.length<=maxLen) (hk:K objs (.tup [.i .i64 (DF s).2,.i .i64 (DF s).1])):Ah Tryz.prog 154 [.s s] objs K :=
 GE (vs:=[.string (S s)]) rfl rfl (fun w=>fW (S s) w (by rw[AL];exact hs)) hk
theorem ZJ (s:List UInt8) (hs:s.length<=maxLen) (hk:K objs (.tup [C8 (DZ s).2.1 (DZ s).2.2,.i .i64 (DZ s).1])):Ah Tryz.prog 90 [.s s] objs K :=
 conv (vs:=[.string (S s)]) rfl rfl (fun w=>cS (S s) w (by rw[AL];exact hs)) hk
theorem IR (s also:List UInt8) (hk:K objs (.tup [.s (Am s also).2,.i .i64 (Am s also).1])):Ah Tryz.prog 91 [.s s,.s also] objs K :=
 conv (vs:=[.string (S s),.string (S also)]) rfl rfl (fun w=>dX (S s) (S also) w) hk
theorem EU (s also:List UInt8) (ha:also.length<=maxLen) (hk:K objs (.tup [.s (Am s also).2,.i .i64 (Am s also).1])):Ah Tryz.prog 110 [.s s,.s also] objs K :=
 conv (vs:=[.string (S s),.string (S also)]) rfl rfl (fun w=>eF (S s) (S also) w (by rw[AL];exact ha)) hk
theorem dV (s:List UInt8) (hk:K objs (.tup [.s (A6 s).2,.i .i64 (A6 s).1])):Ah Tryz.prog 26 [.s s] objs K :=
 conv (vs:=[.string (S s)]) rfl rfl (fun w=>PY (S s) w) hk
theorem UZ (s:List UInt8) (hk:K objs (.tup [.s (A6 s).2,.i .i64 (A6 s).1])):Ah Tryz.prog 101 [.s s] objs K :=
 conv (vs:=[.string (S s)]) rfl rfl (fun w=>Vb (S s) w) hk
theorem eR [Pow Tryz.prog] (h:List UInt8) (p:Int) (hh:h.length<=200000000000000) (h0:-9223372036854775808<=p) (h1:p<=9223372036854775807) (hk:K objs (.s (Im h p))):Ah Tryz.prog 49 [C8 h p] objs K:=by
 refine AF lK rfl fun C _=>?_;have hl:=Lib.itoa_length_le p h0 h1;unfold Im at hk
 by_cases hp:p=0
 ·rw[if_pos hp] at hk;simp only[C8,hp,P3,Aa,simprocAttr];exact hk
 ·rw[if_neg hp] at hk;simp only[C8,hp,P3,Aa,simprocAttr];refine⟨by omega,?_⟩;refine Dl (tK p h0 h1 ⟨rfl,rfl⟩) ?_;simp only[Aa,simprocAttr];exact⟨by omega,hk⟩
theorem jA (p:Int) (h0:-9223372036854775808<=p) (h1:p<=9223372036854775807) (hk:K objs (.s (Lib.itoa p))):Ah Tryz.prog 158 [.i .i64 p] objs K:=by
 refine AF mS rfl fun C _=>?_;unfold Lib.itoa at hk
 by_cases hp:p<0
 ·rw[if_pos hp] at hk;have e1:IntKind.u64.wrap (IntKind.u64.wrap (0 - (p+1))+1)=((p.natAbs:Nat):Int):=by
   rw[wrap_u64 (0 - (p+1)) (by omega) (by omega),wrap_u64 _ (by omega) (by omega)];omega
  simp only[hp,Ql,Aa,simprocAttr];refine⟨⟨by omega,by omega⟩,⟨by omega,by omega⟩,?_⟩;rw[e1];refine Ae (MD p.natAbs (by omega) ?_);have hd:=Lib.nDigits_le20 p.natAbs (by omega);have hl:=Lib.decDigits_length p.natAbs;simp only[Aa,simprocAttr];exact⟨by omega,hk⟩
 ·rw[if_neg hp] at hk;have e1:IntKind.u64.wrap p=((p.toNat:Nat):Int):=by
   rw[wrap_u64 p (by omega) (by omega)];omega
  simp only[hp,Ql,Aa,simprocAttr];rw[e1];refine Ae (MD p.toNat (by omega) ?_);simp only[Aa,simprocAttr];exact hk
theorem iE (h:List UInt8) (p:Int) (hh:h.length<=200000000000000) (h0:-9223372036854775808<=p) (h1:p<=9223372036854775807) (hk:K objs (.s (Im h p))):Ah Tryz.prog 115 [C8 h p] objs K:=by
 refine AF mK rfl fun C _=>?_;have hl:=Lib.itoa_length_le p h0 h1;unfold Im at hk
 by_cases hp:p=0
 ·rw[if_pos hp] at hk;simp only[C8,hp,Qg,Aa,simprocAttr];exact hk
 ·rw[if_neg hp] at hk;simp only[C8,hp,Qg,Aa,simprocAttr];refine⟨by omega,?_⟩;refine Dl (jA p h0 h1 ⟨rfl,rfl⟩) ?_;simp only[Aa,simprocAttr];exact⟨by omega,hk⟩
theorem gB (s:List UInt8) (hs:s.length<=1000000) (hk:K objs (.tup [C8 (DZ s).2.1 (DZ s).2.2,.i .i64 (DZ s).1])):Ah Tryz.prog 109 [.s s] objs K:=by
 have hm:maxLen=2 ^ 63 - 1:=rfl;have e443:((443:Nat):Int)=443:=rfl;have ez:((0:Nat):Int)=0:=rfl;refine AF lM rfl fun C _=>?_;simp only[C8,DZ] at hk;simp only[VC,Aa,simprocAttr];refine Ae (ES s [58] (by omega) (by simp;omega) ?_);have c58:=He 58 s
 by_cases h58:Aq s [58]<s.length
 ·rw[c58.1 h58] at hk;simp only[Aa,simprocAttr];refine⟨⟨by omega,by omega⟩,?_⟩;have hl:(s.take (Aq s [58])).length<=s.length:=by rw[zq];omega
  have hd:(s.drop (Aq s [58]+1)).length<=s.length:=by rw[List.length_drop];omega
  refine Ae (SQ _ (by omega) ?_);simp only[Aa,simprocAttr]
  by_cases h1:(CM (s.take (Aq s [58]))).1=0
  ·have hne:¬((Aq s [58]:Nat):Int)=((s.length:Nat):Int):=by omega
   simp only[h1,hne,ez,Aa,simprocAttr] at hk ⊢;refine⟨⟨by omega,by omega⟩,⟨by omega,by omega⟩,?_⟩;refine Ae (aJ _ (by omega) ?_);simp only[Aa,simprocAttr]
   by_cases h2:(DF (s.drop (Aq s [58]+1))).1=0
   ·by_cases h3:(DF (s.drop (Aq s [58]+1))).2=443
    ·simp only[h2,h3,e443,ez,Aa,simprocAttr] at hk ⊢;exact hk
    ·have h3':¬((((DF (s.drop (Aq s [58]+1))).2:Nat):Int)=443):=by omega
     simp only[h2,h3,h3',Aa,simprocAttr] at hk ⊢;exact hk
   ·simp only[h2,ez,Aa,simprocAttr] at hk ⊢;exact hk
  ·simp only[h1,ez,Aa,simprocAttr] at hk ⊢;exact hk
 ·have hx:((Aq s [58]:Nat):Int)=((s.length:Nat):Int):=by have:=IG s [58];omega
  rw[c58.2 h58] at hk;simp only[hx,Aa,simprocAttr];refine⟨⟨by omega,by omega⟩,?_⟩;refine Ae (SQ _ (by omega) ?_)
  by_cases h1:(CM s).1=0
  ·simp only[h1,ez,Aa,simprocAttr] at hk ⊢;exact hk
  ·simp only[h1,ez,Aa,simprocAttr] at hk ⊢;exact hk
end
def E7 (u:UriP):List UInt8:=(if u.hs=true then u.scheme++[58] else [])++(if u.ha=true then [47,47]++u.auth else [])++u.path++(if u.hq=true then [63]++u.query else [])++(if u.hf=true then [35]++u.frag else [])
section
variable [Tabs Tryz.prog] {objs:List OB} {K:List OB->AV->Prop}
theorem SB (xs:List (List UInt8)) (hN:xs.length<=140737488355328) (hl:xs.flatten.length<=140737488355328) (hk:K objs (.s xs.flatten)):Ah Tryz.prog 95 [.row xs.length (xs.map .s)] objs K:=by
 refine DI kY fun C _=>?_;simp only[Vj,Aa,simprocAttr];refine Ae (YC xs [] hN (by rw[TE];exact hl) ?_);rw[TE];simp only[Aa,simprocAttr];exact hk
theorem LQ (has:Bool) (xs:List (List UInt8)) (hN:xs.length<=140737488355328) (hl:has=true->xs.flatten.length<=140737488355328) (hk:K objs (.s (if has=true then xs.flatten else []))):Ah Tryz.prog 96 [.b has,.row xs.length (xs.map .s)] objs K:=by
 refine DI kJ fun C _=>?_
 cases has
 ·simp only[PL,Aa,simprocAttr];exact hk
 ·simp only[PL,Aa,simprocAttr];refine Ae (SB xs hN (hl rfl) ?_);simp only[Aa,simprocAttr];exact hk
theorem Zx (u:UriP) (hl:(E7 u).length<=140737488355328) (hk:K objs (.s (E7 u))):Ah Tryz.prog 48 [AR u] objs K:=by
 obtain⟨s,a,p,q,f,hs,ha,hq,hf⟩:=u;simp only[E7] at hl hk;refine AF jP rfl fun C _=>?_;simp only[AR,UJ,Aa,simprocAttr];refine Dl (LQ hs [s,[58]] (by simp) (fun e=>by subst e;simp at hl ⊢;omega) ⟨rfl,rfl⟩) ?_;simp only[Aa,simprocAttr];refine Dl (LQ ha [[47,47],a] (by simp) (fun e=>by subst e;simp at hl ⊢;omega) ⟨rfl,rfl⟩) ?_;simp only[Aa,simprocAttr];refine Dl (LQ hq [[63],q] (by simp) (fun e=>by subst e;simp at hl ⊢;omega) ⟨rfl,rfl⟩) ?_;simp only[Aa,simprocAttr];refine Dl (LQ hf [[35],f] (by simp) (fun e=>by subst e;simp at hl ⊢;omega) ⟨rfl,rfl⟩) ?_;simp only[Aa,simprocAttr];have e:[if hs=true then [s,[58]].flatten else [],if ha=true then [[47,47],a].flatten else [],p,if hq=true then [[63],q].flatten else [],if hf=true then [[35],f].flatten else []].flatten=(if hs=true then s++[58] else [])++(if ha=true then [47,47]++a else [])++p++(if hq=true then [63]++q else [])++(if hf=true then [35]++f else []):=by simp
 refine Dl (SB [if hs=true then [s,[58]].flatten else [],if ha=true then [[47,47],a].flatten else [],p,if hq=true then [[63],q].flatten else [],if hf=true then [[35],f].flatten else []] (by simp) (by rw[e];exact hl) ⟨rfl,rfl⟩) ?_;rw[e];simp only[Aa,simprocAttr];exact hk
theorem aP (u:UriP) (hl:(E7 u).length<=9223372036854775807) (hk:K objs (.s (E7 u))):Ah Tryz.prog 114 [AR u] objs K:=by
 obtain⟨s,a,p,q,f,hs,ha,hq,hf⟩:=u;refine AF kR rfl fun C _=>?_
 cases hs<;>cases ha<;>cases hq<;>cases hf<;>simp only[E7,Bool.false_eq_true,if_true,if_false,zg,zp,qd,List.nil_append,List.append_nil] at hl hk
 all_goals simp only[AR,Vh,Aa,simprocAttr]
 all_goals first
  | exact⟨by omega,hk⟩
  | exact⟨by omega,by omega,hk⟩
  | exact⟨by omega,by omega,by omega,hk⟩
  | exact⟨by omega,by omega,by omega,by omega,hk⟩
  | exact⟨by omega,by omega,by omega,by omega,by omega,hk⟩
  | exact⟨by omega,by omega,by omega,by omega,by omega,by omega,hk⟩
  | exact⟨by omega,by omega,by omega,by omega,by omega,by omega,by omega,hk⟩
  | exact⟨by omega,by omega,by omega,by omega,by omega,by omega,by omega,by omega,hk⟩
  | exact⟨by omega,by omega,by omega,by omega,by omega,by omega,by omega,by omega,by omega,hk⟩
  | trace_state
end
def Lj (p:List UInt8):List UInt8:=p.take (xp (S p) 47+1).toNat
def GG (b:UriP) (r:List UInt8):List UInt8:=if b.ha=true/\b.path=[] then 47::r else Lj b.path++r
theorem TJ (p:List UInt8):(xp (S p) 47=-1/\∀j (h:j<p.length),p[j]≠47)\/(∃i:Nat,∃h:i<p.length,xp (S p) 47=i/\p[i]=47/\∀j (h:j<p.length),i<j->p[j]≠47):=by
 have key:∀j (h:j<p.length),(((S p).data[j]!).toNat:Int)=47↔p[j]=47:=by
  intro j h;have:(S p).data[j]! = p[j]:=by
   show (p.toArray)[j]! = p[j];simp[h]
  rw[this]
  constructor
  ·intro e;have:p[j].toNat=47:=by omega
   exact UInt8.toNat_inj.1 this
  ·intro e;rw[e];rfl
 rcases Lib.lastIndexByte_spec (S p) 47 with ⟨h1,h2⟩|⟨i,h1,h2,h3,h4⟩
 ·refine .inl ⟨h1,fun j h e=>h2 j (by rw[AL];exact h) ((key j h).2 e)⟩
 ·rw[AL] at h1;exact .inr ⟨i,h1,h2,(key i h1).1 h3,fun j h hij e=>h4 j hij (by rw[AL];exact h) ((key j h).2 e)⟩
theorem XQ (p:List UInt8):-1<=xp (S p) 47/\xp (S p) 47<p.length\/p=[]/\xp (S p) 47=-1:=by
 rcases TJ p with ⟨h1,h2⟩|⟨i,h1,h2,_⟩
 ·cases p with
  | nil=>exact .inr ⟨rfl,h1⟩
  | cons x p=>left;rw[h1];simp;omega
 ·left;omega
section
variable [Tabs Tryz.prog] {objs:List OB} {K:List OB->AV->Prop}
theorem XU (b:UriP) (r:List UInt8) (hb:b.path.length<=1000000) (hr:r.length<=1000000) (hk:K objs (.s (GG b r))):Ah Tryz.prog 93 [AR b,.s r] objs K:=by
 refine AF jU rfl fun C _=>?_;have hl:=XQ b.path
 by_cases h:b.ha=true/\b.path=[]
 ·rw[GG,if_pos h] at hk;simp only[AR,h.1,h.2,MG,Aa,simprocAttr];exact⟨by omega,hk⟩
 ·rw[GG,if_neg h] at hk;unfold Lj at hk;have hle:(b.path.take (xp (S b.path) 47+1).toNat).length<=b.path.length:=by rw[zq];omega
  by_cases h1:b.ha=true
  ·have h2:b.path≠[]:=fun e=>h ⟨h1,e⟩;simp only[AR,h1,h2,MG,Aa,simprocAttr];refine Dl (TH b.path 47 (by omega) ⟨rfl,rfl⟩) ?_;simp only[Aa,simprocAttr];exact⟨by omega,by omega,by omega,hk⟩
  ·simp only[AR,h1,MG,Aa,simprocAttr];refine Dl (TH b.path 47 (by omega) ⟨rfl,rfl⟩) ?_;simp only[Aa,simprocAttr];exact⟨by omega,by omega,by omega,hk⟩
theorem cG (b r:UriP) (hb:b.path.length<=1000000) (hr:r.path.length<=1000000) (hk:K objs (.s (GG b r.path))):Ah Tryz.prog 157 [AR b,AR r] objs K:=by
 refine AF mL rfl fun C _=>?_
 by_cases h:b.ha=true/\b.path=[]
 ·rw[GG,if_pos h] at hk;simp only[AR,h.1,h.2,MQ,Aa,simprocAttr];exact⟨by omega,hk⟩
 ·rw[GG,if_neg h] at hk;unfold Lj at hk;have hls:=TJ b.path
  by_cases h1:b.ha=true
  all_goals first
   | (have h2:b.path≠[]:=fun e=>h ⟨h1,e⟩;simp only[AR,h1,h2,MQ,Aa,simprocAttr])
   | simp only[AR,h1,MQ,Aa,simprocAttr]
  all_goals
   refine⟨⟨by omega,by omega⟩,?_⟩;refine B4 (fun n objs tm=>n<=b.path.length/\(∀j (h:j<b.path.length),n<=j->b.path[j]≠47)/\(∃c0 c1 c3 c4 c5 c6 c7 c8 d0 d1 d3 d4 d5 d6 d7 d8:AV,objs=[OB.box 99 [c0,c1,AV.s b.path,c3,c4,c5,c6,c7,c8],OB.box 99 [d0,d1,AV.s r.path,d3,d4,d5,d6,d7,d8]])/\tm.length=39/\tm[2]? = some (.p 0 0)/\tm[3]? = some (.p 1 0)/\tm[5]? = some (.i .i64 ((n:Int) - 1))) b.path.length ⟨Nat.le_refl _,fun j h h'=>absurd h' (by omega),⟨_,_,_,_,_,_,_,_,_,_,_,_,_,_,_,_,rfl⟩,rfl,rfl,rfl,rfl⟩ ?_;rintro n _ tm ⟨hn,hno,⟨c0,c1,c3,c4,c5,c6,c7,c8,d0,d1,d3,d4,d5,d6,d7,d8,rfl⟩,hlen,t2,t3,t5⟩;rcases Nat.eq_zero_or_pos n with hz|hp
   ·have e1:¬(0:Int)<=(n:Int) - 1:=by omega
    simp only[Aa,simprocAttr,za,hlen,t2,t3,t5,e1];rcases hls with ⟨l1,l2⟩|⟨i,hi,l1,l2,l3⟩
    ·rw[l1] at hk;exact hk
    ·exact absurd l2 (hno i hi (by omega))
   ·have e1:(0:Int)<=(n:Int) - 1:=by omega
    simp only[Aa,simprocAttr,za,hlen,t2,t3,t5,e1];refine⟨by omega,?_⟩;have hn1:n - 1<b.path.length:=by omega
    have eg:(b.path.getD ((n:Int) - 1).toNat 0)=b.path[n - 1]:=by
     rw[show ((n:Int) - 1).toNat=n - 1 by omega,List.getD_eq_getElem?_getD,List.getElem?_eq_getElem hn1];rfl
    rw[eg]
    by_cases h47:b.path[n - 1]=47
    ·have e2:((b.path[n - 1].toNat:Nat):Int)=47:=by rw[h47];rfl
     have el:xp (S b.path) 47=((n - 1:Nat):Int):=by
      rcases hls with ⟨l1,l2⟩|⟨i,hi,l1,l2,l3⟩
      ·exact absurd h47 (l2 _ hn1)
      ·have:i=n - 1:=by
        rcases Nat.lt_trichotomy i (n - 1) with h3|h3|h3
        ·exact absurd h47 (l3 _ hn1 h3)
        ·exact h3
        ·exact absurd l2 (hno i hi (by omega))
       rw[l1,this]
     rw[el] at hk;simp only[e2,Aa,simprocAttr,za,hlen,t2,t3,t5];rw[show ((n - 1:Nat):Int)+1=(n:Int) - 1+1 by omega] at hk;have hle:(b.path.take ((n:Int) - 1+1).toNat).length<=b.path.length:=by rw[zq];omega
     exact⟨⟨by omega,by omega⟩,⟨by omega,by omega⟩,by omega,hk⟩
    ·have e2:¬((b.path[n - 1].toNat:Nat):Int)=47:=fun e=>h47 (UInt8.toNat_inj.1 (by have:(47:UInt8).toNat=47:=rfl;omega));simp only[e2,Aa,simprocAttr,za,hlen,t2,t3,t5];refine⟨⟨by omega,by omega⟩,n - 1,by omega,by omega,?_,⟨_,_,_,_,_,_,_,_,_,_,_,_,_,_,_,_,rfl⟩,?_⟩
     ·intro j hj hnj;rcases Nat.lt_or_ge j n with h3|h3
      ·have:j=n - 1:=by omega
       subst this;exact h47
      ·exact hno j hj h3
     ·rw[show (n:Int) - 1 - 1=((n - 1:Nat):Int) - 1 by omega]
end
open Nat renaming reduceAdd -> z6, reduceSub -> z7, reduceLeDiff -> z8, reduceLT -> j4, reduceMul -> j5, reduceEqDiff -> j6
open Int renaming reduceToNat -> j7, reduceAdd -> j8, reduceSub -> j9, reduceMul -> x0, reduceNeg -> x6, reduceLT -> x7, reduceLE -> x8, reduceEq -> x9, reduceNe -> y4
def Cf (b r:UriP):UriP :=
 if r.hs=true then { r with path:=Cr r.path }
 else if r.ha=true then { r with scheme:=b.scheme,hs:=b.hs,path:=Cr r.path }
 else if r.path=[] then { scheme:=b.scheme,hs:=b.hs,auth:=b.auth,ha:=b.ha,path:=b.path,query:=if r.hq=true then r.query else b.query,hq:=if r.hq=true then r.hq else b.hq,frag:=r.frag,hf:=r.hf }
 else { scheme:=b.scheme,hs:=b.hs,auth:=b.auth,ha:=b.ha,path:=if r.path.head? = some 47 then Cr r.path else Cr (GG b r.path),query:=r.query,hq:=r.hq,frag:=r.frag,hf:=r.hf }
theorem PC (b:UriP) (r:List UInt8):(GG b r).length<=b.path.length+r.length+1:=by
 unfold GG Lj
 split
 ·simp
 ·simp only[zg,zq];omega
section
variable [Tabs Tryz.prog] {objs:List OB} {K:List OB->AV->Prop}
theorem gM (b r:UriP) (hb:b.path.length<=400000) (hr:r.path.length<=400000) (hk:K objs (AR (Cf b r))):Ah Tryz.prog 46 [AR b,AR r] objs K:=by
 refine AF lV rfl fun C _=>?_
 by_cases h1:r.hs=true
 ·simp only[Cf,h1,if_true,AR] at hk;simp only[AR,h1,I6,Aa,z6,z7,z8,j4,j5,j6,j7,j8,j9,x0,x6,x7,x8,x9,y4,reduceCtorEq,↓reduceIte];refine Ae (Kv _ (by omega) ?_);simp only[Aa,z6,z7,z8,j4,j5,j6,j7,j8,j9,x0,x6,x7,x8,x9,y4,reduceCtorEq,↓reduceIte];exact hk
 ·by_cases h2:r.ha=true
  ·simp only[Cf,h1,h2,if_true,if_false,AR,Bool.false_eq_true] at hk;simp only[AR,h1,h2,I6,Aa,z6,z7,z8,j4,j5,j6,j7,j8,j9,x0,x6,x7,x8,x9,y4,reduceCtorEq,↓reduceIte];refine Ae (Kv _ (by omega) ?_);simp only[Aa,z6,z7,z8,j4,j5,j6,j7,j8,j9,x0,x6,x7,x8,x9,y4,reduceCtorEq,↓reduceIte];exact hk
  ·by_cases h3:r.path=[]
   ·by_cases h4:r.hq=true
    ·simp only[Cf,h1,h2,h3,h4,if_true,if_false,AR] at hk;simp only[AR,h1,h2,h3,h4,I6,Aa,z6,z7,z8,j4,j5,j6,j7,j8,j9,x0,x6,x7,x8,x9,y4,reduceCtorEq,↓reduceIte];exact hk
    ·simp only[Cf,h1,h2,h3,h4,if_true,if_false,AR] at hk;simp only[AR,h1,h2,h3,h4,I6,Aa,z6,z7,z8,j4,j5,j6,j7,j8,j9,x0,x6,x7,x8,x9,y4,reduceCtorEq,↓reduceIte];exact hk
   ·obtain⟨x,xs,hx⟩:∃x xs,r.path=x::xs:=by
     cases hp:r.path with
     | nil=>exact absurd hp h3
     | cons x xs=>exact⟨x,xs,rfl⟩
    by_cases h5:x=47
    ·subst h5;simp only[Cf,h1,h2,h3,hx,List.head?_cons,if_true,if_false,AR,reduceCtorEq] at hk;simp only[AR,h1,h2,hx,I6,Aa,z6,z7,z8,j4,j5,j6,j7,j8,j9,x0,x6,x7,x8,x9,y4,reduceCtorEq,↓reduceIte,List.getD_cons_zero];refine⟨by omega,?_⟩;have e47:(((47:UInt8).toNat:Nat):Int)=47:=rfl;simp only[e47,Aa,z6,z7,z8,j4,j5,j6,j7,j8,j9,x0,x6,x7,x8,x9,y4,reduceCtorEq,↓reduceIte];refine Ae (Kv _ (by rw[<-hx];omega) ?_);simp only[Aa,z6,z7,z8,j4,j5,j6,j7,j8,j9,x0,x6,x7,x8,x9,y4,reduceCtorEq,↓reduceIte];exact hk
    ·have hhd:(r.path.head? = some 47)=False:=by rw[hx];simp[h5]
     simp only[Cf,h1,h2,h3,hhd,if_true,if_false,AR,Bool.false_eq_true] at hk;simp only[AR,h1,h2,hx,I6,Aa,z6,z7,z8,j4,j5,j6,j7,j8,j9,x0,x6,x7,x8,x9,y4,reduceCtorEq,↓reduceIte,List.getD_cons_zero];refine⟨by omega,?_⟩;have e47:¬((x.toNat:Nat):Int)=47:=fun e=>h5 (UInt8.toNat_inj.1 (by have:(47:UInt8).toNat=47:=rfl;omega));simp only[e47,Aa,z6,z7,z8,j4,j5,j6,j7,j8,j9,x0,x6,x7,x8,x9,y4,reduceCtorEq,↓reduceIte];have hml:=PC b r.path;rw[<-hx];refine Ae (XU b r.path (by omega) (by omega) ?_);simp only[Aa,z6,z7,z8,j4,j5,j6,j7,j8,j9,x0,x6,x7,x8,x9,y4,reduceCtorEq,↓reduceIte];refine Ae (Kv _ (by omega) ?_);simp only[Aa,z6,z7,z8,j4,j5,j6,j7,j8,j9,x0,x6,x7,x8,x9,y4,reduceCtorEq,↓reduceIte];exact hk
theorem jE (b r:UriP) (hb:b.path.length<=400000) (hr:r.path.length<=400000) (hk:K objs (AR (Cf b r))):Ah Tryz.prog 113 [AR b,AR r] objs K:=by
 refine AF mT rfl fun C _=>?_
 by_cases h1:r.hs=true
 ·simp only[Cf,h1,if_true,AR] at hk;simp only[AR,h1,JX,Aa,simprocAttr];refine Ae (KJ _ (by omega) ?_);simp only[Aa,simprocAttr];exact hk
 ·by_cases h2:r.ha=true
  ·simp only[Cf,h1,h2,if_true,if_false,AR,Bool.false_eq_true] at hk;simp only[AR,h1,h2,JX,Aa,simprocAttr];refine Ae (KJ _ (by omega) ?_);simp only[Aa,simprocAttr];exact hk
  ·by_cases h3:r.path=[]
   ·by_cases h4:r.hq=true
    ·simp only[Cf,h1,h2,h3,h4,if_true,if_false,AR] at hk;simp only[AR,h1,h2,h3,h4,JX,Aa,simprocAttr];exact hk
    ·simp only[Cf,h1,h2,h3,h4,if_true,if_false,AR] at hk;simp only[AR,h1,h2,h3,h4,JX,Aa,simprocAttr];exact hk
   ·obtain⟨x,xs,hx⟩:∃x xs,r.path=x::xs:=by
     cases hp:r.path with
     | nil=>exact absurd hp h3
     | cons x xs=>exact⟨x,xs,rfl⟩
    have hml:=PC b r.path;simp only[AR,h1,h2,h3,JX,Aa,simprocAttr];refine Ae (cG b ⟨r.scheme,r.auth,r.path,r.query,r.frag,false,false,r.hq,r.hf⟩ (by omega) (by simp only;omega) ?_);simp only[Aa,simprocAttr];refine Ae (KJ _ (by omega) ?_);simp only[hx,Aa,simprocAttr,List.getD_cons_zero];refine⟨by omega,?_⟩
    by_cases h5:x=47
    ·subst h5;have e47:(((47:UInt8).toNat:Nat):Int)=47:=rfl;simp only[e47,Aa,simprocAttr];refine Ae (KJ _ (by rw[<-hx];omega) ?_);simp only[Aa,simprocAttr];rw[<-hx];have hhd:(r.path.head? = some 47)=True:=by rw[hx];simp
     simp only[Cf,h1,h2,h3,hhd,if_true,if_false,AR,Bool.false_eq_true] at hk;exact hk
    ·have e47:¬((x.toNat:Nat):Int)=47:=fun e=>h5 (UInt8.toNat_inj.1 (by have:(47:UInt8).toNat=47:=rfl;omega));simp only[e47,Aa,simprocAttr];rw[<-hx];have hhd:(r.path.head? = some 47)=False:=by rw[hx];simp[h5]
     simp only[Cf,h1,h2,h3,hhd,if_true,if_false,AR,Bool.false_eq_true] at hk;exact hk
end
end Go.Proofs.YtbgaknpnkcdbfaaGreatDoor
namespace Go.Proofs.YtbgaknpnkcdbfaaGreatDoor
open List renaming append_assoc->zu, append_nil->qm, length_append->zg, length_cons->zp, length_nil->qd, take_append_drop->xl
theorem Hg (c:UInt8):∀l:List UInt8,l=(Af c l).1++(if (Af c l).2.2=true then [c]++(Af c l).2.1 else [])
 | []=>rfl
 | x::t=>by
  have ih:=Hg c t;rw[CO]
  by_cases hx:x=c
  ·subst hx;simp
  ·rw[if_neg hx];show x::t=x::((Af c t).1++_);rw[<-ih]
theorem LP (c:UInt8) (l:List UInt8):(Af c l).1.length<=l.length:=by
 have h:=congrArg List.length (Hg c l);rw[zg] at h;omega
theorem aR (l:List UInt8) (h:(Af 58 (A8 l)).2.2=true):l=(Af 58 (A8 l)).1++[58]++l.drop ((Af 58 (A8 l)).1.length+1):=by
 have sx:=N0 l
 by_cases hk:∃hk:Aq l [58,47]<l.length,l[Aq l [58,47]]=58
 ·obtain⟨h1,h2⟩:=hk;obtain⟨q1,q2,_⟩:=sx.1 h1 h2;rw[q2]
  conv=>lhs;rw[<-xl (Aq l [58,47]) l,List.drop_eq_getElem_cons h1,h2]
  rw[<-q1];simp
 ·have:=sx.2 (fun h1 h2=>hk ⟨h1,h2⟩);rw[h] at this;cases this
theorem eT (r:List UInt8):r=(if E6 r=true then [47,47]++ED r else [])++FN r:=by
 by_cases h:E6 r=true
 ·have ea:ED r=A8 (r.drop 2):=by unfold ED;rw[if_pos h]
  have eb:FN r=(r.drop 2).drop (ED r).length:=by unfold FN;rw[if_pos h]
  rw[if_pos h,eb];have hp:[47,47]++r.drop 2=r:=by
   have:=List.isPrefixOf_iff_prefix.1 (show Lib.hasPrefix r [47,47]=true from h);obtain⟨t,rfl⟩:=this;simp
  have hf:=(Gs (r.drop 2)).1;have:ED r++(r.drop 2).drop (ED r).length=r.drop 2:=by
   rw[ea]
   conv=>lhs;lhs;rw[hf]
   exact xl _ _
  rw[zu,this,hp]
 ·unfold FN;rw[if_neg h,if_neg h];simp
theorem gH (s:List UInt8) (h:(AB s).1=0):E7 (AB s).2=s:=by
 unfold AB at h ⊢
 split
 ·rename_i h1;rw[if_pos h1] at h;cases h
 ·rename_i h1;rw[if_neg h1] at h
  split
  ·rename_i h2;rw[if_pos h2] at h;cases h
  ·rename_i h2;clear h h2 h1;unfold E7;simp only;have e1:=Hg 35 s;have e2:=Hg 63 (Af 35 s).1;have e3:=eT (Iw s);have e4:Bg s=(if (Ei s).2.2=true then (Ei s).1++[58] else [])++Iw s:=by
    unfold Iw
    by_cases h:(Ei s).2.2=true
    ·rw[if_pos h,if_pos h];exact aR (Bg s) h
    ·rw[if_neg h,if_neg h];rfl
   have e5:(if (Ei s).2.2=true then (if (Ei s).2.2=true then (Ei s).1 else [])++[58] else [])=(if (Ei s).2.2=true then (Ei s).1++[58] else []):=by split<;>rfl
   rw[e5,zu (if (Ei s).2.2=true then (Ei s).1++[58] else []),<-e3,<-e4];show (Af 63 (Af 35 s).1).1++_++_=s;rw[<-e2,<-e1]
theorem fR (s:List UInt8) (h:(AB s).1≠0):(AB s).2=K8:=by
 unfold AB at h ⊢
 split
 ·rfl
 ·rename_i h1;rw[if_neg h1] at h
  split
  ·rfl
  ·rename_i h2;rw[if_neg h2] at h;exact absurd rfl h
structure UrlP where
 host:List UInt8
 port:Int
 path:List UInt8
 query:List UInt8
 frag:List UInt8
 hq:Bool
 hf:Bool
def BD:UrlP:=⟨[],0,[],[],[],false,false⟩
def EE:List UInt8:=[104,116,116,112,115]
def Bh:List UInt8:=[33,36,38,39,40,41,42,43,44,59,61,58,64,47]
def AJ:List UInt8:=[33,36,38,39,40,41,42,43,44,59,61,58,64,47,63]
def IK (u:UrlP):List UInt8:=if u.hq=true then u.path++[63]++u.query else u.path
def Bu (u:UrlP):List UInt8:=[104,116,116,112,115,58,47,47]++Im u.host u.port++IK u++(if u.hf=true then [35]++u.frag else [])
def BA (p:UriP):Int×List UInt8×Nat :=
 if p.hs=false then (60,[],0)
 else if En p.scheme EE=false then (60,[],0)
 else if p.ha=false then (71,[],0)
 else if (Af 64 p.auth).2.2=true then (70,[],0)
 else DZ p.auth
def IH (l:List UInt8):List UInt8:=if Cr l=[] then [47] else Cr l
def CE (p:UriP):Int×UrlP :=
 if (Am p.path Bh).1≠0 then ((Am p.path Bh).1,BD)
 else if (Am p.query AJ).1≠0 then ((Am p.query AJ).1,BD)
 else if (Am p.frag AJ).1≠0 then ((Am p.frag AJ).1,BD)
 else (0,⟨[],0,IH (Am p.path Bh).2,(Am p.query AJ).2,(Am p.frag AJ).2,p.hq,p.hf⟩)
def Hb (h:List UInt8) (n:Nat) (u:UrlP):UrlP:=⟨h,n,u.path,u.query,u.frag,u.hq,u.hf⟩
def Jj (u:UrlP):Int×UrlP:=if 4096<(Bu u).length then (5,BD) else (0,u)
def K9 (p:UriP):Int×UrlP :=
 if (BA p).1≠0 then ((BA p).1,BD)
 else if (CE p).1≠0 then ((CE p).1,BD)
 else Jj (Hb (BA p).2.1 (BA p).2.2 (CE p).2)
def Df (s:List UInt8):Int×UrlP :=
 if 4096<s.length then (5,BD)
 else if (AB s).1≠0 then ((AB s).1,BD)
 else K9 (AB s).2
instance:DecidableEq UrlP:=fun a b=>
 decidable_of_iff (a.host=b.host/\a.port=b.port/\a.path=b.path/\a.query=b.query/\a.frag=b.frag/\a.hq=b.hq/\a.hf=b.hf) (by
  cases a;cases b;simp)
def Fp (u:UrlP):Bool:=decide ((Df (Bu u)).1=0)&&decide ((Df (Bu u)).2=u)
def Ga (b:UrlP) (r:List UInt8):Int×UrlP :=
 if Fp b=false then (8,BD)
 else if (AB r).1≠0 then ((AB r).1,BD)
 else if En (Cf (AB (Bu b)).2 (AB r).2).scheme EE=false then (253,BD)
 else Df (E7 (Cf (AB (Bu b)).2 (AB r).2))
theorem JT (s:List UInt8):(AB s).2.scheme.length<=s.length/\(AB s).2.auth.length<=s.length/\(AB s).2.path.length<=s.length/\(AB s).2.query.length<=s.length/\(AB s).2.frag.length<=s.length:=by
 by_cases h:(AB s).1=0
 ·have hj:=congrArg List.length (gH s h);have hsch:(AB s).2.hs=false->(AB s).2.scheme=[]:=by
   unfold AB
   split
   ·intro _;rfl
   ·split
    ·intro _;rfl
    ·intro h1;simp only at h1 ⊢;rw[if_neg (by rw[h1];exact Bool.false_ne_true)]
  have hau:(AB s).2.ha=false->(AB s).2.auth=[]:=by
   unfold AB
   split
   ·intro _;rfl
   ·split
    ·intro _;rfl
    ·intro h1;simp only at h1 ⊢;unfold ED;rw[if_neg (by rw[h1];exact Bool.false_ne_true)]
  have hqu:(AB s).2.hq=false->(AB s).2.query=[]:=by
   unfold AB
   split
   ·intro _;rfl
   ·split
    ·intro _;rfl
    ·intro h1;simp only at h1 ⊢;exact((Gm 63 _).2.2 h1).2
  have hfr:(AB s).2.hf=false->(AB s).2.frag=[]:=by
   unfold AB
   split
   ·intro _;rfl
   ·split
    ·intro _;rfl
    ·intro h1;simp only at h1 ⊢;exact((Gm 35 _).2.2 h1).2
  revert hj hsch hau hqu hfr
  generalize (AB s).2=u;obtain⟨a,b,c,d,e,b1,b2,b3,b4⟩:=u;intro hj hsch hau hqu hfr;simp only[E7] at hj hsch hau hqu hfr ⊢;simp only[zg] at hj;have e1:a.length<=(if b1=true then a++[58] else []).length:=by
   cases b1
   ·rw[hsch rfl];simp
   ·simp
  have e2:b.length<=(if b2=true then [47,47]++b else []).length:=by
   cases b2
   ·rw[hau rfl];simp
   ·simp;omega
  have e3:d.length<=(if b3=true then [63]++d else []).length:=by
   cases b3
   ·rw[hqu rfl];simp
   ·simp
  have e4:e.length<=(if b4=true then [35]++e else []).length:=by
   cases b4
   ·rw[hfr rfl];simp
   ·simp
  omega
 ·rw[fR s h];simp[K8]
theorem Gk (l also:List UInt8):(Am l also).2.length<=l.length/\(Am l also).2.length<=16384:=by
 by_cases h:(Am l also).1=0
 ·have e:Am l also=(0,(Am l also).2):=by rw[<-h]
  have h1:=(E9 l also _ e).2.2;have h2:=KE e;omega
 ·rw[jW l also h];simp
theorem cL:∀(n:Nat) (i o:List UInt8),(G8 n i o).length<=o.length+i.length:=by
 intro n
 induction n with
 | zero=>intro i o;show o.length<=_;omega
 | succ n ih=>
  intro i o;unfold G8
  split
  ·omega
  ·have:=ih (Ck i o).1 (Ck i o).2;have h2:=Gr (i:=i) (o:=o);omega
theorem Pk (l:List UInt8):(Cr l).length<=l.length:=by
 have h:=cL l.length l [];rw[qd,Nat.zero_add] at h;exact h
theorem PX (p:UriP):(BA p).2.2<=65535:=by
 have:=ZM p.auth;unfold BA
 repeat' split
 all_goals first
  | exact this
  | exact Nat.zero_le _
theorem XF (l:List UInt8):(DZ l).2.1.length<=253:=by
 have hh:∀q:List UInt8,(CM q).2.length<=253:=by
  intro q;unfold CM
  repeat' split
  all_goals first
   | exact Nat.zero_le _
   | (show (Bw q).length<=253;rw[jQ];omega)
 unfold DZ
 repeat' split
 all_goals first
  | exact hh _
  | simp
theorem PG (p:UriP):(BA p).2.1.length<=253:=by
 have:=XF p.auth;unfold BA
 repeat' split
 all_goals first
  | exact this
  | simp
theorem kK (l:List UInt8):(IH l).length<=l.length+1:=by
 have:=Pk l;unfold IH
 split
 ·simp
 ·omega
theorem Pn (p:UriP):(CE p).2.path.length<=16385/\(CE p).2.query.length<=16384/\(CE p).2.frag.length<=16384:=by
 have h1:=Gk p.path Bh;have h2:=Gk p.query AJ;have h3:=Gk p.frag AJ;have h4:=kK (Am p.path Bh).2;unfold CE
 repeat' split
 all_goals simp[BD]
 omega
theorem Pt (u:UrlP):(IK u).length<=u.path.length+u.query.length+1:=by
 unfold IK
 split
 ·simp only[zg,zp,qd];omega
 ·omega
theorem ZF (u:UrlP) (h0:-9223372036854775808<=u.port) (h1:u.port<=9223372036854775807):(Bu u).length<=u.host.length+u.path.length+u.query.length+u.frag.length+40:=by
 have h2:=OC u.host u.port h0 h1;have h3:=Pt u;unfold Bu;simp only[zg,zp,qd]
 split
 ·simp only[zg,zp,qd];omega
 ·simp only[qd];omega
open Go.RowKit Sx
def Ba (u:UrlP):AV:=.agg [.s u.host,.i .i64 u.port,.s u.path,.s u.query,.s u.frag,.b u.hq,.b u.hf]
theorem Sc:Ba BD=.agg [.s [],.i .i64 0,.s [],.s [],.s [],.b false,.b false]:=rfl
theorem XD (l:List UInt8) (c:UInt8):decide (0<=Lib.indexByte l c)=(Af c l).2.2:=by
 rcases Fs c l with ⟨h1,h2,_⟩|⟨k,h1,_,h2,_⟩
 ·rw[h1,h2];rfl
 ·rw[h1,h2];simp
section
variable [Tabs Tryz.prog] {objs:List OB} {K:List OB->AV->Prop}
theorem fE (u:UrlP) (h1:u.path.length<=200000000000000) (h2:u.query.length<=200000000000000) (hk:K objs (.s (IK u))):Ah Tryz.prog 51 [Ba u] objs K:=by
 refine AF nA rfl fun C _=>?_;unfold IK at hk
 by_cases h:u.hq=true
 all_goals simp only[h,if_true,if_false,Bool.false_eq_true] at hk
 all_goals simp only[Ba,h,V6,Aa,simprocAttr]
 all_goals first
  | exact hk
  | exact⟨by omega,by omega,hk⟩
theorem gF (u:UrlP) (h1:u.path.length<=200000000000000) (h2:u.query.length<=200000000000000) (hk:K objs (.s (IK u))):Ah Tryz.prog 117 [Ba u] objs K:=by
 refine AF mO rfl fun C _=>?_;unfold IK at hk
 by_cases h:u.hq=true
 all_goals simp only[h,if_true,if_false,Bool.false_eq_true] at hk
 all_goals simp only[Ba,h,VQ,Aa,simprocAttr]
 all_goals first
  | exact hk
  | exact⟨by omega,by omega,hk⟩
theorem fD (u:UrlP) (hk:K objs (C8 u.host u.port)):Ah Tryz.prog 50 [Ba u] objs K:=by
 refine AF mZ rfl fun C _=>?_;simp only[Ba,V5,Aa,simprocAttr];exact hk
theorem gE (u:UrlP) (hk:K objs (C8 u.host u.port)):Ah Tryz.prog 116 [Ba u] objs K:=by
 refine AF mN rfl fun C _=>?_;simp only[Ba,VP,Aa,simprocAttr];exact hk
def DH (u:UrlP):Prop:=u.host.length<=1000000/\-9223372036854775808<=u.port/\u.port<=9223372036854775807/\u.path.length<=1000000/\u.query.length<=1000000/\u.frag.length<=1000000
theorem Mq [Pow Tryz.prog] (u:UrlP) (hu:DH u) (hk:K objs (.s (Bu u))):Ah Tryz.prog 18 [Ba u] objs K:=by
 obtain⟨h1,h2,h3,h4,h5,h6⟩:=hu;have t1:=OC u.host u.port h2 h3;have t2:=Pt u;refine AF mY rfl fun C _=>?_;unfold Bu at hk;simp only[Ba,V4,Aa,simprocAttr];refine Dl (fD u ⟨rfl,rfl⟩) ?_;simp only[C8,Aa,simprocAttr];refine Dl (eR u.host u.port (by omega) h2 h3 ⟨rfl,rfl⟩) ?_;simp only[Aa,simprocAttr];refine⟨by omega,?_⟩;refine Dl (fE u (by omega) (by omega) ⟨rfl,rfl⟩) ?_;simp only[Aa,simprocAttr]
 by_cases h:u.hf=true
 ·simp only[h,if_true,if_false,Bool.false_eq_true,qm] at hk;simp only[h,Aa,simprocAttr];exact⟨by omega,by omega,by omega,by simpa using hk⟩
 ·simp only[h,if_true,if_false,Bool.false_eq_true,qm] at hk;simp only[h,Aa,simprocAttr];exact⟨by omega,by simpa using hk⟩
theorem KW (u:UrlP) (hu:DH u) (hk:K objs (.s (Bu u))):Ah Tryz.prog 61 [Ba u] objs K:=by
 obtain⟨h1,h2,h3,h4,h5,h6⟩:=hu;have t1:=OC u.host u.port h2 h3;have t2:=Pt u;refine AF mM rfl fun C _=>?_;unfold Bu at hk;simp only[Ba,VO,Aa,simprocAttr];refine Dl (gE u ⟨rfl,rfl⟩) ?_;simp only[C8,Aa,simprocAttr];refine Dl (iE u.host u.port (by omega) h2 h3 ⟨rfl,rfl⟩) ?_;simp only[Aa,simprocAttr];refine⟨by omega,?_⟩;refine Dl (gF u (by omega) (by omega) ⟨rfl,rfl⟩) ?_;simp only[Aa,simprocAttr]
 by_cases h:u.hf=true
 ·simp only[h,if_true,if_false,Bool.false_eq_true,qm] at hk;simp only[h,Aa,simprocAttr];exact⟨by omega,by omega,by omega,by simpa using hk⟩
 ·simp only[h,if_true,if_false,Bool.false_eq_true,qm] at hk;simp only[h,Aa,simprocAttr];exact⟨by omega,by simpa using hk⟩
theorem Vt (s:List UInt8) (c:UInt8) (hk:K objs (.b (Af c s).2.2)):Ah Tryz.prog 89 [.s s,.s [c]] objs K:=by
 rw[<-XD] at hk;exact conv (vs:=[.string (S s),.string (S [c])]) rfl rfl (fun w=>(Tryz.strings_Contains_one (S s) c w).mono fun e w' ⟨h1,h2⟩=>⟨h1,Qb.rev h2⟩) hk
theorem gN (p:UriP) (h1:p.scheme.length<=1000000) (h2:p.auth.length<=1000000) (hk:K objs (.tup [C8 (BA p).2.1 (BA p).2.2,.i .i64 (BA p).1])):Ah Tryz.prog 43 [AR p] objs K:=by
 have hm:maxLen=2 ^ 63 - 1:=rfl;refine AF oL rfl fun C _=>?_;unfold BA at hk
 by_cases c1:p.hs=true
 ·by_cases c2:En p.scheme EE=true
  ·by_cases c3:p.ha=true
   ·by_cases c4:(Af 64 p.auth).2.2=true
    ·simp only[c1,c2,c3,c4,if_true,if_false,Bool.true_eq_false,C8] at hk;simp only[AR,c1,c3,JZ,Aa,simprocAttr];refine Ae (Kz p.scheme EE (by omega) (by decide) ?_);simp only[c2,Aa,simprocAttr];refine Ae (Vt p.auth 64 ?_);simp only[c4,Aa,simprocAttr];exact hk
    ·simp only[c1,c2,c3,c4,if_true,if_false,Bool.true_eq_false,C8] at hk;simp only[AR,c1,c3,JZ,Aa,simprocAttr];refine Ae (Kz p.scheme EE (by omega) (by decide) ?_);simp only[c2,Aa,simprocAttr];refine Ae (Vt p.auth 64 ?_);simp only[c4,Aa,simprocAttr];refine Ae (ZJ p.auth (by omega) ?_);simp only[C8,Aa,simprocAttr];exact hk
   ·simp only[c1,c2,c3,if_true,if_false,Bool.true_eq_false,C8] at hk;simp only[AR,c1,c3,JZ,Aa,simprocAttr];refine Ae (Kz p.scheme EE (by omega) (by decide) ?_);simp only[c2,Aa,simprocAttr];exact hk
  ·simp only[c1,c2,if_true,if_false,Bool.true_eq_false,C8] at hk;simp only[AR,c1,JZ,Aa,simprocAttr];refine Ae (Kz p.scheme EE (by omega) (by decide) ?_);simp only[c2,Aa,simprocAttr];exact hk
 ·simp only[c1,if_true,if_false,C8] at hk;simp only[AR,c1,JZ,Aa,simprocAttr];exact hk
theorem Zf (p:UriP) (hk:K objs (.tup [Ba (CE p).2,.i .i64 (CE p).1])):Ah Tryz.prog 44 [AR p] objs K:=by
 refine AF nQ rfl fun C _=>?_;have n1:=Gk p.path Bh;unfold CE at hk;simp only[AR,Wk,Aa,simprocAttr];refine Ae (IR p.path Bh ?_);simp only[Aa,simprocAttr]
 by_cases c1:(Am p.path Bh).1=0
 ·simp only[c1,Aa,simprocAttr] at hk ⊢;refine Ae (Kv _ (by omega) ?_);have hs:IH (Am p.path Bh).2=if Cr (Am p.path Bh).2=[] then [47] else Cr (Am p.path Bh).2:=rfl
  by_cases c0:Cr (Am p.path Bh).2=[]
  all_goals simp only[c0,Aa,simprocAttr] at hs
  all_goals rw[hs] at hk
  all_goals simp only[c0,Aa,simprocAttr]
  all_goals refine Ae (IR p.query AJ ?_)
  all_goals simp only[Aa,simprocAttr]
  all_goals by_cases c2:(Am p.query AJ).1=0
  all_goals simp only[c2,Aa,simprocAttr] at hk ⊢
  all_goals first
   | exact hk
   |refine Ae (IR p.frag AJ ?_)
    simp only[Aa,simprocAttr]
    by_cases c3:(Am p.frag AJ).1=0
    all_goals simp only[c3,Aa,simprocAttr] at hk ⊢
    all_goals exact hk
 ·simp only[c1,Aa,simprocAttr] at hk ⊢;exact hk
theorem OK [Pow Tryz.prog] (s:List UInt8) (hs:s.length<=maxLen) (hk:K objs (.tup [Ba (Df s).2,.i .i64 (Df s).1])):Ah Tryz.prog 16 [.s s] objs K:=by
 have hm:maxLen=2 ^ 63 - 1:=rfl;refine AF mE rfl fun C _=>?_;unfold Df K9 at hk
 by_cases c0:(4096:Int)<↑s.length
 ·have c0':4096<s.length:=by omega
  simp only[c0',if_true,Sc] at hk;simp only[c0,Qi,Aa,simprocAttr];exact hk
 ·have c0':¬4096<s.length:=by omega
  simp only[c0',if_false] at hk;simp only[c0,Qi,Aa,simprocAttr];refine Ae (OJ _ ?_);have sl:=JT s;have op:=PX (AB s).2;have ol:=PG (AB s).2;have rl:=Pn (AB s).2;generalize hp:(AB s).2=p at *
  by_cases c1:(AB s).1=0
  ·simp only[c1,AR,Aa,simprocAttr] at hk ⊢;refine Ae (gN p (by omega) (by omega) ?_);simp only[Aa,simprocAttr]
   by_cases c2:(BA p).1=0
   ·simp only[c2,C8,AR,Aa,simprocAttr] at hk ⊢;refine Ae (Zf p ?_)
    by_cases c3:(CE p).1=0
    ·have hsh:DH (Hb (BA p).2.1 (BA p).2.2 (CE p).2):=⟨by show (BA p).2.1.length<=_;omega,by show _<=(((BA p).2.2:Nat):Int);omega,by show (((BA p).2.2:Nat):Int)<=_;omega,by show (CE p).2.path.length<=_;omega,by show (CE p).2.query.length<=_;omega,by show (CE p).2.frag.length<=_;omega⟩;simp only[c3,Aa,simprocAttr] at hk;simp only[c3,Ba,Aa,simprocAttr];refine Ae (Mq (Hb (BA p).2.1 (BA p).2.2 (CE p).2) hsh ?_)
     by_cases c4:4096<(Bu (Hb (BA p).2.1 (BA p).2.2 (CE p).2)).length
     ·rw[Jj,if_pos c4] at hk;have c4':(4096:Int)<((Bu (Hb (BA p).2.1 (BA p).2.2 (CE p).2)).length:Nat):=by omega
      simp only[Ba,BD,Aa,simprocAttr] at hk;simp only[c4',Aa,simprocAttr];exact hk
     ·rw[Jj,if_neg c4] at hk;have c4':¬(4096:Int)<((Bu (Hb (BA p).2.1 (BA p).2.2 (CE p).2)).length:Nat):=by omega
      simp only[Ba,Hb,Aa,simprocAttr] at hk;simp only[c4',Aa,simprocAttr];exact hk
    ·simp only[c3,Ba,BD,Aa,simprocAttr] at hk ⊢;exact hk
   ·simp only[c2,C8,Ba,BD,Aa,simprocAttr] at hk ⊢;exact hk
  ·simp only[c1,AR,Ba,BD,Aa,simprocAttr] at hk ⊢;exact hk
end
end Go.Proofs.YtbgaknpnkcdbfaaGreatDoor
namespace Go.Proofs.YtbgaknpnkcdbfaaGreatDoor
open Int renaming toNat_natCast->zt
open Lib renaming hasPrefix->zj, indexByte->jk
open List renaming all_eq_true->zw, append_assoc->zu, append_nil->qm, drop_eq_getElem_cons->jq, drop_eq_nil_of_le->yf, eq_nil_of_length_eq_zero->qz, flatMap_cons->y7, getElem?_append_left->qh, getElem?_append_right->xv, getElem?_eq_getElem->zk, getElem?_eq_some_iff->zf, getElem?_set->za, getElem?_set_ne->zo, getElem?_set_self->zm, getElem_mem->jg, length_append->zg, length_cons->zp, length_drop->zr, length_map->qk, length_take->zq, map_append->ji, mem_append->qc, mem_cons->zv, mem_cons_of_mem->qp, mem_iff_getElem->y5, mem_singleton->xy, take_of_length_le->jm
open Nat renaming le_refl->ze, le_trans->qg, zero_le->zd
open Option renaming getD_some->qx, map_some->jt
def idB (c:UInt8):Bool:=Ce c||Av c||AI c [46,45,95]
def C2:List UInt8:=[46,45,95,58]
def C6 (c:UInt8):Bool:=Av c||(decide (97<=c.toNat)&&decide (c.toNat<=122))
def Fv (l:List UInt8):Bool:=l.all C6&&!l.isEmpty
def EB (c:UInt8) (new s:List UInt8):List UInt8:=s.flatMap fun x=>if x=c then new else [x]
def EO (s:List UInt8):List UInt8:=EB 126 [37,55,69] s
def DN (c:UInt8):Bool:=c==37||idB c||c==58
def DY (l:List UInt8):Int×List UInt8 :=
 if (A6 l).1≠0 then ((A6 l).1,[])
 else if l.all DN=false then (1,[])
 else if l=[]\/l.getLast? = some 58 then (3,[])
 else if (Am l C2).1≠0 then ((Am l C2).1,[])
 else (0,EO (Am l C2).2)
def CV:List UInt8:=[100,105,100,58]
def Bl (s:List UInt8):Int×List UInt8×List UInt8 :=
 if 4096<s.length then (5,[],[])
 else if zj s CV=false then (60,[],[])
 else if (Af 58 (s.drop 4)).2.2=false then (6,[],[])
 else if Fv (Af 58 (s.drop 4)).1=false then (100,[],[])
 else if (DY (Af 58 (s.drop 4)).2.1).1≠0 then ((DY (Af 58 (s.drop 4)).2.1).1,[],[])
 else (0,(Af 58 (s.drop 4)).1,(DY (Af 58 (s.drop 4)).2.1).2)
structure DidU where
 meth:List UInt8
 id:List UInt8
 path:List UInt8
 query:List UInt8
 frag:List UInt8
 hq:Bool
 hf:Bool
instance:DecidableEq DidU:=fun a b=>
 decidable_of_iff (a.meth=b.meth/\a.id=b.id/\a.path=b.path/\a.query=b.query/\a.frag=b.frag/\a.hq=b.hq/\a.hf=b.hf) (by
  cases a;cases b;simp)
def CI:DidU:=⟨[],[],[],[],[],false,false⟩
def AD (s:List UInt8):List UInt8:=A8 (Bg s)
def Ea (s:List UInt8):Int×DidU :=
 if 4096<s.length then (5,CI)
 else if (Bl (AD s)).1≠0 then ((Bl (AD s)).1,CI)
 else if (Am ((Bg s).drop (AD s).length) Bh).1≠0 then ((Am ((Bg s).drop (AD s).length) Bh).1,CI)
 else if (Am (Af 63 (Af 35 s).1).2.1 AJ).1≠0 then ((Am (Af 63 (Af 35 s).1).2.1 AJ).1,CI)
 else if (Am (Af 35 s).2.1 AJ).1≠0 then ((Am (Af 35 s).2.1 AJ).1,CI)
 else (0,⟨(Bl (AD s)).2.1,(Bl (AD s)).2.2,(Am ((Bg s).drop (AD s).length) Bh).2,(Am (Af 63 (Af 35 s).1).2.1 AJ).2,(Am (Af 35 s).2.1 AJ).2,(Af 63 (Af 35 s).1).2.2,(Af 35 s).2.2⟩)
def AU (m i:List UInt8):List UInt8:=CV++m++[58]++i
def Du (u:DidU):List UInt8:=AU u.meth u.id++u.path++(if u.hq=true then [63]++u.query else [])++(if u.hf=true then [35]++u.frag else [])
def B1 (m i r:List UInt8):Int×DidU :=
 if zj r CV=true then Ea r
 else if r=[]\/(r.head?.map fun c=>AI c [47,63,35])=some true then Ea (AU m i++r)
 else (6,CI)
theorem O4 (c:UInt8):∀s:List UInt8,Lib.index s [c]=jk s c
 | []=>rfl
 | b::l=>by
  have ih:=O4 c l;unfold Lib.index jk;rw[ih]
  by_cases h:b=c
  ·subst h;simp
  ·have h':¬c=b:=fun e=>h e.symm;simp[h,h']
theorem Mx (c:UInt8) (new:List UInt8):∀s:List UInt8,c∉s->EB c new s=s
 | [],_=>rfl
 | x::s,h=>by
  simp only[zv,not_or] at h;unfold EB;rw[y7,if_neg (fun e=>h.1 e.symm)];show [x]++EB c new s=_;rw[Mx c new s h.2];rfl
theorem P0 (c:UInt8) (new a b:List UInt8):EB c new (a++b)=EB c new a++EB c new b:=by simp[EB]
theorem jY (c:UInt8) (new:List UInt8):∀(n:Nat) (s:List UInt8),s.length<=n->Lib.replaceK [c] new (Lib.count s [c]) s=EB c new s:=by
 intro n
 induction n with
 | zero=>
  intro s hs;obtain rfl:s=[]:=qz (by omega)
  rfl
 | succ n ih=>
  intro s hs;rcases Fs c s with ⟨h1,_,h2⟩|⟨k,h1,h2,_,h3⟩
  ·rw[Lib.count_miss (by rw[O4];exact h1),Mx c new s h2];rfl
  ·have hi:Lib.index s [c]=k:=by rw[O4];exact h1
   rw[Lib.count_hit (by simp) hi,Nat.add_comm,Lib.replaceK_hit _ _ _ _ _ hi];have:=ih (s.drop (k+[c].length)) (by rw[zr];simp;omega);rw[this];have hk:s[k]=c:=by rw[zk h2] at h3;injection h3
   have hpre:c∉s.take k:=by
    intro hm;obtain⟨j,hj,hjc⟩:=y5.1 hm;have hj':j<k:=by rw[zq] at hj;omega
    have:=(Lib.indexByte_some h1).2 j hj';rw[List.getElem_take] at hjc;exact this (by rw[zk (by omega),hjc])
   conv=>rhs;rw[<-List.take_append_drop k s,jq h2,hk,P0,Mx c new _ hpre]
   show _=s.take k++EB c new ([c]++s.drop (k+1));rw[P0];simp[EB]
theorem lX (c:UInt8) (new s:List UInt8) (h:new≠[c]):Lib.replaceAll s [c] new=EB c new s:=by
 unfold Lib.replaceAll Lib.replace;rw[if_neg (by simp;exact fun e=>h e.symm)];unfold Lib.replaceNum;rw[if_pos (.inl (by decide))];exact jY c new s.length s (ze _)
theorem kB (c:UInt8) (s:List UInt8):Lib.count s [c]<=s.length+1:=Lib.count_le s [c]
theorem UU (s:List UInt8):(EO s).length<=3*s.length:=by
 induction s with
 | nil=>exact ze _
 | cons x s ih=>
  unfold EO EB at ih ⊢;rw[y7,zg,zp]
  split<;>simp only[zp,List.length_nil]<;>omega
def BR (l:List UInt8):List UInt8:=l.flatMap fun c=>if idB c=true then [c] else BX c
def BJ (p:List UInt8):List UInt8:=BR (A6 p).2
def F2 (ps:List (List UInt8)):List UInt8:=ps.flatMap fun q=>58::BJ q
theorem pM:∀n:Fin 256,(idB (UInt8.ofNat n.val)=true->D3 (UInt8.ofNat n.val) C2=true/\UInt8.ofNat n.val≠126/\UInt8.ofNat n.val≠58/\UInt8.ofNat n.val≠37) /\
  (BY (UInt8.ofNat n.val)=true->UInt8.ofNat n.val≠126->idB (UInt8.ofNat n.val)=true)/\(BY (UInt8.ofNat n.val)=false->idB (UInt8.ofNat n.val)=false) /\
  ((BX (UInt8.ofNat n.val)).all (fun c=>c != 126))=true/\(A9 (UInt8.ofNat n.val)=true->UInt8.ofNat n.val≠58/\idB (UInt8.ofNat n.val)=true):=by decide +kernel
theorem IX (c:UInt8):(idB c=true->D3 c C2=true/\c≠126/\c≠58/\c≠37)/\(BY c=true->c≠126->idB c=true)/\(BY c=false->idB c=false)/\(BX c).all (fun c=>c != 126)=true/\(A9 c=true->c≠58/\idB c=true):=by
 have:=pM ⟨c.toNat,UInt8.toNat_lt c⟩;simpa using this
theorem Qj (a b:List UInt8):EO (a++b)=EO a++EO b:=P0 _ _ a b
theorem Pu {c:UInt8} (h:c≠126):EO [c]=[c]:=by simp[EO,EB,h]
theorem gK (c:UInt8):EO (BX c)=BX c:=Mx _ _ _ (fun hm=>by
 have:=zw.1 (IX c).2.2.2.1 126 hm;simp at this)
theorem Ib (c:UInt8) (l:List UInt8):BR (c::l)=(if idB c=true then [c] else BX c)++BR l:=by simp[BR]
theorem U0:∀(n:Nat) (l o:List UInt8),l.length<=n->(Ao A5 0 l o).1=(Ao A5 0 l []).1/\((Ao A5 0 l []).1=0->(Ao A5 0 l o).2=o++(Ao A5 0 l []).2):=by
 intro n
 induction n with
 | zero=>
  intro l o hl;obtain rfl:l=[]:=qz (by omega);simp[Ao]
 | succ n ih=>
  intro l o hl
  cases l with
  | nil=>simp[Ao]
  | cons c t=>
   by_cases hc:c=37
   ·rcases he:BF (c::t) with _|_
    ·simp[Ao,hc,he,show BF (37::t)=false from by rw[<-hc];exact he]
    ·obtain⟨a,b,r,rfl⟩:=Hi he;have hd:∀o,Ao A5 0 (c::a::b::r) o=Ao A5 0 r (o++[Bj (c::a::b::r)]):=by
      intro o;rw[Ao,if_pos hc,if_pos he];show (if (0:Int)=0 then Ao A5 2 (a::b::r) _ else _)=_;rw[if_pos rfl,FV]
      rfl
     rw[hd,hd];have i1:=ih r (o++[Bj (c::a::b::r)]) (by simp at hl ⊢;omega);have i2:=ih r ([]++[Bj (c::a::b::r)]) (by simp at hl ⊢;omega);refine⟨by rw[i1.1,i2.1],fun h=>?_⟩;rw[i2.1] at h;rw[i1.2 h,i2.2 h];simp
   ·have hd:∀o,Ao A5 0 (c::t) o=Ao A5 0 t (o++[c]):=by
     intro o;rw[Ao,if_neg hc];show (if (0:Int)=0 then Ao A5 0 t _ else _)=_;rw[if_pos rfl];rfl
    rw[hd,hd];have i1:=ih t (o++[c]) (by simp at hl;omega);have i2:=ih t ([]++[c]) (by simp at hl;omega);refine⟨by rw[i1.1,i2.1],fun h=>?_⟩;rw[i2.1] at h;rw[i1.2 h,i2.2 h];simp
theorem Yx {c:UInt8} {t:List UInt8} (hc:c=37) (a b:UInt8) (r:List UInt8) (ht:t=a::b::r) (he:BF (c::t)=true) (o:List UInt8):Ao A5 0 (c::t) o=Ao A5 0 r (o++[Bj (c::t)]):=by
 subst ht;rw[Ao,if_pos hc,if_pos he];show (if (0:Int)=0 then Ao A5 2 (a::b::r) _ else _)=_;rw[if_pos rfl,FV]
 rfl
theorem Yy {c:UInt8} {t:List UInt8} (hc:c≠37) (o:List UInt8):Ao A5 0 (c::t) o=Ao A5 0 t (o++[c]):=by
 rw[Ao,if_neg hc];show (if (0:Int)=0 then Ao A5 0 t _ else _)=_;rw[if_pos rfl];rfl
def Bz (l:List UInt8):Int×List UInt8:=Ao A5 0 l []
theorem JG {l:List UInt8} (h:l.length<=16384):A6 l=Bz l:=by unfold A6 C9;rw[if_neg (by omega)];rfl
theorem H5 {c:UInt8} {t:List UInt8} (hc:c≠37):(Bz (c::t)).1=(Bz t).1/\((Bz t).1=0->(Bz (c::t)).2=c::(Bz t).2):=by
 unfold Bz;rw[Yy hc];have:=U0 t.length t ([]++[c]) (ze _);exact⟨this.1,fun h=>by rw[this.2 h];rfl⟩
theorem IE {a b:UInt8} {r:List UInt8} (he:BF (37::a::b::r)=true):(Bz (37::a::b::r)).1=(Bz r).1/\((Bz r).1=0->(Bz (37::a::b::r)).2=Bj (37::a::b::r)::(Bz r).2):=by
 unfold Bz;rw[Yx rfl a b r rfl he];have:=U0 r.length r ([]++[Bj (37::a::b::r)]) (ze _);exact⟨this.1,fun h=>by rw[this.2 h];rfl⟩
theorem JB {t:List UInt8} (he:BF (37::t)=false):(Bz (37::t)).1=2:=by
 unfold Bz;rw[Ao,if_pos rfl,if_neg (by rw[he];exact Bool.false_ne_true)]
theorem X1:∀(n:Nat) (l:List UInt8),l.length<=n->(Bz l).1=0\/(Bz l).1=2:=by
 intro n
 induction n with
 | zero=>
  intro l hl;obtain rfl:l=[]:=qz (by omega);exact .inl rfl
 | succ n ih=>
  intro l hl
  cases l with
  | nil=>exact .inl rfl
  | cons c t=>
   by_cases hc:c=37
   ·subst hc;rcases he:BF (37::t) with _|_
    ·exact .inr (JB he)
    ·obtain⟨a,b,r,rfl⟩:=Hi he;rw[(IE he).1];exact ih r (by simp at hl ⊢;omega)
   ·rw[(H5 hc).1];exact ih t (by simp at hl;omega)
open Go.RowKit Sx
section
attribute [local irreducible] run
def AK:List UInt8:=[105,100]
def BO:List UInt8:=[116,121,112,101]
def B9:List UInt8:=[99,111,110,116,114,111,108,108,101,114]
def Cp:List UInt8:=[115,101,114,118,105,99,101,69,110,100,112,111,105,110,116]
def CK:List UInt8:=[97,108,115,111,75,110,111,119,110,65,115]
def CL:List UInt8:=[118,101,114,105,102,105,99,97,116,105,111,110,77,101,116,104,111,100]
def BT:List UInt8:=[115,101,114,118,105,99,101]
structure MtP where
 id:List UInt8
 typ:List UInt8
 ctl:List UInt8
structure SvP where
 id:List UInt8
 typ:List (List UInt8)
 eps:List (List UInt8)
structure DoP where
 id:List UInt8
 also:List (List UInt8)
 ctl:List (List UInt8)
 mts:List MtP
 svs:List SvP
def QE:MtP:=⟨[],[],[]⟩
def I8:SvP:=⟨[],[],[]⟩
def F4:DoP:=⟨[],[],[],[],[]⟩
def B5 (v:JV) (key:List UInt8):List UInt8×Bool:=if (An v key).2=true/\(An v key).1.kind=5 then ((An v key).1.text,true) else ([],false)
def Dy (l:List JV):Int×List (List UInt8) :=
 if 64<l.length then (161,[]) else if l.all (fun x=>decide (x.kind=5))=true then (0,l.map JV.text) else (160,[])
def DX (v:JV):Int×List (List UInt8):=if v.kind=6 then Dy v.items else (160,[])
def BQ (v:JV):Int×List (List UInt8):=if v.kind=6 then Dy v.items else Dy [v]
def B7 (m i:List UInt8) (v:JV):Int×List UInt8 :=
 if (B5 v AK).2=false then (160,[]) else if (B1 m i (B5 v AK).1).1≠0 then (160,[]) else (0,Du (B1 m i (B5 v AK).1).2)
def Bv (m i:List UInt8) (v:JV):Int×MtP :=
 if (B7 m i v).1≠0 then ((B7 m i v).1,QE)
 else if (B5 v BO).2=true/\(B5 v B9).2=true then (0,⟨(B7 m i v).2,(B5 v BO).1,(B5 v B9).1⟩) else (160,QE)
def Bc (m i:List UInt8) (v:JV):Int×SvP :=
 if (B7 m i v).1≠0 then ((B7 m i v).1,I8)
 else if (BQ (An v BO).1).1≠0 then ((BQ (An v BO).1).1,I8)
 else if (An v Cp).1.kind=7 then (0,⟨(B7 m i v).2,(BQ (An v BO).1).2,[]⟩)
 else if (BQ (An v Cp).1).1≠0 then ((BQ (An v Cp).1).1,I8)
 else (0,⟨(B7 m i v).2,(BQ (An v BO).1).2,(BQ (An v Cp).1).2⟩)
def C0 {α:Type} (f:JV->Int×α):List JV->Int×List α
 | []=>(0,[])
 | y::l=>if (f y).1≠0 then ((f y).1,[]) else if (C0 f l).1≠0 then ((C0 f l).1,[]) else (0,(f y).2::(C0 f l).2)
def Bf {α:Type} (f:JV->Int×α) (v:JV):Int×List α:=if v.kind=6 then (if 64<v.items.length then (161,[]) else C0 f v.items) else (160,[])
def Bd {α:Type} (v:JV) (key:List UInt8) (f:JV->Int×List α):Int×List α:=if (An v key).2=true then f (An v key).1 else (0,[])
def BC (v:JV):Int×List UInt8×List UInt8 :=
 if (B5 v AK).2=false then (160,[],[]) else if (Bl (B5 v AK).1).1≠0 then (160,[],[]) else (0,(Bl (B5 v AK).1).2)
def Ci (v:JV):Int×DoP :=
 if (BC v).1≠0 then ((BC v).1,F4)
 else if (Bd v CK DX).1≠0 then ((Bd v CK DX).1,F4)
 else if (Bd v B9 BQ).1≠0 then ((Bd v B9 BQ).1,F4)
 else if (Bd v CL (Bf (Bv (BC v).2.1 (BC v).2.2))).1≠0 then ((Bd v CL (Bf (Bv (BC v).2.1 (BC v).2.2))).1,F4)
 else if (Bd v BT (Bf (Bc (BC v).2.1 (BC v).2.2))).1≠0 then ((Bd v BT (Bf (Bc (BC v).2.1 (BC v).2.2))).1,F4)
 else (0,⟨AU (BC v).2.1 (BC v).2.2,(Bd v CK DX).2,(Bd v B9 BQ).2,(Bd v CL (Bf (Bv (BC v).2.1 (BC v).2.2))).2,(Bd v BT (Bf (Bc (BC v).2.1 (BC v).2.2))).2⟩)
def Nb (x:JV) (single:Bool):Int×List (List UInt8) :=
 if single=true/\x.kind=5 then (0,[x.text])
 else if x.kind≠6 then (160,[])
 else if 64<x.items.length then (161,[])
 else ((if x.items.all (fun y=>decide (y.kind=5))=true then 0 else 160),x.items.map JV.text)
def Ca (v:JV) (key:List UInt8) (single:Bool):Int×List (List UInt8):=if (An v key).2=true then Nb (An v key).1 single else (0,[])
def Cl (v:JV) (key:List UInt8):Int×List JV :=
 if (An v key).2=false then (0,[]) else if (An v key).1.kind≠6 then (160,[]) else if 64<(An v key).1.items.length then (161,[]) else (0,(An v key).1.items)
def Cu (v:JV) (key:List UInt8):Int:=if (An v key).1.kind=5 then 0 else 160
def Em (m i:List UInt8) (v:JV):Int×List UInt8 :=
 if (B1 m i (An v AK).1.text).1≠0 then (As (Cu v AK) 160,[]) else (Cu v AK,Du (B1 m i (An v AK).1.text).2)
def C5 (m i:List UInt8) (v:JV):Int×MtP :=
 if v.kind≠7 then (160,QE)
 else (As (As (Em m i v).1 (Cu v BO)) (Cu v B9),⟨(Em m i v).2,(An v BO).1.text,(An v B9).1.text⟩)
def El (v:JV) (key:List UInt8):Int:=if (An v key).2=true then 0 else 160
def Dp (m i:List UInt8) (v:JV):Int×SvP :=
 if v.kind≠7 then (160,I8)
 else if (An v Cp).1.kind=7 then (As (As (As (Em m i v).1 (El v BO)) (Ca v BO true).1) (El v Cp),⟨(Em m i v).2,(Ca v BO true).2,[]⟩)
 else (As (As (As (As (Em m i v).1 (El v BO)) (Ca v BO true).1) (El v Cp)) (Ca v Cp true).1,⟨(Em m i v).2,(Ca v BO true).2,(Ca v Cp true).2⟩)
def DA {α:Type} (f:JV->Int×α):List JV->Int
 | []=>0
 | y::l=>As (f y).1 (DA f l)
theorem E8 {a b:Int} (h:a≠0):As a b=a:=if_neg h
theorem EC (b:Int):As 0 b=b:=if_pos rfl
theorem O0 {v:JV} {key:List UInt8} (h:(An v key).2=false):(An v key).1=Cm:=by
 unfold An at h ⊢
 split at h
 ·rename_i a;rw[if_pos a]
  split at h
  ·cases h
  ·rfl
 ·rename_i a;rw[if_neg a]
theorem Xk {v:JV} {key:List UInt8}:As (El v key) (Ca v key true).1=(BQ (An v key).1).1/\((BQ (An v key).1).1=0->(Ca v key true).2=(BQ (An v key).1).2):=by
 unfold El Ca
 by_cases h:(An v key).2=true
 ·rw[if_pos h,if_pos h,EC];unfold Nb BQ;generalize (An v key).1=x
  by_cases h5:x.kind=5
  ·rw[if_pos ⟨rfl,h5⟩,if_neg (by omega)];unfold Dy;rw[if_neg (by simp),if_pos (by simp[h5])];exact⟨rfl,fun _=>rfl⟩
  ·rw[if_neg (fun e=>h5 e.2)]
   by_cases h6:x.kind=6
   ·rw[if_neg (fun e=>e h6),if_pos h6];unfold Dy
    by_cases hl:64<x.items.length
    ·rw[if_pos hl,if_pos hl];exact⟨rfl,fun _=>rfl⟩
    ·rw[if_neg hl,if_neg hl]
     by_cases ha:x.items.all (fun y=>decide (y.kind=5))=true
     ·rw[if_pos ha,if_pos ha];exact⟨rfl,fun _=>rfl⟩
     ·rw[if_neg ha,if_neg ha];exact⟨rfl,fun e=>by cases e⟩
   ·rw[if_pos h6,if_neg h6];unfold Dy;rw[if_neg (by simp),if_neg (by simp[h5])];exact⟨rfl,fun _=>rfl⟩
 ·rw[if_neg h,if_neg h,E8 (by decide),O0 (by simpa using h)];refine⟨rfl,fun e=>?_⟩;have:(BQ Cm).1=160:=rfl;rw[this] at e;cases e
theorem Ju (v:JV) (key:List UInt8) (s:Bool):(Ca v key s).1=(Bd v key (if s=true then BQ else DX)).1/\((Ca v key s).1=0->(Ca v key s).2=(Bd v key (if s=true then BQ else DX)).2):=by
 unfold Ca Bd
 by_cases h:(An v key).2=true
 ·rw[if_pos h,if_pos h];unfold Nb;generalize (An v key).1=x
  cases s with
  | true=>
   rw[if_pos (show true=true from rfl)];unfold BQ
   by_cases h5:x.kind=5
   ·rw[if_pos ⟨rfl,h5⟩,if_neg (by omega)];unfold Dy;rw[if_neg (by simp),if_pos (by simp[h5])];exact⟨rfl,fun _=>rfl⟩
   rw[if_neg (fun e=>h5 e.2)]
   by_cases h6:x.kind=6
   ·rw[if_neg (fun e=>e h6),if_pos h6];unfold Dy
    by_cases hl:64<x.items.length
    ·rw[if_pos hl,if_pos hl];exact⟨rfl,fun _=>rfl⟩
    ·rw[if_neg hl,if_neg hl]
     by_cases ha:x.items.all (fun y=>decide (y.kind=5))=true
     ·rw[if_pos ha,if_pos ha];exact⟨rfl,fun _=>rfl⟩
     ·rw[if_neg ha,if_neg ha];exact⟨rfl,fun e=>by cases e⟩
   ·rw[if_pos h6,if_neg h6];unfold Dy;rw[if_neg (by simp),if_neg (by simp[h5])];exact⟨rfl,fun _=>rfl⟩
  | false=>
   rw[if_neg (show ¬(false=true/\x.kind=5) from fun e=>by cases e.1),if_neg (show ¬(false=true) by decide)];unfold DX
   by_cases h6:x.kind=6
   ·rw[if_neg (fun e=>e h6),if_pos h6];unfold Dy
    by_cases hl:64<x.items.length
    ·rw[if_pos hl,if_pos hl];exact⟨rfl,fun _=>rfl⟩
    ·rw[if_neg hl,if_neg hl]
     by_cases ha:x.items.all (fun y=>decide (y.kind=5))=true
     ·rw[if_pos ha,if_pos ha];exact⟨rfl,fun _=>rfl⟩
     ·rw[if_neg ha,if_neg ha];exact⟨rfl,fun e=>by cases e⟩
   ·rw[if_pos h6,if_neg h6];exact⟨rfl,fun _=>rfl⟩
 ·rw[if_neg h,if_neg h];exact⟨rfl,fun _=>rfl⟩
theorem Ln (v:JV) (key:List UInt8):((B5 v key).2=true↔Cu v key=0)/\(Cu v key=0->(An v key).1.text=(B5 v key).1):=by
 unfold B5 Cu
 by_cases h5:(An v key).1.kind=5
 ·have h2:(An v key).2=true:=by
   cases h:(An v key).2 with
   | true=>rfl
   | false=>rw[O0 h] at h5;cases h5
  rw[if_pos ⟨h2,h5⟩,if_pos h5];exact⟨⟨fun _=>rfl,fun _=>rfl⟩,fun _=>rfl⟩
 ·rw[if_neg (fun e=>h5 e.2),if_neg h5];exact⟨⟨(fun e=>by cases e),(fun e=>by cases e)⟩,(fun e=>by cases e)⟩
theorem Mc (v:JV) (key:List UInt8):Cu v key=0\/Cu v key=160:=by unfold Cu;split<;>simp
theorem Q1 (m i:List UInt8) (v:JV):(Em m i v).1=(B7 m i v).1/\((B7 m i v).1=0->(Em m i v).2=(B7 m i v).2):=by
 unfold Em B7;obtain⟨h1,h2⟩:=Ln v AK
 by_cases h:Cu v AK=0
 ·rw[h2 h,h,EC,if_neg (show ¬(B5 v AK).2=false by rw[h1.2 h];decide)]
  by_cases hr:(B1 m i (B5 v AK).1).1≠0
  ·rw[if_pos hr];exact⟨rfl,fun _=>rfl⟩
  ·rw[if_neg hr];exact⟨rfl,fun _=>rfl⟩
 ·have hf:(B5 v AK).2=false:=by
   cases e:(B5 v AK).2 with
   | true=>exact absurd (h1.1 e) h
   | false=>rfl
  rw[if_pos hf,E8 h,(Mc v AK).resolve_left h];exact⟨by split<;>rfl,fun e=>by cases e⟩
theorem OH {v:JV} (h:v.kind≠7) (key:List UInt8):(B5 v key).2=false:=by
 unfold B5;rw[if_neg (fun e=>by rw[OZ h] at e;cases e.1)]
theorem Xi (m i:List UInt8) (v:JV):(C5 m i v).1=(Bv m i v).1/\((Bv m i v).1=0->(C5 m i v).2=(Bv m i v).2):=by
 unfold C5 Bv
 by_cases h7:v.kind=7
 ·rw[if_neg (fun e=>e h7)];obtain⟨a1,a2⟩:=Q1 m i v;obtain⟨b1,b2⟩:=Ln v BO;obtain⟨c1,c2⟩:=Ln v B9;dsimp only
  by_cases h:(B7 m i v).1=0
  ·rw[if_neg (fun e=>e h),a1,h,EC,a2 h]
   by_cases hc:(B5 v BO).2=true/\(B5 v B9).2=true
   ·rw[if_pos hc,b1.1 hc.1,c1.1 hc.2,b2 (b1.1 hc.1),c2 (c1.1 hc.2)];exact⟨rfl,fun _=>rfl⟩
   ·rw[if_neg hc];refine⟨?_,fun e=>by cases e⟩
    by_cases ht:Cu v BO=0
    ·rw[ht,EC];exact(Mc v B9).resolve_left fun e=>hc ⟨b1.2 ht,c1.2 e⟩
    ·rw[E8 (a:=Cu v BO) ht];exact(Mc v BO).resolve_left ht
  ·rw[if_pos h,a1,E8 h,E8 h];exact⟨rfl,fun e=>absurd e h⟩
 ·rw[if_pos h7];have:(B7 m i v).1=160:=by unfold B7;rw[if_pos (OH h7 AK)]
  rw[if_pos (by rw[this];decide),this];exact⟨rfl,fun e=>by cases e⟩
theorem Dn (a b c:Int):As (As a b) c=As a (As b c):=by
 unfold As;by_cases h:a=0<;>simp[h]
theorem Xl (m i:List UInt8) (v:JV):(Dp m i v).1=(Bc m i v).1/\((Bc m i v).1=0->(Dp m i v).2=(Bc m i v).2):=by
 unfold Dp Bc
 by_cases h7:v.kind=7
 ·rw[if_neg (show ¬v.kind≠7 from fun e=>e h7)];obtain⟨a1,a2⟩:=Q1 m i v;obtain⟨b1,b2⟩:=Xk (v:=v) (key:=BO);obtain⟨c1,c2⟩:=Xk (v:=v) (key:=Cp);have hth:(An v Cp).1.kind=7->El v Cp=0:=fun e=>by
   unfold El
   cases h:(An v Cp).2 with
   | true=>rfl
   | false=>rw[O0 h] at e;cases e
  by_cases h:(B7 m i v).1=0
  ·rw[if_neg (show ¬(B7 m i v).1≠0 from fun e=>e h)]
   by_cases ho:(BQ (An v BO).1).1=0
   ·rw[if_neg (show ¬(BQ (An v BO).1).1≠0 from fun e=>e ho)];have e1:=b2 ho
    by_cases hk:(An v Cp).1.kind=7
    ·rw[if_pos hk,if_pos hk];dsimp only;rw[Dn (Em m i v).1,b1,ho,a1,h,hth hk,a2 h,e1];exact⟨rfl,fun _=>rfl⟩
    ·rw[if_neg hk,if_neg hk];dsimp only;rw[Dn _ (El v Cp),c1,Dn (Em m i v).1,b1,ho,a1,h,a2 h,e1];show As (As 0 0) _=_/\_;rw[EC,EC]
     by_cases hp:(BQ (An v Cp).1).1=0
     ·rw[if_neg (show ¬(BQ (An v Cp).1).1≠0 from fun e=>e hp),hp,c2 hp];exact⟨rfl,fun _=>rfl⟩
     ·rw[if_pos hp];exact⟨rfl,fun e=>absurd e hp⟩
   ·rw[if_pos ho];refine⟨?_,fun e=>absurd e ho⟩
    by_cases hk:(An v Cp).1.kind=7
    ·rw[if_pos hk];dsimp only;rw[Dn (Em m i v).1,b1,a1,h,EC,E8 ho]
    ·rw[if_neg hk];dsimp only;rw[Dn _ (El v Cp),Dn (Em m i v).1,b1,a1,h,EC,E8 ho]
  ·rw[if_pos h];refine⟨?_,fun e=>absurd e h⟩
   by_cases hk:(An v Cp).1.kind=7
   ·rw[if_pos hk];dsimp only;rw[Dn,Dn,a1,E8 h]
   ·rw[if_neg hk];dsimp only;rw[Dn,Dn,Dn,a1,E8 h]
 ·rw[if_pos h7];have:(B7 m i v).1=160:=by unfold B7;rw[if_pos (OH h7 AK)]
  rw[if_pos (by rw[this];decide),this];exact⟨rfl,fun e=>by cases e⟩
theorem Rg {α:Type} {f g:JV->Int×α} (h:∀y,(g y).1=(f y).1/\((f y).1=0->(g y).2=(f y).2)):∀l:List JV,DA g l=(C0 f l).1/\((C0 f l).1=0->l.map (fun y=>(g y).2)=(C0 f l).2)
 | []=>⟨rfl,fun _=>rfl⟩
 | y::l=>by
  obtain⟨h1,h2⟩:=h y;obtain⟨h3,h4⟩:=Rg h l;rw[DA,C0,h1,h3]
  by_cases a:(f y).1=0
  ·rw[if_neg (fun e=>e a),a,EC]
   by_cases b:(C0 f l).1=0
   ·rw[if_neg (fun e=>e b),b,List.map_cons,h2 a,h4 b];exact⟨rfl,fun _=>rfl⟩
   ·rw[if_pos b];exact⟨rfl,fun e=>absurd e b⟩
  ·rw[if_pos a,E8 a];exact⟨rfl,fun e=>absurd e a⟩
theorem Lm {α:Type} {f g:JV->Int×α} (h:∀y,(g y).1=(f y).1/\((f y).1=0->(g y).2=(f y).2)) (v:JV) (key:List UInt8) :
  As (Cl v key).1 (DA g (Cl v key).2)=(Bd v key (Bf f)).1/\((Bd v key (Bf f)).1=0->(Cl v key).2.map (fun y=>(g y).2)=(Bd v key (Bf f)).2):=by
 unfold Cl Bd
 by_cases h2:(An v key).2=true
 ·rw[if_neg (by rw[h2];decide),if_pos h2];unfold Bf;generalize (An v key).1=x
  by_cases h6:x.kind=6
  ·rw[if_neg (fun e=>e h6),if_pos h6]
   by_cases hl:64<x.items.length
   ·rw[if_pos hl,if_pos hl];exact⟨rfl,fun e=>by cases e⟩
   ·rw[if_neg hl,if_neg hl,EC];exact Rg h x.items
  ·rw[if_pos h6,if_neg h6];exact⟨rfl,fun e=>by cases e⟩
 ·rw[if_pos (by simpa using h2),if_neg h2];exact⟨rfl,fun _=>rfl⟩
end
theorem R5 (c:UInt8) (hd:Av c=false):C6 c=(decide (97<=c.toNat)&&decide (c.toNat<=122)):=by unfold C6;rw[hd];rfl
theorem pL:∀n:Fin 256,DN (UInt8.ofNat n.val)=(UInt8.ofNat n.val==37||(Ce (UInt8.ofNat n.val)||Av (UInt8.ofNat n.val)||AI (UInt8.ofNat n.val) [46,45,95,58])):=by decide +kernel
theorem XG (c:UInt8):DN c=(c==37||(Ce c||Av c||AI c [46,45,95,58])):=by
 have:=pL ⟨c.toNat,UInt8.toNat_lt c⟩;simpa using this
theorem aV {s:List UInt8} (h:zj s CV=true):Lib.trimPrefix s CV=s.drop 4:=by unfold Lib.trimPrefix;rw[if_pos h];rfl
theorem XH (s:List UInt8):(DY s).2.length<=50000:=by
 have h1:=Gk s C2;have h2:=UU (Am s C2).2;unfold DY
 repeat' split
 all_goals first
  | exact zd _
  | (show (EO (Am s C2).2).length<=50000;omega)
theorem Hh (m i:List UInt8):(AU m i).length=m.length+i.length+5:=by simp[AU,CV];omega
section
variable [Tabs Tryz.prog] {objs:List OB} {K:List OB->AV->Prop}
theorem jG [Shp Tryz.prog] (s new:List UInt8) (c:UInt8) (hs:s.length<=100000) (hn:new.length<=100) (hne:new≠[c]) (hk:K objs (.s (EB c new s))):Ah Tryz.prog 169 [.s s,.s [c],.s new] objs K:=by
 have hc:Lib.countB (S s) (S [c])<=s.length+1:=kB c s;have hl:(S s).size+Lib.countB (S s) (S [c])*(S new).size<=140737488355328:=by
  have h1:Lib.countB (S s) (S [c])*(S new).size<=100001*100:=Nat.mul_le_mul (by omega) (by rw[AL];omega);rw[AL];omega
 have e:Lib.replaceAll s [c] new=EB c new s:=lX c new s hne;rw[<-e] at hk;exact Nm (vs:=[.string (S s),.string (S [c]),.string (S new)]) rfl rfl (fun w hT=>Tryz.strings_ReplaceAll_shaped (S s) (S [c]) (S new) w (Shp.sh w hT) (by rw[AL];omega) (by rw[AL];simp) hl) hk
theorem dG (s:List UInt8) (hs:s.length<=1000000) (hk:K objs (.b (Fv s))):Ah Tryz.prog 126 [.s s] objs K:=by
 refine AF mI rfl fun C _=>?_;unfold Fv at hk;simp only[VM,Aa,simprocAttr];refine B4 (fun n objs tm=>∃i:Nat,i<=s.length/\n=s.length - i/\objs=[]/\(∀j (h:j<s.length),j<i->C6 s[j]=true)/\tm.length=29/\tm[0]? = some (.s s)/\tm[5]? = some (.i .i64 s.length)/\tm[6]? = some (.i .i64 i)) s.length ⟨0,zd _,rfl,rfl,fun j h h0=>absurd h0 (by omega),rfl,rfl,rfl,rfl⟩ ?_;rintro n _ tm ⟨i,hi,rfl,rfl,hall,hlen,t0,t5,t6⟩
 by_cases hlt:(i:Int)<s.length
 ·have hlt':i<s.length:=by omega
  have hg:=DL hlt';have hfin:C6 s[i]=false->K objs (.b false):=fun h=>by
   rw[LO hlt' h] at hk;exact hk
  have hnext:C6 s[i]=true->∀j (h:j<s.length),j<i+1->C6 s[j]=true:=by
   intro h j hj hji;rcases Nat.lt_or_ge j i with h1|h1
   ·exact hall j hj h1
   ·have:j=i:=by omega
    subst this;exact h
  simp only[Aa,simprocAttr,za,hlen,t0,t5,t6,hlt];refine⟨by omega,?_⟩;rw[hg];generalize s[i]=c at *;refine Ae (Su c ?_)
  by_cases hd:Av c=true
  ·have hm:C6 c=true:=by unfold C6;rw[hd];rfl
   simp only[hd,Aa,simprocAttr,za,hlen,t0,t5,t6];exact⟨⟨by omega,by omega⟩,s.length - (i+1),by omega,i+1,by omega,rfl,hnext hm,rfl⟩
  ·simp only[Bool.not_eq_true] at hd;have hm:=R5 c hd
   by_cases h97:((c.toNat:Nat):Int)<97
   ·have hm2:C6 c=false:=by rw[hm,decide_eq_false (by omega)];rfl
    simp only[hd,hg,h97,Aa,simprocAttr,za,hlen,t0,t5,t6];exact⟨⟨by omega,by omega⟩,hfin hm2⟩
   ·by_cases h122:(122:Int)<((c.toNat:Nat):Int)
    ·have hm2:C6 c=false:=by rw[hm,decide_eq_false (p:=c.toNat<=122) (by omega),Bool.and_false]
     simp only[hd,hg,h97,h122,Aa,simprocAttr,za,hlen,t0,t5,t6];exact⟨⟨by omega,by omega⟩,⟨by omega,by omega⟩,hfin hm2⟩
    ·have hm2:C6 c=true:=by rw[hm,decide_eq_true (by omega),decide_eq_true (by omega)];rfl
     simp only[hd,hg,h97,h122,Aa,simprocAttr,za,hlen,t0,t5,t6];exact⟨⟨by omega,by omega⟩,⟨by omega,by omega⟩,⟨by omega,by omega⟩,s.length - (i+1),by omega,i+1,by omega,rfl,hnext hm2,rfl⟩
 ·have hie:i=s.length:=by omega
  subst hie;have ha:s.all C6=true:=Ls fun j h=>hall j h h;rw[ha] at hk;simp only[Aa,simprocAttr,za,hlen,t0,t5,t6,hlt];have e:decide (¬s=[])=(true&&!s.isEmpty):=by cases s<;>simp
  rw[e];exact hk
theorem dF (c:UInt8) (hk:K objs (.b (Ce c||Av c||AI c [46,45,95,58]))):Ah Tryz.prog 168 [.i .u8 c.toNat] objs K:=by
 refine AF mH rfl fun C _=>?_;simp only[VL,Aa,simprocAttr];refine Ae (ZU c ?_)
 by_cases h1:Ce c=true
 ·simp only[h1,Bool.true_or] at hk;simp only[h1,Aa,simprocAttr];exact hk
 ·simp only[h1,Aa,simprocAttr];refine Ae (Su c ?_)
  by_cases h2:Av c=true
  ·simp only[h1,h2,Bool.true_or,Bool.or_true,Bool.false_or] at hk;simp only[h2,Aa,simprocAttr];exact hk
  ·simp only[h1,h2,Bool.false_or] at hk;simp only[h2,Aa,simprocAttr];refine Ae (Qe _ c ?_);simp only[Aa,simprocAttr];rw[R9];exact hk
set_option maxHeartbeats 4000000 in
theorem iP [Shp Tryz.prog] (s:List UInt8) (hs:s.length<=16384) (hk:K objs (.tup [.s (DY s).2,.i .i64 (DY s).1])):Ah Tryz.prog 127 [.s s] objs K:=by
 refine AF lJ rfl fun C _=>?_;have hid:DY s=if (A6 s).1≠0 then ((A6 s).1,[]) else if s.all DN=false then (1,[]) else if s=[]\/s.getLast? = some 58 then (3,[]) else if (Am s C2).1≠0 then ((Am s C2).1,[]) else (0,EO (Am s C2).2):=rfl
 simp only[VA,Aa,simprocAttr];refine Ae (dV s ?_)
 by_cases h1:(A6 s).1=0
 ·simp only[h1,Aa,simprocAttr] at hid ⊢;refine B4 (fun n objs tm=>∃i:Nat,i<=s.length/\n=s.length - i/\objs=[]/\(∀j (h:j<s.length),j<i->DN s[j]=true)/\tm.length=54/\tm[0]? = some (.s s)/\tm[18]? = some (.i .i64 s.length)/\tm[19]? = some (.i .i64 i)) s.length ⟨0,zd _,rfl,rfl,fun j h h0=>absurd h0 (by omega),rfl,rfl,rfl,rfl⟩ ?_;rintro n _ tm ⟨i,hi,rfl,rfl,hall,hlen,t0,t5,t6⟩
  by_cases hlt:(i:Int)<s.length
  ·have hlt':i<s.length:=by omega
   have hg:=DL hlt';have hfin:DN s[i]=false->K objs (.tup [.s [],.i .i64 1]):=fun h=>by
    rw[LO hlt' h] at hid;simp only[Aa,simprocAttr] at hid;rw[hid] at hk;exact hk
   have hnext:DN s[i]=true->∀j (h:j<s.length),j<i+1->DN s[j]=true:=by
    intro h j hj hji;rcases Nat.lt_or_ge j i with h1|h1
    ·exact hall j hj h1
    ·have:j=i:=by omega
     subst this;exact h
   clear hk hid;generalize s[i]=c at *;have hib:=XG c
   by_cases h37:c=37
   ·have e37:((c.toNat:Nat):Int)=37:=by rw[h37];rfl
    have hb:DN c=true:=by rw[hib,h37];rfl
    simp only[Aa,simprocAttr,za,hlen,t0,t5,t6,hlt,hg,e37];exact⟨by omega,⟨by omega,by omega⟩,s.length - (i+1),by omega,i+1,by omega,rfl,hnext hb,rfl⟩
   ·have e37:¬((c.toNat:Nat):Int)=37:=fun e=>h37 (UInt8.toNat_inj.1 (by have:(37:UInt8).toNat=37:=rfl;omega));have hne:(c==37)=false:=by simpa using h37
    simp only[Aa,simprocAttr,za,hlen,t0,t5,t6,hlt,hg,e37];refine⟨by omega,by omega,?_⟩;refine Ae (dF c ?_);rw[hne,Bool.false_or] at hib;rw[<-hib]
    by_cases hb:DN c=true
    ·simp only[hb,Aa,simprocAttr,za,hlen,t0,t5,t6];exact⟨⟨by omega,by omega⟩,s.length - (i+1),by omega,i+1,by omega,rfl,hnext hb,rfl⟩
    ·simp only[Bool.not_eq_true] at hb;simp only[hb,Aa,simprocAttr,za,hlen,t0,t5,t6];exact hfin hb
  ·have hie:i=s.length:=by omega
   subst hie;have ha:s.all DN=true:=Ls fun j h=>hall j h h;simp only[ha,Aa,simprocAttr] at hid;simp only[Aa,simprocAttr,za,hlen,t0,t5,t6,hlt]
   by_cases hs0:s=[]
   ·have ho:s=[]\/s.getLast? = some 58:=.inl hs0;rw[if_pos ho] at hid;rw[hid] at hk;simp only[Aa,simprocAttr,za,hlen,t0,t5,t6,hs0];exact hk
   ·have hpos:0<s.length:=by
     rcases Nat.eq_zero_or_pos s.length with h|h
     ·exact absurd (qz h) hs0
     ·exact h
    have hgl:s.getLast? = some s[s.length - 1]:=by rw[List.getLast?_eq_getElem?,zk (by omega)]
    have hg2:s.getD ((s.length:Int) - 1).toNat 0=s[s.length - 1]:=by
     rw[show ((s.length:Int) - 1).toNat=s.length - 1 by omega];exact DL (by omega)
    by_cases h58:s[s.length - 1]=58
    ·have ho:s=[]\/s.getLast? = some 58:=.inr (by rw[hgl,h58]);have e58:((s[s.length - 1].toNat:Nat):Int)=58:=by rw[h58];rfl
     rw[if_pos ho] at hid;rw[hid] at hk;simp only[Aa,simprocAttr,za,hlen,t0,t5,t6,hs0];refine⟨⟨by omega,by omega⟩,⟨by omega,by omega⟩,?_⟩;rw[hg2];simp only[Aa,simprocAttr,za,hlen,t0,t5,t6,e58];exact hk
    ·have ho:¬(s=[]\/s.getLast? = some 58):=by
      rw[hgl];rintro(h|h)
      ·exact hs0 h
      ·injection h with h;exact h58 h
     have e58:¬((s[s.length - 1].toNat:Nat):Int)=58:=fun e=>h58 (UInt8.toNat_inj.1 (by have:(58:UInt8).toNat=58:=rfl;omega));rw[if_neg ho] at hid;simp only[Aa,simprocAttr,za,hlen,t0,t5,t6,hs0];refine⟨⟨by omega,by omega⟩,⟨by omega,by omega⟩,?_⟩;rw[hg2];simp only[Aa,simprocAttr,za,hlen,t0,t5,t6,e58];refine Ae (IR s C2 ?_)
     by_cases h3:(Am s C2).1=0
     ·have nl:=Gk s C2;simp only[h3,Aa,simprocAttr] at hid;simp only[h3,Aa,simprocAttr,za,hlen];refine Ae (jG _ _ 126 (by omega) (by decide) (by decide) ?_);rw[hid] at hk;simp only[Aa,simprocAttr,za,hlen];exact hk
     ·simp only[h3,Aa,simprocAttr] at hid;simp only[h3,Aa,simprocAttr,za,hlen];rw[hid] at hk;exact hk
 ·simp only[h1,Aa,simprocAttr] at hid ⊢;rw[hid] at hk;exact hk
theorem UQ [Shp Tryz.prog] (s:List UInt8) (hs:s.length<=maxLen) (hk:K objs (.tup [.agg [.s (Bl s).2.1,.s (Bl s).2.2],.i .i64 (Bl s).1])):Ah Tryz.prog 80 [.s s] objs K:=by
 have hm:maxLen=2 ^ 63 - 1:=rfl;refine AF lH rfl fun C _=>?_;unfold Bl at hk
 by_cases c0:(4096:Int)<↑s.length
 ·have c0':4096<s.length:=by omega
  simp only[c0',if_true] at hk;simp only[c0,Qf,Aa,simprocAttr];exact hk
 ·have c0':¬4096<s.length:=by omega
  simp only[c0',if_false] at hk;simp only[c0,Qf,Aa,simprocAttr];refine Ae (Vu s CV ?_)
  by_cases c1:zj s CV=true
  ·have ct:=EG 58 (s.drop 4);have hdl:(s.drop 4).length<=s.length:=by rw[zr];omega
   rw[aV c1];simp only[c1,Aa,simprocAttr] at hk ⊢;generalize s.drop 4=r at *;refine Ae (Ly r 58 (by omega) ?_)
   by_cases c2:(Af 58 r).2.2=true
   ·simp only[c2,Aa,simprocAttr] at hk ⊢;refine Ae (dG _ (by omega) ?_)
    by_cases c3:Fv (Af 58 r).1=true
    ·simp only[c3,Aa,simprocAttr] at hk ⊢;refine Ae (iP _ (by omega) ?_)
     by_cases c4:(DY (Af 58 r).2.1).1=0
     ·simp only[c4,Aa,simprocAttr] at hk ⊢;exact hk
     ·simp only[c4,Aa,simprocAttr] at hk ⊢;exact hk
    ·simp only[c3,Aa,simprocAttr] at hk ⊢;exact hk
   ·simp only[c2,Aa,simprocAttr] at hk ⊢;exact hk
  ·simp only[c1,Aa,simprocAttr] at hk ⊢;exact hk
def A7 (u:DidU):AV:=.agg [.s u.meth,.s u.id,.s u.path,.s u.query,.s u.frag,.b u.hq,.b u.hf]
set_option maxHeartbeats 4000000 in
theorem Ov [Shp Tryz.prog] (s:List UInt8) (hs:s.length<=maxLen) (hk:K objs (.tup [A7 (Ea s).2,.i .i64 (Ea s).1])):Ah Tryz.prog 170 [.s s] objs K:=by
 have hm:maxLen=2 ^ 63 - 1:=rfl;refine AF kF rfl fun C _=>?_;unfold Ea at hk
 by_cases c0:(4096:Int)<↑s.length
 ·have c0':4096<s.length:=by omega
  simp only[c0',if_true,A7,CI] at hk;simp only[c0,PJ,Aa,simprocAttr];exact hk
 ·have c0':¬4096<s.length:=by omega
  simp only[c0',if_false] at hk;simp only[c0,PJ,Aa,simprocAttr];refine Ae (Ly s 35 (by omega) ?_);simp only[Aa,simprocAttr];have l1:=EG 35 s;refine Ae (Ly _ 63 (by omega) ?_);have l2:=EG 63 (Af 35 s).1;simp only[Aa,simprocAttr];refine Ae (Ly _ 47 (by omega) ?_);have l3:=EG 47 (Af 63 (Af 35 s).1).1;simp only[Aa,simprocAttr];have en:(Af 47 (Af 63 (Af 35 s).1).1).1=AD s:=rfl;have eb:(Af 63 (Af 35 s).1).1=Bg s:=rfl;rw[en,eb] at l3;rw[eb] at l2;rw[en,eb];generalize AD s=nm at *;generalize Bg s=bd at *;generalize (Af 63 (Af 35 s).1).2.1=qu at *;generalize (Af 63 (Af 35 s).1).2.2=bq at *;generalize (Af 35 s).2.1=fr at *;generalize (Af 35 s).2.2=bf at *;refine Ae (UQ nm (by omega) ?_)
  by_cases c1:(Bl nm).1=0
  ·simp only[c1,Aa,simprocAttr] at hk ⊢;refine⟨⟨by omega,by omega⟩,?_⟩;refine Ae (IR _ Bh ?_)
   by_cases c2:(Am (bd.drop nm.length) Bh).1=0
   ·simp only[c2,Aa,simprocAttr] at hk ⊢;refine Ae (IR _ AJ ?_)
    by_cases c3:(Am qu AJ).1=0
    ·simp only[c3,Aa,simprocAttr] at hk ⊢;refine Ae (IR _ AJ ?_)
     by_cases c4:(Am fr AJ).1=0
     ·simp only[c4,A7,Aa,simprocAttr] at hk ⊢;exact hk
     ·simp only[c4,A7,CI,Aa,simprocAttr] at hk ⊢;exact hk
    ·simp only[c3,A7,CI,Aa,simprocAttr] at hk ⊢;exact hk
   ·simp only[c2,A7,CI,Aa,simprocAttr] at hk ⊢;exact hk
  ·simp only[c1,A7,CI,Aa,simprocAttr] at hk ⊢;exact hk
theorem KY (m i:List UInt8) (h1:m.length<=200000000000000) (h2:i.length<=200000000000000) (hk:K objs (.s (AU m i))):Ah Tryz.prog 15 [.agg [.s m,.s i]] objs K:=by
 refine AF nD rfl fun C _=>?_;simp only[Wa,Aa,simprocAttr];exact⟨by omega,by omega,by omega,by simpa[AU,CV] using hk⟩
theorem I7 (m i:List UInt8) (h1:m.length<=200000000000000) (h2:i.length<=200000000000000) (hk:K objs (.s (AU m i))):Ah Tryz.prog 22 [.agg [.s m,.s i]] objs K:=by
 refine AF nS rfl fun C _=>?_;simp only[Wn,Aa,simprocAttr];exact⟨by omega,by omega,by omega,by simpa[AU,CV] using hk⟩
theorem dE (u:DidU) (h1:u.meth.length<=200000000000000) (h2:u.id.length<=200000000000000) (h3:u.path.length<=200000000000000) (h4:u.query.length<=200000000000000) (h5:u.frag.length<=200000000000000) (hk:K objs (.s (Du u))):Ah Tryz.prog 129 [A7 u] objs K:=by
 refine AF kP rfl fun C _=>?_;have hl:=Hh u.meth u.id;unfold Du at hk;simp only[A7,Vf,Aa,simprocAttr];refine Dl (KY u.meth u.id h1 h2 ⟨rfl,rfl⟩) ?_;simp only[Aa,simprocAttr];refine⟨by omega,?_⟩
 by_cases c1:u.hq=true
 all_goals by_cases c2:u.hf=true
 all_goals simp only[c1,c2,if_true,if_false,Bool.false_eq_true,qm] at hk
 all_goals simp only[c1,c2,Aa,simprocAttr]
 ·exact⟨by omega,by omega,by omega,by omega,by simpa using hk⟩
 ·exact⟨by omega,by omega,by simpa using hk⟩
 ·exact⟨by omega,by omega,by simpa using hk⟩
 ·exact hk
theorem iA (u:DidU) (h1:u.meth.length<=200000000000000) (h2:u.id.length<=200000000000000) (h3:u.path.length<=200000000000000) (h4:u.query.length<=200000000000000) (h5:u.frag.length<=200000000000000) (hk:K objs (.s (Du u))):Ah Tryz.prog 150 [A7 u] objs K:=by
 refine AF mP rfl fun C _=>?_;have hl:=Hh u.meth u.id;unfold Du at hk;simp only[A7,VR,Aa,simprocAttr];refine Dl (I7 u.meth u.id h1 h2 ⟨rfl,rfl⟩) ?_;simp only[Aa,simprocAttr];refine⟨by omega,?_⟩
 by_cases c1:u.hq=true
 all_goals by_cases c2:u.hf=true
 all_goals simp only[c1,c2,if_true,if_false,Bool.false_eq_true,qm] at hk
 all_goals simp only[c1,c2,Aa,simprocAttr]
 ·exact⟨by omega,by omega,by omega,by omega,by simpa using hk⟩
 ·exact⟨by omega,by omega,by simpa using hk⟩
 ·exact⟨by omega,by omega,by simpa using hk⟩
 ·exact hk
theorem iQ [Shp Tryz.prog] (m i r:List UInt8) (h1:m.length<=200000000) (h2:i.length<=200000000) (hr:r.length<=200000000) (hk:K objs (.tup [A7 (B1 m i r).2,.i .i64 (B1 m i r).1])):Ah Tryz.prog 128 [.agg [.s m,.s i],.s r] objs K:=by
 have hm:maxLen=2 ^ 63 - 1:=rfl;have hl:=Hh m i;refine AF lI rfl fun C _=>?_;unfold B1 at hk;simp only[Vn,Aa,simprocAttr];refine Ae (lE r CV ?_)
 by_cases c1:zj r CV=true
 ·simp only[c1,Aa,simprocAttr] at hk ⊢;refine Ae (Ov r (by omega) ?_);simp only[A7,Aa,simprocAttr] at hk ⊢;exact hk
 ·cases r with
  | nil=>
   simp only[c1,Aa,simprocAttr] at hk ⊢;refine Ae (KY m i (by omega) (by omega) ?_);simp only[Aa,simprocAttr];refine⟨by omega,?_⟩;refine Ae (Ov _ (by omega) ?_);simp only[A7,Aa,simprocAttr,true_or] at hk ⊢;exact hk
  | cons c t=>
   simp only[c1,Aa,simprocAttr,List.head?_cons,Option.some.injEq,false_or] at hk;simp only[c1,Aa,simprocAttr,List.getD_cons_zero];refine⟨by omega,?_⟩;refine Ae (Qe _ c ?_);have hix:=R9 [47,63,35] c
   by_cases c2:AI c [47,63,35]=true
   ·rw[c2] at hix;have h0:=of_decide_eq_true hix;simp only[c2,Aa,simprocAttr] at hk;simp only[h0,Aa,simprocAttr];refine Ae (KY m i (by omega) (by omega) ?_);simp only[Aa,simprocAttr];simp only[zp] at hr;refine⟨by omega,?_⟩;refine Ae (Ov _ (by simp only[zg,zp];omega) ?_);simp only[A7,Aa,simprocAttr] at hk ⊢;exact hk
   ·simp only[Bool.not_eq_true] at c2;rw[c2] at hix;have h0:=of_decide_eq_false hix;simp only[c2,Aa,simprocAttr] at hk;simp only[h0,Aa,simprocAttr];simp only[A7,CI,Aa,simprocAttr] at hk;exact hk
end
section
attribute [local irreducible] run
theorem IP:Iq Tryz.prog 77:=⟨_,Tryz.func77,by kernel_rfl,of_decide_eq_true (by kernel_rfl)⟩
theorem Sr (v:JV) (key:List UInt8) (n:Nat) (h:(An v key).1.text.length<=n):(B5 v key).1.length<=n:=by
 unfold B5;split
 ·exact h
 ·exact zd _
section
variable [Tabs Tryz.prog] {objs:List OB} {K:List OB->AV->Prop}
theorem NL (v:JV) (hk:K (objs++[.box 30 (AP v)]) (.fn 77 [] [.p objs.length 0])):Ah Tryz.prog 33 [.agg (AP v)] objs K:=by
 refine DI nO fun C _=>?_;rw[Wi];rw[AZ v] at hk ⊢;simp only[Aa,simprocAttr];exact hk
theorem Iy (v:JV) (key:List UInt8) (b:Nat) (hb:objs[b]? = some (.box 30 (AP v))) (hv:AY v) (hj:Bo v) (hk:∀z,K (objs++[z]) (CT (An v key))):Ah Tryz.prog 77 [.s key,.p b 0] objs K:=by
 refine DI oH fun C _=>?_;rw[Ws];have ejv:=AZ v;have hbl:=(zf.1 hb).1;refine Ac fun Z hZ=>?_;simp only[Aa,simprocAttr];have eb:(objs++[OB.box 30 [.i .i64 0,.s [],.nil,.nil]])[b]? = some (.box 30 (AP v)):=by rw[qh hbl];exact hb
 have eX:(objs++[OB.box 30 [.i .i64 0,.s [],.nil,.nil]])[objs.length]? = some (.box 30 [.i .i64 0,.s [],.nil,.nil]):=AG _ _;have eS:∀Y,(objs++[OB.box 30 [.i .i64 0,.s [],.nil,.nil]]).set objs.length Y=objs++[Y]:=fun Y=>BB _ _ _;have eG:∀Y:OB,(objs++[Y])[objs.length]? = some Y:=fun Y=>AG _ _;rw[ejv] at eb;generalize objs++[OB.box 30 [.i .i64 0,.s [],.nil,.nil]]=o1 at eb eX eS ⊢;generalize objs.length=q at eX eS eG ⊢;subst hZ;refine Ac fun Z hZ=>?_;simp only[Aa,simprocAttr,eb];rw[<-ejv];refine Ae (ZQ v key hv hj ?_);unfold CT at hk ⊢;generalize An v key=R at hk ⊢;obtain⟨x,ok⟩:=R;dsimp only at hk ⊢;rw[AZ x] at hk ⊢;simp only[Aa,simprocAttr,eX,eS];subst hZ;simp only[Aa,simprocAttr,eG];exact hk _
theorem M9 (v:JV) (key:List UInt8) (hv:AY v) (hj:Bo v) (hk:K objs (.tup [.s (B5 v key).1,.b (B5 v key).2])):Ah Tryz.prog 79 [.agg (AP v),.s key] objs K:=by
 refine AF nW (by simp only[AE,AV.plain,Dw,Bool.and_self]) fun C _=>?_;rw[WC];have ejv:=AZ v;rw[ejv];refine Ac fun Z hZ=>?_;simp only[Aa,simprocAttr];subst hZ;refine Ac fun Z hZ=>?_;simp only[Aa,simprocAttr];rw[<-ejv];refine Ae (NL v ?_);simp only[Aa,simprocAttr];refine Fq IP (Iy v key 1 rfl hv hj fun z=>?_);unfold B5 at hk;unfold CT;generalize An v key=R at hk ⊢;obtain⟨x,ok⟩:=R;dsimp only at hk ⊢;rw[AZ x];simp only[Aa,simprocAttr];subst hZ;refine Ac fun Z hZ=>?_
 cases ok with
 | false=>
  rw[if_neg (show ¬(false=true/\x.kind=5) from fun e=>by cases e.1)] at hk;simp only[Aa,simprocAttr];exact hk
 | true=>
  by_cases c:x.kind=5
  ·rw[if_pos ⟨rfl,c⟩] at hk;simp only[Aa,simprocAttr,c];subst hZ;simp only[Aa,simprocAttr];exact hk
  ·rw[if_neg (fun e=>c e.2)] at hk;simp only[Aa,simprocAttr,c];exact hk
theorem Xf [Shp Tryz.prog] (m i:List UInt8) (v:JV) (hv:AY v) (hj:Bo v) (h1:m.length<=100000) (h2:i.length<=100000) (ht:(An v AK).1.text.length<=100000000) (hl:∀r:List UInt8,r.length<=100000000->(B1 m i r).1=0->(B1 m i r).2.meth.length<=200000000000000/\(B1 m i r).2.id.length<=200000000000000/\(B1 m i r).2.path.length<=200000000000000/\(B1 m i r).2.query.length<=200000000000000/\(B1 m i r).2.frag.length<=200000000000000)
  (hk:K objs (.tup [.s (B7 m i v).2,.i .i64 (B7 m i v).1])):Ah Tryz.prog 82 [.agg (AP v),.agg [.s m,.s i]] objs K:=by
 refine AF nR (by simp only[AE,AV.plain,Dw,Bool.and_self]) fun C _=>?_;rw[Wm];have ejv:=AZ v;have htl:=Sr v AK _ ht;rw[ejv];refine Ac fun Z hZ=>?_;simp only[Aa,simprocAttr];subst hZ;refine Ac fun Z hZ=>?_;simp only[Aa,simprocAttr];rw[<-ejv];refine Ae (M9 v AK hv hj ?_);unfold B7 at hk;generalize B5 v AK=R at hk htl ⊢;obtain⟨x,ok⟩:=R;dsimp only at hk htl ⊢;rw[ejv];simp only[Aa,simprocAttr];subst hZ;refine Ac fun Z hZ=>?_
 cases ok with
 | false=>
  rw[if_pos rfl] at hk;simp only[Aa,simprocAttr];exact hk
 | true=>
  rw[if_neg (by decide)] at hk;simp only[Aa,simprocAttr];subst hZ;refine Ac fun Z hZ=>?_;simp only[Aa,simprocAttr];refine Ae (iQ m i x (by omega) (by omega) (by omega) ?_);have hl:=hl x htl;generalize B1 m i x=R at hk hl ⊢;obtain⟨e,u⟩:=R;dsimp only at hk hl ⊢;unfold A7;simp only[Aa,simprocAttr];subst hZ;refine Ac fun Z hZ=>?_
  by_cases c:e=0
  ·subst c;rw[if_neg (by decide)] at hk;obtain⟨q1,q2,q3,q4,q5⟩:=hl rfl;simp only[Aa,simprocAttr];subst hZ;refine Ac fun Z hZ=>?_;simp only[Aa,simprocAttr];refine Ae (dE u q1 q2 q3 q4 q5 ?_);simp only[Aa,simprocAttr];subst hZ;simp only[Aa,simprocAttr];exact hk
  ·rw[if_pos c] at hk;simp only[Aa,simprocAttr,c];exact hk
end
end
section
attribute [local irreducible] run
theorem JN {G:Gh} {I:Al} {a a' b:AV} {y:Value} (h:∀z,Ab G I a z->Ab G I a' z) (hd:Ab G I (.tup [a,b]) y):Ab G I (.tup [a',b]) y:=by
 simp only[Ab,Ad] at hd ⊢;obtain⟨ys,rfl,y1,ys1,rfl,h1,h2⟩:=hd;exact⟨_,rfl,y1,ys1,rfl,h _ h1,h2⟩
def E3 (R:Int×List (List UInt8)):AV:=.tup [.row R.2.length (R.2.map .s),.i .i64 R.1]
section
variable [Tabs Tryz.prog] {objs:List OB} {K:List OB->AV->Prop}
theorem Sq (l:List JV) (hk:K objs (E3 (Dy l))):Ah Tryz.prog 81 [.row l.length (Ak l)] objs K:=by
 refine Gf (E3 (Dy l)) ?_;have knil:∀e:Int,Dy l=(e,[])->(∀G I y,Ab G I (.tup [.nil,.i .i64 e]) y->Ab G I (E3 (Dy l)) y)/\K objs (E3 (Dy l)):=fun e he=>⟨fun G I y h=>by rw[he];exact JN (fun z hz=>Cs hz) h,hk⟩;refine AF mJ (by simp only[AE,AV.plain,I0,Bool.and_self]) fun C _=>?_;rw[VN];have hl4:=Fy l;refine Ac fun Z hZ=>?_;simp only[Aa,simprocAttr];subst hZ;refine Ac fun Z hZ=>?_
 by_cases hl:(64:Int)<(l.length:Int)
 ·have:=knil 161 (by unfold Dy;rw[if_pos (by omega)]);simp only[Aa,simprocAttr,hl,decide_true];exact this
 simp only[Aa,simprocAttr,hl,decide_false];subst hZ;refine Ac fun Z hZ=>?_;simp only[Aa,simprocAttr];subst hZ;refine Ac fun Z hZ=>?_;refine Ac fun W hW=>?_;simp only[Aa,simprocAttr];subst hW;rw[DJ];refine B4 (fun n o tm=>∃i:Nat,i<=l.length/\n=l.length - i/\FF 0 ((l.take i).map JV.text) o (tm[4]?.getD .u)/\(∀y∈l.take i,y.kind=5)/\tm.length=26/\tm[10]? = some (.row l.length (Ak l))/\tm[11]? = some (.i .i64 (l.length:Int))/\tm[12]? = some (.i .i64 (i:Int))) l.length ⟨0,zd _,rfl,.inl ⟨rfl,rfl⟩,(by simp),rfl,rfl,rfl,rfl⟩ ?_;rintro n o tm ⟨i,hi,rfl,hA,hall,hlen,t10,t11,t12⟩;obtain⟨a4,t4⟩:∃a,tm[4]? = some a:=⟨_,zk (by omega)⟩;rw[t4,qx] at hA;refine Ac fun W hW=>?_
 by_cases hlt:(i:Int)<(l.length:Int)
 ·have hi':i<l.length:=by omega
  have kv:=FK hi';have htk:l.take (i+1)=l.take i++[l[i]]:=by rw[List.take_add_one,zk hi'];rfl
  have hfl:((l.take i).map JV.text).length=i:=by rw[qk,zq];omega
  have hmem:l[i]∈l:=jg hi';generalize l[i]=y at kv htk hmem;rw[AZ y] at kv;simp only[Aa,simprocAttr,za,hlen,t11,t12,hlt];subst hW;refine Ac fun W hW=>?_;simp only[Aa,simprocAttr,za,hlen];subst hW;refine Ac fun V hV=>?_;rw[DJ];refine Ac fun W hW=>?_;simp only[Aa,simprocAttr,za,hlen,t10,t12,kv];refine⟨⟨by omega,by omega,by omega⟩,by omega,?_⟩;simp only[Aa,simprocAttr,za,hlen,AG,BB];subst hW;have hA2:=hA.mono (.box 30 [.i .i64 y.kind,.s y.text,.row y.keys.length (y.keys.map .s),.row y.items.length (Ak y.items)]);have eB:(o++[OB.box 30 [.i .i64 y.kind,.s y.text,.row y.keys.length (y.keys.map .s),.row y.items.length (Ak y.items)]])[o.length]? = some (.box 30 [.i .i64 y.kind,.s y.text,.row y.keys.length (y.keys.map .s),.row y.items.length (Ak y.items)]):=AG _ _;generalize hpp:o.length=p at eB ⊢;generalize o++[OB.box 30 [.i .i64 y.kind,.s y.text,.row y.keys.length (y.keys.map .s),.row y.items.length (Ak y.items)]]=o1 at hA2 eB ⊢;refine Ac fun W hW=>?_
  by_cases c:y.kind=5
  ·simp only[Aa,simprocAttr,za,hlen,eB,c];subst hW;have hall2:∀z∈l.take (i+1),z.kind=5:=by
    intro z hz;rw[htk] at hz;rcases qc.1 hz with h|h
    ·exact hall z h
    ·rw[xy] at h;subst h;exact c
   generalize hacc:(l.take i).map JV.text=acc at hA2 hfl;rcases hA2 with ⟨rfl,rfl⟩|⟨r,g,rfl,hr0,hr⟩
   ·simp only[Aa,simprocAttr,za,hlen,t4,eB];subst hV;simp only[Aa,simprocAttr,za,hlen,t10,t11,t12];refine⟨by omega,l.length - (i+1),by omega,i+1,by omega,rfl,?_,hall2,rfl⟩;rw[htk,ji,hacc];exact .inr ⟨o1.length,0,rfl,zd _,by rw[AG];rfl⟩
   ·have hrl:=(zf.1 hr).1;simp only[Aa,simprocAttr,za,hlen,t4,eB,hr];refine⟨⟨by omega,by omega⟩,?_⟩;subst hV;simp only[Aa,simprocAttr,za,hlen,t10,t11,t12];refine⟨by omega,l.length - (i+1),by omega,i+1,by omega,rfl,?_,hall2,rfl⟩;rw[htk,ji,hacc];exact .inr ⟨r,g+1,rfl,hr0,by rw[zm hrl,zg,ji];rfl⟩
  ·have:=knil 160 (by
    unfold Dy;rw[if_neg (by omega),if_neg];intro ha;rw[zw] at ha;exact c (by simpa using ha y hmem))
   simp only[Aa,simprocAttr,za,hlen,eB,c];exact this
 have hn:i=l.length:=by omega
 rw[hn,jm (ze _)] at hA hall;have e:Dy l=(0,l.map JV.text):=by
  unfold Dy;rw[if_neg (by omega),if_pos (by rw[zw];intro y hy;simpa using hall y hy)]
 simp only[Aa,simprocAttr,za,hlen,t11,t12,hlt];subst hW;simp only[Aa,simprocAttr,za,hlen];subst hZ;rcases hA with ⟨h0,rfl⟩|⟨r,g,rfl,hr0,hr⟩
 ·have:=knil 0 (by rw[e,h0]);simp only[Aa,simprocAttr,za,hlen,t4];exact this
 ·simp only[Aa,simprocAttr,za,hlen,t4,hr,H6 (Dx _),jt];rw[e] at hk ⊢;exact⟨fun G I y hy=>hy,hk⟩
theorem Ta (v:JV) (hk:K objs (E3 (DX v))):Ah Tryz.prog 35 [.agg (AP v)] objs K:=by
 refine Gf (E3 (DX v)) ?_;refine AF nF (by simp only[AE,AV.plain,Dw,Bool.and_self]) fun C _=>?_;rw[Wc];unfold DX at hk ⊢;rw[AZ v];refine Ac fun Z hZ=>?_;simp only[Aa,simprocAttr];subst hZ;refine Ac fun Z hZ=>?_
 by_cases c:v.kind=6
 ·rw[if_pos c] at hk ⊢;simp only[Aa,simprocAttr,c];subst hZ;refine Ac fun Z hZ=>?_;simp only[Aa,simprocAttr];refine Ae (Sq v.items ?_);unfold E3 at hk ⊢;simp only[Aa,simprocAttr];subst hZ;simp only[Aa,simprocAttr,Dx];exact⟨fun G I y hy=>hy,hk⟩
 ·rw[if_neg c] at hk ⊢;simp only[Aa,simprocAttr,c];exact⟨fun G I y hy=>JN (fun z hz=>Cs hz) hy,hk⟩
theorem QC (v:JV) (hk:K objs (E3 (BQ v))):Ah Tryz.prog 36 [.agg (AP v)] objs K:=by
 refine AF oI (by simp only[AE,AV.plain,Dw,Bool.and_self]) fun C _=>?_;rw[Wt];unfold BQ at hk;have ejv:=AZ v;rw[ejv];refine Ac fun Z hZ=>?_;simp only[Aa,simprocAttr];subst hZ;refine Ac fun Z hZ=>?_
 by_cases c:v.kind=6
 ·rw[if_pos c] at hk;simp only[Aa,simprocAttr,c];rw[<-c,<-ejv];refine Ae (Ta v ?_);unfold DX;rw[if_pos c];unfold E3 at hk ⊢;simp only[Aa,simprocAttr,Dx];exact hk
 ·rw[if_neg c] at hk;simp only[Aa,simprocAttr,c];subst hZ;refine Ac fun Z hZ=>?_;simp only[Aa,simprocAttr];have e1:Ak [v]=[.i .i64 v.kind,.s v.text,.row v.keys.length (v.keys.map .s),.row v.items.length (Ak v.items)]:=by rw[FX,EH,ejv];rfl
  rw[<-e1];refine Ae (Sq [v] ?_);unfold E3 at hk ⊢;simp only[Aa,simprocAttr];subst hZ;simp only[Aa,simprocAttr,Dx];exact hk
end
end
section
attribute [local irreducible] run
def K2 (m i:List UInt8):Prop:=∀r:List UInt8,r.length<=100000000->(B1 m i r).1=0->(B1 m i r).2.meth.length<=200000000000000/\(B1 m i r).2.id.length<=200000000000000/\(B1 m i r).2.path.length<=200000000000000/\(B1 m i r).2.query.length<=200000000000000/\(B1 m i r).2.frag.length<=200000000000000
def GY (x:MtP):List AV:=[.s x.id,.s x.typ,.s x.ctl]
def Cg (x:SvP):List AV:=[.s x.id,.row x.typ.length (x.typ.map .s),.row x.eps.length (x.eps.map .s)]
def D2 (l:List MtP):List AV:=l.flatMap GY
def De (l:List SvP):List AV:=l.flatMap Cg
theorem Th (l:List MtP):(D2 l).length=l.length*3:=by
 unfold D2
 induction l with
 | nil=>rfl
 | cons a l ih=>rw[y7,zg,ih,zp];show 3+_=_;omega
theorem Me (l:List SvP):(De l).length=l.length*3:=by
 unfold De
 induction l with
 | nil=>rfl
 | cons a l ih=>rw[y7,zg,ih,zp];show 3+_=_;omega
theorem Ok (a b:List MtP):D2 (a++b)=D2 a++D2 b:=by unfold D2;rw[List.flatMap_append]
theorem OG (a b:List SvP):De (a++b)=De a++De b:=by unfold De;rw[List.flatMap_append]
theorem IQ (l:List MtP):AE (D2 l)=true:=by
 unfold D2
 induction l with
 | nil=>rfl
 | cons a l ih=>rw[y7,PU,ih];rfl
theorem IJ (l:List SvP):AE (De l)=true:=by
 unfold De
 induction l with
 | nil=>rfl
 | cons a l ih=>
  rw[y7,PU,ih];unfold Cg;simp only[AE,AV.plain,Dx,Bool.and_self]
theorem Ny {G:Gh} {I:Al} {a a' b b' c:AV} {t:List UInt8} {y:Value} (h1:∀z,Ab G I a z->Ab G I a' z) (h2:∀z,Ab G I b z->Ab G I b' z) (hd:Ab G I (.tup [.agg [.s t,a,b],c]) y):Ab G I (.tup [.agg [.s t,a',b'],c]) y:=by
 refine JN (fun z hz=>?_) hd;simp only[Ad,Ab] at hz ⊢;obtain⟨zs,rfl,⟨z0,m0,rfl,q0,z1,m1,rfl,q1,z2,m2,rfl,q2,q3⟩,hz⟩:=hz;exact⟨_,rfl,⟨_,_,rfl,q0,_,_,rfl,h1 _ q1,_,_,rfl,h2 _ q2,q3⟩,hz⟩
def MU (l:List MtP) (o:List OB) (X:AV):Prop:=(l=[]/\X=.nil)\/∃r g,X=.orow r g/\o[r]? = some (.orow 93 3 g l.length (D2 l))
def MV (l:List SvP) (o:List OB) (X:AV):Prop:=(l=[]/\X=.nil)\/∃r g,X=.orow r g/\o[r]? = some (.orow 57 3 g l.length (De l))
theorem MU.mono {l:List MtP} {o:List OB} {X:AV} (h:MU l o X) (z:OB):MU l (o++[z]) X:=by
 rcases h with h|⟨r,g,h1,h2⟩
 ·exact .inl h
 ·exact .inr ⟨r,g,h1,by rw[qh (zf.1 h2).1];exact h2⟩
theorem MV.mono {l:List SvP} {o:List OB} {X:AV} (h:MV l o X) (z:OB):MV l (o++[z]) X:=by
 rcases h with h|⟨r,g,h1,h2⟩
 ·exact .inl h
 ·exact .inr ⟨r,g,h1,by rw[qh (zf.1 h2).1];exact h2⟩
theorem T7 {α:Type} (f:JV->Int×α) {l:List JV} {i:Nat} (hi:i<l.length) (h:∀y∈l.take i,(f y).1=0) (h2:(f l[i]).1≠0):C0 f l=((f l[i]).1,[]):=by
 induction l generalizing i with
 | nil=>simp at hi
 | cons a l ih=>
  cases i with
  | zero=>rw[C0];exact if_pos h2
  | succ i=>
   have ih2:=ih (i:=i) (by simpa using hi) (fun y hy=>h y (by rw[List.take_succ_cons];exact qp _ hy)) h2;have h0:=h a (by simp);rw[C0,if_neg (fun e=>e h0),ih2];exact if_pos h2
theorem Tq {α:Type} (f:JV->Int×α) {l:List JV} (h:∀y∈l,(f y).1=0):C0 f l=(0,l.map fun y=>(f y).2):=by
 induction l with
 | nil=>rfl
 | cons a l ih=>
  have h0:=h a (by simp);rw[C0,if_neg (fun e=>e h0),ih fun y hy=>h y (qp _ hy)]
  rfl
theorem X8:Iq Tryz.prog 38:=⟨_,Tryz.func38,by kernel_rfl,of_decide_eq_true (by kernel_rfl)⟩
theorem Ya:Iq Tryz.prog 40:=⟨_,Tryz.func40,by kernel_rfl,of_decide_eq_true (by kernel_rfl)⟩
section
variable [Tabs Tryz.prog] {objs:List OB} {K:List OB->AV->Prop}
theorem oY [Shp Tryz.prog] (m i:List UInt8) (v:JV) (hv:AY v) (hj:Bo v) (h1:m.length<=100000) (h2:i.length<=100000) (ht:(An v AK).1.text.length<=100000000) (hl:K2 m i)
  (hk:K objs (.tup [.agg (GY (Bv m i v).2),.i .i64 (Bv m i v).1])):Ah Tryz.prog 38 [.agg (AP v),.agg [.s m,.s i]] objs K:=by
 refine AF oC (by simp only[AE,AV.plain,Dw,Bool.and_self]) fun C _=>?_;rw[Ww];have ejv:=AZ v;rw[ejv];refine Ac fun Z hZ=>?_;simp only[Aa,simprocAttr];subst hZ;refine Ac fun Z hZ=>?_;simp only[Aa,simprocAttr];rw[<-ejv];refine Ae (Xf m i v hv hj h1 h2 ht hl ?_);unfold Bv at hk;generalize B7 m i v=R at hk ⊢;obtain⟨e,x⟩:=R;dsimp only at hk ⊢;rw[ejv];simp only[Aa,simprocAttr];subst hZ;refine Ac fun Z hZ=>?_
 by_cases c:e=0
 rotate_left
 ·rw[if_pos c] at hk;simp only[Aa,simprocAttr,c];exact hk
 subst c;rw[if_neg (by decide)] at hk;simp only[Aa,simprocAttr];subst hZ;refine Ac fun Z hZ=>?_;simp only[Aa,simprocAttr];rw[<-ejv];refine Ae (M9 v BO hv hj ?_);generalize B5 v BO=T at hk ⊢;obtain⟨t,okt⟩:=T;dsimp only at hk ⊢;rw[ejv];simp only[Aa,simprocAttr];subst hZ;refine Ac fun Z hZ=>?_;simp only[Aa,simprocAttr];rw[<-ejv];refine Ae (M9 v B9 hv hj ?_);generalize B5 v B9=U at hk ⊢;obtain⟨u,oku⟩:=U;dsimp only at hk ⊢;rw[ejv];simp only[Aa,simprocAttr];subst hZ;refine Ac fun Z hZ=>?_
 cases okt with
 | false=>
  rw[if_neg (fun e=>by cases e.1)] at hk;simp only[Aa,simprocAttr];exact hk
 | true=>
  cases oku with
  | false=>
   rw[if_neg (fun e=>by cases e.2)] at hk;simp only[Aa,simprocAttr];exact hk
  | true=>
   rw[if_pos ⟨rfl,rfl⟩] at hk;simp only[Aa,simprocAttr];subst hZ;simp only[Aa,simprocAttr];exact hk
theorem oZ [Shp Tryz.prog] (m i:List UInt8) (v:JV) (hv:AY v) (hj:Bo v) (h1:m.length<=100000) (h2:i.length<=100000) (ht:(An v AK).1.text.length<=100000000) (hl:K2 m i)
  (hk:K objs (.tup [.agg (Cg (Bc m i v).2),.i .i64 (Bc m i v).1])):Ah Tryz.prog 40 [.agg (AP v),.agg [.s m,.s i]] objs K:=by
 refine Gf (.tup [.agg (Cg (Bc m i v).2),.i .i64 (Bc m i v).1]) ?_;have kz:∀e:Int,Bc m i v=(e,I8)->(∀G I y,Ab G I (.tup [.agg [.s [],.nil,.nil],.i .i64 e]) y->Ab G I (.tup [.agg (Cg (Bc m i v).2),.i .i64 (Bc m i v).1]) y)/\K objs (.tup [.agg (Cg (Bc m i v).2),.i .i64 (Bc m i v).1]):=fun e he=>⟨fun G I y h=>by rw[he];exact Ny (fun z hz=>Cs hz) (fun z hz=>Cs hz) h,hk⟩;refine AF oM (by simp only[AE,AV.plain,Dw,Bool.and_self]) fun C _=>?_;rw[WG];have ejv:=AZ v;rw[ejv];refine Ac fun Z hZ=>?_;simp only[Aa,simprocAttr];subst hZ;refine Ac fun Z hZ=>?_;simp only[Aa,simprocAttr];rw[<-ejv];refine Ae (NL v ?_);rw[ejv];simp only[Aa,simprocAttr];subst hZ;refine Ac fun Z hZ=>?_;simp only[Aa,simprocAttr];rw[<-ejv];refine Ae (Xf m i v hv hj h1 h2 ht hl ?_);unfold Bc at kz hk ⊢;generalize B7 m i v=R at kz hk ⊢;obtain⟨e,x⟩:=R;dsimp only at kz hk ⊢;rw[ejv];simp only[Aa,simprocAttr];subst hZ;refine Ac fun Z hZ=>?_
 by_cases c:e=0
 rotate_left
 ·rw[if_pos c] at kz hk ⊢;have:=kz e rfl;simp only[Aa,simprocAttr,c];exact this
 subst c;rw[if_neg (show ¬((0:Int)≠0) by decide)] at kz hk ⊢;simp only[Aa,simprocAttr];subst hZ;refine Ac fun Z hZ=>?_;simp only[Aa,simprocAttr];subst hZ;refine Ac fun Z hZ=>?_;simp only[Aa,simprocAttr];refine Fq IP (Iy v BO 3 (by rw[ejv];rfl) hv hj fun z=>?_);unfold CT;generalize An v BO=T at kz hk ⊢;obtain⟨x1,ok1⟩:=T;dsimp only at kz hk ⊢;have ex1:=AZ x1;rw[ex1];simp only[Aa,simprocAttr];subst hZ;refine Ac fun Z hZ=>?_;simp only[Aa,simprocAttr];rw[<-ex1];refine Ae (QC x1 ?_);generalize BQ x1=O at kz hk ⊢;obtain⟨e1,l1⟩:=O;dsimp only at kz hk ⊢;unfold E3;rw[ex1];simp only[Aa,simprocAttr]
 by_cases c1:e1=0
 rotate_left
 ·rw[if_pos c1] at kz hk ⊢;have:=kz e1 rfl;simp only[Aa,simprocAttr,c1];exact this
 subst c1;rw[if_neg (show ¬((0:Int)≠0) by decide)] at kz hk ⊢;simp only[Aa,simprocAttr];subst hZ;refine Ac fun Z hZ=>?_;simp only[Aa,simprocAttr];refine Fq IP (Iy v Cp 3 (by rw[ejv];rfl) hv hj fun z2=>?_);unfold CT;generalize An v Cp=T at kz hk ⊢;obtain⟨x2,ok2⟩:=T;dsimp only at kz hk ⊢;have ex2:=AZ x2;rw[ex2];simp only[Aa,simprocAttr];subst hZ;refine Ac fun Z hZ=>?_
 by_cases c2:x2.kind=7
 ·rw[if_pos c2] at kz hk ⊢;simp only[Aa,simprocAttr,c2,Dx];exact⟨fun G I y h=>Ny (fun z hz=>hz) (fun z hz=>Cs hz) h,hk⟩
 rw[if_neg c2] at kz hk ⊢;simp only[Aa,simprocAttr,c2];subst hZ;refine Ac fun Z hZ=>?_;simp only[Aa,simprocAttr];rw[<-ex2];refine Ae (QC x2 ?_);generalize BQ x2=O at kz hk ⊢;obtain⟨e2,l2⟩:=O;dsimp only at kz hk ⊢;unfold E3;rw[ex2];simp only[Aa,simprocAttr]
 by_cases c3:e2=0
 rotate_left
 ·rw[if_pos c3] at kz hk ⊢;have:=kz e2 rfl;simp only[Aa,simprocAttr,c3];exact this
 subst c3;rw[if_neg (show ¬((0:Int)≠0) by decide)] at kz hk ⊢;simp only[Aa,simprocAttr];subst hZ;simp only[Aa,simprocAttr,Dx];exact⟨fun G I y h=>h,hk⟩
theorem pH [Shp Tryz.prog] (m i:List UInt8) (v:JV) (hv:∀y∈v.items,AY y/\Bo y/\(An y AK).1.text.length<=100000000) (h1:m.length<=100000) (h2:i.length<=100000) (hl:K2 m i)
  (hk:K objs (.tup [.row (Bf (Bv m i) v).2.length (D2 (Bf (Bv m i) v).2),.i .i64 (Bf (Bv m i) v).1])):Ah Tryz.prog 37 [.agg (AP v),.agg [.s m,.s i],.fn 38 [] []] objs K:=by
 refine Gf (.tup [.row (Bf (Bv m i) v).2.length (D2 (Bf (Bv m i) v).2),.i .i64 (Bf (Bv m i) v).1]) ?_;have knil:∀e:Int,Bf (Bv m i) v=(e,[])->(∀G I y,Ab G I (.tup [.nil,.i .i64 e]) y->Ab G I (.tup [.row (Bf (Bv m i) v).2.length (D2 (Bf (Bv m i) v).2),.i .i64 (Bf (Bv m i) v).1]) y)/\K objs (.tup [.row (Bf (Bv m i) v).2.length (D2 (Bf (Bv m i) v).2),.i .i64 (Bf (Bv m i) v).1]):=fun e he=>⟨fun G I y h=>by rw[he];exact JN (fun z hz=>Cs hz) h,hk⟩;refine AF oQ (by simp only[AE,AV.plain,Dw,Bool.and_self]) fun C _=>?_;rw[WN];unfold Bf at knil hk ⊢;have ejv:=AZ v;have hl4:=Fy v.items;rw[ejv];refine Ac fun Z hZ=>?_;simp only[Aa,simprocAttr];subst hZ;refine Ac fun Z hZ=>?_
 by_cases c6:v.kind=6
 rotate_left
 ·rw[if_neg c6] at knil hk ⊢;have:=knil 160 rfl;simp only[Aa,simprocAttr,c6];exact this
 rw[if_pos c6] at knil hk ⊢;simp only[Aa,simprocAttr,c6];subst hZ;refine Ac fun Z hZ=>?_
 by_cases c64:(64:Int)<(v.items.length:Int)
 ·rw[if_pos (show 64<v.items.length by omega)] at knil hk ⊢;have:=knil 161 rfl;simp only[Aa,simprocAttr,c64,decide_true];exact this
 rw[if_neg (show ¬64<v.items.length by omega)] at knil hk ⊢;simp only[Aa,simprocAttr,c64,decide_false];subst hZ;refine Ac fun Z hZ=>?_;simp only[Aa,simprocAttr];subst hZ;refine Ac fun Z hZ=>?_;refine Ac fun W hW=>?_;simp only[Aa,simprocAttr];subst hW;rw[DJ];generalize v.items=l at hv knil hk hl4 c64 ⊢;refine B4 (fun n o tm=>∃j:Nat,j<=l.length/\n=l.length - j/\MU ((l.take j).map fun y=>(Bv m i y).2) o (tm[8]?.getD .u)/\(∀y∈l.take j,(Bv m i y).1=0)/\o[1]? = some (.box 23 [.s m,.s i])/\tm.length=43/\tm[2]? = some (.fn 38 [] [])/\tm[4]? = some (.p 1 0)/\tm[21]? = some (.row l.length (Ak l))/\tm[22]? = some (.i .i64 (l.length:Int))/\tm[23]? = some (.i .i64 (j:Int))) l.length ⟨0,zd _,rfl,.inl ⟨rfl,rfl⟩,(by simp),rfl,rfl,rfl,rfl,rfl,rfl,rfl⟩ ?_;rintro n o tm ⟨j,hj,rfl,hA,hall,e1,hlen,t2,t4,t21,t22,t23⟩;obtain⟨a8,t8⟩:∃a,tm[8]? = some a:=⟨_,zk (by omega)⟩;rw[t8,qx] at hA;refine Ac fun W hW=>?_
 by_cases hlt:(j:Int)<(l.length:Int)
 ·have hj':j<l.length:=by omega
  have kv:=FK hj';have htk:l.take (j+1)=l.take j++[l[j]]:=by rw[List.take_add_one,zk hj'];rfl
  have hfl:((l.take j).map fun y=>(Bv m i y).2).length=j:=by rw[qk,zq];omega
  obtain⟨y1,y2,y3⟩:=hv l[j] (jg hj');have hbad:(Bv m i l[j]).1≠0->C0 (Bv m i) l=((Bv m i l[j]).1,[]):=fun h=>T7 (Bv m i) hj' hall h;generalize l[j]=y at kv htk y1 y2 y3 hbad;have ey:=AZ y;rw[ey] at kv;simp only[Aa,simprocAttr,za,hlen,t22,t23,hlt];subst hW;refine Ac fun W hW=>?_;simp only[Aa,simprocAttr,za,hlen];subst hW;refine Ac fun V hV=>?_;rw[DJ];refine Ac fun W hW=>?_;simp only[Aa,simprocAttr,za,hlen,t21,t23,kv];refine⟨⟨by omega,by omega,by omega⟩,by omega,?_⟩;simp only[Aa,simprocAttr,za,hlen,AG,BB];subst hW;have hol:1<o.length:=(zf.1 e1).1;have hA2:=hA.mono (.box 30 [.i .i64 y.kind,.s y.text,.row y.keys.length (y.keys.map .s),.row y.items.length (Ak y.items)]);have eB:(o++[OB.box 30 [.i .i64 y.kind,.s y.text,.row y.keys.length (y.keys.map .s),.row y.items.length (Ak y.items)]])[o.length]? = some (.box 30 [.i .i64 y.kind,.s y.text,.row y.keys.length (y.keys.map .s),.row y.items.length (Ak y.items)]):=AG _ _;have e11:(o++[OB.box 30 [.i .i64 y.kind,.s y.text,.row y.keys.length (y.keys.map .s),.row y.items.length (Ak y.items)]])[1]? = some (.box 23 [.s m,.s i]):=by rw[qh hol];exact e1
  generalize hpp:o.length=p at eB ⊢;generalize o++[OB.box 30 [.i .i64 y.kind,.s y.text,.row y.keys.length (y.keys.map .s),.row y.items.length (Ak y.items)]]=o1 at hA2 eB e11 ⊢;refine Ac fun W hW=>?_;simp only[Aa,simprocAttr,za,hlen,t2,t4,eB,e11];rw[<-ey];refine Fq X8 (oY m i y y1 y2 h1 h2 y3 hl ?_);generalize hfd:Bv m i y=R at hbad ⊢;obtain⟨e,x⟩:=R;dsimp only at hbad ⊢;unfold GY;simp only[Aa,simprocAttr,za,hlen,AG,BB];have hol1:1<o1.length:=(zf.1 e11).1;have hA3:=hA2.mono (.box 93 (GY x));have eC:(o1++[OB.box 93 (GY x)])[o1.length]? = some (.box 93 (GY x)):=AG _ _;have e12:(o1++[OB.box 93 (GY x)])[1]? = some (.box 23 [.s m,.s i]):=by rw[qh hol1];exact e11
  unfold GY at hA3 eC e12;generalize o1.length=q at eC ⊢;generalize o1++[OB.box 93 _]=o2 at hA3 eC e12 ⊢;subst hW;refine Ac fun W hW=>?_
  by_cases c:e=0
  ·subst c;simp only[Aa,simprocAttr,za,hlen];subst hW;have hall2:∀z∈l.take (j+1),(Bv m i z).1=0:=by
    intro z hz;rw[htk] at hz;rcases qc.1 hz with h|h
    ·exact hall z h
    ·rw[xy] at h;subst h;rw[hfd]
   have hmp:(l.take (j+1)).map (fun y=>(Bv m i y).2)=(l.take j).map (fun y=>(Bv m i y).2)++[x]:=by rw[htk,ji];simp[hfd]
   generalize hacc:(l.take j).map (fun y=>(Bv m i y).2)=acc at hA3 hfl hmp;rcases hA3 with ⟨rfl,rfl⟩|⟨r,g,rfl,hr⟩
   ·simp only[Aa,simprocAttr,za,hlen,t8,eC];subst hV;simp only[Aa,simprocAttr,za,hlen,t2,t4,t21,t22,t23];refine⟨by omega,l.length - (j+1),by omega,j+1,by omega,rfl,?_,hall2,?_,rfl⟩
    ·rw[hmp];exact .inr ⟨o2.length,0,rfl,by rw[AG];rfl⟩
    ·rw[qh (zf.1 e12).1];exact e12
   ·have hrl:=(zf.1 hr).1;have hr1:r≠1:=fun e=>by rw[e,e12] at hr;injection hr with hr;cases hr
    simp only[Aa,simprocAttr,za,hlen,t8,eC,hr];have hcl:=Th acc;refine⟨⟨by omega,by omega⟩,?_⟩;subst hV;simp only[Aa,simprocAttr,za,hlen,t2,t4,t21,t22,t23];refine⟨by omega,l.length - (j+1),by omega,j+1,by omega,rfl,?_,hall2,?_,rfl⟩
    ·rw[hmp];exact .inr ⟨r,g+1,rfl,by rw[zm hrl,zg,Ok];rfl⟩
    ·rw[if_neg hr1];exact e12
  ·have:=knil e (hbad c);simp only[Aa,simprocAttr,za,hlen,c];exact this
 have hn:j=l.length:=by omega
 rw[hn,jm (ze _)] at hA hall;have e:=Tq (Bv m i) hall;simp only[Aa,simprocAttr,za,hlen,t22,t23,hlt];subst hW;simp only[Aa,simprocAttr,za,hlen];subst hZ;rcases hA with ⟨h0,rfl⟩|⟨r,g,rfl,hr⟩
 ·have:=knil 0 (by rw[e,h0]);simp only[Aa,simprocAttr,za,hlen,t8];exact this
 ·simp only[Aa,simprocAttr,za,hlen,t8,hr,H6 (IQ _),jt];rw[e] at hk ⊢;exact⟨fun G I y hy=>hy,hk⟩
theorem pI [Shp Tryz.prog] (m i:List UInt8) (v:JV) (hv:∀y∈v.items,AY y/\Bo y/\(An y AK).1.text.length<=100000000) (h1:m.length<=100000) (h2:i.length<=100000) (hl:K2 m i)
  (hk:K objs (.tup [.row (Bf (Bc m i) v).2.length (De (Bf (Bc m i) v).2),.i .i64 (Bf (Bc m i) v).1])):Ah Tryz.prog 39 [.agg (AP v),.agg [.s m,.s i],.fn 40 [] []] objs K:=by
 refine Gf (.tup [.row (Bf (Bc m i) v).2.length (De (Bf (Bc m i) v).2),.i .i64 (Bf (Bc m i) v).1]) ?_;have knil:∀e:Int,Bf (Bc m i) v=(e,[])->(∀G I y,Ab G I (.tup [.nil,.i .i64 e]) y->Ab G I (.tup [.row (Bf (Bc m i) v).2.length (De (Bf (Bc m i) v).2),.i .i64 (Bf (Bc m i) v).1]) y)/\K objs (.tup [.row (Bf (Bc m i) v).2.length (De (Bf (Bc m i) v).2),.i .i64 (Bf (Bc m i) v).1]):=fun e he=>⟨fun G I y h=>by rw[he];exact JN (fun z hz=>Cs hz) h,hk⟩;refine AF oS (by simp only[AE,AV.plain,Dw,Bool.and_self]) fun C _=>?_;rw[WL];unfold Bf at knil hk ⊢;have ejv:=AZ v;have hl4:=Fy v.items;rw[ejv];refine Ac fun Z hZ=>?_;simp only[Aa,simprocAttr];subst hZ;refine Ac fun Z hZ=>?_
 by_cases c6:v.kind=6
 rotate_left
 ·rw[if_neg c6] at knil hk ⊢;have:=knil 160 rfl;simp only[Aa,simprocAttr,c6];exact this
 rw[if_pos c6] at knil hk ⊢;simp only[Aa,simprocAttr,c6];subst hZ;refine Ac fun Z hZ=>?_
 by_cases c64:(64:Int)<(v.items.length:Int)
 ·rw[if_pos (show 64<v.items.length by omega)] at knil hk ⊢;have:=knil 161 rfl;simp only[Aa,simprocAttr,c64,decide_true];exact this
 rw[if_neg (show ¬64<v.items.length by omega)] at knil hk ⊢;simp only[Aa,simprocAttr,c64,decide_false];subst hZ;refine Ac fun Z hZ=>?_;simp only[Aa,simprocAttr];subst hZ;refine Ac fun Z hZ=>?_;refine Ac fun W hW=>?_;simp only[Aa,simprocAttr];subst hW;rw[DJ];generalize v.items=l at hv knil hk hl4 c64 ⊢;refine B4 (fun n o tm=>∃j:Nat,j<=l.length/\n=l.length - j/\MV ((l.take j).map fun y=>(Bc m i y).2) o (tm[8]?.getD .u)/\(∀y∈l.take j,(Bc m i y).1=0)/\o[1]? = some (.box 23 [.s m,.s i])/\tm.length=43/\tm[2]? = some (.fn 40 [] [])/\tm[4]? = some (.p 1 0)/\tm[21]? = some (.row l.length (Ak l))/\tm[22]? = some (.i .i64 (l.length:Int))/\tm[23]? = some (.i .i64 (j:Int))) l.length ⟨0,zd _,rfl,.inl ⟨rfl,rfl⟩,(by simp),rfl,rfl,rfl,rfl,rfl,rfl,rfl⟩ ?_;rintro n o tm ⟨j,hj,rfl,hA,hall,e1,hlen,t2,t4,t21,t22,t23⟩;obtain⟨a8,t8⟩:∃a,tm[8]? = some a:=⟨_,zk (by omega)⟩;rw[t8,qx] at hA;refine Ac fun W hW=>?_
 by_cases hlt:(j:Int)<(l.length:Int)
 ·have hj':j<l.length:=by omega
  have kv:=FK hj';have htk:l.take (j+1)=l.take j++[l[j]]:=by rw[List.take_add_one,zk hj'];rfl
  have hfl:((l.take j).map fun y=>(Bc m i y).2).length=j:=by rw[qk,zq];omega
  obtain⟨y1,y2,y3⟩:=hv l[j] (jg hj');have hbad:(Bc m i l[j]).1≠0->C0 (Bc m i) l=((Bc m i l[j]).1,[]):=fun h=>T7 (Bc m i) hj' hall h;generalize l[j]=y at kv htk y1 y2 y3 hbad;have ey:=AZ y;rw[ey] at kv;simp only[Aa,simprocAttr,za,hlen,t22,t23,hlt];subst hW;refine Ac fun W hW=>?_;simp only[Aa,simprocAttr,za,hlen];subst hW;refine Ac fun V hV=>?_;rw[DJ];refine Ac fun W hW=>?_;simp only[Aa,simprocAttr,za,hlen,t21,t23,kv];refine⟨⟨by omega,by omega,by omega⟩,by omega,?_⟩;simp only[Aa,simprocAttr,za,hlen,AG,BB];subst hW;have hol:1<o.length:=(zf.1 e1).1;have hA2:=hA.mono (.box 30 [.i .i64 y.kind,.s y.text,.row y.keys.length (y.keys.map .s),.row y.items.length (Ak y.items)]);have eB:(o++[OB.box 30 [.i .i64 y.kind,.s y.text,.row y.keys.length (y.keys.map .s),.row y.items.length (Ak y.items)]])[o.length]? = some (.box 30 [.i .i64 y.kind,.s y.text,.row y.keys.length (y.keys.map .s),.row y.items.length (Ak y.items)]):=AG _ _;have e11:(o++[OB.box 30 [.i .i64 y.kind,.s y.text,.row y.keys.length (y.keys.map .s),.row y.items.length (Ak y.items)]])[1]? = some (.box 23 [.s m,.s i]):=by rw[qh hol];exact e1
  generalize hpp:o.length=p at eB ⊢;generalize o++[OB.box 30 [.i .i64 y.kind,.s y.text,.row y.keys.length (y.keys.map .s),.row y.items.length (Ak y.items)]]=o1 at hA2 eB e11 ⊢;refine Ac fun W hW=>?_;simp only[Aa,simprocAttr,za,hlen,t2,t4,eB,e11];rw[<-ey];refine Fq Ya (oZ m i y y1 y2 h1 h2 y3 hl ?_);generalize hfd:Bc m i y=R at hbad ⊢;obtain⟨e,x⟩:=R;dsimp only at hbad ⊢;unfold Cg;simp only[Aa,simprocAttr,za,hlen,AG,BB];have hol1:1<o1.length:=(zf.1 e11).1;have hA3:=hA2.mono (.box 57 (Cg x));have eC:(o1++[OB.box 57 (Cg x)])[o1.length]? = some (.box 57 (Cg x)):=AG _ _;have e12:(o1++[OB.box 57 (Cg x)])[1]? = some (.box 23 [.s m,.s i]):=by rw[qh hol1];exact e11
  unfold Cg at hA3 eC e12;generalize o1.length=q at eC ⊢;generalize o1++[OB.box 57 _]=o2 at hA3 eC e12 ⊢;subst hW;refine Ac fun W hW=>?_
  by_cases c:e=0
  ·subst c;simp only[Aa,simprocAttr,za,hlen];subst hW;have hall2:∀z∈l.take (j+1),(Bc m i z).1=0:=by
    intro z hz;rw[htk] at hz;rcases qc.1 hz with h|h
    ·exact hall z h
    ·rw[xy] at h;subst h;rw[hfd]
   have hmp:(l.take (j+1)).map (fun y=>(Bc m i y).2)=(l.take j).map (fun y=>(Bc m i y).2)++[x]:=by rw[htk,ji];simp[hfd]
   generalize hacc:(l.take j).map (fun y=>(Bc m i y).2)=acc at hA3 hfl hmp;rcases hA3 with ⟨rfl,rfl⟩|⟨r,g,rfl,hr⟩
   ·simp only[Aa,simprocAttr,za,hlen,t8,eC];subst hV;simp only[Aa,simprocAttr,za,hlen,t2,t4,t21,t22,t23];refine⟨by omega,l.length - (j+1),by omega,j+1,by omega,rfl,?_,hall2,?_,rfl⟩
    ·rw[hmp];exact .inr ⟨o2.length,0,rfl,by rw[AG];rfl⟩
    ·rw[qh (zf.1 e12).1];exact e12
   ·have hrl:=(zf.1 hr).1;have hr1:r≠1:=fun e=>by rw[e,e12] at hr;injection hr with hr;cases hr
    simp only[Aa,simprocAttr,za,hlen,t8,eC,hr];have hcl:=Me acc;refine⟨⟨by omega,by omega⟩,?_⟩;subst hV;simp only[Aa,simprocAttr,za,hlen,t2,t4,t21,t22,t23];refine⟨by omega,l.length - (j+1),by omega,j+1,by omega,rfl,?_,hall2,?_,rfl⟩
    ·rw[hmp];exact .inr ⟨r,g+1,rfl,by rw[zm hrl,zg,OG];rfl⟩
    ·rw[if_neg hr1];exact e12
  ·have:=knil e (hbad c);simp only[Aa,simprocAttr,za,hlen,c];exact this
 have hn:j=l.length:=by omega
 rw[hn,jm (ze _)] at hA hall;have e:=Tq (Bc m i) hall;simp only[Aa,simprocAttr,za,hlen,t22,t23,hlt];subst hW;simp only[Aa,simprocAttr,za,hlen];subst hZ;rcases hA with ⟨h0,rfl⟩|⟨r,g,rfl,hr⟩
 ·have:=knil 0 (by rw[e,h0]);simp only[Aa,simprocAttr,za,hlen,t8];exact this
 ·simp only[Aa,simprocAttr,za,hlen,t8,hr,H6 (IJ _),jt];rw[e] at hk ⊢;exact⟨fun G I y hy=>hy,hk⟩
end
end
section
attribute [local irreducible] run
theorem Mt (s:List UInt8):(Bl s).2.1.length<=4096/\(Bl s).2.2.length<=50000:=by
 have h1:=(Gm 58 (s.drop 4)).1;have h2:(s.drop 4).length=s.length - 4:=zr;have h3:=XH (Af 58 (s.drop 4)).2.1;unfold Bl
 by_cases c0:4096<s.length
 ·rw[if_pos c0];exact⟨zd _,zd _⟩
 rw[if_neg c0]
 repeat' split
 all_goals first
  | exact⟨zd _,zd _⟩
  | (refine⟨?_,h3⟩;show (Af 58 (s.drop 4)).1.length<=4096;omega)
def Nh (u:DidU):Prop:=u.meth.length<=4096/\u.id.length<=50000/\u.path.length<=16384/\u.query.length<=16384/\u.frag.length<=16384
theorem Xo:Nh CI:=⟨zd _,zd _,zd _,zd _,zd _⟩
theorem Ut (s:List UInt8):Nh (Ea s).2:=by
 unfold Ea
 repeat' split
 all_goals first
  | exact Xo
  | exact⟨(Mt _).1,(Mt _).2,(Gk _ _).2,(Gk _ _).2,(Gk _ _).2⟩
theorem Pl (m i r:List UInt8):Nh (B1 m i r).2:=by
 unfold B1
 repeat' split
 ·exact Ut _
 ·exact Ut _
 ·exact Xo
theorem W5 (m i:List UInt8):K2 m i:=fun r _ _=>by
 obtain⟨h1,h2,h3,h4,h5⟩:=Pl m i r;exact⟨by omega,by omega,by omega,by omega,by omega⟩
theorem S0 (v:JV):(BC v).2.1.length<=4096/\(BC v).2.2.length<=50000:=by
 unfold BC
 repeat' split
 ·exact⟨zd _,zd _⟩
 ·exact⟨zd _,zd _⟩
 ·exact Mt _
def E4 (A:AV) (n:Nat) (cs:List AV):Prop:=A=.row n cs\/(A=.nil/\n=0/\cs=[])
theorem E4.den {A:AV} {n:Nat} {cs:List AV} (h:E4 A n cs) {G:Gh} {I:Al} (z:Value) (hz:Ab G I A z):Ab G I (.row n cs) z:=by
 rcases h with rfl|⟨rfl,rfl,rfl⟩
 ·exact hz
 ·exact Cs hz
theorem E4.pl {A:AV} {n:Nat} {cs:List AV} (h:E4 A n cs) (hp:AE cs=true):A.plain=true:=by
 rcases h with rfl|⟨rfl,_,_⟩
 ·exact hp
 ·rfl
theorem Jo {G:Gh} {I:Al} {a a' b b' c c' d d' x:AV} {t:List UInt8} {y:Value} (h1:∀z,Ab G I a z->Ab G I a' z) (h2:∀z,Ab G I b z->Ab G I b' z) (h3:∀z,Ab G I c z->Ab G I c' z) (h4:∀z,Ab G I d z->Ab G I d' z) (hd:Ab G I (.tup [.agg [.s t,a,b,c,d],x]) y):Ab G I (.tup [.agg [.s t,a',b',c',d'],x]) y:=by
 refine JN (fun z hz=>?_) hd;simp only[Ad,Ab] at hz ⊢;obtain⟨zs,rfl,⟨z0,m0,rfl,q0,z1,m1,rfl,q1,z2,m2,rfl,q2,z3,m3,rfl,q3,z4,m4,rfl,q4,q5⟩,hz⟩:=hz;exact⟨_,rfl,⟨_,_,rfl,q0,_,_,rfl,h1 _ q1,_,_,rfl,h2 _ q2,_,_,rfl,h3 _ q3,_,_,rfl,h4 _ q4,q5⟩,hz⟩
def Gx (d:DoP):List AV:=[.s d.id,.row d.also.length (d.also.map .s),.row d.ctl.length (d.ctl.map .s),.row d.mts.length (D2 d.mts),.row d.svs.length (De d.svs)]
def FH (R:Int×DoP):AV:=.tup [.agg (Gx R.2),.i .i64 R.1]
def Il (v:JV):Prop:=(An v AK).1.text.length<=100000000/\∀key,∀y∈(An v key).1.items,(An y AK).1.text.length<=100000000
theorem Il.it {v:JV} (h:Il v) (hv:AY v) (hj:Bo v) (key:List UInt8):∀y∈(An v key).1.items,AY y/\Bo y/\(An y AK).1.text.length<=100000000:=fun y hy=>by
 have h1:=IY hv key;have h2:=ZR hj key;refine⟨?_,?_,h.2 key y hy⟩
 ·obtain⟨i,hi,rfl⟩:=y5.1 hy;exact h1.its hi
 ·obtain⟨i,hi,rfl⟩:=y5.1 hy;exact h2.its hi
section
variable [Tabs Tryz.prog] {objs:List OB} {K:List OB->AV->Prop}
theorem rM [Shp Tryz.prog] (v:JV) (hv:AY v) (hj:Bo v) (ht:(An v AK).1.text.length<=100000000) (hk:K objs (.tup [.agg [.s (BC v).2.1,.s (BC v).2.2],.i .i64 (BC v).1])):Ah Tryz.prog 34 [.agg (AP v)] objs K:=by
 refine AF nI (by simp only[AE,AV.plain,Dw,Bool.and_self]) fun C _=>?_;rw[VY];have ejv:=AZ v;have htl:=Sr v AK _ ht;have hm:maxLen=2 ^ 63 - 1:=rfl;rw[ejv];refine Ac fun Z hZ=>?_;simp only[Aa,simprocAttr];subst hZ;refine Ac fun Z hZ=>?_;simp only[Aa,simprocAttr];rw[<-ejv];refine Ae (M9 v AK hv hj ?_);unfold BC at hk;generalize B5 v AK=R at hk htl ⊢;obtain⟨x,ok⟩:=R;dsimp only at hk htl ⊢;rw[ejv];simp only[Aa,simprocAttr];subst hZ;refine Ac fun Z hZ=>?_
 cases ok with
 | false=>
  rw[if_pos rfl] at hk;simp only[Aa,simprocAttr];exact hk
 | true=>
  rw[if_neg (show ¬(true=false) by decide)] at hk;simp only[Aa,simprocAttr];subst hZ;refine Ac fun Z hZ=>?_;simp only[Aa,simprocAttr];refine Ae (UQ x (by omega) ?_);generalize Bl x=R at hk ⊢;obtain⟨e,m,i⟩:=R;dsimp only at hk ⊢;simp only[Aa,simprocAttr];subst hZ;refine Ac fun Z hZ=>?_
  by_cases c:e=0
  ·subst c;rw[if_neg (show ¬((0:Int)≠0) by decide)] at hk;simp only[Aa,simprocAttr];subst hZ;simp only[Aa,simprocAttr];exact hk
  ·rw[if_pos c] at hk;simp only[Aa,simprocAttr,c];exact hk
theorem oX [Shp Tryz.prog] (v:JV) (hv:AY v) (hj:Bo v) (hb:Il v) (hk:K objs (FH (Ci v))):Ah Tryz.prog 12 [.agg (AP v)] objs K:=by
 refine Gf (FH (Ci v)) ?_;have kz:∀e:Int,Ci v=(e,F4)->(∀G I y,Ab G I (.tup [.agg [.s [],.nil,.nil,.nil,.nil],.i .i64 e]) y->Ab G I (FH (Ci v)) y)/\K objs (FH (Ci v)):=fun e he=>⟨fun G I y h=>by rw[he];exact Jo (fun z hz=>Cs hz) (fun z hz=>Cs hz) (fun z hz=>Cs hz) (fun z hz=>Cs hz) h,hk⟩;refine AF nE (by simp only[AE,AV.plain,Dw,Bool.and_self]) fun C _=>?_;rw[Wb];have ejv:=AZ v;have hsl:=S0 v;rw[ejv];refine Ac fun Z hZ=>?_;simp only[Aa,simprocAttr];subst hZ;refine Ac fun Z hZ=>?_;simp only[Aa,simprocAttr];rw[<-ejv];refine Ae (NL v ?_);rw[ejv];simp only[Aa,simprocAttr];subst hZ;refine Ac fun Z hZ=>?_;simp only[Aa,simprocAttr];rw[<-ejv];refine Ae (rM v hv hj hb.1 ?_);unfold Ci at kz hk ⊢;generalize BC v=R at kz hk hsl ⊢;obtain⟨e,m,i⟩:=R;dsimp only at kz hk hsl ⊢;rw[ejv];simp only[Aa,simprocAttr];subst hZ;refine Ac fun Z hZ=>?_
 by_cases c:e=0
 rotate_left
 ·rw[if_pos c] at kz hk ⊢;have:=kz e rfl;simp only[Aa,simprocAttr,c];exact this
 subst c;rw[if_neg (show ¬((0:Int)≠0) by decide)] at kz hk ⊢;simp only[Aa,simprocAttr];subst hZ;refine Ac fun Z hZ=>?_;simp only[Aa,simprocAttr];refine Ae (KY m i (by omega) (by omega) ?_);simp only[Aa,simprocAttr];subst hZ;refine Ac fun Z hZ=>?_;obtain⟨⟨e1,L1⟩,hO1⟩:∃R,Bd v CK DX=R:=⟨_,rfl⟩;rw[hO1] at kz hk ⊢;dsimp only at kz hk ⊢;refine Bq (fun o t=>∃A1 z1 b1,o=[OB.box 30 [.i .i64 v.kind,.s v.text,.row v.keys.length (v.keys.map .s),.row v.items.length (Ak v.items)],OB.box 50 [.s [],.nil,.nil,.nil,.nil],OB.box 30 [.i .i64 v.kind,.s v.text,.row v.keys.length (v.keys.map .s),.row v.items.length (Ak v.items)],OB.box 23 [.s m,.s i],OB.box 50 [.s (AU m i),A1,.nil,.nil,.nil],z1,b1]/\e1=0/\E4 A1 L1.length (L1.map .s)/\t.length=97/\t[2]? = some (.p 1 0)/\t[4]? = some (.fn 77 [] [.p 2 0])/\t[5]? = some (.p 3 0)/\t[7]? = some (.p 4 0)) ?_ ?_
 ·simp only[Aa,simprocAttr];refine Fq IP (Iy v CK 2 (by rw[ejv];rfl) hv hj fun z=>?_);unfold CT;unfold Bd at hO1;obtain⟨⟨x,ok⟩,hg⟩:∃R,An v CK=R:=⟨_,rfl⟩;have hgx:x=(An v CK).1:=by rw[hg]
  rw[hg] at hO1 ⊢;dsimp only at hO1 ⊢;have ex:=AZ x;rw[ex];simp only[Aa,simprocAttr]
  cases ok with
  | false=>
   rw[if_neg (show ¬(false=true) by decide)] at hO1;injection hO1 with h1 h2
   subst h1 h2;simp only[Aa,simprocAttr,Ap];exact⟨_,_,_,rfl,.inr ⟨rfl,rfl,rfl⟩⟩
  | true=>
   rw[if_pos rfl] at hO1;simp only[Aa,simprocAttr];rw[<-ex];refine Ae (Ta x ?_);rw[hO1,ex];unfold E3;simp only[Aa,simprocAttr]
   by_cases c1:e1=0
   ·subst c1;simp only[Aa,simprocAttr,Ap];exact⟨_,_,_,rfl,.inl rfl⟩
   ·rw[if_pos c1] at kz hk ⊢;have:=kz e1 rfl;simp only[Aa,simprocAttr,c1,GM];exact this
 rintro o tm ⟨A1,z1,b1,rfl,rfl,hA1,hlen,t2,t4,t5,t7⟩;rw[if_neg (show ¬((0:Int)≠0) by decide)] at kz hk ⊢;subst hZ;refine Ac fun Z hZ=>?_;obtain⟨⟨e2,L2⟩,hO2⟩:∃R,Bd v B9 BQ=R:=⟨_,rfl⟩;rw[hO2] at kz hk ⊢;dsimp only at kz hk ⊢;refine Bq (fun o t=>∃A2 z2 b2,o=[OB.box 30 [.i .i64 v.kind,.s v.text,.row v.keys.length (v.keys.map .s),.row v.items.length (Ak v.items)],OB.box 50 [.s [],.nil,.nil,.nil,.nil],OB.box 30 [.i .i64 v.kind,.s v.text,.row v.keys.length (v.keys.map .s),.row v.items.length (Ak v.items)],OB.box 23 [.s m,.s i],OB.box 50 [.s (AU m i),A1,A2,.nil,.nil],z1,b1,z2,b2]/\e2=0/\E4 A2 L2.length (L2.map .s)/\t.length=97/\t[2]? = some (.p 1 0)/\t[4]? = some (.fn 77 [] [.p 2 0])/\t[5]? = some (.p 3 0)/\t[7]? = some (.p 4 0)) ?_ ?_
 ·simp only[Aa,simprocAttr,za,hlen,t2,t4,t5,t7];refine Fq IP (Iy v B9 2 (by rw[ejv];rfl) hv hj fun z=>?_);unfold CT;unfold Bd at hO2;obtain⟨⟨x,ok⟩,hg⟩:∃R,An v B9=R:=⟨_,rfl⟩;have hgx:x=(An v B9).1:=by rw[hg]
  rw[hg] at hO2 ⊢;dsimp only at hO2 ⊢;have ex:=AZ x;rw[ex];simp only[Aa,simprocAttr,za,hlen,t2,t4,t5,t7]
  cases ok with
  | false=>
   rw[if_neg (show ¬(false=true) by decide)] at hO2;injection hO2 with h1 h2
   subst h1 h2;simp only[Aa,simprocAttr,za,hlen,t2,t4,t5,t7,Ap];exact⟨_,_,_,rfl,.inr ⟨rfl,rfl,rfl⟩⟩
  | true=>
   rw[if_pos rfl] at hO2;simp only[Aa,simprocAttr,za,hlen,t2,t4,t5,t7];rw[<-ex];refine Ae (QC x ?_);rw[hO2,ex];unfold E3;simp only[Aa,simprocAttr,za,hlen,t2,t4,t5,t7]
   by_cases c1:e2=0
   ·subst c1;simp only[Aa,simprocAttr,za,hlen,t2,t4,t5,t7,Ap];exact⟨_,_,_,rfl,.inl rfl⟩
   ·rw[if_pos c1] at kz hk ⊢;have:=kz e2 rfl;simp only[Aa,simprocAttr,za,hlen,t2,t4,t5,t7,c1,GM];exact this
 rintro o tm ⟨A2,z2,b2,rfl,rfl,hA2,hlen,t2,t4,t5,t7⟩;rw[if_neg (show ¬((0:Int)≠0) by decide)] at kz hk ⊢;subst hZ;refine Ac fun Z hZ=>?_;obtain⟨⟨e3,L3⟩,hO3⟩:∃R,Bd v CL (Bf (Bv m i))=R:=⟨_,rfl⟩;rw[hO3] at kz hk ⊢;dsimp only at kz hk ⊢;refine Bq (fun o t=>∃A3 z3 b3,o=[OB.box 30 [.i .i64 v.kind,.s v.text,.row v.keys.length (v.keys.map .s),.row v.items.length (Ak v.items)],OB.box 50 [.s [],.nil,.nil,.nil,.nil],OB.box 30 [.i .i64 v.kind,.s v.text,.row v.keys.length (v.keys.map .s),.row v.items.length (Ak v.items)],OB.box 23 [.s m,.s i],OB.box 50 [.s (AU m i),A1,A2,A3,.nil],z1,b1,z2,b2,z3,b3]/\e3=0/\E4 A3 L3.length (D2 L3)/\t.length=97/\t[2]? = some (.p 1 0)/\t[4]? = some (.fn 77 [] [.p 2 0])/\t[5]? = some (.p 3 0)/\t[7]? = some (.p 4 0)) ?_ ?_
 ·simp only[Aa,simprocAttr,za,hlen,t2,t4,t5,t7];refine Fq IP (Iy v CL 2 (by rw[ejv];rfl) hv hj fun z=>?_);unfold CT;unfold Bd at hO3;obtain⟨⟨x,ok⟩,hg⟩:∃R,An v CL=R:=⟨_,rfl⟩;have hgx:x=(An v CL).1:=by rw[hg]
  rw[hg] at hO3 ⊢;dsimp only at hO3 ⊢;have ex:=AZ x;rw[ex];simp only[Aa,simprocAttr,za,hlen,t2,t4,t5,t7]
  cases ok with
  | false=>
   rw[if_neg (show ¬(false=true) by decide)] at hO3;injection hO3 with h1 h2
   subst h1 h2;simp only[Aa,simprocAttr,za,hlen,t2,t4,t5,t7,Ap];exact⟨_,_,_,rfl,.inr ⟨rfl,rfl,rfl⟩⟩
  | true=>
   rw[if_pos rfl] at hO3;simp only[Aa,simprocAttr,za,hlen,t2,t4,t5,t7];rw[<-ex];refine Ae (pH m i x (by rw[hgx];exact hb.it hv hj CL) (by omega) (by omega) (W5 m i) ?_);rw[hO3,ex];dsimp only;simp only[Aa,simprocAttr,za,hlen,t2,t4,t5,t7]
   by_cases c1:e3=0
   ·subst c1;simp only[Aa,simprocAttr,za,hlen,t2,t4,t5,t7,Ap];exact⟨_,_,_,rfl,.inl rfl⟩
   ·rw[if_pos c1] at kz hk ⊢;have:=kz e3 rfl;simp only[Aa,simprocAttr,za,hlen,t2,t4,t5,t7,c1,GM];exact this
 rintro o tm ⟨A3,z3,b3,rfl,rfl,hA3,hlen,t2,t4,t5,t7⟩;rw[if_neg (show ¬((0:Int)≠0) by decide)] at kz hk ⊢;subst hZ;refine Ac fun Z hZ=>?_;obtain⟨⟨e4,L4⟩,hO4⟩:∃R,Bd v BT (Bf (Bc m i))=R:=⟨_,rfl⟩;rw[hO4] at kz hk ⊢;dsimp only at kz hk ⊢;refine Bq (fun o t=>∃A4 z4 b4,o=[OB.box 30 [.i .i64 v.kind,.s v.text,.row v.keys.length (v.keys.map .s),.row v.items.length (Ak v.items)],OB.box 50 [.s [],.nil,.nil,.nil,.nil],OB.box 30 [.i .i64 v.kind,.s v.text,.row v.keys.length (v.keys.map .s),.row v.items.length (Ak v.items)],OB.box 23 [.s m,.s i],OB.box 50 [.s (AU m i),A1,A2,A3,A4],z1,b1,z2,b2,z3,b3,z4,b4]/\e4=0/\E4 A4 L4.length (De L4)/\t.length=97/\t[2]? = some (.p 1 0)/\t[4]? = some (.fn 77 [] [.p 2 0])/\t[5]? = some (.p 3 0)/\t[7]? = some (.p 4 0)) ?_ ?_
 ·simp only[Aa,simprocAttr,za,hlen,t2,t4,t5,t7];refine Fq IP (Iy v BT 2 (by rw[ejv];rfl) hv hj fun z=>?_);unfold CT;unfold Bd at hO4;obtain⟨⟨x,ok⟩,hg⟩:∃R,An v BT=R:=⟨_,rfl⟩;have hgx:x=(An v BT).1:=by rw[hg]
  rw[hg] at hO4 ⊢;dsimp only at hO4 ⊢;have ex:=AZ x;rw[ex];simp only[Aa,simprocAttr,za,hlen,t2,t4,t5,t7]
  cases ok with
  | false=>
   rw[if_neg (show ¬(false=true) by decide)] at hO4;injection hO4 with h1 h2
   subst h1 h2;simp only[Aa,simprocAttr,za,hlen,t2,t4,t5,t7,Ap];exact⟨_,_,_,rfl,.inr ⟨rfl,rfl,rfl⟩⟩
  | true=>
   rw[if_pos rfl] at hO4;simp only[Aa,simprocAttr,za,hlen,t2,t4,t5,t7];rw[<-ex];refine Ae (pI m i x (by rw[hgx];exact hb.it hv hj BT) (by omega) (by omega) (W5 m i) ?_);rw[hO4,ex];dsimp only;simp only[Aa,simprocAttr,za,hlen,t2,t4,t5,t7]
   by_cases c1:e4=0
   ·subst c1;simp only[Aa,simprocAttr,za,hlen,t2,t4,t5,t7,Ap];exact⟨_,_,_,rfl,.inl rfl⟩
   ·rw[if_pos c1] at kz hk ⊢;have:=kz e4 rfl;simp only[Aa,simprocAttr,za,hlen,t2,t4,t5,t7,c1,GM];exact this
 rintro o tm ⟨A4,z4,b4,rfl,rfl,hA4,hlen,t2,t4,t5,t7⟩;rw[if_neg (show ¬((0:Int)≠0) by decide)] at kz hk ⊢;subst hZ;refine Ac fun Z hZ=>?_;have p1:=hA1.pl (Dx L1);have p2:=hA2.pl (Dx L2);have p3:=hA3.pl (IQ L3);have p4:=hA4.pl (IJ L4);simp only[Aa,simprocAttr,za,hlen,t2,t4,t5,t7];subst hZ;simp only[Aa,simprocAttr,za,hlen,t2,t4,t5,t7,Ke p1,Ke p2,Ke p3,Ke p4,jt];exact⟨fun G I y h=>Jo hA1.den hA2.den hA3.den hA4.den h,hk⟩
end
end
section
attribute [local irreducible] run
def CH (n:List UInt8):List (List UInt8×List UInt8)->List UInt8×Bool
 | []=>([],false)
 | p::l=>if p.1=n then (p.2,true) else CH n l
theorem QQ {n:List UInt8} {l:List (List UInt8×List UInt8)} {i:Nat} (h:i<l.length):CH n (l.drop i)=if l[i].1=n then (l[i].2,true) else CH n (l.drop (i+1)):=by
 rw[jq h,CH]
theorem R0 {n:List UInt8} {l:List (List UInt8×List UInt8)} {i:Nat} (h:¬i<l.length):CH n (l.drop i)=([],false):=by
 rw[yf (by omega),CH]
def D8 (id:List UInt8):List SvP->SvP×Bool
 | []=>(I8,false)
 | s::l=>if s.id=id then (s,true) else D8 id l
theorem Rf {n:List UInt8} {l:List SvP} {i:Nat} (h:i<l.length):D8 n (l.drop i)=if l[i].id=n then (l[i],true) else D8 n (l.drop (i+1)):=by
 rw[jq h,D8]
theorem RB {n:List UInt8} {l:List SvP} {i:Nat} (h:¬i<l.length):D8 n (l.drop i)=(I8,false):=by
 rw[yf (by omega),D8]
theorem Sp {l:List SvP} {i:Nat} (h:i<l.length):((De l).drop (i*3)).take 3=Cg l[i]:=by
 induction l generalizing i with
 | nil=>simp at h
 | cons a l ih=>
  show (List.drop (i*3) (Cg a++De l)).take 3=_
  cases i with
  | zero=>rfl
  | succ i=>
   rw[show (i+1)*3=(Cg a).length+i*3 from by show _=3+_;omega,List.drop_append];simp only[yf (Nat.le_add_right _ _),List.nil_append,Nat.add_sub_cancel_left];exact ih (by simpa using h)
def CW (u:DidU):List (List UInt8×List UInt8):=if u.hq=true then DB (B8 u.query) else []
theorem NV (u:DidU) (h:u.query.length<=1000000):(CW u).length<=1000001:=by
 unfold CW
 split
 ·exact qg (NR _) (qg (SK _) (by omega))
 ·exact zd _
theorem Uv:Iq Tryz.prog 41:=⟨_,Tryz.func41,by kernel_rfl,of_decide_eq_true (by kernel_rfl)⟩
section
variable [Tabs Tryz.prog] {objs:List OB} {K:List OB->AV->Prop}
theorem RN (l:List (List UInt8×List UInt8)) (n:List UInt8) (hl:l.length<=10000000) (hk:K objs (.tup [.s (CH n l).1,.b (CH n l).2])):Ah Tryz.prog 20 [.row l.length (Cw l),.s n] objs K:=by
 have hfl:=Uu l;refine AF lU (by simp only[AE,AV.plain,OA,Bool.and_self]) fun C _=>?_;rw[VJ];refine Ac fun Y hY=>?_;simp only[Aa,simprocAttr];subst hY;refine Ac fun Y hY=>?_;simp only[Aa,simprocAttr];refine B4 (fun m o tm=>∃i:Nat,m=l.length - i/\i<=l.length/\CH n l=CH n (l.drop i)/\tm.length=21/\tm[1]? = some (.s n)/\tm[8]? = some (.row l.length (Cw l))/\tm[9]? = some (.i .i64 l.length)/\tm[10]? = some (.i .i64 i)) l.length ⟨0,rfl,zd _,rfl,rfl,rfl,rfl,rfl,rfl⟩ ?_;rintro m o tm ⟨i,rfl,hi,hd,hlen,t1,t8,t9,t10⟩
 by_cases hlt:i<l.length
 ·have hlt':(i:Int)<(l.length:Int):=by omega
  have a0:=Xb hlt;rw[QQ hlt] at hd
  by_cases hn:l[i].1=n
  ·rw[hd,if_pos hn] at hk;simp only[Aa,simprocAttr,za,hlen,t1,t8,t9,t10,hlt',zt,a0,AG,BB,hn];exact⟨⟨by omega,by omega⟩,by omega,hk⟩
  ·rw[if_neg hn] at hd;simp only[Aa,simprocAttr,za,hlen,t1,t8,t9,t10,hlt',zt,a0,AG,BB,hn];exact⟨⟨by omega,by omega⟩,by omega,by omega,l.length - (i+1),by omega,i+1,rfl,by omega,hd,rfl⟩
 ·have hlt':¬(i:Int)<(l.length:Int):=by omega
  rw[hd,R0 hlt] at hk;simp only[Aa,simprocAttr,za,hlen,t9,t10,hlt'];subst hY;simp only[Aa,simprocAttr,za,hlen,t9,t10,hlt'];exact hk
theorem Xy {b T:Nat} {X:AV} (l:List (List UInt8×List UInt8)) (n:List UInt8) (hl:l.length<=10000000) (hb:objs[b]? = some (.box T [X])) (hX:E4 X l.length (Cw l)) (hk:∀M,K (objs++M) (.tup [.s (CH n l).1,.b (CH n l).2])):Ah Tryz.prog 41 [.s n,.p b 0] objs K:=by
 have hfl:=Uu l;refine DI oG fun C _=>?_;rw[WA];refine Ac fun Y hY=>?_;simp only[Aa,simprocAttr];subst hY;refine Ac fun Y hY=>?_;rcases hX with rfl|⟨rfl,h0,_⟩
 ·simp only[Aa,simprocAttr,hb];refine B4 (fun m o tm=>∃(i:Nat) (M:List OB),m=l.length - i/\i<=l.length/\CH n l=CH n (l.drop i)/\o=objs++M/\tm.length=20/\tm[0]? = some (.s n)/\tm[7]? = some (.row l.length (Cw l))/\tm[8]? = some (.i .i64 l.length)/\tm[9]? = some (.i .i64 i)) l.length ⟨0,[],rfl,zd _,rfl,(qm _).symm,rfl,rfl,rfl,rfl,rfl⟩ ?_;rintro m o tm ⟨i,M,rfl,hi,hd,hO,hlen,t0,t7,t8,t9⟩
  by_cases hlt:i<l.length
  ·have hlt':(i:Int)<(l.length:Int):=by omega
   have a0:=Xb hlt;rw[QQ hlt] at hd
   by_cases hn:l[i].1=n
   ·rw[hd,if_pos hn] at hk;have hk1:=hk (M++[.box 77 [.s n,.s l[i].2]]);rw[<-zu,<-hO] at hk1;simp only[Aa,simprocAttr,za,hlen,t0,t7,t8,t9,hlt',zt,a0,AG,BB,hn];exact⟨⟨by omega,by omega⟩,by omega,hk1⟩
   ·rw[if_neg hn] at hd;simp only[Aa,simprocAttr,za,hlen,t0,t7,t8,t9,hlt',zt,a0,AG,BB,hn];exact⟨⟨by omega,by omega⟩,by omega,by omega,l.length - (i+1),by omega,i+1,M++[_],rfl,by omega,hd,by rw[hO,zu],rfl⟩
  ·have hlt':¬(i:Int)<(l.length:Int):=by omega
   rw[hd,R0 hlt] at hk;simp only[Aa,simprocAttr,za,hlen,t8,t9,hlt'];subst hY;simp only[Aa,simprocAttr,za,hlen,t8,t9,hlt'];rw[hO];exact hk M
 ·have hln:l=[]:=List.length_eq_zero_iff.1 h0;subst hln;have hk1:=hk [];rw[qm] at hk1;simp only[Aa,simprocAttr,hb];refine B4 (fun m o tm=>o=objs/\tm.length=20/\tm[8]? = some (.i .i64 0)/\tm[9]? = some (.i .i64 0)) 0 ⟨rfl,rfl,rfl,rfl⟩ ?_;rintro m _ tm ⟨rfl,hlen,t8,t9⟩;simp only[Aa,simprocAttr,za,hlen,t8,t9];subst hY;simp only[Aa,simprocAttr,za,hlen,t8,t9];exact hk1
theorem kD (u:DidU) (hq:u.query.length<=1000000) (hk:∀M b T X,(objs++M)[b]? = some (.box T [X])->E4 X (CW u).length (Cw (CW u))->K (objs++M) (.fn 41 [] [.p b 0])):Ah Tryz.prog 13 [A7 u] objs K:=by
 refine DI nN fun C _=>?_;rw[Wh];unfold CW at hk
 cases h:u.hq with
 | true=>
  rw[h,if_pos rfl] at hk;simp only[A7,h,Aa,simprocAttr,AG,BB,M2,K5];refine Ae (Tp u.query hq ?_);simp only[Aa,simprocAttr,K5,qL];have g:=hk [.box 25 [.s u.meth,.s u.id,.s u.path,.s u.query,.s u.frag,.b true,.b u.hf],.box 37 [.row (DB (B8 u.query)).length (Cw (DB (B8 u.query)))]] (objs.length+1) 37 _ (by rw[xv (by omega),show objs.length+1 - objs.length=1 by omega];rfl) (.inl rfl);rw[show ∀a b:OB,objs++[a,b]=objs++[a]++[b] from fun a b=>by simp] at g;exact g
 | false=>
  rw[h,if_neg Bool.false_ne_true] at hk;simp only[A7,h,Aa,simprocAttr,AG,BB,M2,K5];have g:=hk [.box 25 [.s u.meth,.s u.id,.s u.path,.s u.query,.s u.frag,.b false,.b u.hf],.box 37 [.nil]] (objs.length+1) 37 _ (by rw[xv (by omega),show objs.length+1 - objs.length=1 by omega];rfl) (.inr ⟨rfl,rfl,rfl⟩);rw[show ∀a b:OB,objs++[a,b]=objs++[a]++[b] from fun a b=>by simp] at g;exact g
theorem UD (u:DidU) (hq:u.query.length<=1000000) (hk:K objs (.row (CW u).length (Cw (CW u)))):Ah Tryz.prog 21 [A7 u] objs K:=by
 refine UK (.row (CW u).length (Cw (CW u))) (AF mD rfl fun C _=>?_);rw[VV];unfold CW at hk ⊢
 cases h:u.hq with
 | true=>
  rw[h,if_pos rfl] at hk;rw[if_pos rfl];simp only[A7,h,Aa,simprocAttr];refine Ae (eH u.query hq ?_);simp only[Aa,simprocAttr,OA];exact⟨fun _ _ _ h=>h,hk⟩
 | false=>
  rw[h,if_neg Bool.false_ne_true] at hk;rw[if_neg Bool.false_ne_true];simp only[A7,h,Aa,simprocAttr];exact⟨fun _ _ _ h=>PN h,hk⟩
end
end
section
attribute [local irreducible] run
theorem Xd:Dr Cm:=by rw[Cm,Dr];exact⟨by simp,by simp,by simp,by simp,by rw[EY];trivial⟩
theorem Oi {v:JV} (hv:Dr v) (key:List UInt8):Dr (An v key).1:=by
 unfold An
 split
 ·split
  ·rename_i x hx;obtain⟨hi,rfl⟩:=zf.1 hx;exact hv.its hi
  ·exact Xd
 ·exact Xd
theorem Dr.idB {v:JV} (hv:Dr v):Il v:=by
 refine⟨qg (Oi hv AK).lens.2.2.1 (by decide),fun key y hy=>?_⟩;obtain⟨i,hi,rfl⟩:=y5.1 hy;exact qg (Oi ((Oi hv key).its hi) AK).lens.2.2.1 (by decide)
def Xu (x:SvP):Prop:=x.typ.length<=64/\x.eps.length<=64
def Xv (d:DoP):Prop:=d.also.length<=64/\d.ctl.length<=64/\d.mts.length<=64/\d.svs.length<=64/\∀x∈d.svs,Xu x
theorem Og (l:List JV):(Dy l).2.length<=64:=by
 unfold Dy
 split
 ·exact zd _
 split
 ·rw[qk];omega
 ·exact zd _
theorem XS (v:JV):(DX v).2.length<=64:=by
 unfold DX;split
 ·exact Og _
 ·exact zd _
theorem LM (v:JV):(BQ v).2.length<=64:=by
 unfold BQ;split<;>exact Og _
theorem LN {α:Type} {v:JV} {key:List UInt8} {f:JV->Int×List α} (h:∀x,(f x).2.length<=64):(Bd v key f).2.length<=64:=by
 unfold Bd;split
 ·exact h _
 ·exact zd _
theorem Tr {α:Type} (f:JV->Int×α):∀l:List JV,(C0 f l).2.length<=l.length
 | []=>ze _
 | y::l=>by
  have:=Tr f l;rw[C0]
  split
  ·exact zd _
  split
  ·exact zd _
  ·simp only[zp];omega
theorem Ts {α:Type} (f:JV->Int×α):∀l:List JV,∀x∈(C0 f l).2,∃y∈l,x=(f y).2
 | [],x,hx=>by cases hx
 | y::l,x,hx=>by
  rw[C0] at hx
  split at hx
  ·cases hx
  split at hx
  ·cases hx
  ·rcases zv.1 hx with rfl|hx
   ·exact⟨y,by simp,rfl⟩
   ·obtain⟨z,hz,e⟩:=Ts f l x hx;exact⟨z,qp _ hz,e⟩
theorem Ry {α:Type} (f:JV->Int×α) (v:JV):(Bf f v).2.length<=64:=by
 unfold Bf
 split
 ·split
  ·exact zd _
  ·have:=Tr f v.items;omega
 ·exact zd _
theorem vO (m i:List UInt8) (y:JV):Xu (Bc m i y).2:=by
 unfold Bc
 repeat' split
 all_goals first
  | exact⟨zd _,zd _⟩
  | exact⟨LM _,zd _⟩
  | exact⟨LM _,LM _⟩
theorem NG (v:JV):Xv (Ci v).2:=by
 have hz:Xv F4:=⟨zd _,zd _,zd _,zd _,fun x hx=>by cases hx⟩;unfold Ci
 repeat' split
 all_goals first
  | exact hz
  | skip
 refine⟨LN XS,LN LM,LN (Ry _),LN (Ry _),fun x hx=>?_⟩;dsimp only at hx;unfold Bd Bf at hx
 split at hx
 ·split at hx
  ·split at hx
   ·cases hx
   ·obtain⟨y,_,rfl⟩:=Ts _ _ x hx;exact vO _ _ y
  ·cases hx
 ·cases hx
end
section
attribute [local irreducible] run
def J1 (m:Nat) (l:List JV) (o:List OB) (X:AV):Prop:=(l=[]/\X=.nil)\/∃r g,X=.orow r g/\m<=r/\o[r]? = some (.orow 30 4 g l.length (Ak l))
theorem J1.mono {m:Nat} {l:List JV} {o:List OB} {X:AV} (h:J1 m l o X) (z:OB):J1 m l (o++[z]) X:=by
 rcases h with h|⟨r,g,h1,h0,h2⟩
 ·exact .inl h
 ·exact .inr ⟨r,g,h1,h0,by rw[qh (zf.1 h2).1];exact h2⟩
theorem J1.set {m:Nat} {l:List JV} {o:List OB} {X:AV} (h:J1 m l o X) {r:Nat} {Z:OB} (hz:o[r]? = some Z) (hne:∀g n cs,Z≠.orow 30 4 g n cs) (W:OB):J1 m l (o.set r W) X:=by
 rcases h with h|⟨r',g,h1,h0,h2⟩
 ·exact .inl h
 ·refine .inr ⟨r',g,h1,h0,?_⟩;rw[zo (fun e=>by rw[e,h2] at hz;injection hz with hz;exact hne _ _ _ hz.symm)];exact h2
theorem FF.set {m:Nat} {l:List (List UInt8)} {o:List OB} {X:AV} (h:FF m l o X) {r:Nat} {Z:OB} (hz:o[r]? = some Z) (hne:∀g n cs,Z≠.orow 9 1 g n cs) (W:OB):FF m l (o.set r W) X:=by
 rcases h with h|⟨r',g,h1,h0,h2⟩
 ·exact .inl h
 ·refine .inr ⟨r',g,h1,h0,?_⟩;rw[zo (fun e=>by rw[e,h2] at hz;injection hz with hz;exact hne _ _ _ hz.symm)];exact h2
section
variable [Tabs Tryz.prog] {objs:List OB} {K:List OB->AV->Prop}
end
end
instance tabs:Tabs Tryz.prog:=⟨fun w=>w.ShapedOpen Tryz.prog,fun _ _ h hk _=>U4 h hk⟩
instance tabs_shp:Shp Tryz.prog:=⟨fun _ h=>h⟩
end Go.Proofs.YtbgaknpnkcdbfaaGreatDoor
