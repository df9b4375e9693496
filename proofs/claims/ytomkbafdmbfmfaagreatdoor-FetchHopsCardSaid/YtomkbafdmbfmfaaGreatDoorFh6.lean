/- The texts that the proofs of these statements reach, in their order, as few files. -/
import Derived.Test.YtomkbafdmbfmfaaGreatDoorFh5
set_option linter.unusedVariables false
set_option linter.unusedSimpArgs false
set_option maxRecDepth 100000
namespace Go.Proofs.YtomkbafdmbfmfaaGreatDoor
open Nat renaming reduceAdd -> z6, reduceSub -> z7, reduceLeDiff -> z8, reduceLT -> j4, reduceMul -> j5, reduceEqDiff -> j6
open Int renaming reduceToNat -> j7, reduceAdd -> j8, reduceSub -> j9, reduceMul -> x0, reduceNeg -> x4, reduceLT -> x5, reduceLE -> x6, reduceEq -> x7, reduceNe -> x8
open Go.RowKit Sx
open List renaming getElem?_append_left->zu, getElem?_eq_getElem->qj, getElem?_eq_some_iff->qp, getElem?_set->zb, getElem?_set_ne->zo, getElem?_set_self->qc, length_cons->ze, length_map->qy, length_nil->zk, map_append->jz, mem_range->qm
open Nat renaming add_sub_cancel->xl
open Option renaming getD_some->qt
section
attribute [local irreducible] run
theorem hopA_pl (l:List UInt8):zar (byA l)=true:=by
 induction l with
 | nil=>rfl
 | cons c l ih=>rw[show byA (c::l)=.i .u8 c.toNat::byA l from rfl];simp only[zar,AV.plain,ih,Bool.and_self]
def hxL (l:List UInt8) (j:Nat):Nat:=match l[j]? with
 | some c=>1+c.toNat % 3
 | none=>0
theorem hxL_lt (l:List UInt8) (j:Nat):hxL l j<4:=by
 unfold hxL;split<;>omega
def zj5 (hx:Nat->Nat) (s m:Nat):List Ans:=(List.range m).map fun j=>⟨zhq (hx j),0,[47,UInt8.ofNat (97+j)],rawX s (hx (j+1)) (j+1),0,0,0⟩
def zih (hx:Nat->Nat) (m:Nat) (raw:List UInt8):Ans:=⟨zhq (hx m),0,[47,UInt8.ofNat (97+m)],raw,0,0,0⟩
theorem ziG (hx:Nat->Nat) (k s:Nat):zbp hx k s=zj5 hx s k++[zih hx k zi8]:=by
 unfold zbp zj5;rw[List.range_succ,jz]
 congr 1
 ·refine List.map_congr_left fun j hj=>?_;have:=qm.1 hj;simp[ziN,this]
 ·simp[ziN,zih]
theorem pre_succ (hx:Nat->Nat) (s m:Nat):zj5 hx s (m+1)=zj5 hx s m++[zih hx m (rawX s (hx (m+1)) (m+1))]:=by
 unfold zj5;rw[List.range_succ,jz];rfl
theorem zhe (hx:Nat->Nat) (s m:Nat):(zj5 hx s m).length=m:=by simp[zj5]
theorem zpi (hx:Nat->Nat) (s m:Nat) (raw raw':List UInt8):List.take (m*7+3) (zaI (zj5 hx s m++[zih hx m raw]))++[AV.s raw']++List.drop (m*7+3+1) (zaI (zj5 hx s m++[zih hx m raw]))=zaI (zj5 hx s m++[zih hx m raw']):=by
 have hl:m*7=(zaI (zj5 hx s m)).length:=by rw[zct,zhe]
 rw[zcG,zcG,Nat.add_assoc,hl,List.take_length_add_append,List.drop_length_add_append];simp[zaI,zaY,zih]
def RowA (m:Nat) (l:List Ans) (o:List OB) (X:AV):Prop:=(l=[]/\X=.nil)\/∃r g,X=.orow r g/\m<=r/\o[r]? = some (.orow 33 7 g l.length (zaI l))
theorem RowA.tr {m:Nat} {l:List Ans} {o o':List OB} {X:AV} (h:RowA m l o X) (hf:∀j,m<=j->j<o.length->o'[j]? = o[j]?):RowA m l o' X:=by
 rcases h with h|⟨r,g,e,h0,hr⟩
 ·exact .inl h
 ·exact .inr ⟨r,g,e,h0,by rw[hf r h0 (qp.1 hr).1];exact hr⟩
def zgd (hx:Nat->Nat) (k s:Nat):Nat->FsP
 | 0=>zaG (zbZ (hx 0) 0)
 | i+1=>zck (zbp hx k s) 0 (zgd hx k s i)
theorem zgj (h i:Nat):zbk (zbZ h i):=by
 have:(zhq h).length<=100:=by unfold zhq;split<;>simp[exL]
 simp only[zbk,zbZ,ze,zk];omega
theorem ziR {hx:Nat->Nat} {k s:Nat} (hh:∀j,hx j<4) (hs:s<5) (hk:k<=8):∀i,i<=k->i<=5->zgd hx k s i=zhJ hx s i
 | 0,_,_=>start_X s hh
 | i+1,h1,h2=>by
  rw[zgd,ziR hh hs hk i (by omega) (by omega)];exact step_run hh hs hk (by omega) (by omega)
theorem zjD {hx:Nat->Nat} {k s:Nat} (hh:∀j,hx j<4) (hs:s<5) (hk:k<=8):zgd hx k s (min k 5+1)=if 5<k then ⟨zbZ (hx 5) 5,5,true,250,zbS,0,0,[],[],trX hx s 5++[⟨zbZ (hx 5) 5,zfa s,0⟩],seX hx 6⟩ else ⟨zbZ (hx k) k,k,true,0,zbZ (hx k) k,(zaU zi8).minor,200,(zaU zi8).fields,zhx,trX hx s k++[⟨zbZ (hx k) k,200,0⟩],seX hx (k+1)⟩:=by
 rw[zgd,ziR hh hs hk _ (by omega) (by omega)]
 by_cases h:5<k
 ·rw[if_pos h,show min k 5=5 by omega];exact zmy hh hs hk h
 ·rw[if_neg h,show min k 5=k by omega];exact step_end hh hk
theorem way_done {hx:Nat->Nat} {k s:Nat} (hh:∀j,hx j<4) (hs:s<5) (hk:k<=8):(zgd hx k s (min k 5+1)).d=true:=by
 rw[zjD hh hs hk];split<;>rfl
theorem way_end {hx:Nat->Nat} {k s:Nat} (hh:∀j,hx j<4) (hs:s<5) (hk:k<=8):(zgd hx k s (min k 5+1)).e=(if 5<k then 250 else 0)/\(zgd hx k s (min k 5+1)).body=(if 5<k then [] else zhx)/\(zgd hx k s (min k 5+1)).tr.length=(if 5<k then 6 else k+1):=by
 rw[zjD hh hs hk];split<;>simp[trX]
theorem way_good {hx:Nat->Nat} {k s i:Nat} (hh:∀j,hx j<4) (hs:s<5) (hk:k<=8) (hi:i<min k 5+1):zbk (zgd hx k s i).u/\(zgd hx k s i).d=false/\(zgd hx k s i).e=0/\(zgd hx k s i).fl=[]/\(zgd hx k s i).se≠[]/\(zgd hx k s i).se.length<=1000000/\(zgd hx k s i).tr.length<=1000000/\0<=(zgd hx k s i).h/\(zgd hx k s i).h<=1000000:=by
 rw[ziR hh hs hk i (by omega) (by omega)];refine⟨zgj _ _,rfl,rfl,rfl,?_,?_,?_,?_,?_⟩
 ·simp[zhJ,seX]
 ·simp only[zhJ,seX,qy,List.length_range];omega
 ·simp only[zhJ,trX,qy,List.length_range];omega
 ·simp only[zhJ];omega
 ·simp only[zhJ];omega
theorem zl8 {hx:Nat->Nat} {k s:Nat} (hh:∀j,hx j<4) (hs:s<5) (hk:k<=8):∀a∈zbp hx k s,a.raw.length<=12000:=by
 intro a ha;obtain⟨j,hj,rfl⟩:=List.mem_map.1 ha;have hj:=qm.1 hj;simp only[ziN]
 split
 ·exact(zfI ⟨s,hs⟩ ⟨hx (j+1),hh _⟩ ⟨j+1,by omega⟩).2.2.2
 ·exact zh9.2.2.2
section
variable [Tabs Tryz.prog] {objs:List OB} {K:List OB->AV->Prop}
theorem zjp [Shp Tryz.prog] [Pow Tryz.prog] (n0:Int) (w0:(Lit.int .u8 n0).wf=true) (l:List UInt8) (w1:l.length<=140737488351232) (n2:Int) (w2:(Lit.int .u8 n2).wf=true):zaa Tryz.prog 8 [.i .u8 n0,.row l.length (byA l),.i .u8 n2] [] (fun _ r=>r=.b true):=by
 obtain⟨c0,rfl⟩:=zmA w0;obtain⟨c2,rfl⟩:=zmA w2;refine zaR is_law26_FetchHops (by simp only[zar,AV.plain,hopA_pl,Bool.and_self]) fun C _=>?_;rw[c_law26_FetchHops];refine zaj fun Z hZ=>?_;simp only[sxZ,z6,z7,z8,j4,j5,j6,j7,j8,j9,x0,x4,x5,x6,x7,x8,reduceCtorEq,↓reduceIte];subst hZ;refine zaj fun Z hZ=>?_;simp only[sxZ,z6,z7,z8,j4,j5,j6,j7,j8,j9,x0,x4,x5,x6,x7,x8,reduceCtorEq,↓reduceIte];refine zal (sane26_k ?_);simp only[sxZ,z6,z7,z8,j4,j5,j6,j7,j8,j9,x0,x4,x5,x6,x7,x8,reduceCtorEq,↓reduceIte];subst hZ;refine zaj fun Z hZ=>?_;simp only[sxZ,z6,z7,z8,j4,j5,j6,j7,j8,j9,x0,x4,x5,x6,x7,x8,reduceCtorEq,↓reduceIte];subst hZ;refine zaj fun Z hZ=>?_;simp only[sxZ,z6,z7,z8,j4,j5,j6,j7,j8,j9,x0,x4,x5,x6,x7,x8,reduceCtorEq,↓reduceIte];subst hZ;refine zaj fun Z hZ=>?_;simp only[sxZ,z6,z7,z8,j4,j5,j6,j7,j8,j9,x0,x4,x5,x6,x7,x8,reduceCtorEq,↓reduceIte];subst hZ;refine zaj fun Z hZ=>?_;refine zaj fun Y hY=>?_;have hk0:IntKind.i64.wrap ((c0.toNat:Int).tmod 9)=((c0.toNat % 9:Nat):Int):=by
  rw[show ((c0.toNat:Int).tmod 9)=((c0.toNat % 9:Nat):Int) from rfl];exact IntWalk.i64_in _ (by omega)
 obtain⟨k,hkk⟩:∃k,k=c0.toNat % 9:=⟨_,rfl⟩;have hk8:k<=8:=by omega
 rw[<-hkk] at hk0;obtain⟨s,hss⟩:∃s,s=c2.toNat % 5:=⟨_,rfl⟩;have hs5:s<5:=by omega
 have hst:((c2.toNat:Int).tmod 5)=(s:Int):=by rw[hss];rfl
 simp only[sxZ,z6,z7,z8,j4,j5,j6,j7,j8,j9,x0,x4,x5,x6,x7,x8,reduceCtorEq,↓reduceIte,hk0];rw[hY];rw[zgt];refine zbi (fun m o tm=>∃i:Nat,i<=k+1/\m=k+1 - i/\o[0]? = some (.box 35 (za5 (if i=0 then zbS else zbZ (hxL l 0) 0)))/\RowA 1 (if i=0 then [] else zbp (hxL l) (i - 1) s) o (tm[8]?.getD .u)/\tm.length=108/\tm[1]? = some (.row l.length (byA l))/\tm[2]? = some (.i .u8 c2.toNat)/\tm[6]? = some (.b false)/\tm[7]? = some (.i .i64 (k:Int))/\tm[9]? = some (.p 0 0)/\tm[10]? = some (.i .i64 (i:Int))) (k+1) ⟨0,Nat.zero_le _,rfl,rfl,.inl ⟨rfl,rfl⟩,rfl,rfl,rfl,rfl,rfl,rfl,rfl⟩ ?_;rintro m o tm ⟨i,hi,rfl,e0,hA,hlen,t1,t2,t6,t7,t9,t10⟩;have hol:=(qp.1 e0).1;refine zaj fun W hW=>?_
 by_cases hlt:(i:Int)<=(k:Int)
 ·have hi':i<=k:=by omega
  simp only[sxZ,z6,z7,z8,j4,j5,j6,j7,j8,j9,x0,x4,x5,x6,x7,x8,reduceCtorEq,↓reduceIte,zb,hlen,t7,t10,hlt];subst hW;refine zaj fun W hW=>?_;rw[zgt];refine zaj fun V hV=>?_;simp only[sxZ,z6,z7,z8,j4,j5,j6,j7,j8,j9,x0,x4,x5,x6,x7,x8,reduceCtorEq,↓reduceIte,zb,hlen,t10];have hw1:IntKind.u8.wrap (97+(i:Int))=(((UInt8.ofNat (97+i)).toNat:Nat):Int):=by
   rw[UInt8.toNat_ofNat']
   rfl
  rw[hw1];refine⟨by omega,zho [UInt8.ofNat (97+i)] 1 rfl ?_⟩;simp only[sxZ,z6,z7,z8,j4,j5,j6,j7,j8,j9,x0,x4,x5,x6,x7,x8,reduceCtorEq,↓reduceIte,gn1,sn1,zb,hlen,List.cons_append,List.nil_append];subst hV;refine zaj fun V hV=>?_;refine zei (fun o' t=>o'=o++[.box 35 (za5 (zbZ (hxL l i) i))]/\t.length=108/\t[1]? = some (.row l.length (byA l))/\t[2]? = some (.i .u8 c2.toNat)/\t[6]? = some (.b false)/\t[7]? = some (.i .i64 (k:Int))/\t[8]? = tm[8]?/\t[9]? = some (.p 0 0)/\t[10]? = some (.i .i64 (i:Int))/\t[11]? = some (.p o.length 0)) ?_ ?_
  ·by_cases hin:(i:Int)<(l.length:Int)
   ·simp only[sxZ,z6,z7,z8,j4,j5,j6,j7,j8,j9,x0,x4,x5,x6,x7,x8,reduceCtorEq,↓reduceIte,gn1,sn1,zb,hlen,t1,t10,hin,zaA];have hin':i<l.length:=by omega
    have hgv:(byA l)[i*1]? = some (.i .u8 ((l[i].toNat:Nat):Int)):=by rw[Nat.mul_one];simp[byA,List.getElem?_map,qj hin']
    have hhx:hxL l i=1+l[i].toNat % 3:=by unfold hxL;rw[qj hin']
    have hln:(byA l).length=l.length:=by simp[byA]
    generalize l[i]=c at hgv hhx;have hm3:((c.toNat:Int).tmod 3)=((c.toNat % 3:Nat):Int):=rfl;obtain⟨j,hj⟩:∃j,j=c.toNat % 3:=⟨_,rfl⟩;have hj3:j<3:=by omega
    rw[<-hj] at hm3 hhx;have hw2:IntKind.u8.wrap (97+(j:Int))=(((UInt8.ofNat (97+j)).toNat:Nat):Int):=by
     rw[UInt8.toNat_ofNat']
     rfl
    have hho:[104,UInt8.ofNat (97+j)]++exL=zhq (1+j):=by
     rcases j with _|_|_|j
     ·rfl
     ·rfl
     ·rfl
     ·omega
    refine⟨⟨by omega,by omega⟩,?_⟩;simp only[sxZ,z6,z7,z8,j4,j5,j6,j7,j8,j9,x0,x4,x5,x6,x7,x8,reduceCtorEq,↓reduceIte,gn1,sn1,zb,hlen,hgv,hm3,hw2];refine zho [104,UInt8.ofNat (97+j)] 2 rfl ?_;simp only[sxZ,z6,z7,z8,j4,j5,j6,j7,j8,j9,x0,x4,x5,x6,x7,x8,reduceCtorEq,↓reduceIte,gn1,sn1,zb,hlen,zaA,List.length_set];refine⟨?_,t1,t2,t6,t7,t9,t10⟩;unfold zbZ;rw[hhx,<-hho]
    rfl
   ·have hhx:hxL l i=0:=by unfold hxL;rw[List.getElem?_eq_none (by omega)]
    simp only[sxZ,z6,z7,z8,j4,j5,j6,j7,j8,j9,x0,x4,x5,x6,x7,x8,reduceCtorEq,↓reduceIte,gn1,sn1,zb,hlen,t1,t10,hin,zaA];refine⟨?_,t2,t6,t7,t9⟩;unfold zbZ;rw[hhx]
    rfl
  ·rintro o2 tn ⟨rfl,hlen2,s1,s2,s6,s7,s8,s9,s10,s11⟩;obtain⟨a8,ha8⟩:∃a,tm[8]? = some a:=⟨_,qj (by omega)⟩;rw[ha8,qt] at hA;rw[ha8] at s8;clear ha8 hlen t1 t2 t6 t7 t9 t10;subst hV;refine zaj fun V hV=>?_;refine zei (fun o' t=>o'[0]? = some (.box 35 (za5 (zbZ (hxL l 0) 0)))/\RowA 1 (zj5 (hxL l) s i) o' (t[8]?.getD .u)/\o'[o.length]? = some (.box 35 (za5 (zbZ (hxL l i) i)))/\t.length=108/\t[1]? = some (.row l.length (byA l))/\t[2]? = some (.i .u8 c2.toNat)/\t[6]? = some (.b false)/\t[7]? = some (.i .i64 (k:Int))/\t[9]? = some (.p 0 0)/\t[10]? = some (.i .i64 (i:Int))/\t[11]? = some (.p o.length 0)) ?_ ?_
   ·rcases Nat.eq_zero_or_pos i with h0|h0
    ·subst h0;rw[if_pos rfl] at e0 hA;have hg0:∀z:List OB,(o++z)[0]? = o[0]?:=fun z=>zu hol;have hs0:∀(z:List OB) (x:OB),(o++z).set 0 x=o.set 0 x++z:=fun z x=>List.set_append_left _ _ hol;have h00:((0:Nat):Int)=0:=rfl;simp only[sxZ,z6,z7,z8,j4,j5,j6,j7,j8,j9,x0,x4,x5,x6,x7,x8,reduceCtorEq,↓reduceIte,za5,h00,gn1,sn1,hg0,hs0,e0,zb,hlen2,s7,s8,s9,s10,s11,zaA];refine⟨?_,?_,?_,s1,s2,s6⟩
     ·rw[zu (by simpa using hol),qc hol]
     ·exact RowA.tr hA fun j h1 h2=>by rw[zu (by simpa using h2),zo (by omega)]
     ·rw[gk0 (by simp)];rfl
    ·have hi0:¬(i:Int)=0:=by omega
     rw[if_neg (by omega)] at e0 hA;have hcode:[AV.i IntKind.i64 301,AV.i IntKind.i64 302,AV.i IntKind.i64 303,AV.i IntKind.i64 307,AV.i IntKind.i64 308][s*1]? = some (.i .i64 (zfa s)):=by
      rcases s with _|_|_|_|_|s
      ·rfl
      ·rfl
      ·rfl
      ·rfl
      ·rfl
      ·omega
     have hcd0:0<=zfa s/\zfa s<=1000:=by unfold zfa;split<;>omega
     have hshu:zbk (zbZ (hxL l i) i):=by
      have:(zhq (hxL l i)).length<=100:=by unfold zhq;split<;>simp[exL]
      simp only[zbk,zbZ,ze,zk];omega
     have hfm:(zcz (zbZ (hxL l i) i)).length<=4096:=(zea (hxL_lt l i) (by omega)).len;have hfo:=fun (o:List OB) (K':List OB->AV->Prop)=>zlD (objs:=o) (K:=K') (zbZ (hxL l i) i) hshu;unfold zaM at hfo;simp only[sxZ,z6,z7,z8,j4,j5,j6,j7,j8,j9,x0,x4,x5,x6,x7,x8,reduceCtorEq,↓reduceIte,za5,hi0,gn1,sn1,zb,hlen2,s2,s7,s8,s9,s10,s11,hst,hcode,zaA];refine⟨by omega,by omega,?_⟩;refine zbs (hfo _ _ ⟨rfl,rfl⟩) ?_;simp only[sxZ,z6,z7,z8,j4,j5,j6,j7,j8,j9,x0,x4,x5,x6,x7,x8,reduceCtorEq,↓reduceIte,za5,hi0,gn1,sn1,zb,hlen2,s2,s7,s8,s9,s10,s11,hst,hcode,zaA];refine zbs (zkh zkH (zfa s) [] [] [(zjf,zcz (zbZ (hxL l i) i))] false hcd0.1 hcd0.2 (by simp) (by simp) (by simp) (by simp[zjf];omega) ⟨rfl,rfl⟩) ?_;rw[show zm7 (zfa s) [] [] [(zjf,zcz (zbZ (hxL l i) i))] false=rawX s (hxL l i) i from rfl];have hcl:(zbp (hxL l) (i - 1) s).length=i:=by simp[zbp];omega
     rcases hA with ⟨h9,_⟩|⟨r,g,rfl,hr0,hr⟩
     ·rw[h9] at hcl;simp at hcl;omega
     have hrl:=(qp.1 hr).1;rw[hcl] at hr;have hgr:∀z:List OB,(o++z)[r]? = some (.orow 33 7 g i (zaI (zbp (hxL l) (i - 1) s))):=fun z=>by rw[zu hrl,hr]
     have hsr:∀(z:List OB) (x:OB),(o++z).set r x=o.set r x++z:=fun z x=>List.set_append_left _ _ hrl;have hac:=zct (zbp (hxL l) (i - 1) s);rw[hcl] at hac;have hin1:((i:Int) - 1).toNat=i - 1:=by omega
     have hi1:(0:Int)<=(i:Int) - 1/\(i:Int) - 1<(i:Int):=by omega
     simp only[sxZ,z6,z7,z8,j4,j5,j6,j7,j8,j9,x0,x4,x5,x6,x7,x8,reduceCtorEq,↓reduceIte,gn1,sn1,hgr,hsr,hin1,hi1,zb,hlen2,s2,s7,s8,s9,s10,s11,zaA];refine⟨by omega,?_,?_,?_,s1,s6⟩
     ·rw[zu (by simpa using hol),zo (by omega),e0];rfl
     ·refine .inr ⟨r,g,rfl,hr0,?_⟩;rw[zu (by simpa using hrl),qc hrl,zhe,ziG,zpi,<-Nat.sub_add_cancel h0,pre_succ,Nat.sub_add_cancel h0]
     ·rw[gk0 (by simp)];rfl
   ·clear hA s1 s2 s6 s7 s8 s9 s10 s11 hlen2 tn;rintro o3 tn ⟨f0,hA,fi,hlen2,s1,s2,s6,s7,s9,s10,s11⟩;obtain⟨a8,s8⟩:∃a,tn[8]? = some a:=⟨_,qj (by omega)⟩;rw[s8,qt] at hA;subst hV;have hol3:=(qp.1 f0).1;unfold za5 at fi;have hput:∀(o':List OB) (X:AV),RowA 1 (zj5 (hxL l) s i++[zih (hxL l) i zi8]) o' X->RowA 1 (if i+1=0 then [] else zbp (hxL l) (i+1 - 1) s) o' X:=fun o' X h=>by
     rw[if_neg (by omega),xl,ziG];exact h
    have hfst:∀o':List OB,o'[0]? = some (.box 35 (za5 (zbZ (hxL l 0) 0)))->o'[0]? = some (.box 35 (za5 (if i+1=0 then zbS else zbZ (hxL l 0) 0))):=fun o' h=>by
     rw[if_neg (by omega)];exact h
    have hplen:=zhe (hxL l) s i;simp only[sxZ,z6,z7,z8,j4,j5,j6,j7,j8,j9,x0,x4,x5,x6,x7,x8,reduceCtorEq,↓reduceIte,zb,hlen2,s8,s11,fi];refine zbs (zf4 [_,_,_] (zkh zkH 200 [] zhx [] false (by omega) (by omega) (by simp) (by simp[zhx]) (by simp) (by simp) ⟨rfl,rfl⟩)) ?_;rw[show zm7 200 [] zhx [] false=zi8 from rfl];rcases hA with ⟨h9,rfl⟩|⟨r,g,rfl,hr0,hr⟩
    ·simp only[sxZ,z6,z7,z8,j4,j5,j6,j7,j8,j9,x0,x4,x5,x6,x7,x8,reduceCtorEq,↓reduceIte,zb,hlen2,s8,s11,s10,fi];subst hW;simp only[sxZ,z6,z7,z8,j4,j5,j6,j7,j8,j9,x0,x4,x5,x6,x7,x8,reduceCtorEq,↓reduceIte,zb,hlen2,s8,s11,s10,fi];refine⟨by omega,k+1 - (i+1),by omega,i+1,by omega,rfl,hfst _ ?_,hput _ _ ?_,s1,s2,s6,s7,s9,rfl⟩
     ·rw[zu hol3,f0]
     ·rw[h9];exact .inr ⟨_,0,rfl,by omega,gn1 _ _⟩
    ·have hrl:=(qp.1 hr).1;rw[hplen] at hr;have hac:=zct (zj5 (hxL l) s i);simp only[sxZ,z6,z7,z8,j4,j5,j6,j7,j8,j9,x0,x4,x5,x6,x7,x8,reduceCtorEq,↓reduceIte,zb,hlen2,s8,s11,s10,fi,hr];refine⟨⟨by omega,by omega⟩,?_⟩;subst hW;simp only[sxZ,z6,z7,z8,j4,j5,j6,j7,j8,j9,x0,x4,x5,x6,x7,x8,reduceCtorEq,↓reduceIte,zb,hlen2,s8,s11,s10,fi];refine⟨by omega,k+1 - (i+1),by omega,i+1,by omega,rfl,?_,hput _ _ ?_,s1,s2,s6,s7,s9,rfl⟩
     ·rw[if_neg (show ¬r=0 by omega),if_neg (show ¬i+1=0 by omega),f0]
     ·refine .inr ⟨r,g+1,rfl,hr0,?_⟩;rw[qc hrl,List.length_append,hplen,zcG]
      rfl
 ·have hin:i=k+1:=by omega
  subst hin;rw[if_neg (by omega)] at e0 hA;rw[xl] at hA;simp only[sxZ,z6,z7,z8,j4,j5,j6,j7,j8,j9,x0,x4,x5,x6,x7,x8,reduceCtorEq,↓reduceIte,zb,hlen,t7,t10,hlt];subst hZ;have hcl:(zbp (hxL l) k s).length=k+1:=by simp[zbp]
  rcases hA with ⟨h9,_⟩|⟨r,g,h8,hr0,hr⟩
  ·rw[h9] at hcl;simp at hcl
  have t8:tm[8]? = some (.orow r g):=by
   rw[qj (by omega),qt] at h8;rw[qj (by omega),h8]
  unfold za5 at e0;simp only[sxZ,z6,z7,z8,j4,j5,j6,j7,j8,j9,x0,x4,x5,x6,x7,x8,reduceCtorEq,↓reduceIte,zb,hlen,t8,t9,e0];have hhx:=hxL_lt l;have hsh:zbk (zbZ (hxL l 0) 0):=zgj _ _;have hrun:=fun (o:List OB) (K':List OB->AV->Prop) (hk:K' o (.tup [.agg (zi7 (zgd (hxL l) k s (min k 5+1))),.i .i64 (zgd (hxL l) k s (min k 5+1)).e]))=>fRun_k (objs:=o) (K:=K') (zbp (hxL l) k s) 0 (zbZ (hxL l 0) 0) (min k 5+1) (zgd (hxL l) k s) (by omega) (zl8 hhx hs5 hk8) hsh rfl (fun i _=>rfl) (way_done hhx hs5 hk8) (fun i hi=>way_good hhx hs5 hk8 hi) hk;unfold zaM at hrun;refine zal (zd6 _ hr (zdP _) rfl ?_ (hrun _ _ rfl));obtain⟨d1,d2,d3⟩:=way_end hhx hs5 hk8
  by_cases c5:5<k
  ·have c5':(5:Int)<(k:Int):=by omega
   rw[if_pos c5] at d1 d2 d3;have h6:((6:Nat):Int)=6:=rfl;simp only[zb0,zdU,zi7,d1,d2,d3,c5',h6,gn1,sn1,sxZ,z6,z7,z8,j4,j5,j6,j7,j8,j9,x0,x4,x5,x6,x7,x8,reduceCtorEq,↓reduceIte,zb,hlen,t7]
  ·have c5':¬(5:Int)<(k:Int):=by omega
   rw[if_neg c5] at d1 d2 d3;have hk1:((k+1:Nat):Int)=(k:Int)+1:=by omega
   simp only[zb0,zdU,zi7,d1,d2,d3,c5',hk1,zhx,gn1,sn1,sxZ,z6,z7,z8,j4,j5,j6,j7,j8,j9,x0,x4,x5,x6,x7,x8,reduceCtorEq,↓reduceIte,zb,hlen,t7];exact⟨by omega,by omega⟩
theorem fetchHops_c [Shp Tryz.prog] [Pow Tryz.prog] (n0:Int) (w0:(Lit.int .u8 n0).wf=true) (g1:List (List AV)) (w1:g1.length<=140737488351232) (h1:∀g∈g1,ShT (.i .u8) g) (n2:Int) (w2:(Lit.int .u8 n2).wf=true) :
  zaa Tryz.prog 8 [.i .u8 n0,.row g1.length g1.flatten,.i .u8 n2] [] (fun _ r=>r=.b true):=by
 obtain⟨l,e1,e2⟩:=sl_u8 h1;rw[e1,e2];exact zjp n0 w0 l (e2▸w1) n2 w2
end
end
def brnT:List Int:=[0,1,56,2,57,49,28,3,61,58,42,50,38,29,17,4,62,47,59,36,45,43,51,22,53,39,33,30,24,18,12,5,63,55,48,27,60,41,37,16,46,35,44,21,52,32,23,11,54,26,40,15,34,20,31,10,25,14,19,9,13,8,7,6]
theorem brn_of {w : World} (h : Lib.TabIs Tryz.prog w "math/bits.deBruijn64tab" .u8 brnT) : w.cell? ⟨5, 15, none⟩ = some (.int .u8 4) := h.cell (by kernel_rfl) 15 (by decide)
instance (priority := high) tabsB : Tabs Tryz.prog := ⟨fun w => w.ShapedOpen Tryz.prog ∧ Lib.TabIs Tryz.prog w "internal/strconv.uint64pow10" .u64 Lib.pow10Tab ∧ Lib.TabIs Tryz.prog w "math/bits.deBruijn64tab" .u8 brnT, fun _ _ h hk _ => ⟨zfC h.1 hk, zeA h.2.1 hk, zeA h.2.2 hk⟩⟩
instance (priority:=high) tabsB_shp:Shp Tryz.prog:=⟨fun _ h=>h.1⟩
instance (priority:=high) tabsB_pow:Pow Tryz.prog:=⟨fun _ h=>h.2.1⟩
instance (priority:=high) tabsB_brn:Brn Tryz.prog:=⟨fun _ h=>brn_of h.2.2⟩
end Go.Proofs.YtomkbafdmbfmfaaGreatDoor
