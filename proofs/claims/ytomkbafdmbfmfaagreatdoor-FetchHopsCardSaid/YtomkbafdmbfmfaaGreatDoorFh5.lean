/- The texts that the proofs of these statements reach, in their order, as few files. -/
import Derived.Lib.Split
import Derived.Lib.IndexMore
import Derived.Lib.Builder
import Derived.Lib.UnsafeStr
import Derived.Shelf.RegionOpenPlain
import Derived.Laws.Externs
import Derived.Lib.SplitLaws
import Derived.Lib.Join
import Derived.Test.YtomkbafdmbfmfaaGreatDoorProg
import Derived.Test.YtomkbafdmbfmfaaGreatDoorFh4
set_option linter.unusedVariables false
set_option linter.unusedSimpArgs false
set_option maxRecDepth 100000
namespace Go.Proofs.YtomkbafdmbfmfaaGreatDoor
open Nat renaming reduceAdd -> z6, reduceSub -> z7, reduceLeDiff -> z8, reduceLT -> j4, reduceMul -> j5, reduceEqDiff -> j6
open Int renaming reduceToNat -> j7, reduceAdd -> j8, reduceSub -> j9, reduceMul -> x0, reduceNeg -> x4, reduceLT -> x5, reduceLE -> x6, reduceEq -> x7, reduceNe -> x8
open Go.RowKit Sx
open Int renaming toNat_natCast->ql
open Lib renaming index->jf, split->qd
open List renaming append_assoc->zi, append_nil->qw, dropWhile_cons->xg, dropWhile_sublist->xn, drop_drop->ji, drop_eq_getElem_cons->qz, drop_length->xe, getElem?_append_left->zu, getElem?_set->zb, getElem_mem->jt, length_append->zg, length_cons->ze, length_drop->zv, length_map->qy, length_nil->zk, length_take->qi, map_append->jz, map_congr_left->xj, map_cons->zt, mem_cons->qo, mem_cons_of_mem->qx, mem_cons_self->jd, mem_filter->jl, take_append_drop->x9, take_of_length_le->jg
open Nat renaming le_refl->zd, le_trans->jj
def zep (s:List UInt8):Option (List UInt8×List UInt8) :=
 if (zaB 58 s).2.2=true/\zeU (zaB 58 s).1=true/\zfu (zaB 58 s).2.1=true then some (zbm (zaB 58 s).1,zbD (zaB 58 s).2.1) else none
def zfW:Option (List UInt8×List UInt8)->AV
 | some (n,v)=>.tup [.agg [.s n,.s v],.b true]
 | none=>.tup [.agg [.s [],.s []],.b false]
def zeB (s:List UInt8):Option (Nat×Nat) :=
 if (zbe zaf 10 599 (zaB 32 (zaB 32 s).2.1).1).1=0/\(zaB 32 (zaB 32 s).2.1).1.length=3/\100<=(zbe zaf 10 599 (zaB 32 (zaB 32 s).2.1).1).2/\(zaB 32 (zaB 32 s).2.1).2.2=true/\zfu (zaB 32 (zaB 32 s).2.1).2.1=true then
  (if (zaB 32 s).1=[72,84,84,80,47,49,46,48] then some (0,(zbe zaf 10 599 (zaB 32 (zaB 32 s).2.1).1).2)
  else if (zaB 32 s).1=[72,84,84,80,47,49,46,49] then some (1,(zbe zaf 10 599 (zaB 32 (zaB 32 s).2.1).1).2) else none)
 else none
def zg2:Option (Nat×Nat)->AV
 | some (m,n)=>.tup [.agg [.i .i64 m,.i .i64 n,.nil],.b true]
 | none=>.tup [.agg [.i .i64 0,.i .i64 0,.nil],.b false]
section
variable [Tabs Tryz.prog] {objs:List OB} {K:List OB->AV->Prop}
theorem zkL (s:List UInt8) (hs:s.length<=140737488351232) (hk:K objs (.s (zbm s))):zaa Tryz.prog 120 [.s s] objs K :=
 conv (vs:=[.string (S s)]) rfl rfl (fun w=>zga (S s) w (by rw[zap];exact hs)) hk
theorem zjl (s:List UInt8) (hs:s.length<=maxLen) (hk:K objs (.s (zbD s))):zaa Tryz.prog 184 [.s s] objs K :=
 zjx (vs:=[.string (S s)]) rfl rfl (fun w=>Trim_any (S s) w (by rw[zap];exact hs)) hk
theorem hIndex_k [Shp Tryz.prog] (s p:List UInt8) (hs:s.length<=1000000) (hk:K objs (.i .i64 (jf s p))):zaa Tryz.prog 113 [.s s,.s p] objs K :=
 convT (vs:=[.string (S s),.string (S p)]) rfl rfl (fun w hT=>(Tryz.strings_Index_shaped (S s) (S p) w (Shp.sh w hT) (by rw[zap];omega)).mono fun e w' h=>⟨h.1,by rw[h.2];exact Qb.refl w⟩) hk
theorem ze1 (s:List UInt8) (hs:s.length<=1000000) (hk:K objs (zfW (zep s))):zaa Tryz.prog 116 [.s s] objs K:=by
 refine zaR is_head_headerLine rfl fun C _=>?_;have hm:maxLen=2 ^ 63 - 1:=rfl;obtain⟨l1,l2⟩:=zbo 58 s;simp only[c_head_headerLine,sxZ,z6,z7,z8,j4,j5,j6,j7,j8,j9,x0,x4,x5,x6,x7,x8,reduceCtorEq,↓reduceIte];refine zal (zmI s 58 (by omega) ?_);unfold zep at hk
 by_cases c1:(zaB 58 s).2.2=true
 ·simp only[c1,sxZ,z6,z7,z8,j4,j5,j6,j7,j8,j9,x0,x4,x5,x6,x7,x8,reduceCtorEq,↓reduceIte];refine zal (fToken_k _ (by omega) ?_)
  by_cases c2:zeU (zaB 58 s).1=true
  ·simp only[c2,sxZ,z6,z7,z8,j4,j5,j6,j7,j8,j9,x0,x4,x5,x6,x7,x8,reduceCtorEq,↓reduceIte];refine zal (zoH _ (by omega) ?_)
   by_cases c3:zfu (zaB 58 s).2.1=true
   ·rw[if_pos ⟨c1,c2,c3⟩] at hk;simp only[c3,sxZ,z6,z7,z8,j4,j5,j6,j7,j8,j9,x0,x4,x5,x6,x7,x8,reduceCtorEq,↓reduceIte];refine zal (zkL _ (by omega) ?_);simp only[sxZ,z6,z7,z8,j4,j5,j6,j7,j8,j9,x0,x4,x5,x6,x7,x8,reduceCtorEq,↓reduceIte];refine zal (zjl _ (by omega) ?_);simp only[sxZ,z6,z7,z8,j4,j5,j6,j7,j8,j9,x0,x4,x5,x6,x7,x8,reduceCtorEq,↓reduceIte];exact hk
   ·rw[if_neg (fun h=>c3 h.2.2)] at hk;simp only[Bool.not_eq_true] at c3;simp only[c3,sxZ,z6,z7,z8,j4,j5,j6,j7,j8,j9,x0,x4,x5,x6,x7,x8,reduceCtorEq,↓reduceIte];exact hk
  ·rw[if_neg (fun h=>c2 h.2.1)] at hk;simp only[Bool.not_eq_true] at c2;simp only[c2,sxZ,z6,z7,z8,j4,j5,j6,j7,j8,j9,x0,x4,x5,x6,x7,x8,reduceCtorEq,↓reduceIte];exact hk
 ·rw[if_neg (fun h=>c1 h.1)] at hk;simp only[Bool.not_eq_true] at c1;simp only[c1,sxZ,z6,z7,z8,j4,j5,j6,j7,j8,j9,x0,x4,x5,x6,x7,x8,reduceCtorEq,↓reduceIte];exact hk
theorem zhV (s:List UInt8) (hs:s.length<=1000000) (hk:K objs (zg2 (zeB s))):zaa Tryz.prog 115 [.s s] objs K:=by
 refine zaR is_head_statusLine rfl fun C _=>?_;have hm:maxLen=2 ^ 63 - 1:=rfl;obtain⟨l1,l2⟩:=zbo 32 s;obtain⟨l3,l4⟩:=zbo 32 (zaB 32 s).2.1;have hb:=zff zaf 10 599 (zaB 32 (zaB 32 s).2.1).1;unfold zeB at hk;simp only[c_head_statusLine,sxZ,z6,z7,z8,j4,j5,j6,j7,j8,j9,x0,x4,x5,x6,x7,x8,reduceCtorEq,↓reduceIte];refine zal (zmI s 32 (by omega) ?_);simp only[sxZ,z6,z7,z8,j4,j5,j6,j7,j8,j9,x0,x4,x5,x6,x7,x8,reduceCtorEq,↓reduceIte];refine zal (zmI _ 32 (by omega) ?_);simp only[sxZ,z6,z7,z8,j4,j5,j6,j7,j8,j9,x0,x4,x5,x6,x7,x8,reduceCtorEq,↓reduceIte];generalize (zaB 32 s).1=v at hk ⊢;generalize zaB 32 (zaB 32 s).2.1=d at hk hb l3 l4 ⊢;refine zal (zke d.1 599 (by omega) (by omega) ?_)
 by_cases c1:(zbe zaf 10 599 d.1).1=0
 ·by_cases c2:(d.1.length:Int)=3
  ·by_cases c3:(100:Int)<=((zbe zaf 10 599 d.1).2:Nat)
   ·by_cases c4:d.2.2=true
    ·simp only[c1,c2,c3,c4,sxZ,z6,z7,z8,j4,j5,j6,j7,j8,j9,x0,x4,x5,x6,x7,x8,reduceCtorEq,↓reduceIte];refine zal (zoH _ (by omega) ?_)
     by_cases c5:zfu d.2.1=true
     ·rw[if_pos ⟨c1,by omega,by omega,c4,c5⟩] at hk
      by_cases c6:v=[72,84,84,80,47,49,46,48]
      ·rw[if_pos c6] at hk;have hw:IntKind.i64.wrap ((zbe zaf 10 599 d.1).2:Nat)=((zbe zaf 10 599 d.1).2:Nat):=IntWalk.i64_in _ (by omega);simp only[c5,c6,hw,sxZ,z6,z7,z8,j4,j5,j6,j7,j8,j9,x0,x4,x5,x6,x7,x8,reduceCtorEq,↓reduceIte];exact hk
      ·rw[if_neg c6] at hk
       by_cases c7:v=[72,84,84,80,47,49,46,49]
       ·rw[if_pos c7] at hk;have hw:IntKind.i64.wrap ((zbe zaf 10 599 d.1).2:Nat)=((zbe zaf 10 599 d.1).2:Nat):=IntWalk.i64_in _ (by omega);subst c7;simp only[c5,c6,hw,sxZ,z6,z7,z8,j4,j5,j6,j7,j8,j9,x0,x4,x5,x6,x7,x8,reduceCtorEq,↓reduceIte];exact hk
       ·rw[if_neg c7] at hk;simp only[c5,c6,c7,sxZ,z6,z7,z8,j4,j5,j6,j7,j8,j9,x0,x4,x5,x6,x7,x8,reduceCtorEq,↓reduceIte];exact hk
     ·rw[if_neg (fun h=>c5 h.2.2.2.2)] at hk;simp only[Bool.not_eq_true] at c5;simp only[c5,sxZ,z6,z7,z8,j4,j5,j6,j7,j8,j9,x0,x4,x5,x6,x7,x8,reduceCtorEq,↓reduceIte];exact hk
    ·rw[if_neg (fun h=>c4 h.2.2.2.1)] at hk;simp only[Bool.not_eq_true] at c4;simp only[c1,c2,c3,c4,sxZ,z6,z7,z8,j4,j5,j6,j7,j8,j9,x0,x4,x5,x6,x7,x8,reduceCtorEq,↓reduceIte];exact hk
   ·rw[if_neg (fun h=>c3 (by have:=h.2.2.1;omega))] at hk;simp only[c1,c2,c3,sxZ,z6,z7,z8,j4,j5,j6,j7,j8,j9,x0,x4,x5,x6,x7,x8,reduceCtorEq,↓reduceIte];exact hk
  ·rw[if_neg (fun h=>c2 (by have:=h.2.1;omega))] at hk;simp only[c1,c2,sxZ,z6,z7,z8,j4,j5,j6,j7,j8,j9,x0,x4,x5,x6,x7,x8,reduceCtorEq,↓reduceIte];exact hk
 ·rw[if_neg (fun h=>c1 h.1)] at hk;simp only[c1,sxZ,z6,z7,z8,j4,j5,j6,j7,j8,j9,x0,x4,x5,x6,x7,x8,reduceCtorEq,↓reduceIte];exact hk
end
section
variable [Tabs Tryz.prog] {objs:List OB} {K:List OB->AV->Prop}
end
theorem zmx (G:Gh) (I:Imm):∀l:List (List UInt8),zac G I (l.map .s) (sv l)
 | []=>zac.nil
 | x::l=>by
  show zac G I (AV.s x::l.map .s) (.string (S x)::sv l);exact zac.cons (by simp[Den]) (zmx G I l)
section
variable [Tabs Tryz.prog] {objs:List OB} {K:List OB->AV->Prop}
end
theorem zfT {α:Type} {l:List α} {b:Nat} {x:α} (h:l[b]? = some x):b<l.length:=by
 rcases Nat.lt_or_ge b l.length with h0|h0
 ·exact h0
 ·rw[List.getElem?_eq_none h0] at h;cases h
theorem set_same {α:Type} {l:List α} {b:Nat} {x:α} (h:l[b]? = some x):l.set b x=l:=by
 apply List.ext_getElem?
 intro i;rw[zb]
 split
 ·rename_i e;subst e;rw[if_pos (zfT h),h]
 ·rfl
section
variable [Tabs Tryz.prog] {objs:List OB} {K:List OB->AV->Prop}
end
theorem zjn {w w':World} (h:w.grownBy w' none) (o:Obj) (row:Option Nat):w.grownBy (w'.alloc o) row :=
 ⟨h.os,h.tape,h.output,by simp;have:=h.size;omega,fun k hk _=>(Below.heap_alloc w' o k (Nat.lt_of_lt_of_le hk h.size)).trans (h.block k hk (by simp))⟩
def zmf (objs:List OB) (b:Nat) (T:TypeId) (l:List UInt8):Prop :=
 (objs[b]? = some (.box T [.o (.pointer none),.nil])/\l=[])\/∃r gen,objs[b]? = some (.box T [.p b 0,.orow r gen])/\objs[r]? = some (.orow 5 1 gen l.length (byA l))
def zh2 (objs:List OB) (b:Nat):Option Nat :=
 match objs[b]? with
 | some (.box _ [_,.orow r _])=>some r
 | _=>none
def Kept (objs:List OB) (b:Nat) (objs':List OB):Prop:=objs.length<=objs'.length/\(∀(j:Nat) ob,objs[j]? = some ob->j≠b->zh2 objs b≠some j->objs'[j]? = some ob/\zh2 objs' b≠some j)
theorem Kept.refl (objs:List OB) (b:Nat):Kept objs b objs:=⟨zd _,fun j ob h _ h2=>⟨h,h2⟩⟩
theorem Kept.trans {o1 o2 o3:List OB} {b:Nat} (h:Kept o1 b o2) (k:Kept o2 b o3):Kept o1 b o3 :=
 ⟨jj h.1 k.1,fun j ob h1 h2 h3=>by
  obtain⟨a1,a2⟩:=h.2 j ob h1 h2 h3;exact k.2 j ob a1 h2 a2⟩
theorem zmf.lt {objs:List OB} {b:Nat} {T:TypeId} {l:List UInt8} (h:zmf objs b T l):b<objs.length/\∀r,zh2 objs b=some r->r<objs.length:=by
 rcases h with ⟨h,_⟩|⟨r,gen,h,h2⟩
 ·refine⟨zfT h,fun r hr=>?_⟩;unfold zh2 at hr;rw[h] at hr;cases hr
 ·refine⟨zfT h,fun r' hr=>?_⟩;unfold zh2 at hr;rw[h] at hr;injection hr with hr;subst hr;exact zfT h2
theorem zmf.app {objs:List OB} {b:Nat} {T:TypeId} {l:List UInt8} (h:zmf objs b T l) (more:List OB):zmf (objs++more) b T l/\zh2 (objs++more) b=zh2 objs b:=by
 have hlt:=h.lt.1;have e:(objs++more)[b]? = objs[b]?:=zu hlt;refine⟨?_,by unfold zh2;rw[e]⟩;rcases h with ⟨h,h2⟩|⟨r,gen,h,h2⟩
 ·exact .inl ⟨by rw[e];exact h,h2⟩
 ·exact .inr ⟨r,gen,by rw[e];exact h,by rw[zu (zfT h2)];exact h2⟩
theorem Kept.drop {objs more objs':List OB} {b:Nat} {T:TypeId} {l:List UInt8} (h:zmf objs b T l) (k:Kept (objs++more) b objs'):Kept objs b objs':=by
 refine⟨by have:=k.1;simp at this;omega,fun j ob h1 h2 h3=>k.2 j ob (by rw[zu (zfT h1)];exact h1) h2 (by rw[(h.app more).2];exact h3)⟩
theorem zgN (a b:List UInt8):byA (a++b)=byA a++byA b:=by simp[byA]
section
variable [Tabs Tryz.prog] {objs:List OB} {K:List OB->AV->Prop}
end
def zcs:List UInt8:=[13,10]
theorem ziY {t:List UInt8} (h:jf t zcs=-1):qd t zcs=[t]:=by
 unfold qd;rw[Lib.count_miss h];rfl
theorem zlx {t:List UInt8} {k:Nat} (h:jf t zcs=k):qd t zcs=t.take k::qd (t.drop (k+2)) zcs:=by
 unfold qd;rw[Lib.count_hit (by simp[zcs]) h,Nat.add_comm];show (if (jf t zcs==-1)=true then _ else _)=_;rw[h,if_neg (by simp)]
 rfl
theorem zol {t:List UInt8} {k:Nat} (h:jf t zcs=k):k+2<=t.length/\t=t.take k++13::10::t.drop (k+2)/\jf (t.take k) zcs=-1:=by
 have hr:=Lib.index_room t zcs (by omega);rw[h] at hr;have hl:k+2<=t.length:=by
  have:zcs.length=2:=rfl;omega
 rcases Lib.index_spec t zcs with ⟨h1,_⟩|⟨i,h1,h2,h3,h4⟩
 ·omega
 obtain rfl:i=k:=by omega
 refine⟨hl,?_,?_⟩
 ·rw[Lib.occAt_iff_take t zcs i hl] at h3;have e:=beq_iff_eq.1 h3
  conv=>lhs;rw[<-x9 i t,<-x9 2 (t.drop i),show (t.drop i).take 2=[13,10] from e,ji]
  rfl
 ·refine Lib.index_none fun j hj=>?_
  cases ho:Lib.occAt (t.take i) zcs j with
  | false=>rfl
  | true=>
   rcases Lib.occAt_room ho with h5|h5
   ·have hl2:j+2<=(t.take i).length:=h5;rw[qi] at hl2;have h6:=h4 j (by omega);rw[Lib.occAt_iff_take t zcs j (by have:zcs.length=2:=rfl;omega)] at h6;rw[Lib.occAt_iff_take _ zcs j h5,List.drop_take,List.take_take,show min zcs.length (i - j)=zcs.length by have:zcs.length=2:=rfl;omega,h6] at ho;exact ho.symm
   ·cases h5
theorem zcW:∀(n:Nat) (t:List UInt8),t.length<=n->((qd t zcs).flatMap (·++zcs)=t++zcs)/\(∀x∈qd t zcs,jf x zcs=-1)
 | n,t,hn=>by
  rcases Lib.index_spec t zcs with ⟨h1,_⟩|⟨k,h1,_⟩
  ·rw[ziY h1];exact⟨by simp,by simpa using h1⟩
  ·obtain⟨h2,h3,h4⟩:=zol h1
   match n,hn with
   | 0,hn=>omega
   | n+1,hn=>
    obtain⟨i1,i2⟩:=zcW n (t.drop (k+2)) (by rw[zv];omega);rw[zlx h1,List.flatMap_cons,i1];refine⟨?_,?_⟩
    ·conv=>rhs;rw[h3]
     simp[zcs]
    ·intro x hx;rcases qo.1 hx with rfl|hx
     ·exact h4
     ·exact i2 x hx
theorem zhW (p s:List UInt8):(Lib.splitB (S p) 0 (Lib.countB (S s) (S p)) (S s)).map Value.string=sv (qd s p):=by
 have h:(Lib.splitB (S p) 0 (Lib.countB (S s) (S p)) (S s)).map (·.data.toList)=qd s p:=Lib.splitB_data (S p) 0 (Lib.countB (S s) (S p)) (S s);rw[<-h];unfold sv;rw[List.map_map]
 apply xj
 intro x _;simp[S]
theorem zlw (p s:List UInt8) (hp:1<=p.length):Lib.countB (S s) (S p)+1=(qd s p).length:=by
 have h:(Lib.splitB (S p) 0 (Lib.countB (S s) (S p)) (S s)).map (·.data.toList)=qd s p:=Lib.splitB_data (S p) 0 (Lib.countB (S s) (S p)) (S s);rw[<-h,qy,Lib.splitB_all (S p) (by rw[zap];exact hp) 0 _ _ rfl]
section
variable [Tabs Tryz.prog] {objs:List OB} {K:List OB->AV->Prop}
theorem zkK [Shp Tryz.prog] (s p:List UInt8) (hp:1<=p.length) (hs:s.length<=1000000) (hk:K objs (.row (qd s p).length ((qd s p).map .s))):zaa Tryz.prog 114 [.s s,.s p] objs K:=by
 intro C _ G I w hin hm ys hd;have hT:=hin.tab (P:=Tryz.prog);rw[(zb7 G I [.s s,.s p] [.string (S s),.string (S p)] rfl ys).1 hd];refine(Tryz.strings_Split_shaped (S s) (S p) w (Shp.sh w hT) (by rw[zap];omega) (by rw[zap];exact hp)).mono ?_;rintro e w' ⟨rfl,rfl⟩;have hn:=zlw p s hp;have hc:=zhW p s;have hg:w.grownBy (w.alloc (.cells ((Lib.splitB (S p) 0 (Lib.countB (S s) (S p)) (S s)).map Value.string).toArray 9)) none:=zjn (World.grownBy.refl w _) _ _;obtain⟨I',s1,s2,s3,s4⟩:=zid hin hm hg w.heap.size (qd s p).length (qd s p).length ((qd s p).map .s) (sv (qd s p)) (zd _) (zd _) (zmx G I _) (sv_one _) (fun j u hj=>by
  rw[World.cell?_alloc_new,hc];simpa using hj)
 rw[hn];exact⟨_,objs,.row (qd s p).length ((qd s p).map .s),G,I',rfl,hk,Gh.le.refl G,s1,s2,s3,s4⟩
end
def zaS (l:List (List UInt8×List UInt8)):List AV:=l.flatMap fun p=>[.s p.1,.s p.2]
theorem zdJ (l:List (List UInt8×List UInt8)):(zaS l).length=l.length*2:=by
 induction l with
 | nil=>rfl
 | cons p l ih=>simp[zaS] at ih ⊢;omega
theorem zjq (l:List (List UInt8×List UInt8)) (p:List UInt8×List UInt8):zaS (l++[p])=zaS l++[.s p.1,.s p.2]:=by simp[zaS]
def zeo (l:List (List UInt8×List UInt8)):AV:=if l=[] then .nil else .row l.length (zaS l)
def zcp:List (List UInt8)->List (List UInt8×List UInt8)->Int×List (List UInt8×List UInt8)
 | [],acc=>(0,acc)
 | l::t,acc=>if 64<=acc.length then (161,[]) else match zep l with
  | none=>(180,[])
  | some f=>zcp t (acc++[f])
structure HeadR where
 err:Int
 at_:Nat
 minor:Nat
 status:Nat
 fields:List (List UInt8×List UInt8)
def zht (e:Int):HeadR:=⟨e,0,0,0,[]⟩
def znJ (k m n:Nat) (ls:List (List UInt8)):HeadR:=if (zcp ls []).1=0 then ⟨0,k+4,m,n,(zcp ls []).2⟩ else zht (zcp ls []).1
def zaU (s:List UInt8):HeadR :=
 if jf (s.take 16384) [13,10,13,10]<0 then (if 16384<s.length then zht 142 else zht 191)
 else match zeB ((qd (s.take (jf (s.take 16384) [13,10,13,10]).toNat) zcs).headD []) with
  | none=>zht 180
  | some (m,n)=>znJ (jf (s.take 16384) [13,10,13,10]).toNat m n (qd (s.take (jf (s.take 16384) [13,10,13,10]).toNat) zcs).tail
def zov (h:HeadR):AV:=.tup [.agg [.i .i64 h.minor,.i .i64 h.status,zeo h.fields],.i .i64 h.at_,.i .i64 h.err]
theorem zfJ (objs:List OB) (d:Nat):∀l:List (List UInt8×List UInt8),zfe objs d (zaS l)=some (zaS l)
 | []=>by simp[zfe,zaS]
 | x::l=>by
  have h:=zfJ objs d l;have h1:∀y,pub objs d (AV.s y)=some (AV.s y):=by intro y;cases d<;>simp[pub,AV.plain]
  show zfe objs d (AV.s x.1::AV.s x.2::zaS l)=_;simp only[zfe,h1,h]
  rfl
theorem ze5 (l:List UInt8) (t:List (List UInt8)) (acc:List (List UInt8×List UInt8)):zcp (l::t) acc=if 64<=acc.length then (161,[]) else match zep l with
  | none=>(180,[])
  | some f=>zcp t (acc++[f]):=rfl
theorem zoE:∀L:List (List UInt8),(∀x∈L,x.length+2<=(L.flatMap (·++zcs)).length)/\L.length*2<=(L.flatMap (·++zcs)).length
 | []=>⟨by simp,by simp⟩
 | y::L=>by
  obtain⟨h1,h2⟩:=zoE L;have e:((y::L).flatMap (·++zcs)).length=y.length+2+(L.flatMap (·++zcs)).length:=by
   rw[List.flatMap_cons,zg,zg];rfl
  rw[e];refine⟨fun x hx=>?_,by rw[ze];omega⟩;rcases qo.1 hx with rfl|hx
  ·omega
  ·have:=h1 x hx;omega
theorem split_le (t:List UInt8):(∀x∈qd t zcs,x.length<=t.length)/\(qd t zcs).length<=t.length+1:=by
 have h:=zoE (qd t zcs);rw[(zcW t.length t (zd _)).1] at h;have e:(t++zcs).length=t.length+2:=by rw[zg];rfl
 rw[e] at h;exact⟨fun x hx=>by have:=h.1 x hx;omega,by omega⟩
theorem zjL (t:List UInt8):∃l0 ls,qd t zcs=l0::ls:=by
 cases h:qd t zcs with
 | nil=>
  have h2:=(zcW t.length t (zd _)).1;rw[h] at h2;simp[zcs] at h2
 | cons a b=>exact⟨a,b,rfl⟩
theorem og_n (l:List OB) (x:OB):(l++[x])[l.length]? = some x:=by simp
theorem os_n (l:List OB) (x y:OB):(l++[x]).set l.length y=l++[y]:=by simp
section
variable [Tabs Tryz.prog] {objs:List OB} {K:List OB->AV->Prop}
theorem zlX [Shp Tryz.prog] (s:List UInt8) (hs:s.length<=9000000000000000000) (hk:K objs (zov (zaU s))):zaa Tryz.prog 55 [.s s] objs K:=by
 refine zaR is_head_Parse rfl fun C _=>?_;unfold zaU at hk;have htk:s.take (if (16384:Int)<s.length then (16384:Int) else s.length).toNat=s.take 16384:=by
  by_cases h:(16384:Int)<s.length
  ·rw[if_pos h];rfl
  ·rw[if_neg h,ql,jg (zd _),jg (by omega)]
 have hl1:(s.take 16384).length<=16384:=by rw[qi];omega
 simp only[c_head_Parse,sxZ,z6,z7,z8,j4,j5,j6,j7,j8,j9,x0,x4,x5,x6,x7,x8,reduceCtorEq,↓reduceIte];refine⟨⟨by split<;>omega,by split<;>omega⟩,?_⟩
 rw[htk];refine zal (hIndex_k _ _ (by omega) ?_)
 by_cases c1:jf (s.take 16384) [13,10,13,10]<0
 ·rw[if_pos c1] at hk
  by_cases c2:(16384:Int)<s.length
  ·rw[if_pos (by omega)] at hk;simp only[c1,c2,sxZ,z6,z7,z8,j4,j5,j6,j7,j8,j9,x0,x4,x5,x6,x7,x8,reduceCtorEq,↓reduceIte];exact hk
  ·rw[if_neg (by omega)] at hk;simp only[c1,c2,sxZ,z6,z7,z8,j4,j5,j6,j7,j8,j9,x0,x4,x5,x6,x7,x8,reduceCtorEq,↓reduceIte];exact hk
 ·rw[if_neg c1] at hk;have hroom:=Lib.index_room (s.take 16384) [13,10,13,10] (by omega);obtain⟨k,hkk⟩:∃k:Nat,jf (s.take 16384) [13,10,13,10]=k:=⟨_,(Int.toNat_of_nonneg (by omega)).symm⟩;rw[hkk] at hk hroom c1 ⊢;rw[ql] at hk;simp only[ze,zk] at hroom;have hks:k<=s.length:=by
   have:=List.length_take_le' 16384 s;omega
  simp only[c1,sxZ,z6,z7,z8,j4,j5,j6,j7,j8,j9,x0,x4,x5,x6,x7,x8,reduceCtorEq,↓reduceIte];refine⟨by omega,?_⟩;refine zal (zkK _ _ (by decide) (by rw[qi];omega) ?_);obtain⟨l0,ls,hsp⟩:=zjL (s.take k);obtain⟨hle,hn⟩:=split_le (s.take k);rw[hsp] at hk hle hn;rw[show qd (s.take k) [13,10]=l0::ls from hsp];rw[qi] at hle hn;rw[ze] at hn;have hl0:=hle l0 (jd ..);simp only[List.headD_cons,List.tail_cons] at hk;simp only[zt,ze,sxZ,z6,z7,z8,j4,j5,j6,j7,j8,j9,x0,x4,x5,x6,x7,x8,reduceCtorEq,↓reduceIte];refine⟨by first|omega|(simp;done)|(simp;omega),?_⟩;refine zal (zhV l0 (by omega) ?_)
  cases hst:zeB l0 with
  | none=>
   rw[hst] at hk;simp only[zg2,sxZ,z6,z7,z8,j4,j5,j6,j7,j8,j9,x0,x4,x5,x6,x7,x8,reduceCtorEq,↓reduceIte];exact hk
  | some q=>
   obtain⟨m,st⟩:=q;rw[hst] at hk;simp only at hk;unfold znJ at hk;have hdr:List.drop 1 (List.take ((ls.length+1)*1) (AV.s l0::List.map AV.s ls))=ls.map AV.s:=by
    rw[jg (by simp)];rfl
   have hsu:ls.length+1 - 1=ls.length:=by omega
   simp only[zg2,sxZ,z6,z7,z8,j4,j5,j6,j7,j8,j9,x0,x4,x5,x6,x7,x8,reduceCtorEq,↓reduceIte];rw[hdr,hsu];refine⟨by omega,?_⟩;refine zbi (fun n objs tm=>∃(i:Nat) (acc:List (List UInt8×List UInt8)),i<=ls.length/\n=ls.length - i/\zcp ls []=zcp (ls.drop i) acc/\acc.length=i /\
    ((acc=[]/\objs=[.box 48 [.i .i64 0,.i .i64 0,.nil],.box 48 [.i .i64 m,.i .i64 st,.nil]])\/(acc≠[]/\∃g fb more,objs=.box 48 [.i .i64 0,.i .i64 0,.nil]::.box 48 [.i .i64 m,.i .i64 st,.orow 3 g]::fb::.orow 74 2 g acc.length (zaS acc)::more)) /\
    tm.length=70/\tm[2]? = some (.p 0 0)/\tm[5]? = some (.i .i64 k)/\tm[7]? = some (.p 1 0)/\tm[41]? = some (.row ls.length (ls.map .s))/\tm[42]? = some (.i .i64 ls.length)/\tm[43]? = some (.i .i64 i)) ls.length ⟨0,[],Nat.zero_le _,rfl,rfl,rfl,.inl ⟨rfl,rfl⟩,rfl,rfl,rfl,rfl,rfl,rfl,rfl⟩ ?_
   rintro n o tm ⟨i,acc,hi,rfl,hf,rfl,hO,hlen,t2,t5,t7,t41,t42,t43⟩
   by_cases hlt:(acc.length:Int)<ls.length
   ·have hlt':acc.length<ls.length:=by omega
    have hg:(ls.map AV.s)[acc.length]? = some (.s ls[acc.length]):=by simp[hlt']
    have hcons:=ze5 ls[acc.length] (ls.drop (acc.length+1)) acc;rw[<-qz hlt'] at hcons;have hll:ls[acc.length].length<=1000000:=by
     have:=hle _ (qx l0 (jt hlt'));omega
    rcases hO with ⟨h0,rfl⟩|⟨h0,g,fb,more,rfl⟩
    ·have h64:¬(64:Int)<=acc.length:=by rw[h0];decide
     have hz:(acc.length:Int)=0:=by rw[h0];rfl
     rw[if_neg (by omega)] at hcons;simp only[sxZ,z6,z7,z8,j4,j5,j6,j7,j8,j9,x0,x4,x5,x6,x7,x8,reduceCtorEq,↓reduceIte,zb,hlen,t2,t5,t7,t41,t42,t43,hlt,Nat.mul_one,ql,hg,qy];refine⟨by omega,?_⟩;refine zal (ze1 _ hll ?_)
     cases hfe:zep ls[acc.length] with
     | none=>
      rw[hfe] at hcons;rw[hf,hcons] at hk;simp only[zfW,sxZ,z6,z7,z8,j4,j5,j6,j7,j8,j9,x0,x4,x5,x6,x7,x8,reduceCtorEq,↓reduceIte,zb,hlen,t2,t5,t7,t41,t42,t43];exact hk
     | some f=>
      rw[hfe] at hcons;simp only[zfW,sxZ,z6,z7,z8,j4,j5,j6,j7,j8,j9,x0,x4,x5,x6,x7,x8,reduceCtorEq,↓reduceIte,zb,hlen,t2,t5,t7,t41,t42,t43];refine⟨⟨by omega,by omega⟩,ls.length - (acc.length+1),by omega,acc.length+1,acc++[f],by omega,rfl,hf.trans hcons,by simp,?_,rfl⟩;refine .inr ⟨by simp,0,.box 74 [.s f.1,.s f.2],[],?_⟩;subst h0
      rfl
    ·by_cases h64:(64:Int)<=acc.length
     ·rw[if_pos (by omega)] at hcons;rw[hf,hcons] at hk;simp only[sxZ,z6,z7,z8,j4,j5,j6,j7,j8,j9,x0,x4,x5,x6,x7,x8,reduceCtorEq,↓reduceIte,zb,hlen,t2,t5,t7,t41,t42,t43,hlt,h64,Nat.mul_one,ql,hg,qy];exact⟨by omega,hk⟩
     ·rw[if_neg (by omega)] at hcons;simp only[sxZ,z6,z7,z8,j4,j5,j6,j7,j8,j9,x0,x4,x5,x6,x7,x8,reduceCtorEq,↓reduceIte,zb,hlen,t2,t5,t7,t41,t42,t43,hlt,h64,Nat.mul_one,ql,hg,qy];refine⟨by omega,?_⟩;refine zal (ze1 _ hll ?_)
      cases hfe:zep ls[acc.length] with
      | none=>
       rw[hfe] at hcons;rw[hf,hcons] at hk;simp only[zfW,sxZ,z6,z7,z8,j4,j5,j6,j7,j8,j9,x0,x4,x5,x6,x7,x8,reduceCtorEq,↓reduceIte,zb,hlen,t2,t5,t7,t41,t42,t43,og_n,os_n];exact hk
      | some f=>
       rw[hfe] at hcons;simp only[zfW,sxZ,z6,z7,z8,j4,j5,j6,j7,j8,j9,x0,x4,x5,x6,x7,x8,reduceCtorEq,↓reduceIte,zb,hlen,t2,t5,t7,t41,t42,t43,og_n,os_n];refine⟨⟨by omega,by omega⟩,⟨by omega,by omega⟩,ls.length - (acc.length+1),by omega,acc.length+1,acc++[f],by omega,rfl,hf.trans hcons,by simp,?_,rfl⟩;refine .inr ⟨by simp,g+1,fb,more++[.box 74 [.s f.1,.s f.2]],?_⟩;rw[zjq,zg]
       rfl
   ·obtain he:acc.length=ls.length:=by omega
    rw[he,xe] at hf;have hf2:zcp ls []=(0,acc):=hf;rw[hf2] at hk;rcases hO with ⟨h0,rfl⟩|⟨h0,g,fb,more,rfl⟩
    ·simp only[sxZ,z6,z7,z8,j4,j5,j6,j7,j8,j9,x0,x4,x5,x6,x7,x8,reduceCtorEq,↓reduceIte,zb,hlen,t2,t5,t7,t41,t42,t43,hlt];subst h0;exact⟨by omega,hk⟩
    ·simp only[sxZ,z6,z7,z8,j4,j5,j6,j7,j8,j9,x0,x4,x5,x6,x7,x8,reduceCtorEq,↓reduceIte,zb,hlen,t2,t5,t7,t41,t42,t43,hlt];rw[zfJ];refine⟨by omega,?_⟩;have hk2:K objs (.tup [.agg [.i .i64 m,.i .i64 st,zeo acc],.i .i64 (k+4:Nat),.i .i64 0]):=hk;unfold zeo at hk2;rw[if_neg h0] at hk2;exact hk2
end
theorem zlY (x:UInt8) (t set:List UInt8):zfh (x::t) set=if zc4 x set=true then 0 else zfh t set+1:=by
 unfold zfh;rw[List.findIdx_cons]
 cases zc4 x set<;>rfl
theorem zkM (c:UInt8):∀l:List UInt8,(zfh l [c]<l.length->zaB c l=(l.take (zfh l [c]),l.drop (zfh l [c]+1),true))/\(¬zfh l [c]<l.length->zaB c l=(l,[],false))
 | []=>⟨fun h=>absurd h (by simp),fun _=>rfl⟩
 | x::t=>by
  have ih:=zkM c t;rw[zlY,zcr]
  by_cases hx:x=c
  ·subst hx;have:zc4 x [x]=true:=by simp[zc4]
   rw[if_pos this,if_pos rfl];exact⟨fun _=>by simp,fun h=>absurd (by simp) h⟩
  ·have:¬zc4 x [c]=true:=by simp[zc4,hx]
   rw[if_neg this,if_neg hx];refine⟨fun h=>?_,fun h=>?_⟩
   ·rw[ih.1 (by simp at h;omega)];simp
   ·rw[ih.2 (by simp at h ⊢;omega)]
def zdT (L:List (List UInt8)):List UInt8:=L.flatMap (·++zcs)
theorem zdI (x:List UInt8) (L:List (List UInt8)):zdT (x::L)=x++13::10::zdT L:=by simp[zdT,zcs]
section
variable [Tabs Tryz.prog] {objs:List OB} {K:List OB->AV->Prop}
end
section
variable [Tabs Tryz.prog] {objs:List OB} {K:List OB->AV->Prop}
end
theorem byte_all (p:UInt8->Prop) (h:∀n:Fin 256,p (UInt8.ofNat n.val)) (c:UInt8):p c:=by
 have:=h ⟨c.toNat,c.toNat_lt⟩;simpa using this
theorem zor:∀n:Fin 256,zb1 (zb1 (UInt8.ofNat n.val))=zb1 (UInt8.ofNat n.val)/\zcu (zb1 (UInt8.ofNat n.val))=zcu (UInt8.ofNat n.val) /\
  (zcu (UInt8.ofNat n.val)=true->UInt8.ofNat n.val≠58/\UInt8.ofNat n.val≠13/\UInt8.ofNat n.val≠10)/\(zim (UInt8.ofNat n.val)=true->UInt8.ofNat n.val≠13/\UInt8.ofNat n.val≠10):=by decide +kernel
theorem hlowB (c:UInt8):zb1 (zb1 c)=zb1 c/\zcu (zb1 c)=zcu c/\(zcu c=true->c≠58/\c≠13/\c≠10)/\(zim c=true->c≠13/\c≠10) :=
 byte_all (fun c=>zb1 (zb1 c)=zb1 c/\zcu (zb1 c)=zcu c/\(zcu c=true->c≠58/\c≠13/\c≠10)/\(zim c=true->c≠13/\c≠10)) zor c
theorem zop (l:List UInt8):zbm (zbm l)=zbm l:=by
 simp only[zbm,List.map_map];exact xj fun c _=>(hlowB c).1
theorem zoq (l:List UInt8):(zbm l).length=l.length:=by simp[zbm]
theorem htok_low (l:List UInt8):zeU (zbm l)=zeU l:=by
 unfold zeU zbm;rw[List.all_map];have:(zcu ∘ zb1)=zcu:=funext fun c=>(hlowB c).2.1;rw[this]
 cases l<;>rfl
theorem hdw_dw (l:List UInt8):(l.dropWhile zbK).dropWhile zbK=l.dropWhile zbK:=by
 induction l with
 | nil=>rfl
 | cons x l ih=>
  rw[xg]
  split
  ·exact ih
  ·rename_i h;rw[xg,if_neg h]
theorem hrdw_rdw (l:List UInt8):rdw (rdw l)=rdw l:=by unfold rdw;rw[List.reverse_reverse,hdw_dw]
theorem hrdw_sub (l:List UInt8):∀x∈rdw l,x∈l:=fun x hx=>by
 unfold rdw at hx;rw[List.mem_reverse] at hx;exact List.mem_reverse.1 ((xn (p:=zbK) (l:=l.reverse)).subset hx)
theorem hrdw_len (l:List UInt8):(rdw l).length<=l.length:=by
 unfold rdw;rw[List.length_reverse];have:=(xn (p:=zbK) (l:=l.reverse)).length_le;simpa using this
theorem zio (l:List UInt8):(zbD l).length<=l.length:=jj (hrdw_len _) (xn (p:=zbK) (l:=l)).length_le
theorem zoo (l:List UInt8):∀x∈zbD l,x∈l:=fun x hx=>(xn (p:=zbK) (l:=l)).subset (hrdw_sub _ x hx)
theorem hdw_rdw {l:List UInt8} (h:l.dropWhile zbK=l):(rdw l).dropWhile zbK=rdw l:=by
 rcases hl:rdw l with _|⟨x,m⟩
 ·rfl
 ·have hp:rdw l <+: l:=by
   unfold rdw;have:=List.dropWhile_suffix (p:=zbK) (l:=l.reverse);have:=List.reverse_prefix.2 this
   rwa [List.reverse_reverse] at this
  obtain⟨r,hr⟩:=hp;rw[hl,List.cons_append] at hr;rw[<-hr,xg] at h
  by_cases hx:zbK x=true
  ·rw[if_pos hx] at h;have h1:=congrArg List.length h;have h4:=(xn (p:=zbK) (l:=m++r)).length_le;simp at h1 h4;omega
  ·rw[xg,if_neg hx]
theorem zlT (l:List UInt8):zbD (zbD l)=zbD l:=by
 unfold zbD;rw[hdw_rdw (hdw_dw l),hrdw_rdw]
theorem zlU {l:List UInt8} (h:zfu l=true):zfu (zbD l)=true:=by
 unfold zfu at h ⊢;rw[List.all_eq_true] at h ⊢;exact fun x hx=>h x (zoo l x hx)
structure GoodF (p:List UInt8×List UInt8):Prop where
 tok:zeU p.1=true
 low:zbm p.1=p.1
 txt:zfu p.2=true
 trm:zbD p.2=p.2
theorem zjo {x:List UInt8} {p:List UInt8×List UInt8} (h:zep x=some p):GoodF p/\p.1.length+p.2.length<=x.length:=by
 unfold zep at h
 split at h
 ·rename_i hc;injection h with h
  subst h;obtain⟨c1,c2,c3⟩:=hc;obtain⟨l1,l2⟩:=zbo 58 x;have h3:=zkM 58 x;have h4:(zaB 58 x).1.length+(zaB 58 x).2.1.length<=x.length:=by
   by_cases h5:zfh x [58]<x.length
   ·rw[h3.1 h5];simp only[qi,zv];omega
   ·rw[h3.2 h5];simp
  exact⟨⟨by rw[htok_low];exact c2,zop _,zlU c3,zlT _⟩,by
   have:=zio (zaB 58 x).2.1;have h6:=zoq (zaB 58 x).1;simp only;omega⟩
 ·cases h
def zit (p:List UInt8×List UInt8):List UInt8:=p.1++58::32::p.2
theorem ze4:∀(ls:List (List UInt8)) (acc fs:List (List UInt8×List UInt8)),zcp ls acc=(0,fs)->(∀p∈acc,GoodF p)->acc.length<=64->(∀p∈fs,GoodF p)/\fs.length<=64/\(fs.flatMap zit).length+(acc.length+ls.length)<=(acc.flatMap zit).length+(zdT ls).length+fs.length
 | [],acc,fs,h,ha,h64=>by
  injection h with h1 h2
  subst h2;refine⟨ha,h64,?_⟩;simp[zdT]
 | x::t,acc,fs,h,ha,h64=>by
  rw[ze5] at h
  split at h
  ·injection h with h _;cases h
  ·rename_i hc
   cases hf:zep x with
   | none=>rw[hf] at h;injection h with h _;cases h
   | some p=>
    rw[hf] at h;obtain⟨g1,g2⟩:=zjo hf;obtain⟨k1,k2,k3⟩:=ze4 t (acc++[p]) fs h (fun q hq=>by
     rcases List.mem_append.1 hq with hq|hq
     ·exact ha q hq
     ·rw[List.mem_singleton] at hq;subst hq;exact g1) (by simp;omega)
    refine⟨k1,k2,?_⟩;rw[zdI];simp only[List.flatMap_append,List.flatMap_cons,List.flatMap_nil,qw,zg,ze,zk,zit] at k3 ⊢;omega
theorem zjk {s:List UInt8} (h:(zaU s).err=0):(zaU s).minor<=1/\100<=(zaU s).status/\(zaU s).status<=599/\(∀p∈(zaU s).fields,GoodF p)/\(zaU s).fields.length<=64/\(zaU s).at_<=s.length /\
  ((zaU s).fields.flatMap zit).length<=s.length+64:=by
 unfold zaU at h ⊢
 split at h
 ·split at h<;>exact absurd h (by decide)
 rename_i hneg;rw[if_neg hneg];have hroom:=Lib.index_room (s.take 16384) [13,10,13,10] (by omega);obtain⟨k,hkk⟩:∃k:Nat,jf (s.take 16384) [13,10,13,10]=k:=⟨_,(Int.toNat_of_nonneg (by omega)).symm⟩;rw[hkk] at h hroom ⊢;simp only[ze,zk] at hroom;have hks:k+4<=s.length:=by
  have:=List.length_take_le' 16384 s;omega
 rw[ql] at h ⊢;obtain⟨l0,ls,hsp⟩:=zjL (s.take k);obtain⟨hjn,hfree⟩:=zcW _ (s.take k) (zd _);rw[hsp] at h hjn ⊢;simp only[List.headD_cons,List.tail_cons] at h ⊢
 cases hst:zeB l0 with
 | none=>
  rw[hst] at h;have h':(180:Int)=0:=h;exact absurd h' (by decide)
 | some q=>
  obtain⟨m,st⟩:=q;rw[hst] at h;simp only at h ⊢;have hq:m<=1/\100<=st/\st<=599:=by
   have hb:=zff zaf 10 599 (zaB 32 (zaB 32 l0).2.1).1;unfold zeB at hst
   split at hst
   ·rename_i hc
    split at hst
    ·injection hst with hst;injection hst with e1 e2;subst e1;subst e2;exact⟨by omega,hc.2.2.1,hb⟩
    ·split at hst
     ·injection hst with hst;injection hst with e1 e2;subst e1;subst e2;exact⟨by omega,hc.2.2.1,hb⟩
     ·cases hst
   ·cases hst
  unfold znJ at h ⊢
  cases hfe:zcp ls [] with
  | mk e fs=>
   rw[hfe] at h;simp only at h ⊢
   by_cases he:e=0
   ·subst he;obtain⟨g1,g2,g3⟩:=ze4 ls [] fs hfe (by simp) (by simp);rw[if_pos rfl];have hlen:(zdT (l0::ls)).length=k+2:=by
     have:zdT (l0::ls)=s.take k++zcs:=hjn;rw[this,zg,qi];show min k s.length+2=_;omega
    rw[zdI,zg,ze,ze] at hlen;simp only[List.flatMap_nil,zk] at g3;exact⟨hq.1,hq.2.1,hq.2.2,g1,g2,hks,by simp only;omega⟩
   ·rw[if_neg he] at h;exact absurd h he
theorem zeQ {P:Program} [Tabs P] {f:FuncId} {args:List AV} {objs:List OB} {K:List OB->AV->Prop} (r':AV) (hc:zaa P f args objs (fun o r=>(∀G I y,Den G I r y->Den G I r' y)/\K o r')):zaa P f args objs K:=by
 intro C _ G I w hin hm ys hd;refine(hc C G I w hin hm ys hd).mono ?_;rintro e w' ⟨y,objs',r,G',I',he,⟨hr,hk⟩,h1,h2,h3,h4,hy⟩;exact⟨y,objs',r',G',I',he,hk,h1,h2,h3,h4,hr _ _ _ hy⟩
theorem zfY {G:Gh} {I:Imm} {y:Value} (h:Den G I .nil y):Den G I (.row 0 []) y:=by
 simp only[Den] at h ⊢;exact⟨none,0,[],h,⟨zd _,fun ad h=>by cases h⟩,zac.nil,by simp,by simp⟩
theorem zl6 {G:Gh} {I:Imm} {y:Value} (l:List (List UInt8×List UInt8)) (h:Den G I (zeo l) y):Den G I (.row l.length (zaS l)) y:=by
 unfold zeo at h
 split at h
 ·rename_i e;subst e;exact zfY h
 ·exact h
def zfk (mi st:Int) (l:List (List UInt8×List UInt8)):AV:=.agg [.i .i64 mi,.i .i64 st,.row l.length (zaS l)]
def zkI (h:HeadR):AV:=.tup [zfk h.minor h.status h.fields,.i .i64 h.at_,.i .i64 h.err]
theorem den_head (G:Gh) (I:Imm) (y:Value) (h:HeadR) (hd:Den G I (zov h) y):Den G I (zkI h) y:=by
 unfold zov at hd;unfold zkI zfk;simp only[Den,zac] at hd ⊢;obtain⟨ys,rfl,y1,ys1,rfl,⟨zs,rfl,⟨z1,zs1,rfl,rfl,z2,zs2,rfl,rfl,z3,zs3,rfl,hz3,rfl⟩,hone⟩,h2⟩:=hd;exact⟨_,rfl,_,_,rfl,⟨_,rfl,⟨_,_,rfl,rfl,_,_,rfl,rfl,_,_,rfl,zl6 _ hz3,rfl⟩,hone⟩,h2⟩
theorem zbQ:∀l:List (List UInt8×List UInt8),zar (zaS l)=true
 | []=>rfl
 | p::l=>zbQ l
theorem fc_at {l:List (List UInt8×List UInt8)} {i:Nat} (h:i<l.length):((zaS l).drop (i*2)).take 2=[.s l[i].1,.s l[i].2]:=by
 induction l generalizing i with
 | nil=>simp at h
 | cons p l ih=>
  cases i with
  | zero=>rfl
  | succ i=>
   have e:(i+1)*2=i*2+1+1:=by omega
   rw[e];show ((zaS l).drop (i*2)).take 2=_;rw[ih (by simpa using h)]
   rfl
def zjK (l:List (List UInt8)):AV:=if l=[] then .nil else .row l.length (l.map .s)
theorem zlb {G:Gh} {I:Imm} {y:Value} (l:List (List UInt8)) (h:Den G I (zjK l) y):Den G I (.row l.length (l.map .s)) y:=by
 unfold zjK at h
 split at h
 ·rename_i e;subst e;exact zfY h
 ·exact h
theorem zgF (objs:List OB) (d:Nat):∀l:List (List UInt8),zfe objs d (l.map .s)=some (l.map .s)
 | []=>by simp[zfe]
 | x::l=>by
  have h:=zgF objs d l;have h1:pub objs d (AV.s x)=some (AV.s x):=by cases d<;>simp[pub,AV.plain]
  simp only[zt,zfe,h1,h]
def zbg (l:List (List UInt8×List UInt8)) (name:List UInt8):List (List UInt8):=(l.filter fun p=>eqL p.1 name).map (·.2)
theorem zmo (l:List (List UInt8×List UInt8)) (i:Nat) (h:i<l.length) (name:List UInt8):zbg (l.take (i+1)) name=if eqL l[i].1 name=true then zbg (l.take i) name++[l[i].2] else zbg (l.take i) name:=by
 unfold zbg;rw[List.take_succ_eq_append_getElem h,List.filter_append,jz,List.filter_cons,List.filter_nil]
 split<;>simp_all
theorem vals_len (l:List (List UInt8×List UInt8)) (i:Nat) (name:List UInt8):(zbg (l.take i) name).length<=l.length:=by
 unfold zbg;rw[qy];refine jj (List.length_filter_le _ _) ?_;rw[qi];omega
theorem own_new (objs:List OB) (b x:OB) (more:List OB):(objs++[b]++[x]++more)[objs.length+1]? = some x:=by simp
theorem own_set (objs:List OB) (r:Nat) (x:OB) (h:r<objs.length) (more:List OB):(objs.set r x++more)[r]? = some x:=by
 rw[zu (by simpa using h),List.getElem?_set_self h]
theorem znK (b:Nat):∀xs:List (List UInt8),(∀x∈xs,x.length<=b)->Lib.lens xs<=b*xs.length
 | [],_=>by simp[Lib.lens]
 | x::xs,h=>by
  have h1:=znK b xs (fun y hy=>h y (qx _ hy));have h2:=h x (jd ..);have:Lib.lens (x::xs)=x.length+Lib.lens xs:=by simp[Lib.lens]
  rw[this,ze,Nat.mul_succ];omega
theorem zof (b:Nat) (xs:List (List UInt8)) (h:∀x∈xs,x.length<=b) (sep:List UInt8):(Lib.join xs sep).length<=(sep.length+b)*xs.length:=by
 cases xs with
 | nil=>simp[Lib.join_nil]
 | cons y r=>
  have h1:=znK b (y::r) h;rw[Lib.join_length];have h2:sep.length*r.length<=sep.length*(y::r).length:=Nat.mul_le_mul (zd _) (by simp);rw[Nat.add_mul];omega
def zmh (l:List (List UInt8×List UInt8)) (name:List UInt8):List UInt8:=Lib.join (zbg l name) [44,32]
structure Few (l:List (List UInt8×List UInt8)):Prop where
 num:l.length<=100
 len:∀p∈l,p.1.length+p.2.length<=20000
theorem zjF {l:List (List UInt8×List UInt8)} (h:Few l) (name:List UInt8):(zbg l name).length<=100/\∀x∈zbg l name,x.length<=20000:=by
 refine⟨?_,fun x hx=>?_⟩
 ·unfold zbg;rw[qy];exact jj (List.length_filter_le _ _) h.num
 ·obtain⟨p,hp,rfl⟩:=List.mem_map.1 hx;have:=h.len p (jl.1 hp).1;omega
theorem zoz {l:List (List UInt8×List UInt8)} (h:Few l) (name:List UInt8):(zmh l name).length<=2000200:=by
 have h1:=zjF h name;have h2:=zof 20000 _ h1.2 [44,32];have h3:([44,32]:List UInt8).length=2:=rfl;rw[h3] at h2;have h4:(2+20000)*(zbg l name).length<=(2+20000)*100:=Nat.mul_le_mul (zd _) h1.1;unfold zmh;omega
section
variable [Tabs Tryz.prog] {objs:List OB} {K:List OB->AV->Prop}
theorem zlW [Shp Tryz.prog] (s:List UInt8) (hs:s.length<=9000000000000000000) (hk:K objs (zkI (zaU s))):zaa Tryz.prog 55 [.s s] objs K :=
 zeQ _ (zlX s hs ⟨fun G I y=>den_head G I y _,hk⟩)
theorem ziq (mi st:Int) (l:List (List UInt8×List UInt8)) (name:List UInt8) (hl:l.length<=1000000) (hp:∀p∈l,p.1.length<=140737488351232) (hn:name.length<=140737488351232) (hk:K objs (zjK (zbg l name))):zaa Tryz.prog 185 [zfk mi st l,.s name] objs K:=by
 refine zaR is_head_Values (by simp[zfk,zar,AV.plain,zbQ]) fun C _=>?_;have hm:maxLen=2 ^ 63 - 1:=rfl;simp only[zfk,c_head_Values,sxZ,z6,z7,z8,j4,j5,j6,j7,j8,j9,x0,x4,x5,x6,x7,x8,reduceCtorEq,↓reduceIte];refine zbi (fun n objs tm=>∃i:Nat,i<=l.length/\n=l.length - i/\tm.length=26/\tm[1]? = some (.s name)/\tm[9]? = some (.row l.length (zaS l))/\tm[10]? = some (.i .i64 l.length)/\tm[11]? = some (.i .i64 i) /\
  ((zbg (l.take i) name=[]/\tm[5]? = some .nil)\/(zbg (l.take i) name≠[]/\∃r g,tm[5]? = some (.orow r g)/\∀more,(objs++more)[r]? = some (.orow 9 1 g (zbg (l.take i) name).length ((zbg (l.take i) name).map .s))))) l.length ⟨0,Nat.zero_le _,rfl,rfl,rfl,rfl,rfl,rfl,.inl ⟨rfl,rfl⟩⟩ ?_
 rintro n objs tm ⟨i,hi,rfl,hlen,t1,t9,t10,t11,hO⟩
 by_cases hlt:(i:Int)<l.length
 ·have hlt':i<l.length:=by omega
  have hat:=fc_at hlt';have hfl:=zdJ l;have hv:=zmo l i hlt' name;have hpl:=hp _ (jt hlt');simp only[sxZ,z6,z7,z8,j4,j5,j6,j7,j8,j9,x0,x4,x5,x6,x7,x8,reduceCtorEq,↓reduceIte,zb,hlen,t1,t9,t10,t11,hlt,ql,hat,gn1,sn1];refine⟨by omega,by omega,?_⟩;refine zal (zdQ _ _ (by omega) (by omega) ?_)
  by_cases he:eqL l[i].1 name=true
  ·rw[if_pos he] at hv;rcases hO with ⟨h0,t5⟩|⟨h0,r,g,t5,hr⟩
   ·rw[h0,List.nil_append] at hv;simp only[he,sxZ,z6,z7,z8,j4,j5,j6,j7,j8,j9,x0,x4,x5,x6,x7,x8,reduceCtorEq,↓reduceIte,zb,hlen,t1,t9,t10,t11,t5,gn1,sn1];exact⟨⟨by omega,by omega⟩,l.length - (i+1),by omega,i+1,by omega,rfl,rfl,.inr ⟨by rw[hv];simp,objs.length+1,0,rfl,fun more=>by rw[hv];exact own_new ..⟩⟩
   ·have hr0:=hr [];rw[qw] at hr0;simp only[he,sxZ,z6,z7,z8,j4,j5,j6,j7,j8,j9,x0,x4,x5,x6,x7,x8,reduceCtorEq,↓reduceIte,zb,hlen,t1,t9,t10,t11,t5,gn1,sn1,hr];have hvl:=vals_len l i name;exact⟨⟨by omega,by omega⟩,⟨by omega,by omega⟩,l.length - (i+1),by omega,i+1,by omega,rfl,rfl,.inr ⟨by rw[hv];simp,r,g+1,rfl,fun more=>by rw[hv,zg,jz];exact own_set _ _ _ (by have:=zfT hr0;simp;omega) more⟩⟩
  ·rw[if_neg he] at hv;simp only[Bool.not_eq_true] at he;simp only[he,sxZ,z6,z7,z8,j4,j5,j6,j7,j8,j9,x0,x4,x5,x6,x7,x8,reduceCtorEq,↓reduceIte,zb,hlen,t1,t9,t10,t11,gn1,sn1];refine⟨⟨by omega,by omega⟩,l.length - (i+1),by omega,i+1,by omega,rfl,rfl,?_⟩;rw[hv];rcases hO with ⟨h0,t5⟩|⟨h0,r,g,t5,hr⟩
   ·exact .inl ⟨h0,t5⟩
   ·exact .inr ⟨h0,r,g,t5,fun more=>by rw[zi];exact hr _⟩
 ·obtain rfl:i=l.length:=by omega
  rw[jg (zd _)] at hO;unfold zjK at hk;rcases hO with ⟨h0,t5⟩|⟨h0,r,g,t5,hr⟩
  ·rw[if_pos h0] at hk;simp only[sxZ,z6,z7,z8,j4,j5,j6,j7,j8,j9,x0,x4,x5,x6,x7,x8,reduceCtorEq,↓reduceIte,zb,hlen,t1,t9,t10,t11,hlt,t5];exact hk
  ·rw[if_neg h0] at hk;have hr0:=hr [];rw[qw] at hr0;simp only[sxZ,z6,z7,z8,j4,j5,j6,j7,j8,j9,x0,x4,x5,x6,x7,x8,reduceCtorEq,↓reduceIte,zb,hlen,t1,t9,t10,t11,hlt,t5,hr0];rw[zgF];simp only[Option.map_some,sxZ,z6,z7,z8,j4,j5,j6,j7,j8,j9,x0,x4,x5,x6,x7,x8,reduceCtorEq,↓reduceIte];exact hk
end
section
attribute [local irreducible] run
structure Ans where
 host:List UInt8
 port:Int
 target:List UInt8
 raw:List UInt8
 fail:Int
 fr:Nat
 un:Nat
deriving DecidableEq
def zaY (a:Ans):List AV:=[.s a.host,.i .i64 a.port,.s a.target,.s a.raw,.i .i64 a.fail,.i .u64 a.fr,.i .u64 a.un]
def zaI (l:List Ans):List AV:=l.flatMap zaY
def zfc (a:Ans):AV:=.agg (zaY a)
def ansZ:Ans:=⟨[],0,[],[],0,0,0⟩
def zgf (u:UrlP) (now:Nat) (a:Ans):Bool:=decide (a.host=u.host)&&(decide (a.port=u.port)&&(decide (a.target=zbE u)&&(decide (a.fr<=now)&&(decide (a.un=0)||decide (now<a.un)))))
def zoG (n:Int):Int:=if n=1 then 240 else if n=2 then 241 else if n=3 then 242 else if n=4 then 243 else 0
def askA:Option Ans->Int×List UInt8
 | none=>(241,[])
 | some a=>if zoG a.fail=0 then (0,a.raw) else (zoG a.fail,[])
def zgQ (l:List Ans) (u:UrlP) (now:Nat):Int×List UInt8:=if zch u=false then (8,[]) else askA (l.find? (zgf u now))
theorem zmd (a:Ans):(zaY a).length=7:=rfl
theorem zct (l:List Ans):(zaI l).length=l.length*7:=by
 induction l with
 | nil=>rfl
 | cons a l ih=>rw[zaI,List.flatMap_cons,zg,zmd,<-zaI,ih,ze];omega
theorem zdA (a:Ans) (l:List Ans):zaI (a::l)=zaY a++zaI l:=rfl
theorem zcG (l m:List Ans):zaI (l++m)=zaI l++zaI m:=by simp[zaI]
theorem zdP (l:List Ans):zar (zaI l)=true:=by
 induction l with
 | nil=>rfl
 | cons a l ih=>rw[zdA];simp[zaY,zar,AV.plain,ih]
theorem ac_at:∀{l:List Ans} {i:Nat} (hi:i<l.length),((zaI l).drop (i*7)).take 7=zaY l[i]
 | a::l,0,hi=>by simp[zdA,zaY]
 | a::l,i+1,hi=>by
  rw[zdA,show (i+1)*7=7+i*7 by omega,<-ji,show (zaY a++zaI l).drop 7=zaI l from by simp[zaY]];simpa using ac_at (l:=l) (i:=i) (by simpa using hi)
end
section
attribute [local irreducible] run
def qAV (u:UrlP) (now:Nat):AV:=.agg [.s u.host,.i .i64 u.port,.s (zbE u),.i .u64 now]
theorem isFn_fit:IsFn Tryz.prog 45:=⟨_,Tryz.func45,by kernel_rfl,of_decide_eq_true (by kernel_rfl)⟩
theorem zlS:IsFn Tryz.prog 42:=⟨_,Tryz.func42,by kernel_rfl,of_decide_eq_true (by kernel_rfl)⟩
section
variable [Tabs Tryz.prog] {objs:List OB} {K:List OB->AV->Prop}
theorem fit_k (u:UrlP) (now:Nat) (a:Ans) (hk:K objs (.b (zgf u now a))):zaa Tryz.prog 45 [qAV u now,zfc a] objs K:=by
 refine zaR is_world_question_isFitting rfl fun C _=>?_;unfold zgf at hk
 by_cases c1:a.host=u.host
 ·by_cases c2:a.port=u.port
  ·by_cases c3:a.target=zbE u
   ·by_cases c4:((a.fr:Nat):Int)<=now
    ·by_cases c5:((a.un:Nat):Int)=0
     ·simp only[decide_eq_true c1,decide_eq_true c2,decide_eq_true c3,decide_eq_true (show a.fr<=now by omega),decide_eq_true (show a.un=0 by omega),Bool.true_and,Bool.true_or] at hk;simp only[qAV,zfc,zaY,c_world_question_isFitting,sxZ,z6,z7,z8,j4,j5,j6,j7,j8,j9,x0,x4,x5,x6,x7,x8,reduceCtorEq,↓reduceIte,c1,c2,c3,c4,c5];exact hk
     ·by_cases c6:((now:Nat):Int)<a.un
      ·simp only[decide_eq_true c1,decide_eq_true c2,decide_eq_true c3,decide_eq_true (show a.fr<=now by omega),decide_eq_true (show now<a.un by omega),Bool.true_and,Bool.or_true] at hk;simp only[qAV,zfc,zaY,c_world_question_isFitting,sxZ,z6,z7,z8,j4,j5,j6,j7,j8,j9,x0,x4,x5,x6,x7,x8,reduceCtorEq,↓reduceIte,c1,c2,c3,c4,c5,c6];exact hk
      ·simp only[decide_eq_true c1,decide_eq_true c2,decide_eq_true c3,decide_eq_true (show a.fr<=now by omega),decide_eq_false (show ¬a.un=0 by omega),decide_eq_false (show ¬now<a.un by omega),Bool.true_and,Bool.or_false] at hk;simp only[qAV,zfc,zaY,c_world_question_isFitting,sxZ,z6,z7,z8,j4,j5,j6,j7,j8,j9,x0,x4,x5,x6,x7,x8,reduceCtorEq,↓reduceIte,c1,c2,c3,c4,c5,c6];exact hk
    ·simp only[decide_eq_true c1,decide_eq_true c2,decide_eq_true c3,decide_eq_false (show ¬a.fr<=now by omega),Bool.true_and,Bool.false_and] at hk;simp only[qAV,zfc,zaY,c_world_question_isFitting,sxZ,z6,z7,z8,j4,j5,j6,j7,j8,j9,x0,x4,x5,x6,x7,x8,reduceCtorEq,↓reduceIte,c1,c2,c3,c4];exact hk
   ·simp only[decide_eq_true c1,decide_eq_true c2,decide_eq_false c3,Bool.true_and,Bool.false_and] at hk;simp only[qAV,zfc,zaY,c_world_question_isFitting,sxZ,z6,z7,z8,j4,j5,j6,j7,j8,j9,x0,x4,x5,x6,x7,x8,reduceCtorEq,↓reduceIte,c1,c2,c3];exact hk
  ·simp only[decide_eq_true c1,decide_eq_false c2,Bool.true_and,Bool.false_and] at hk;simp only[qAV,zfc,zaY,c_world_question_isFitting,sxZ,z6,z7,z8,j4,j5,j6,j7,j8,j9,x0,x4,x5,x6,x7,x8,reduceCtorEq,↓reduceIte,c1,c2];exact hk
 ·simp only[decide_eq_false c1,Bool.false_and] at hk;simp only[qAV,zfc,zaY,c_world_question_isFitting,sxZ,z6,z7,z8,j4,j5,j6,j7,j8,j9,x0,x4,x5,x6,x7,x8,reduceCtorEq,↓reduceIte,c1];exact hk
theorem first_k (b T:Nat) (l:List Ans) (hl:l.length<=1000000) (hb:objs[b]? = some (.box T [.row l.length (zaI l)])) (f:Nat) (fs cs:List AV) (p:Ans->Bool) (hf:IsFn Tryz.prog f)
  (hacc:∀a (o:List OB) (K':List OB->AV->Prop),K' o (.b (p a))->zaa Tryz.prog f (fs++[zfc a]++cs) o K') (hk:∀more,K (objs++more) (.tup [zfc ((l.find? p).getD ansZ),.b (l.find? p).isSome])) :
  zaa Tryz.prog 42 [.fn f fs cs,.p b 0] objs K:=by
 have hlt:b<objs.length:=(List.getElem?_eq_some_iff.1 hb).1;have hb1:∀m,(objs++m)[b]? = some (.box T [.row l.length (zaI l)]):=fun m=>by rw[zu hlt];exact hb
 have hlen7:=zct l;have hget:∀(z:OB) (m:List OB),(objs++z::m)[objs.length]? = some z:=fun z m=>by simp
 refine zdp is_world_Ask_1 fun C _=>?_;simp only[c_world_Ask_1,sxZ,z6,z7,z8,j4,j5,j6,j7,j8,j9,x0,x4,x5,x6,x7,x8,reduceCtorEq,↓reduceIte,hb1];refine zbi (fun n o tm=>∃(i:Nat) (more:List OB),i<=l.length/\n=l.length - i/\o=objs++.box 33 (zaY ansZ)::more/\tm.length=19/\tm[0]? = some (.fn f fs cs)/\tm[3]? = some (.p objs.length 0)/\tm[7]? = some (.row l.length (zaI l))/\tm[8]? = some (.i .i64 l.length)/\tm[9]? = some (.i .i64 i)/\l.find? p=(l.drop i).find? p) l.length ⟨0,[],by omega,rfl,rfl,rfl,rfl,rfl,rfl,rfl,rfl,rfl⟩ ?_;rintro n o tm ⟨i,more,hi,rfl,rfl,hlen,t0,t3,t7,t8,t9,hfd⟩
 by_cases hlt:(i:Int)<l.length
 ·have hlt':i<l.length:=by omega
  have hat:=ac_at hlt';rw[qz hlt',List.find?_cons] at hfd;obtain⟨a,ha⟩:∃a,a=l[i]:=⟨_,rfl⟩;rw[<-ha] at hat hfd;have hcl:=zct l;obtain⟨N,hN⟩:∃N,N=objs++OB.box 33 (zaY ansZ)::more:=⟨_,rfl⟩;have hx:∀y,(N++[y])[objs.length]? = some (OB.box 33 (zaY ansZ)):=fun y=>by rw[hN,zi,List.getElem?_append_right (zd _)];simp
  have hset:∀y z,(N++[y]).set objs.length z=objs++(z::(more++[y])):=fun y z=>by rw[hN,zi,List.set_append_right _ _ (zd _)];simp
  have hN1:∀y,N++[y]=objs++OB.box 33 (zaY ansZ)::(more++[y]):=fun y=>by rw[hN];simp
  rw[<-hN];unfold zaY at hx hat hN1;simp only[sxZ,z6,z7,z8,j4,j5,j6,j7,j8,j9,x0,x4,x5,x6,x7,x8,reduceCtorEq,↓reduceIte,zb,hlen,t0,t3,t7,t8,t9,hlt,ql,hat,gn1,sn1];refine⟨⟨by omega,by omega⟩,by omega,?_⟩;refine kcallv hf (hacc a _ _ ?_)
  by_cases hp:p a=true
  ·rw[hp] at hfd;rw[hfd] at hk;simp only[hp,sxZ,z6,z7,z8,j4,j5,j6,j7,j8,j9,x0,x4,x5,x6,x7,x8,reduceCtorEq,↓reduceIte,zb,hlen,t0,t3,t7,t8,t9,gn1,sn1,hx,hset,hget];exact hk _
  ·simp only[Bool.not_eq_true] at hp;rw[hp] at hfd;simp only[hp,sxZ,z6,z7,z8,j4,j5,j6,j7,j8,j9,x0,x4,x5,x6,x7,x8,reduceCtorEq,↓reduceIte,zb,hlen,t0,t3,t7,t8,t9,gn1,sn1,hx,hset];exact⟨⟨by omega,by omega⟩,l.length - (i+1),by omega,i+1,_,by omega,rfl,hN1 _,rfl,hfd⟩
 ·obtain rfl:i=l.length:=by omega
  rw[xe] at hfd;rw[hfd] at hk;have hx:(objs++OB.box 33 (zaY ansZ)::more)[objs.length]? = some (OB.box 33 (zaY ansZ)):=by simp
  have hset:∀z,(objs++OB.box 33 (zaY ansZ)::more).set objs.length z=objs++z::more:=fun z=>by simp
  unfold zaY at hx hset;simp only[zaY,sxZ,z6,z7,z8,j4,j5,j6,j7,j8,j9,x0,x4,x5,x6,x7,x8,reduceCtorEq,↓reduceIte,zb,hlen,t0,t3,t7,t8,t9,hlt,hx,hset,hget];exact hk _
end
end
section
attribute [local irreducible] run
section
variable [Tabs Tryz.prog] {objs:List OB} {K:List OB->AV->Prop}
theorem zoF (n:Int) (hk:K objs (.i .i64 (zoG n))):zaa Tryz.prog 46 [.i .i64 n] objs K:=by
 refine zaR is_world_failure rfl fun C _=>?_;unfold zoG at hk
 by_cases c1:n=1
 ·rw[if_pos c1] at hk;simp only[c_world_failure,sxZ,z6,z7,z8,j4,j5,j6,j7,j8,j9,x0,x4,x5,x6,x7,x8,reduceCtorEq,↓reduceIte,c1];exact hk
 rw[if_neg c1] at hk
 by_cases c2:n=2
 ·rw[if_pos c2] at hk;simp only[c_world_failure,sxZ,z6,z7,z8,j4,j5,j6,j7,j8,j9,x0,x4,x5,x6,x7,x8,reduceCtorEq,↓reduceIte,c1,c2];exact hk
 rw[if_neg c2] at hk
 by_cases c3:n=3
 ·rw[if_pos c3] at hk;simp only[c_world_failure,sxZ,z6,z7,z8,j4,j5,j6,j7,j8,j9,x0,x4,x5,x6,x7,x8,reduceCtorEq,↓reduceIte,c1,c2,c3];exact hk
 rw[if_neg c3] at hk
 by_cases c4:n=4
 ·rw[if_pos c4] at hk;simp only[c_world_failure,sxZ,z6,z7,z8,j4,j5,j6,j7,j8,j9,x0,x4,x5,x6,x7,x8,reduceCtorEq,↓reduceIte,c1,c2,c3,c4];exact hk
 rw[if_neg c4] at hk;simp only[c_world_failure,sxZ,z6,z7,z8,j4,j5,j6,j7,j8,j9,x0,x4,x5,x6,x7,x8,reduceCtorEq,↓reduceIte,c1,c2,c3,c4];exact hk
theorem ask_k [Pow Tryz.prog] (l:List Ans) (u:UrlP) (now:Nat) (hl:l.length<=1000000) (hu:zbk u) (hk:K objs (.tup [.s (zgQ l u now).2,.i .i64 (zgQ l u now).1])) :
  zaa Tryz.prog 13 [.row l.length (zaI l),zaM u,.i .u64 now] objs K:=by
 refine zaR is_world_Ask (by simp[zaM,zar,AV.plain,zdP]) fun C _=>?_;unfold zgQ at hk;rw[c_world_Ask];refine zaj fun Y hY=>?_;simp only[zaM,sxZ,z6,z7,z8,j4,j5,j6,j7,j8,j9,x0,x4,x5,x6,x7,x8,reduceCtorEq,↓reduceIte];subst hY;refine zaj fun Y hY=>?_;simp only[sxZ,z6,z7,z8,j4,j5,j6,j7,j8,j9,x0,x4,x5,x6,x7,x8,reduceCtorEq,↓reduceIte];refine zal (zgY u hu ?_)
 by_cases c1:zch u=true
 ·rw[if_neg (by rw[c1];decide)] at hk;simp only[c1,sxZ,z6,z7,z8,j4,j5,j6,j7,j8,j9,x0,x4,x5,x6,x7,x8,reduceCtorEq,↓reduceIte];subst hY;refine zaj fun Y hY=>?_;simp only[sxZ,z6,z7,z8,j4,j5,j6,j7,j8,j9,x0,x4,x5,x6,x7,x8,reduceCtorEq,↓reduceIte];subst hY;refine zaj fun Y hY=>?_;simp only[sxZ,z6,z7,z8,j4,j5,j6,j7,j8,j9,x0,x4,x5,x6,x7,x8,reduceCtorEq,↓reduceIte];obtain⟨u1,u2,u3,u4,u5,u6⟩:=hu;refine znO (zhN u rfl) rfl rfl ?_;simp only[sxZ,z6,z7,z8,j4,j5,j6,j7,j8,j9,x0,x4,x5,x6,x7,x8,reduceCtorEq,↓reduceIte];refine znO (zhM u (by omega) (by omega) rfl) rfl rfl ?_;simp only[zge,sxZ,z6,z7,z8,j4,j5,j6,j7,j8,j9,x0,x4,x5,x6,x7,x8,reduceCtorEq,↓reduceIte];subst hY;refine zaj fun Y hY=>?_;simp only[sxZ,z6,z7,z8,j4,j5,j6,j7,j8,j9,x0,x4,x5,x6,x7,x8,reduceCtorEq,↓reduceIte];refine kcallv zlS (first_k 0 _ l hl rfl _ [qAV u now] [] (zgf u now) isFn_fit (fun a o K' h=>fit_k u now a h) fun more=>?_);generalize l.find? (zgf u now)=r at hk ⊢;unfold askA at hk
  cases r with
  | none=>
   simp only[zfc,zaY,Option.getD_none,Option.isSome_none,sxZ,z6,z7,z8,j4,j5,j6,j7,j8,j9,x0,x4,x5,x6,x7,x8,reduceCtorEq,↓reduceIte,gn1,sn1];subst hY;refine zaj fun Y hY=>?_;simp only[sxZ,z6,z7,z8,j4,j5,j6,j7,j8,j9,x0,x4,x5,x6,x7,x8,reduceCtorEq,↓reduceIte];exact hk
  | some a=>
   simp only[zfc,zaY,Option.getD_some,Option.isSome_some,sxZ,z6,z7,z8,j4,j5,j6,j7,j8,j9,x0,x4,x5,x6,x7,x8,reduceCtorEq,↓reduceIte,gn1,sn1];subst hY;refine zaj fun Y hY=>?_;simp only[sxZ,z6,z7,z8,j4,j5,j6,j7,j8,j9,x0,x4,x5,x6,x7,x8,reduceCtorEq,↓reduceIte];subst hY;refine zaj fun Y hY=>?_;simp only[sxZ,z6,z7,z8,j4,j5,j6,j7,j8,j9,x0,x4,x5,x6,x7,x8,reduceCtorEq,↓reduceIte,gn1,sn1];refine zal (zoF a.fail ?_)
   by_cases c2:zoG a.fail=0
   ·simp only[c2,if_true] at hk;simp only[c2,sxZ,z6,z7,z8,j4,j5,j6,j7,j8,j9,x0,x4,x5,x6,x7,x8,reduceCtorEq,↓reduceIte];subst hY;simp only[sxZ,z6,z7,z8,j4,j5,j6,j7,j8,j9,x0,x4,x5,x6,x7,x8,reduceCtorEq,↓reduceIte,gn1,sn1];exact hk
   ·simp only[c2,if_false] at hk;simp only[c2,sxZ,z6,z7,z8,j4,j5,j6,j7,j8,j9,x0,x4,x5,x6,x7,x8,reduceCtorEq,↓reduceIte];exact hk
 ·rw[if_pos (by simpa using c1)] at hk;simp only[c1,sxZ,z6,z7,z8,j4,j5,j6,j7,j8,j9,x0,x4,x5,x6,x7,x8,reduceCtorEq,↓reduceIte];exact hk
end
end
section
attribute [local irreducible] run
def zeR (u:UrlP):UrlP:=⟨u.host,u.port,u.path,u.query,[],u.hq,false⟩
def zjf:List UInt8:=[108,111,99,97,116,105,111,110]
def za5 (u:UrlP):List AV:=[.s u.host,.i .i64 u.port,.s u.path,.s u.query,.s u.frag,.b u.hq,.b u.hf]
def zaJ (l:List UrlP):List AV:=l.flatMap za5
def zfQ (st:Int):Bool:=decide (st=301)||(decide (st=302)||(decide (st=303)||(decide (st=307)||decide (st=308))))
def nextR (seen:List UrlP) (r:Int×UrlP):Int×UrlP:=if r.1=0 then (if (seen.any fun u=>decide (u=zeR r.2))=true then (251,zbS) else (0,zeR r.2)) else if r.1=253 then (253,zbS) else (252,zbS)
def zcO (b:UrlP) (l:List (List UInt8×List UInt8)) (seen:List UrlP) (hops:Int):Int×UrlP :=
 if 5<=hops then (250,zbS)
 else if ((zbg l zjf).length:Int)≠1 then (252,zbS)
 else nextR seen (relW b ((zbg l zjf).headD []))
theorem zfs (l:List UrlP):(zaJ l).length=l.length*7:=by
 induction l with
 | nil=>rfl
 | cons a l ih=>rw[zaJ,List.flatMap_cons,zg,<-zaJ,ih,ze];simp[za5];omega
theorem zdk (a:UrlP) (l:List UrlP):zaJ (a::l)=za5 a++zaJ l:=rfl
theorem us_plain (l:List UrlP):zar (zaJ l)=true:=by
 induction l with
 | nil=>rfl
 | cons a l ih=>rw[zdk];simp[za5,zar,AV.plain,ih]
theorem uc_at:∀{l:List UrlP} {i:Nat} (hi:i<l.length),((zaJ l).drop (i*7)).take 7=za5 l[i]
 | a::l,0,hi=>by simp[zdk,za5]
 | a::l,i+1,hi=>by
  rw[zdk,show (i+1)*7=7+i*7 by omega,<-ji,show (za5 a++zaJ l).drop 7=zaJ l from by simp[za5]];simpa using uc_at (l:=l) (i:=i) (by simpa using hi)
def FewH (l:List (List UInt8×List UInt8)):Prop:=l.length<=1000000/\(∀p∈l,p.1.length<=140737488351232)/\∀p∈l,p.2.length<=100000
theorem zlr {l:List (List UInt8×List UInt8)} (h:FewH l) (name:List UInt8):∀x∈zbg l name,x.length<=100000:=by
 intro x hx;unfold zbg at hx;obtain⟨p,hp,rfl⟩:=List.mem_map.1 hx;exact h.2.2 p (jl.1 hp).1
theorem eq_url (a b:UrlP):(decide (a.host=b.host)&&(decide (a.port=b.port)&&(decide (a.path=b.path)&&(decide (a.query=b.query)&&(decide (a.frag=b.frag)&&(a.hq==b.hq&&a.hf==b.hf))))))=decide (a=b):=eqW_is a b
section
variable [Tabs Tryz.prog] {objs:List OB} {K:List OB->AV->Prop}
theorem zoh (st:Int) (hk:K objs (.b (zfQ st))):zaa Tryz.prog 56 [.i .i64 st] objs K:=by
 refine zaR is_redirect_IsRedirect rfl fun C _=>?_;unfold zfQ at hk
 by_cases c1:st=301
 ·subst c1;simp only[c_redirect_IsRedirect,sxZ,z6,z7,z8,j4,j5,j6,j7,j8,j9,x0,x4,x5,x6,x7,x8,reduceCtorEq,↓reduceIte];exact hk
 ·by_cases c2:st=302
  ·subst c2;simp only[c_redirect_IsRedirect,sxZ,z6,z7,z8,j4,j5,j6,j7,j8,j9,x0,x4,x5,x6,x7,x8,reduceCtorEq,↓reduceIte];exact hk
  ·by_cases c3:st=303
   ·subst c3;simp only[c_redirect_IsRedirect,sxZ,z6,z7,z8,j4,j5,j6,j7,j8,j9,x0,x4,x5,x6,x7,x8,reduceCtorEq,↓reduceIte];exact hk
   ·by_cases c4:st=307
    ·subst c4;simp only[c_redirect_IsRedirect,sxZ,z6,z7,z8,j4,j5,j6,j7,j8,j9,x0,x4,x5,x6,x7,x8,reduceCtorEq,↓reduceIte];exact hk
    ·by_cases c5:st=308
     ·subst c5;simp only[c_redirect_IsRedirect,sxZ,z6,z7,z8,j4,j5,j6,j7,j8,j9,x0,x4,x5,x6,x7,x8,reduceCtorEq,↓reduceIte];exact hk
     ·simp only[c1,c2,c3,c4,c5,decide_false,Bool.or_false] at hk;simp only[c_redirect_IsRedirect,sxZ,z6,z7,z8,j4,j5,j6,j7,j8,j9,x0,x4,x5,x6,x7,x8,reduceCtorEq,↓reduceIte,c1,c2,c3,c4,c5];exact hk
theorem rNext_k [Pow Tryz.prog] (b:UrlP) (mi st:Int) (l:List (List UInt8×List UInt8)) (seen:List UrlP) (hops:Int) (hb:zbk b) (hf:FewH l) (hs:seen.length<=1000000) (hk:K objs (.tup [zaM (zcO b l seen hops).2,.i .i64 (zcO b l seen hops).1])) :
  zaa Tryz.prog 117 [zaM b,zfk mi st l,.row seen.length (zaJ seen),.i .i64 hops] objs K:=by
 refine zaR is_redirect_Next (by simp[zaM,zfk,zar,AV.plain,zbQ,us_plain]) fun C _=>?_;unfold zcO at hk;have hv:=zlr hf zjf;rw[c_redirect_Next];refine zaj fun Y hY=>?_;simp only[zaM,zfk,sxZ,z6,z7,z8,j4,j5,j6,j7,j8,j9,x0,x4,x5,x6,x7,x8,reduceCtorEq,↓reduceIte];subst hY;refine zaj fun Y hY=>?_
 by_cases c1:(5:Int)<=hops
 ·rw[if_pos c1] at hk;simp only[sxZ,z6,z7,z8,j4,j5,j6,j7,j8,j9,x0,x4,x5,x6,x7,x8,reduceCtorEq,↓reduceIte,c1];exact hk
 ·rw[if_neg c1] at hk;simp only[sxZ,z6,z7,z8,j4,j5,j6,j7,j8,j9,x0,x4,x5,x6,x7,x8,reduceCtorEq,↓reduceIte,c1];subst hY;refine zaj fun Y hY=>?_;simp only[sxZ,z6,z7,z8,j4,j5,j6,j7,j8,j9,x0,x4,x5,x6,x7,x8,reduceCtorEq,↓reduceIte];refine zal (zeQ _ (ziq mi st l zjf hf.1 hf.2.1 (by decide) ⟨fun G I y=>zlb _,?_⟩));generalize zbg l zjf=v at hk hv ⊢;simp only[sxZ,z6,z7,z8,j4,j5,j6,j7,j8,j9,x0,x4,x5,x6,x7,x8,reduceCtorEq,↓reduceIte];subst hY;refine zaj fun Y hY=>?_
  by_cases c2:(v.length:Int)=1
  ·obtain⟨r,rfl⟩:∃r,v=[r]:=by
    match v,c2 with
    | [r],_=>exact⟨r,rfl⟩
    | [],c=>simp at c
    | _::_::_,c=>simp at c;omega
   rw[if_neg (by simp),List.headD_cons] at hk;have hr:=hv r (jd ..);simp only[sxZ,z6,z7,z8,j4,j5,j6,j7,j8,j9,x0,x4,x5,x6,x7,x8,reduceCtorEq,↓reduceIte,zt,List.map_nil,ze,zk,Nat.zero_add,Int.cast_ofNat_Int];subst hY;refine zaj fun Y hY=>?_;simp only[sxZ,z6,z7,z8,j4,j5,j6,j7,j8,j9,x0,x4,x5,x6,x7,x8,reduceCtorEq,↓reduceIte];refine⟨by omega,znO (wRel_k b r hb hr rfl) rfl rfl ?_⟩;generalize relW b r=q at hk ⊢;obtain⟨e,u⟩:=q;unfold nextR at hk;simp only[zaM,sxZ,z6,z7,z8,j4,j5,j6,j7,j8,j9,x0,x4,x5,x6,x7,x8,reduceCtorEq,↓reduceIte];subst hY
   by_cases c3:e=0
   ·subst c3;refine zaj fun Y hY=>?_;simp only[sxZ,z6,z7,z8,j4,j5,j6,j7,j8,j9,x0,x4,x5,x6,x7,x8,reduceCtorEq,↓reduceIte];subst hY;refine zaj fun Y hY=>?_;simp only[sxZ,z6,z7,z8,j4,j5,j6,j7,j8,j9,x0,x4,x5,x6,x7,x8,reduceCtorEq,↓reduceIte];subst hY;refine zaj fun Y hY=>?_;simp only[sxZ,z6,z7,z8,j4,j5,j6,j7,j8,j9,x0,x4,x5,x6,x7,x8,reduceCtorEq,↓reduceIte];rw[if_pos rfl] at hk;have hk0:(seen.any fun x=>decide (x=zeR u))=true->K objs (.tup [zaM zbS,.i .i64 251]):=fun h=>by rw[if_pos h] at hk;exact hk
    have hk1:(seen.any fun x=>decide (x=zeR u))=false->K objs (.tup [zaM (zeR u),.i .i64 0]):=fun h=>by rw[if_neg (by rw[h];decide)] at hk;exact hk
    clear hk;refine zbi (fun n o tm=>∃(i:Nat) (more:List OB),i<=seen.length/\n=seen.length - i/\o=.box 35 (za5 b)::.box 48 [.i .i64 mi,.i .i64 st,.row l.length (zaS l)]::.box 35 (za5 zbS)::.box 35 (za5 (zeR u))::more/\tm.length=53/\tm[8]? = some (.p 2 0)/\tm[11]? = some (.p 3 0)/\tm[41]? = some (.row seen.length (zaJ seen))/\tm[42]? = some (.i .i64 seen.length)/\tm[43]? = some (.i .i64 i)/\(seen.any fun x=>decide (x=zeR u))=(seen.drop i).any fun x=>decide (x=zeR u)) seen.length ⟨0,[],by omega,rfl,rfl,rfl,rfl,rfl,rfl,rfl,rfl,rfl⟩ ?_;rintro n o tm ⟨i,more,hi,rfl,rfl,hlen,t8,t11,t41,t42,t43,hany⟩
    by_cases hlt:(i:Int)<seen.length
    ·have hlt':i<seen.length:=by omega
     have hat:=uc_at hlt';rw[qz hlt',List.any_cons] at hany;have hul:=zfs seen;obtain⟨a,ha⟩:∃a,a=seen[i]:=⟨_,rfl⟩;rw[<-ha] at hat hany;simp only[za5,sxZ,z6,z7,z8,j4,j5,j6,j7,j8,j9,x0,x4,x5,x6,x7,x8,reduceCtorEq,↓reduceIte,zb,hlen,t8,t11,t41,t42,t43,hlt,ql,hat,gn1,sn1];refine⟨⟨by omega,by omega⟩,by omega,?_⟩;rw[eq_url]
     by_cases c5:a=zeR u
     ·simp only[c5,decide_true,Bool.true_or] at hany;simp only[c5,sxZ,z6,z7,z8,j4,j5,j6,j7,j8,j9,x0,x4,x5,x6,x7,x8,reduceCtorEq,↓reduceIte,zb,hlen,t8,t11,t41,t42,t43];exact hk0 hany
     ·simp only[c5,decide_false,Bool.false_or] at hany;simp only[c5,sxZ,z6,z7,z8,j4,j5,j6,j7,j8,j9,x0,x4,x5,x6,x7,x8,reduceCtorEq,↓reduceIte,zb,hlen,t8,t11,t41,t42,t43]
      first|exact⟨⟨by omega,by omega⟩,seen.length - (i+1),by omega,i+1,_,by omega,rfl,rfl,rfl,hany⟩|exact⟨⟨by omega,by omega⟩,seen.length - (i+1),by omega,i+1,by omega,rfl,⟨_,rfl⟩,rfl,hany⟩
    ·obtain rfl:i=seen.length:=by omega
     rw[xe] at hany;simp only[za5,zbS,sxZ,z6,z7,z8,j4,j5,j6,j7,j8,j9,x0,x4,x5,x6,x7,x8,reduceCtorEq,↓reduceIte,zb,hlen,t8,t11,t41,t42,t43,hlt];subst hY;simp only[sxZ,z6,z7,z8,j4,j5,j6,j7,j8,j9,x0,x4,x5,x6,x7,x8,reduceCtorEq,↓reduceIte,zb,hlen,t8,t11,t41,t42,t43,gn1,sn1];exact hk1 hany
   ·rw[if_neg c3] at hk;refine zaj fun Y hY=>?_
    by_cases c4:e=253
    ·rw[if_pos c4] at hk;simp only[sxZ,z6,z7,z8,j4,j5,j6,j7,j8,j9,x0,x4,x5,x6,x7,x8,reduceCtorEq,↓reduceIte,c3,c4];exact hk
    ·rw[if_neg c4] at hk;simp only[sxZ,z6,z7,z8,j4,j5,j6,j7,j8,j9,x0,x4,x5,x6,x7,x8,reduceCtorEq,↓reduceIte,c3,c4];exact hk
  ·rw[if_pos c2] at hk;simp only[sxZ,z6,z7,z8,j4,j5,j6,j7,j8,j9,x0,x4,x5,x6,x7,x8,reduceCtorEq,↓reduceIte,c2];exact hk
end
end
end Go.Proofs.YtomkbafdmbfmfaaGreatDoor
namespace Go.Proofs.YtomkbafdmbfmfaaGreatDoor
open Int renaming toNat_natCast->ql
open Lib renaming decDigits->qq, split->qd
open List renaming append_assoc->zi, append_nil->qw, cons_append->zl, drop_drop->ji, drop_eq_getElem_cons->qz, drop_eq_nil_of_le->jp, drop_length->xe, eq_nil_of_length_eq_zero->jb, getD_cons_zero->xo, getElem?_append_left->zu, getElem?_append_right->ja, getElem?_cons_succ->zy, getElem?_cons_zero->qe, getElem?_eq_some_iff->qp, getElem?_set->zb, getElem?_set_ne->zo, getElem?_set_self->qc, getElem_mem->jt, length->jq, length_append->zg, length_cons->ze, length_drop->zv, length_map->qy, length_nil->zk, length_set->zh, length_take->qi, mem_cons->qo, nil_append->zp, set_cons_succ->zz, set_cons_zero->zx, singleton_append->xm, takeWhile_append_dropWhile->xq
open Nat renaming add_assoc->zw, add_sub_cancel_left->xp, le_refl->zd, lt_or_ge->zj, reduceAdd->qk, zero_add->zr, zero_le->zq
def zbI:List UInt8->Int
 | []=>191
 | c::l=>if c=13 then (match l with | []=>191|d::_=>if d=10 then 0 else 190) else 190
def isLt (c:UInt8):Bool:=c != 13&&c != 10
def zb9 (l:List UInt8):List UInt8:=l.takeWhile isLt
def zhn (l:List UInt8):List UInt8:=l.dropWhile isLt
def hexS (d:List UInt8):Nat:=if (zbe zau 16 18446744073709551615 d).1=0 then (zbe zau 16 18446744073709551615 d).2 else 18446744073709551615
def zl2 (r:List UInt8):List UInt8:=if r.head? = some 59 then zhn r else r
def zbd (l:List UInt8):Int×Nat×List UInt8 :=
 if l.takeWhile zau=[]/\l.dropWhile zau≠[] then (190,0,[])
 else if zbI (zl2 (l.dropWhile zau))=0 then (0,hexS (l.takeWhile zau),(zl2 (l.dropWhile zau)).drop 2)
 else (zbI (zl2 (l.dropWhile zau)),0,[])
def zci:Nat->List UInt8->Int
 | 0,_=>0
 | n+1,l=>if zbI (zhn l)=0 then (if zb9 l=[] then 0 else zci n ((zhn l).drop 2)) else zbI (zhn l)
def zcS (most:Int):Nat->Nat->List UInt8->Int×List UInt8
 | 0,_,_=>(0,[])
 | n+1,tot,l=>
  if (zbd l).1=0 then
   (if most<0\/most<(min (tot+(zbd l).2.1) 18446744073709551615:Nat) then (142,[])
   else if (zbd l).2.1=0 then (zci ((zbd l).2.2.length+1) (zbd l).2.2,[])
   else if (zbd l).2.2.length<(zbd l).2.1 then (191,[])
   else if zbI ((zbd l).2.2.drop (zbd l).2.1)=0 then
    ((zcS most n (min (tot+(zbd l).2.1) 18446744073709551615) ((zbd l).2.2.drop ((zbd l).2.1+2))).1,
     (zbd l).2.2.take (zbd l).2.1++(zcS most n (min (tot+(zbd l).2.1) 18446744073709551615) ((zbd l).2.2.drop ((zbd l).2.1+2))).2)
   else (zbI ((zbd l).2.2.drop (zbd l).2.1),[]))
  else ((zbd l).1,[])
def zbu (s:List UInt8) (most:Int):Int×List UInt8:=if (zcS most (s.length+1) 0 s).1=0 then zcS most (s.length+1) 0 s else ((zcS most (s.length+1) 0 s).1,[])
theorem crlf_two {l:List UInt8} (h:zbI l=0):∃r,l=13::10::r:=by
 unfold zbI at h
 split at h
 ·cases h
 ·split at h
  ·split at h
   ·cases h
   ·split at h
    ·rename_i h1 _ _ _ h2;exact⟨_,by rw[h1,h2]⟩
    ·cases h
  ·cases h
theorem zeu {l:List UInt8} (h:zbI l=0):2<=l.length:=by
 obtain⟨r,rfl⟩:=crlf_two h;simp
theorem zfP (l:List UInt8):(zb9 l).length+(zhn l).length=l.length:=by
 have h:=congrArg jq (xq (p:=isLt) (l:=l));rw[zg] at h;exact h
theorem zhr (l:List UInt8):(l.takeWhile zau).length+(l.dropWhile zau).length=l.length:=by
 have h:=congrArg jq (xq (p:=zau) (l:=l));rw[zg] at h;exact h
theorem extR_len (r:List UInt8):(zl2 r).length<=r.length:=by
 unfold zl2
 split
 ·have:=zfP r;omega
 ·exact zd _
theorem zhY (l:List UInt8) (h:(zbd l).1=0):(zbd l).2.2.length+2<=l.length:=by
 unfold zbd at h ⊢
 split
 ·rename_i h1;rw[if_pos h1] at h;cases h
 ·rename_i h1;rw[if_neg h1] at h
  split
  ·rename_i h2;have:=zeu h2;have h3:=extR_len (l.dropWhile zau);have h4:=zhr l;show ((zl2 (l.dropWhile zau)).drop 2).length+2<=_;rw[zv];omega
  ·rename_i h2;rw[if_neg h2] at h;exact absurd h h2
theorem hexS_le (d:List UInt8):hexS d<=18446744073709551615:=by
 unfold hexS
 split
 ·exact zff _ _ _ _
 ·exact zd _
/-! ## A chunk -/
/-! ## Digits -/
def zji (n:Nat):UInt8:=UInt8.ofNat (if n<10 then 48+n else 87+n)
def zhs (n:Nat):List UInt8:=if h:n<16 then [zji n] else zhs (n / 16)++[zji (n % 16)]
theorem hexL_ne (n:Nat):zhs n≠[]:=by
 rw[zhs]
 split
 ·simp
 ·simp
theorem zfj {n:Nat} (h:n<4096):(zhs n).length<=3:=by
 rw[zhs];split
 ·simp
 ·rw[zhs];split
  ·simp
  ·rw[zhs,dif_pos (by omega)];simp
theorem zou {n:Nat} (h:n<16):zhs n=[zji n]:=by rw[zhs,dif_pos h]
/-! ## The form with chunks of one size -/
def endL:List UInt8:=[48,13,10,13,10]
def zdr (k:Nat):Nat->List UInt8->List UInt8
 | 0,_=>endL
 | n+1,s=>if s=[] then endL else zhs (min k s.length)++(13::10::(s.take k++13::10::zdr k n (s.drop k)))
def zc6 (s:List UInt8) (size:Int):List UInt8:=zdr (max size 1).toNat s.length s
/-! ## What is cut off -/
theorem zoO (k:Nat) (hk:1<=k):∀(n:Nat) (s:List UInt8),s.length<4096->s.length<=n->(zdr k n s).length<=8*s.length+5
 | n,[],_,_=>by
  have e:zdr k n []=endL:=by cases n<;>rfl
  rw[e];simp[endL]
 | 0,c::s,_,h=>by simp at h
 | n+1,c::s,hn,h=>by
  rw[zdr,if_neg (by simp)];generalize hl:c::s=l at h hn ⊢;have hlp:0<l.length:=by rw[<-hl];simp
  have hd:(l.drop k).length=l.length - k:=zv;have ht:(l.take k).length=min k l.length:=qi;have hx:=zfj (n:=min k l.length) (by omega);have:=zoO k hk n (l.drop k) (by omega) (by omega);simp only[zg,ze];omega
open Go.RowKit
def addS (a b:Int):Int:=if a+b<=18446744073709551615 then a+b else 18446744073709551615
theorem Add_any (a b:Int) (w:World) (ha:0<=a) (hb:0<=b) (ha1:a<=18446744073709551615) (hb1:b<=18446744073709551615) :
  Calls Tryz.prog 190 #[.int .u64 a,.int .u64 b] w fun e w'=>e=.returned (.int .u64 (addS a b))/\w=w':=by
 go_enter Tryz.func190,Tryz.ntmps190
 go_wp2
 all_goals go_ret
 all_goals exact⟨zcm (by unfold addS;split<;>omega),rfl⟩
open Sx
class Brn (P:Program) [Tabs P]:Prop where
 br:∀w:World,Tabs.T (P:=P) w->w.cell? ⟨5,15,none⟩=some (.int .u8 4)
theorem biv {x y:Int} {k:IntKind} (h:x=y):(some (AV.i k x):Option AV)=some (.i k y):=by rw[h]
section
variable [Tabs Tryz.prog] [Brn Tryz.prog] {objs:List OB} {K:List OB->AV->Prop}
end
open Nat renaming reduceAdd -> z6, reduceSub -> z7, reduceLeDiff -> z8, reduceLT -> j4, reduceMul -> j5, reduceEqDiff -> j6
open Int renaming reduceToNat -> j7, reduceAdd -> j8, reduceSub -> j9, reduceMul -> x0, reduceNeg -> x4, reduceLT -> x5, reduceLE -> x6, reduceEq -> x7, reduceNe -> x8
section
attribute [local irreducible] run
theorem crlf_c1 (c:UInt8) (l:List UInt8) (h:¬c=13):zbI (c::l)=190:=by unfold zbI;exact if_neg h
theorem crlf_c3 (d:UInt8) (l:List UInt8) (h:¬d=10):zbI (13::d::l)=190:=by unfold zbI;simp[h]
theorem crlf_at0 {s:List UInt8} {a:Nat} (h:s.length<=a):zbI (s.drop a)=191:=by rw[jp h];rfl
theorem crlf_at1 {s:List UInt8} {a:Nat} (h:a<s.length) (h1:¬s[a]=13):zbI (s.drop a)=190:=by rw[qz h];exact crlf_c1 _ _ h1
theorem crlf_at2 {s:List UInt8} {a:Nat} (h:a<s.length) (h1:s[a]=13) (h2:s.length<=a+1):zbI (s.drop a)=191:=by rw[qz h,jp h2,h1];rfl
theorem crlf_at3 {s:List UInt8} {a:Nat} (h:a<s.length) (h1:s[a]=13) (h2:a+1<s.length) (h3:¬s[a+1]=10):zbI (s.drop a)=190:=by rw[qz h,qz h2,h1];exact crlf_c3 _ _ h3
theorem crlf_at4 {s:List UInt8} {a:Nat} (h:a<s.length) (h1:s[a]=13) (h2:a+1<s.length) (h3:s[a+1]=10):zbI (s.drop a)=0:=by rw[qz h,qz h2,h1,h3];rfl
theorem zf5 (c d:UInt8):(((c.toNat:Nat):Int)=((d.toNat:Nat):Int))↔c=d:=by
 constructor
 ·intro h;apply UInt8.toNat_inj.1;omega
 ·rintro rfl;rfl
theorem lt_at (s:List UInt8) (i:Nat) (h:i<s.length):zb9 (s.drop i)=if isLt s[i]=true then s[i]::zb9 (s.drop (i+1)) else []:=by
 unfold zb9;rw[qz h,List.takeWhile_cons]
theorem isLt_nat (c:UInt8):isLt c=(decide (¬((c.toNat:Nat):Int)=13)&&decide (¬((c.toNat:Nat):Int)=10)):=by
 have h1:=zf5 c 13;have h2:=zf5 c 10;have e1:(((13:UInt8).toNat:Nat):Int)=13:=rfl;have e2:(((10:UInt8).toNat:Nat):Int)=10:=rfl;rw[e1] at h1;rw[e2] at h2;unfold isLt;rw[Bool.eq_iff_iff];simp[h1,h2]
theorem zkk (l:List UInt8):(zb9 l).length<=l.length:=by have:=zfP l;omega
theorem zhm (s:List UInt8) (i:Nat):zhn (s.drop i)=s.drop (i+(zb9 (s.drop i)).length):=by
 have h:=xq (p:=isLt) (l:=s.drop i);have h2:(s.drop i).drop (zb9 (s.drop i)).length=zhn (s.drop i):=by
  unfold zb9 zhn
  conv=>lhs;arg 2;rw[<-h]
  rw[List.drop_left]
 rw[<-h2,ji]
theorem hex_at (s:List UInt8) (i:Nat) (h:i<s.length):(s.drop i).takeWhile zau=if zau s[i]=true then s[i]::(s.drop (i+1)).takeWhile zau else []:=by
 rw[qz h,List.takeWhile_cons]
theorem zot (s:List UInt8) (i:Nat):(s.drop i).dropWhile zau=s.drop (i+((s.drop i).takeWhile zau).length):=by
 have h:=xq (p:=zau) (l:=s.drop i);have h2:(s.drop i).drop ((s.drop i).takeWhile zau).length=(s.drop i).dropWhile zau:=by
  conv=>lhs;arg 2;rw[<-h]
  rw[List.drop_left]
 rw[<-h2,ji]
theorem hexT_at (s:List UInt8) (i:Nat):(s.drop i).takeWhile zau=(s.drop i).take ((s.drop i).takeWhile zau).length:=by
 have h:=xq (p:=zau) (l:=s.drop i)
 conv=>rhs;arg 2;rw[<-h]
 rw[List.take_left]
theorem zc7 (s:List UInt8) (a k:Nat):List.drop a (List.take (a+k) s)=(s.drop a).take k:=by
 rw[List.drop_take,xp]
theorem zgl:∀(n m:Nat) (l:List UInt8),l.length<n->l.length<m->zci n l=zci m l
 | 0,_,_,h,_=>by omega
 | _,0,_,_,h=>by omega
 | n+1,m+1,l,h1,h2=>by
  rw[zci,zci]
  by_cases c1:zbI (zhn l)=0
  ·rw[if_pos c1,if_pos c1]
   by_cases c2:zb9 l=[]
   ·rw[if_pos c2,if_pos c2]
   ·rw[if_neg c2,if_neg c2];have h3:=zeu c1;have h4:=zfP l;exact zgl n m _ (by rw[zv];omega) (by rw[zv];omega)
  ·rw[if_neg c1,if_neg c1]
theorem zgL (most:Int):∀(n m tot:Nat) (l:List UInt8),l.length<n->l.length<m->zcS most n tot l=zcS most m tot l
 | 0,_,_,_,h,_=>by omega
 | _,0,_,_,_,h=>by omega
 | n+1,m+1,tot,l,h1,h2=>by
  rw[zcS,zcS]
  by_cases c0:(zbd l).1=0
  ·have h3:=zhY l c0;rw[zgL most n m _ _ (by rw[zv];omega) (by rw[zv];omega)]
  ·rw[if_neg c0,if_neg c0]
section
variable [Tabs Tryz.prog] {objs:List OB} {K:List OB->AV->Prop}
theorem cle_k (s:List UInt8) (a:Nat) (ha:a<=s.length) (hs:s.length<=9000000000000000000) (hk:K objs (.i .i64 (zbI (s.drop a)))):zaa Tryz.prog 191 [.s s,.i .i64 (a:Nat)] objs K:=by
 refine zaR is_body_checkLineEnd rfl fun C _=>?_;simp only[c_body_checkLineEnd,sxZ,z6,z7,z8,j4,j5,j6,j7,j8,j9,x0,x4,x5,x6,x7,x8,reduceCtorEq,↓reduceIte];have e0:((a:Nat):Int)+0=(a:Nat):=by omega
 have e1:((a:Nat):Int)+1=((a+1:Nat):Int):=by omega
 refine zbi (fun n objs tm=>objs=[]/\tm.length=24/\tm[0]? = some (.s s)/\tm[1]? = some (.i .i64 (a:Nat))/\((n=2/\tm[6]? = some (.i .i64 0))\/(n=1/\tm[6]? = some (.i .i64 1)/\∃h:a<s.length,s[a]=13)\/(n=0/\tm[6]? = some (.i .i64 2)/\zbI (s.drop a)=0))) 2 ⟨rfl,rfl,rfl,rfl,.inl ⟨rfl,rfl⟩⟩ ?_;rintro n _ tm ⟨rfl,hlen,t0,t1,h⟩;rcases h with ⟨rfl,t6⟩|⟨rfl,t6,hlt,h13⟩|⟨rfl,t6,h0⟩
 ·by_cases c1:((s.length:Nat):Int)<=(a:Nat)
  ·rw[crlf_at0 (by omega)] at hk;simp only[sxZ,z6,z7,z8,j4,j5,j6,j7,j8,j9,x0,x4,x5,x6,x7,x8,reduceCtorEq,↓reduceIte,zb,hlen,t0,t1,t6,e0,c1];exact⟨by omega,hk⟩
  ·have hlt:a<s.length:=by omega
   have hg:=zc5 hlt
   by_cases c2:(((s[a]).toNat:Nat):Int)=(((13:UInt8).toNat:Nat):Int)
   ·simp only[sxZ,z6,z7,z8,j4,j5,j6,j7,j8,j9,x0,x4,x5,x6,x7,x8,reduceCtorEq,↓reduceIte,zb,hlen,t0,t1,t6,e0,c1,ql,hg,xo,c2];exact⟨by omega,by omega,⟨by omega,by omega⟩,by omega,1,by omega,.inr (.inl ⟨rfl,hlt,(zf5 _ _).1 c2⟩)⟩
   ·rw[crlf_at1 hlt (fun e=>c2 (by rw[e]))] at hk;simp only[sxZ,z6,z7,z8,j4,j5,j6,j7,j8,j9,x0,x4,x5,x6,x7,x8,reduceCtorEq,↓reduceIte,zb,hlen,t0,t1,t6,e0,c1,ql,hg,xo,c2];exact⟨by omega,by omega,⟨by omega,by omega⟩,by omega,hk⟩
 ·by_cases c1:((s.length:Nat):Int)<=((a+1:Nat):Int)
  ·rw[crlf_at2 hlt h13 (by omega)] at hk;simp only[sxZ,z6,z7,z8,j4,j5,j6,j7,j8,j9,x0,x4,x5,x6,x7,x8,reduceCtorEq,↓reduceIte,zb,hlen,t0,t1,t6,e1,c1];exact⟨by omega,hk⟩
  ·have hlt2:a+1<s.length:=by omega
   have hg:=zc5 hlt2
   by_cases c2:(((s[a+1]).toNat:Nat):Int)=(((10:UInt8).toNat:Nat):Int)
   ·simp only[sxZ,z6,z7,z8,j4,j5,j6,j7,j8,j9,x0,x4,x5,x6,x7,x8,reduceCtorEq,↓reduceIte,zb,hlen,t0,t1,t6,e1,c1,ql,hg,xo,List.getD_cons_succ,c2];exact⟨by omega,by omega,⟨by omega,by omega⟩,by omega,0,by omega,.inr (.inr ⟨rfl,crlf_at4 hlt h13 hlt2 ((zf5 _ _).1 c2)⟩)⟩
   ·rw[crlf_at3 hlt h13 hlt2 (fun e=>c2 (by rw[e]))] at hk;simp only[sxZ,z6,z7,z8,j4,j5,j6,j7,j8,j9,x0,x4,x5,x6,x7,x8,reduceCtorEq,↓reduceIte,zb,hlen,t0,t1,t6,e1,c1,ql,hg,xo,List.getD_cons_succ,c2];exact⟨by omega,by omega,⟨by omega,by omega⟩,by omega,hk⟩
 ·rw[h0] at hk;simp only[sxZ,z6,z7,z8,j4,j5,j6,j7,j8,j9,x0,x4,x5,x6,x7,x8,reduceCtorEq,↓reduceIte,zb,hlen,t0,t1,t6];exact hk
theorem lte_k (s:List UInt8) (a:Nat) (ha:a<=s.length) (hs:s.length<=9000000000000000000) (hk:K objs (.i .i64 ((a+(zb9 (s.drop a)).length:Nat):Int))):zaa Tryz.prog 253 [.s s,.i .i64 (a:Nat)] objs K:=by
 refine zaR is_body_lineTextEnd rfl fun C _=>?_;simp only[c_body_lineTextEnd,sxZ,z6,z7,z8,j4,j5,j6,j7,j8,j9,x0,x4,x5,x6,x7,x8,reduceCtorEq,↓reduceIte];refine zbi (fun n objs tm=>∃i:Nat,i<=s.length/\n=s.length - i/\objs=[]/\a+(zb9 (s.drop a)).length=i+(zb9 (s.drop i)).length/\tm.length=24/\tm[0]? = some (.s s)/\tm[1]? = some (.i .i64 i)) (s.length - a) ⟨a,ha,rfl,rfl,rfl,rfl,rfl,rfl⟩ ?_;rintro n _ tm ⟨i,hi,rfl,rfl,hr,hlen,t0,t1⟩
 by_cases hlt:(i:Int)<s.length
 ·have hlt':i<s.length:=by omega
  have hg:=zc5 hlt';have hrn:=lt_at s i hlt';rw[isLt_nat] at hrn
  by_cases c1:(((s[i]).toNat:Nat):Int)=13
  ·rw[if_neg (by simp[c1])] at hrn;simp only[sxZ,z6,z7,z8,j4,j5,j6,j7,j8,j9,x0,x4,x5,x6,x7,x8,reduceCtorEq,↓reduceIte,zb,hlen,t0,t1,hlt,ql,hg,c1];rw[hr,hrn] at hk;exact⟨by omega,hk⟩
  ·by_cases c2:(((s[i]).toNat:Nat):Int)=10
   ·rw[if_neg (by simp[c2])] at hrn;simp only[sxZ,z6,z7,z8,j4,j5,j6,j7,j8,j9,x0,x4,x5,x6,x7,x8,reduceCtorEq,↓reduceIte,zb,hlen,t0,t1,hlt,ql,hg,c1,c2];rw[hr,hrn] at hk;exact⟨by omega,by omega,hk⟩
   ·rw[if_pos (by simp[c1,c2])] at hrn;rw[hrn,ze] at hr;simp only[sxZ,z6,z7,z8,j4,j5,j6,j7,j8,j9,x0,x4,x5,x6,x7,x8,reduceCtorEq,↓reduceIte,zb,hlen,t0,t1,hlt,ql,hg,c1,c2];exact⟨by omega,by omega,⟨by omega,by omega⟩,_,by omega,i+1,by omega,rfl,by omega,rfl⟩
 ·obtain rfl:i=s.length:=by omega
  have he:(zb9 (s.drop s.length)).length=0:=by rw[xe];rfl
  simp only[sxZ,z6,z7,z8,j4,j5,j6,j7,j8,j9,x0,x4,x5,x6,x7,x8,reduceCtorEq,↓reduceIte,zb,hlen,t0,t1,hlt];rw[hr,he] at hk;exact hk
theorem zmt (s:List UInt8) (a:Nat) (ha:a<=s.length) (hs:s.length<=4000000000000000000) (hk:K objs (.i .i64 (zci ((s.drop a).length+1) (s.drop a)))):zaa Tryz.prog 192 [.s s,.i .i64 (a:Nat)] objs K:=by
 refine zaR is_body_checkTrailer rfl fun C _=>?_;simp only[c_body_checkTrailer,sxZ,z6,z7,z8,j4,j5,j6,j7,j8,j9,x0,x4,x5,x6,x7,x8,reduceCtorEq,↓reduceIte];refine zbi (fun n objs tm=>∃i:Nat,i<=s.length/\n=s.length - i/\objs=[]/\zci ((s.drop a).length+1) (s.drop a)=zci ((s.drop i).length+1) (s.drop i)/\tm.length=23/\tm[0]? = some (.s s)/\tm[1]? = some (.i .i64 i)) (s.length - a) ⟨a,ha,rfl,rfl,rfl,rfl,rfl,rfl⟩ ?_;rintro n _ tm ⟨i,hi,rfl,rfl,hr,hlen,t0,t1⟩;simp only[sxZ,z6,z7,z8,j4,j5,j6,j7,j8,j9,x0,x4,x5,x6,x7,x8,reduceCtorEq,↓reduceIte,zb,hlen,t0,t1];refine zal (lte_k s i hi (by omega) ?_);have hle:=zkk (s.drop i);rw[zv] at hle;simp only[sxZ,z6,z7,z8,j4,j5,j6,j7,j8,j9,x0,x4,x5,x6,x7,x8,reduceCtorEq,↓reduceIte,zb,hlen,t0,t1];refine zal (cle_k s (i+(zb9 (s.drop i)).length) (by omega) (by omega) ?_);have hr2:zci ((s.drop i).length+1) (s.drop i)=if zbI (s.drop (i+(zb9 (s.drop i)).length))=0 then (if zb9 (s.drop i)=[] then 0 else zci (s.drop i).length ((s.drop (i+(zb9 (s.drop i)).length)).drop 2)) else zbI (s.drop (i+(zb9 (s.drop i)).length)):=by rw[zci,zhm]
 rw[hr2] at hr;clear hr2;have hcl:=fun h=>zeu (l:=s.drop (i+(zb9 (s.drop i)).length)) h;have hel:zb9 (s.drop i)=[]↔(zb9 (s.drop i)).length=0:=⟨fun h=>by rw[h];rfl,jb⟩;rw[zv] at hcl;generalize (zb9 (s.drop i)).length=d at *
 by_cases c1:zbI (s.drop (i+d))=0
 ·rw[if_pos c1] at hr;have hcl:=hcl c1
  by_cases c2:((i+d:Nat):Int)=((i:Nat):Int)
  ·rw[if_pos (hel.2 (by omega))] at hr;rw[hr] at hk;simp only[sxZ,z6,z7,z8,j4,j5,j6,j7,j8,j9,x0,x4,x5,x6,x7,x8,reduceCtorEq,↓reduceIte,zb,hlen,t0,t1,c1,c2];exact hk
  ·rw[if_neg (fun h=>by have:=hel.1 h;omega)] at hr;simp only[sxZ,z6,z7,z8,j4,j5,j6,j7,j8,j9,x0,x4,x5,x6,x7,x8,reduceCtorEq,↓reduceIte,zb,hlen,t0,t1,c1,c2];refine⟨by omega,_,by omega,i+d+2,by omega,rfl,?_,biv (by omega)⟩;rw[hr,ji];exact zgl _ _ _ (by simp only[zv];omega) (by simp only[zv];omega)
 ·rw[if_neg c1] at hr;rw[hr] at hk;simp only[sxZ,z6,z7,z8,j4,j5,j6,j7,j8,j9,x0,x4,x5,x6,x7,x8,reduceCtorEq,↓reduceIte,zb,hlen,t0,t1,c1];exact hk
def zeV (s:List UInt8) (a:Nat):Nat:=if (zbd (s.drop a)).1=0 then s.length - (zbd (s.drop a)).2.2.length else 0
theorem zlz (s:List UInt8) (a:Nat) (ha:a<=s.length) (hs:s.length<=4000000000000000000) (hk:K objs (.tup [.i .u64 (zbd (s.drop a)).2.1,.i .i64 (zeV s a),.i .i64 (zbd (s.drop a)).1])):zaa Tryz.prog 189 [.s s,.i .i64 (a:Nat)] objs K:=by
 have hm:maxLen=2 ^ 63 - 1:=rfl;refine zaR is_body_sizeLine rfl fun C _=>?_;rw[c_body_sizeLine];refine zaj fun Y hY=>?_;simp only[sxZ,z6,z7,z8,j4,j5,j6,j7,j8,j9,x0,x4,x5,x6,x7,x8,reduceCtorEq,↓reduceIte];subst hY;refine zaj fun Y hY=>?_;simp only[sxZ,z6,z7,z8,j4,j5,j6,j7,j8,j9,x0,x4,x5,x6,x7,x8,reduceCtorEq,↓reduceIte];subst hY;refine zaj fun Y hY=>?_;have hhl:((s.drop a).takeWhile zau).length<=(s.drop a).length:=by have:=zhr (s.drop a);omega
 have hT:=hexT_at s a;have hR:=zot s a;rw[zv] at hhl;obtain⟨e,he⟩:∃e,e=a+((s.drop a).takeWhile zau).length:=⟨_,rfl⟩;refine zei (fun o t=>o=[]/\t.length=66/\t[0]? = some (.s s)/\t[1]? = some (.i .i64 (a:Nat))/\t[7]? = some (.i .i64 (e:Nat))) ?_ ?_
 ·simp only[sxZ,z6,z7,z8,j4,j5,j6,j7,j8,j9,x0,x4,x5,x6,x7,x8,reduceCtorEq,↓reduceIte];refine zbi (fun n objs tm=>∃i:Nat,i<=s.length/\n=s.length - i/\objs=[]/\e=i+((s.drop i).takeWhile zau).length/\tm.length=66/\tm[0]? = some (.s s)/\tm[1]? = some (.i .i64 (a:Nat))/\tm[7]? = some (.i .i64 i)) (s.length - a) ⟨a,ha,rfl,rfl,he,rfl,rfl,rfl,rfl⟩ ?_;rintro n _ tm ⟨i,hi,rfl,rfl,hr,hlen,t0,t1,t7⟩
  by_cases hlt:(i:Int)<s.length
  ·have hlt':i<s.length:=by omega
   have hg:=zc5 hlt';have hx:=hex_at s i hlt';simp only[sxZ,z6,z7,z8,j4,j5,j6,j7,j8,j9,x0,x4,x5,x6,x7,x8,reduceCtorEq,↓reduceIte,zb,hlen,t0,t1,t7,hlt,ql,hg];refine⟨by omega,zal (aHex_k s[i] ?_)⟩
   by_cases c1:zau s[i]=true
   ·rw[if_pos c1] at hx;rw[hx,ze] at hr;simp only[sxZ,z6,z7,z8,j4,j5,j6,j7,j8,j9,x0,x4,x5,x6,x7,x8,reduceCtorEq,↓reduceIte,zb,hlen,t0,t1,t7,c1];exact⟨⟨by omega,by omega⟩,_,by omega,i+1,by omega,rfl,by omega,rfl⟩
   ·rw[if_neg c1] at hx;rw[hx,zk] at hr;simp only[Bool.not_eq_true] at c1;simp only[sxZ,z6,z7,z8,j4,j5,j6,j7,j8,j9,x0,x4,x5,x6,x7,x8,reduceCtorEq,↓reduceIte,zb,hlen,t0,t1,t7,c1,zaA];exact biv (by omega)
  ·obtain rfl:i=s.length:=by omega
   rw[xe] at hr;simp only[List.takeWhile_nil,zk] at hr;simp only[sxZ,z6,z7,z8,j4,j5,j6,j7,j8,j9,x0,x4,x5,x6,x7,x8,reduceCtorEq,↓reduceIte,zb,hlen,t0,t1,t7,hlt,zaA];exact biv (by omega)
 ·rintro o t ⟨rfl,hlen,t0,t1,t7⟩;subst hY;refine zaj fun Y hY=>?_;have hd:List.drop a (List.take e s)=(s.drop a).takeWhile zau:=by rw[he,zc7,<-hT]
  rw[<-he] at hR;have hel:e<=s.length:=by omega
  have hz:(s.drop a).takeWhile zau=[]↔e=a:=by
   rw[<-List.length_eq_zero_iff];omega
  have hse:zbd (s.drop a)=if (s.drop a).takeWhile zau=[]/\s.drop e≠[] then (190,0,[]) else if zbI (zl2 (s.drop e))=0 then (0,hexS ((s.drop a).takeWhile zau),(zl2 (s.drop e)).drop 2) else (zbI (zl2 (s.drop e)),0,[]):=by
   unfold zbd;rw[hR]
  generalize hdg:(s.drop a).takeWhile zau=dg at *;simp only[sxZ,z6,z7,z8,j4,j5,j6,j7,j8,j9,x0,x4,x5,x6,x7,x8,reduceCtorEq,↓reduceIte,zb,hlen,t0,t1,t7,ql,hd];refine⟨⟨by omega,by omega,by omega⟩,?_⟩;subst hY;refine zaj fun Y hY=>?_;refine zei (fun o t=>(o=[]/\t.length=66/\t[0]? = some (.s s)/\t[7]? = some (.i .i64 (e:Nat))/\t[8]? = some (.s dg))/\¬(dg=[]/\s.drop e≠[])) ?_ ?_
  ·by_cases c2:dg=[]
   ·by_cases c1:((e:Nat):Int)<s.length
    ·have hne:s.drop e≠[]:=fun h=>by have:=congrArg jq h;rw[zv,zk] at this;omega
     unfold zeV at hk;rw[hse,if_pos ⟨c2,hne⟩] at hk;simp only[sxZ,z6,z7,z8,j4,j5,j6,j7,j8,j9,x0,x4,x5,x6,x7,x8,reduceCtorEq,↓reduceIte,zb,hlen,t0,t1,t7,c1,c2,zc9];exact hk
    ·have hne:¬s.drop e≠[]:=fun h=>h (jp (by omega));simp only[sxZ,z6,z7,z8,j4,j5,j6,j7,j8,j9,x0,x4,x5,x6,x7,x8,reduceCtorEq,↓reduceIte,zb,hlen,t0,t1,t7,c1,c2,zaA];exact fun h=>hne h
   ·simp only[sxZ,z6,z7,z8,j4,j5,j6,j7,j8,j9,x0,x4,x5,x6,x7,x8,reduceCtorEq,↓reduceIte,zb,hlen,t0,t1,t7,c2,zaA];exact fun h=>h.1
  clear hlen t0 t1 t7;rintro o t ⟨⟨rfl,hlen,t0,t7,t8⟩,hno⟩;rw[if_neg hno] at hse;subst hY;refine zaj fun Y hY=>?_;obtain⟨f,hf⟩:∃f,f=e+if (s.drop e).head? = some 59 then (zb9 (s.drop e)).length else 0:=⟨_,rfl⟩
  have hle:=zkk (s.drop e);rw[zv] at hle;have hfl:f<=s.length:=by rw[hf];split<;>omega
  have hx:zl2 (s.drop e)=s.drop f:=by
   unfold zl2;rw[hf]
   split
   ·rw[zhm]
   ·rfl
  rw[hx] at hse;refine zei (fun o t=>o=[]/\t.length=66/\t[0]? = some (.s s)/\t[7]? = some (.i .i64 (f:Nat))/\t[8]? = some (.s dg)) ?_ ?_
  ·by_cases c1:((e:Nat):Int)<s.length
   ·have hlt:e<s.length:=by omega
    have hg:=zc5 hlt;rw[(show (s.drop e).head? = some s[e] by rw[qz hlt];rfl)] at hf
    by_cases c3:(((s[e]).toNat:Nat):Int)=(((59:UInt8).toNat:Nat):Int)
    ·rw[if_pos (by rw[(zf5 _ _).1 c3])] at hf;have e3:(((59:UInt8).toNat:Nat):Int)=59:=rfl;rw[e3] at c3;simp only[sxZ,z6,z7,z8,j4,j5,j6,j7,j8,j9,x0,x4,x5,x6,x7,x8,reduceCtorEq,↓reduceIte,zb,hlen,t0,t7,t8,c1,ql,hg,c3];refine⟨by omega,zal (lte_k s e (by omega) (by omega) ?_)⟩;simp only[sxZ,z6,z7,z8,j4,j5,j6,j7,j8,j9,x0,x4,x5,x6,x7,x8,reduceCtorEq,↓reduceIte,zb,hlen,t0,t7,t8,zaA];exact biv (by omega)
    ·rw[if_neg (fun h=>c3 (by injection h with h;rw[h]))] at hf;have e3:(((59:UInt8).toNat:Nat):Int)=59:=rfl;rw[e3] at c3;simp only[sxZ,z6,z7,z8,j4,j5,j6,j7,j8,j9,x0,x4,x5,x6,x7,x8,reduceCtorEq,↓reduceIte,zb,hlen,t0,t7,t8,c1,ql,hg,c3,zaA];exact⟨by omega,biv (by omega)⟩
   ·rw[jp (by omega:s.length<=e)] at hf;rw[if_neg (by simp)] at hf;simp only[sxZ,z6,z7,z8,j4,j5,j6,j7,j8,j9,x0,x4,x5,x6,x7,x8,reduceCtorEq,↓reduceIte,zb,hlen,t0,t7,t8,c1,zaA];exact biv (by omega)
  clear hlen t0 t7 t8;rintro o t ⟨rfl,hlen,t0,t7,t8⟩;subst hY;simp only[sxZ,z6,z7,z8,j4,j5,j6,j7,j8,j9,x0,x4,x5,x6,x7,x8,reduceCtorEq,↓reduceIte,zb,hlen,t0,t7,t8];refine zal (cle_k s f hfl (by omega) ?_);unfold zeV at hk
  by_cases c4:zbI (s.drop f)=0
  ·rw[if_pos c4] at hse;have hcl:=zeu c4;rw[zv] at hcl;rw[hse,if_pos rfl] at hk;simp only[sxZ,z6,z7,z8,j4,j5,j6,j7,j8,j9,x0,x4,x5,x6,x7,x8,reduceCtorEq,↓reduceIte,zb,hlen,t0,t7,t8,c4];have hdl:dg.length<=s.length:=by rw[<-hdg];have:=zhr (s.drop a);rw[zv] at this;omega
   refine zal (nHex_k dg 18446744073709551615 (by rw[hm];omega) (by omega) ?_);have e1:((s.length - ((s.drop f).drop 2).length:Nat):Int)=((f:Nat):Int)+2:=by simp only[zv];omega
   rw[e1] at hk;unfold hexS at hk
   by_cases c5:(zbe zau 16 18446744073709551615 dg).1=0
   ·rw[if_pos c5] at hk;simp only[sxZ,z6,z7,z8,j4,j5,j6,j7,j8,j9,x0,x4,x5,x6,x7,x8,reduceCtorEq,↓reduceIte,zb,hlen,t0,t7,t8,c5];exact⟨by omega,hk⟩
   ·rw[if_neg c5] at hk;simp only[sxZ,z6,z7,z8,j4,j5,j6,j7,j8,j9,x0,x4,x5,x6,x7,x8,reduceCtorEq,↓reduceIte,zb,hlen,t0,t7,t8,c5];exact⟨by omega,hk⟩
  ·rw[if_neg c4] at hse;rw[hse,if_neg c4] at hk;simp only[sxZ,z6,z7,z8,j4,j5,j6,j7,j8,j9,x0,x4,x5,x6,x7,x8,reduceCtorEq,↓reduceIte,zb,hlen,t0,t7,t8,c4];exact hk
end
theorem zmB {l:List UInt8} (h:(zbd l).1=0):∃k,(zbd l).2.2=l.drop k:=by
 unfold zbd at h ⊢
 split
 ·rename_i h1;rw[if_pos h1] at h;cases h
 ·split
  ·have h1:=zot l 0;rw[List.drop_zero] at h1;show ∃k,(zl2 (l.dropWhile zau)).drop 2=l.drop k;rw[h1];unfold zl2
   split
   ·rw[zhm,ji];exact⟨_,rfl⟩
   ·rw[ji];exact⟨_,rfl⟩
  ·rename_i h1 h2;rw[if_neg h1,if_neg h2] at h;exact absurd h h2
theorem zmC {s:List UInt8} {i:Nat} (h:(zbd (s.drop i)).1=0):(zbd (s.drop i)).2.2=s.drop (zeV s i)/\i+2<=zeV s i/\zeV s i<=s.length:=by
 obtain⟨k,hk⟩:=zmB h;have hl:=zhY _ h;unfold zeV;rw[if_pos h];rw[hk,ji] at hl ⊢;simp only[zv] at hl ⊢;refine⟨?_,by omega,by omega⟩;rcases Nat.le_total (i+k) s.length with h1|h1
 ·congr 1;omega
 ·rw[jp h1,jp (by omega)]
theorem size_le (l:List UInt8):(zbd l).2.1<=18446744073709551615:=by
 unfold zbd
 split
 ·exact zq _
 ·split
  ·exact hexS_le _
  ·exact zq _
theorem addS_nat (a b:Nat):addS a b=((min (a+b) 18446744073709551615:Nat):Int):=by
 unfold addS
 split<;>omega
def OutIs (E:Nat) (acc:List UInt8) (o:List OB) (v:Option AV):Prop:=(acc=[]/\o=[]/\v=some .nil)\/(∃g,o=[.orow E 1 g acc.length (byA acc)]/\v=some (.orow 0 g))
section
variable [Tabs Tryz.prog] {objs:List OB} {K:List OB->AV->Prop}
theorem nAdd_k (a b:Nat) (ha:a<=18446744073709551615) (hb:b<=18446744073709551615) (hk:K objs (.i .u64 ((min (a+b) 18446744073709551615:Nat):Int))):zaa Tryz.prog 190 [.i .u64 a,.i .u64 b] objs K :=
 zjx (vs:=[.int .u64 a,.int .u64 b]) rfl rfl (fun w=>by have:=Add_any a b w (by omega) (by omega) (by omega) (by omega);rwa [addS_nat] at this) hk
theorem zph (s:List UInt8) (most:Int) (hs:s.length<=100000000000) (hm0:-9223372036854775808<=most) (hm1:most<=9223372036854775807) (hk:K objs (.tup [.s (zbu s most).2,.i .i64 (zbu s most).1])):zaa Tryz.prog 121 [.s s,.i .i64 most] objs K:=by
 refine zaR is_body_Chunked rfl fun C _=>?_;rw[c_body_Chunked];refine zaj fun Y hY=>?_;simp only[sxZ,z6,z7,z8,j4,j5,j6,j7,j8,j9,x0,x4,x5,x6,x7,x8,reduceCtorEq,↓reduceIte];subst hY;refine zaj fun Y hY=>?_;simp only[sxZ,z6,z7,z8,j4,j5,j6,j7,j8,j9,x0,x4,x5,x6,x7,x8,reduceCtorEq,↓reduceIte];subst hY;refine zaj fun Y hY=>?_;simp only[sxZ,z6,z7,z8,j4,j5,j6,j7,j8,j9,x0,x4,x5,x6,x7,x8,reduceCtorEq,↓reduceIte];subst hY;refine zaj fun Y hY=>?_;simp only[sxZ,z6,z7,z8,j4,j5,j6,j7,j8,j9,x0,x4,x5,x6,x7,x8,reduceCtorEq,↓reduceIte];subst hY;refine zaj fun Y hY=>?_;obtain⟨R,hR⟩:∃R,R=zcS most (s.length+1) 0 s:=⟨_,rfl⟩;have hce:zbu s most=if R.1=0 then R else (R.1,[]):=by unfold zbu;rw[<-hR]
 refine zei (fun o t=>t.length=76/\t[0]? = some (.s s)/\∃(j:Nat) (acc:List UInt8),j<=s.length/\t[7]? = some (.i .i64 j)/\R=(zci ((s.drop j).length+1) (s.drop j),acc)/\OutIs 5 acc o t[6]?) ?_ ?_
 ·simp only[sxZ,z6,z7,z8,j4,j5,j6,j7,j8,j9,x0,x4,x5,x6,x7,x8,reduceCtorEq,↓reduceIte];refine zbi (fun n objs tm=>∃(i tot:Nat) (acc:List UInt8),i<=s.length/\n=s.length - i/\tot<=18446744073709551615/\acc.length<=s.length/\acc.length<=i/\R=((zcS most ((s.drop i).length+1) tot (s.drop i)).1,acc++(zcS most ((s.drop i).length+1) tot (s.drop i)).2)/\tm.length=76/\tm[0]? = some (.s s)/\tm[1]? = some (.i .i64 most)/\tm[7]? = some (.i .i64 i)/\tm[8]? = some (.i .u64 tot)/\OutIs 5 acc objs tm[6]?) s.length ⟨0,0,[],by omega,rfl,by omega,by simp,by simp,by rw[hR];rfl,rfl,rfl,rfl,rfl,rfl,.inl ⟨rfl,rfl,rfl⟩⟩ ?_;rintro n o tm ⟨i,tot,acc,hi,rfl,htot,hal,hai,hr,hlen,t0,t1,t7,t8,hout⟩;simp only[sxZ,z6,z7,z8,j4,j5,j6,j7,j8,j9,x0,x4,x5,x6,x7,x8,reduceCtorEq,↓reduceIte,zb,hlen,t0,t1,t7,t8];refine zal (zlz s i hi (by omega) ?_);obtain⟨z,hz⟩:∃z,z=zbd (s.drop i):=⟨_,rfl⟩;obtain⟨tq,hto⟩:∃tq,tq=zeV s i:=⟨_,rfl⟩;have hzl:z.2.1<=18446744073709551615:=by rw[hz];exact size_le _
  have hrest:=fun h=>zmC (s:=s) (i:=i) h;rw[zcS] at hr;rw[<-hz,<-hto] at hrest;rw[<-hz] at hr;rw[<-hz,<-hto];simp only[sxZ,z6,z7,z8,j4,j5,j6,j7,j8,j9,x0,x4,x5,x6,x7,x8,reduceCtorEq,↓reduceIte,zb,hlen,t0,t1,t7,t8];refine zal (nAdd_k tot z.2.1 htot hzl ?_);obtain⟨m,hm⟩:∃m,m=min (tot+z.2.1) 18446744073709551615:=⟨_,rfl⟩;have hml:m<=18446744073709551615:=by omega
  rw[<-hm] at hr;rw[<-hm]
  by_cases c1:z.1=0
  ·obtain⟨hr1,hr2,hr3⟩:=hrest c1;rw[if_pos c1] at hr;have hrl:z.2.2.length=s.length - tq:=by rw[hr1,zv]
   by_cases c2:most<0
   ·rw[if_pos (.inl c2)] at hr;rw[show zbu s most=(142,[]) by rw[hce,hr];rfl] at hk;simp only[sxZ,z6,z7,z8,j4,j5,j6,j7,j8,j9,x0,x4,x5,x6,x7,x8,reduceCtorEq,↓reduceIte,zb,hlen,t0,t1,t7,t8,c1,c2,zc9,zbV];exact hk
   ·have hw:IntKind.u64.wrap most=most:=zbN _ (by omega) (by omega)
    by_cases c3:most<(m:Nat)
    ·rw[if_pos (.inr c3)] at hr;rw[show zbu s most=(142,[]) by rw[hce,hr];rfl] at hk;simp only[sxZ,z6,z7,z8,j4,j5,j6,j7,j8,j9,x0,x4,x5,x6,x7,x8,reduceCtorEq,↓reduceIte,zb,hlen,t0,t1,t7,t8,c1,c2,hw,c3,zc9,zbV];exact hk
    ·rw[if_neg (by omega)] at hr
     by_cases c4:((z.2.1:Nat):Int)=0
     ·rw[if_pos (by omega)] at hr;simp only[sxZ,z6,z7,z8,j4,j5,j6,j7,j8,j9,x0,x4,x5,x6,x7,x8,reduceCtorEq,↓reduceIte,zb,hlen,t0,t1,t7,t8,c1,c2,hw,c3,c4,zaA,zdH];exact⟨tq,acc,hr3,rfl,by rw[hr,hr1];simp,hout⟩
     ·rw[if_neg (by omega)] at hr;have hsub:((s.length:Nat):Int) - ((tq:Nat):Int)=((s.length - tq:Nat):Int):=by omega
      have hw2:IntKind.u64.wrap ((s.length - tq:Nat):Int)=((s.length - tq:Nat):Int):=zbN _ (by omega) (by omega)
      by_cases c5:((s.length - tq:Nat):Int)<((z.2.1:Nat):Int)
      ·rw[if_pos (by omega)] at hr;rw[show zbu s most=(191,[]) by rw[hce,hr];rfl] at hk;simp only[sxZ,z6,z7,z8,j4,j5,j6,j7,j8,j9,x0,x4,x5,x6,x7,x8,reduceCtorEq,↓reduceIte,zb,hlen,t0,t1,t7,t8,c1,c2,hw,c3,c4,hsub,hw2,c5,zc9,zbV];exact⟨by omega,hk⟩
      ·rw[if_neg (by omega)] at hr;have hw3:IntKind.i64.wrap ((z.2.1:Nat):Int)=((z.2.1:Nat):Int):=IntWalk.i64_in _ (by omega);have hadd:((tq:Nat):Int)+((z.2.1:Nat):Int)=((tq+z.2.1:Nat):Int):=by omega
       rw[hr1,ji,ji,<-zw] at hr;simp only[sxZ,z6,z7,z8,j4,j5,j6,j7,j8,j9,x0,x4,x5,x6,x7,x8,reduceCtorEq,↓reduceIte,zb,hlen,t0,t1,t7,t8,c1,c2,hw,c3,c4,hsub,hw2,c5,hw3,hadd];refine⟨by omega,by omega,zal (cle_k s (tq+z.2.1) (by omega) (by omega) ?_)⟩
       by_cases c6:zbI (s.drop (tq+z.2.1))=0
       ·rw[if_pos c6] at hr;have hcl:=zeu c6;rw[zv] at hcl;have htl:((s.drop tq).take z.2.1).length=z.2.1:=by rw[qi,zv];omega
        have hbl:=zgN acc ((s.drop tq).take z.2.1);have hfu:=zgL most (s.drop i).length ((s.drop (tq+z.2.1+2)).length+1) m (s.drop (tq+z.2.1+2)) (by simp only[zv];omega) (by omega);rcases hout with ⟨rfl,rfl,t6⟩|⟨g,rfl,t6⟩
        ·simp only[sxZ,z6,z7,z8,j4,j5,j6,j7,j8,j9,x0,x4,x5,x6,x7,x8,reduceCtorEq,↓reduceIte,zb,hlen,t0,t1,t6,t7,t8,ql,zc7,c6];exact⟨by omega,by omega,by omega,_,by omega,tq+z.2.1+2,m,(s.drop tq).take z.2.1,by omega,rfl,hml,by omega,by omega,by rw[hr,hfu];simp,biv (by omega),rfl,.inr ⟨0,rfl,rfl⟩⟩
        ·simp only[sxZ,z6,z7,z8,j4,j5,j6,j7,j8,j9,x0,x4,x5,x6,x7,x8,reduceCtorEq,↓reduceIte,zb,hlen,t0,t1,t6,t7,t8,ql,zc7,c6];exact⟨by omega,by omega,by omega,_,by omega,tq+z.2.1+2,m,acc++(s.drop tq).take z.2.1,by omega,rfl,hml,by rw[zg];omega,by rw[zg];omega,by rw[hr,hfu];simp,biv (by omega),rfl,.inr ⟨g+1,by rw[zg,hbl],rfl⟩⟩
       ·rw[if_neg c6] at hr;rw[show zbu s most=(zbI (s.drop (tq+z.2.1)),[]) by rw[hce,hr];exact if_neg c6] at hk;simp only[sxZ,z6,z7,z8,j4,j5,j6,j7,j8,j9,x0,x4,x5,x6,x7,x8,reduceCtorEq,↓reduceIte,zb,hlen,t0,t1,t7,t8,c6,zc9,zbV];exact hk
  ·rw[if_neg c1] at hr;rw[show zbu s most=(z.1,[]) by rw[hce,hr];exact if_neg c1] at hk;simp only[sxZ,z6,z7,z8,j4,j5,j6,j7,j8,j9,x0,x4,x5,x6,x7,x8,reduceCtorEq,↓reduceIte,zb,hlen,t0,t1,t7,t8,c1,zc9,zbV];exact hk
 ·rintro o t ⟨hlen,t0,j,acc,hj,t7,hr,hout⟩;subst hY;simp only[sxZ,z6,z7,z8,j4,j5,j6,j7,j8,j9,x0,x4,x5,x6,x7,x8,reduceCtorEq,↓reduceIte,zb,hlen,t0,t7];refine zal (zmt s j hj (by omega) ?_)
  by_cases c1:zci ((s.drop j).length+1) (s.drop j)=0
  ·rw[show zbu s most=(0,acc) by rw[hce,hr,c1];rfl] at hk;rcases hout with ⟨rfl,rfl,t6⟩|⟨g,rfl,t6⟩
   ·simp only[sxZ,z6,z7,z8,j4,j5,j6,j7,j8,j9,x0,x4,x5,x6,x7,x8,reduceCtorEq,↓reduceIte,zb,hlen,t0,t6,t7,c1];exact hk
   ·simp only[sxZ,z6,z7,z8,j4,j5,j6,j7,j8,j9,x0,x4,x5,x6,x7,x8,reduceCtorEq,↓reduceIte,zb,hlen,t0,t6,t7,c1];refine kCb2_o _ _ _ acc ?_;simp only[sxZ,z6,z7,z8,j4,j5,j6,j7,j8,j9,x0,x4,x5,x6,x7,x8,reduceCtorEq,↓reduceIte,zb,hlen];exact hk
  ·rw[show zbu s most=(zci ((s.drop j).length+1) (s.drop j),[]) by rw[hce,hr];exact if_neg c1] at hk;simp only[sxZ,z6,z7,z8,j4,j5,j6,j7,j8,j9,x0,x4,x5,x6,x7,x8,reduceCtorEq,↓reduceIte,zb,hlen,t0,t7,c1];exact hk
end
end
def hdL (mi:Int) (n:List UInt8):List UInt8:=[72,84,84,80,47,49,46]++(if mi=0 then [48] else [49])++32::n++[32,45]
def fmtG (mi st:Int) (l:List (List UInt8×List UInt8)):List UInt8:=zdT (hdL mi (Lib.itoa st)::l.map zit)++zcs
theorem zoD (l:List (List UInt8×List UInt8)) (i:Nat) (h:i<l.length) (a:List UInt8):zdT (a::(l.take (i+1)).map zit)=zdT (a::(l.take i).map zit)++(l[i].1++[58,32]++l[i].2++[13,10]):=by
 unfold zdT;rw[List.take_succ_eq_append_getElem h,List.map_append,<-zl,List.flatMap_append]
 congr 1
 simp[zit,zcs]
theorem zkQ {l:List (List UInt8×List UInt8)} (h:Few l) (i:Nat) (a:List UInt8) (ha:a.length<=1000):(zdT (a::(l.take i).map zit)).length<=2100000:=by
 have:∀l:List (List UInt8×List UInt8),(∀p∈l,p.1.length+p.2.length<=20000)->(zdT (l.map zit)).length<=l.length*20004:=by
  intro l hl
  induction l with
  | nil=>simp[zdT]
  | cons p l ih=>
   have h1:=ih fun q hq=>hl q (List.mem_cons_of_mem _ hq);have h2:=hl p (List.mem_cons_self ..);rw[List.map_cons,zdI,zg,ze,ze,ze];have h3:(zit p).length=p.1.length+(p.2.length+1+1):=by simp[zit]
   omega
 have h1:=this (l.take i) fun p hp=>h.len p (List.mem_of_mem_take hp);have h2:(l.take i).length<=100:=by rw[qi];have:=h.num;omega
 rw[zdI,zg,ze,ze];have h3:(l.take i).length*20004<=100*20004:=Nat.mul_le_mul h2 (zd _);omega
section
variable [Tabs Tryz.prog] {objs:List OB} {K:List OB->AV->Prop}
theorem dec5_k (p:Int) (h0:-9223372036854775808<=p) (h1:p<=9223372036854775807) (hk:K objs (.s (Lib.itoa p))):zaa Tryz.prog 123 [.i .i64 p] objs K:=by
 refine zaR is_ref05_Decimal rfl fun C _=>?_;unfold Lib.itoa at hk
 by_cases hp:p<0
 ·rw[if_pos hp] at hk;have e1:IntKind.u64.wrap (IntKind.u64.wrap (0 - (p+1))+1)=((p.natAbs:Nat):Int):=by
   rw[zbN (0 - (p+1)) (by omega) (by omega),zbN _ (by omega) (by omega)];omega
  simp only[hp,c_ref05_Decimal,sxZ,z6,z7,z8,j4,j5,j6,j7,j8,j9,x0,x4,x5,x6,x7,x8,reduceCtorEq,↓reduceIte];refine⟨⟨by omega,by omega⟩,⟨by omega,by omega⟩,?_⟩;rw[e1];refine zal (zdF p.natAbs (by omega) ?_);have hd:=Lib.nDigits_le20 p.natAbs (by omega);have hl:=Lib.decDigits_length p.natAbs;simp only[sxZ,z6,z7,z8,j4,j5,j6,j7,j8,j9,x0,x4,x5,x6,x7,x8,reduceCtorEq,↓reduceIte];exact⟨by omega,hk⟩
 ·rw[if_neg hp] at hk;have e1:IntKind.u64.wrap p=((p.toNat:Nat):Int):=by
   rw[zbN p (by omega) (by omega)];omega
  simp only[hp,c_ref05_Decimal,sxZ,z6,z7,z8,j4,j5,j6,j7,j8,j9,x0,x4,x5,x6,x7,x8,reduceCtorEq,↓reduceIte];rw[e1];refine zal (zdF p.toNat (by omega) ?_);simp only[sxZ,z6,z7,z8,j4,j5,j6,j7,j8,j9,x0,x4,x5,x6,x7,x8,reduceCtorEq,↓reduceIte];exact hk
theorem hGet_k (mi st:Int) (l:List (List UInt8×List UInt8)) (name:List UInt8) (hf:Few l) (hn:name.length<=140737488351232) (hk:K objs (.tup [.s (zmh l name),.b (decide (zbg l name≠[]))])):zaa Tryz.prog 119 [zfk mi st l,.s name] objs K:=by
 refine zaR is_head_Get (by simp[zfk,zar,AV.plain,zbQ]) fun C _=>?_;have hv:=zjF hf name;have hg:=zoz hf name;have hnum:=hf.num;unfold zmh at hk hg;have hne:decide (zbg l name≠[])=decide ((0:Int)<(zbg l name).length):=by
  cases zbg l name<;>simp
 rw[hne] at hk;simp only[zfk,c_head_Get,sxZ,z6,z7,z8,j4,j5,j6,j7,j8,j9,x0,x4,x5,x6,x7,x8,reduceCtorEq,↓reduceIte];refine zal (zeQ _ (ziq mi st l name (by omega) (fun p hp=>by have:=hf.len p hp;omega) hn ⟨fun G I y=>zlb _,?_⟩));simp only[sxZ,z6,z7,z8,j4,j5,j6,j7,j8,j9,x0,x4,x5,x6,x7,x8,reduceCtorEq,↓reduceIte];refine zal (zmH _ _ (by omega) (by omega) ?_);simp only[sxZ,z6,z7,z8,j4,j5,j6,j7,j8,j9,x0,x4,x5,x6,x7,x8,reduceCtorEq,↓reduceIte];exact hk
theorem zi4 (mi st:Int) (l:List (List UInt8×List UInt8)) (hf:Few l) (h0:-9223372036854775808<=st) (h1:st<=9223372036854775807) (hk:K objs (.s (fmtG mi st l))):zaa Tryz.prog 61 [zfk mi st l] objs K:=by
 refine zaR is_ref18_Format (by simp[zfk,zar,AV.plain,zbQ]) fun C _=>?_;have hil:=Lib.itoa_length_le st h0 h1;have hnum:=hf.num;have hfl:=zdJ l;unfold fmtG hdL at hk;obtain⟨m,hm,hmi⟩:∃m:List UInt8,m=(if mi=0 then [48] else [49])/\m.length=1:=⟨_,rfl,by split<;>rfl⟩
 rw[<-hm] at hk;obtain⟨hd,hhd⟩:∃hd,hd=[72,84,84,80,47,49,46]++m++32::Lib.itoa st++[32,45]:=⟨_,rfl⟩;have hL:hd.length<=1000:=by
  rw[hhd];simp only[zg,ze,zk];omega
 rw[<-hhd] at hk;simp only[zfk,c_ref18_Format,sxZ,z6,z7,z8,j4,j5,j6,j7,j8,j9,x0,x4,x5,x6,x7,x8,reduceCtorEq,↓reduceIte];refine kC_cut (fun o t=>o=[.box 48 [.i .i64 mi,.i .i64 st,.row l.length (zaS l)]]/\t.length=37/\t[1]? = some (.p 0 0)/\t[3]? = some (.s m)) (fun e=>?_) (fun e=>?_) ?_
 ·rw[if_pos (of_decide_eq_true e)] at hm;simp only[sxZ,z6,z7,z8,j4,j5,j6,j7,j8,j9,x0,x4,x5,x6,x7,x8,reduceCtorEq,↓reduceIte,zaA,hm]
 ·rw[if_neg (of_decide_eq_false e)] at hm;simp only[sxZ,z6,z7,z8,j4,j5,j6,j7,j8,j9,x0,x4,x5,x6,x7,x8,reduceCtorEq,↓reduceIte,zaA,hm]
 ·rintro o tm ⟨rfl,hlen,t1,t3⟩;simp only[sxZ,z6,z7,z8,j4,j5,j6,j7,j8,j9,x0,x4,x5,x6,x7,x8,reduceCtorEq,↓reduceIte,zb,hlen,t1,t3,hmi];refine zal (dec5_k st h0 h1 ?_);simp only[sxZ,z6,z7,z8,j4,j5,j6,j7,j8,j9,x0,x4,x5,x6,x7,x8,reduceCtorEq,↓reduceIte,zb,hlen,t1,t3,hmi];refine⟨by omega,by omega,?_⟩;refine zbi (fun n objs tm=>∃i:Nat,i<=l.length/\n=l.length - i/\tm.length=37/\tm[4]? = some (.s (zdT (hd::(l.take i).map zit)))/\tm[19]? = some (.row l.length (zaS l))/\tm[20]? = some (.i .i64 l.length)/\tm[21]? = some (.i .i64 i)) l.length ⟨0,zq _,rfl,by simp[hlen],by simp[hlen,hhd,zdT,zcs],by simp[hlen],by simp[hlen],by simp[hlen]⟩ ?_;clear t1 t3 hlen tm;rintro n objs tm ⟨i,hi,rfl,hlen,t4,t19,t20,t21⟩;have hfi:=zkQ hf i hd hL
  by_cases hlt:(i:Int)<l.length
  ·have hlt':i<l.length:=by omega
   have hat:=fc_at hlt';have hj:=zoD l i hlt' hd;have hpl:=hf.len _ (jt hlt');simp only[sxZ,z6,z7,z8,j4,j5,j6,j7,j8,j9,x0,x4,x5,x6,x7,x8,reduceCtorEq,↓reduceIte,zb,hlen,t4,t19,t20,t21,hlt,ql,hat,gn1,sn1];exact⟨by omega,by omega,by omega,by omega,by omega,by omega,⟨by omega,by omega⟩,l.length - (i+1),by omega,i+1,by omega,rfl,by rw[hj],rfl⟩
  ·obtain rfl:i=l.length:=by omega
   rw[List.take_of_length_le (zd _)] at t4 hfi;simp only[sxZ,z6,z7,z8,j4,j5,j6,j7,j8,j9,x0,x4,x5,x6,x7,x8,reduceCtorEq,↓reduceIte,zb,hlen,t4,t19,t20,t21,hlt];exact⟨by omega,hk⟩
end
section
attribute [local irreducible] run
def zkd (st:Int):Bool:=decide (100<=st)&&decide (st<=199)||decide (st=204)||decide (st=304)
def teL:List UInt8:=[116,114,97,110,115,102,101,114,45,101,110,99,111,100,105,110,103]
def clL:List UInt8:=[99,111,110,116,101,110,116,45,108,101,110,103,116,104]
def lenE (v rest:List UInt8) (most:Int):Int×List UInt8 :=
 if (qd v [44]).all (fun w=>zbD w==zbD ((qd v [44]).headD []))=false then (190,[])
 else if zb2 (zbD ((qd v [44]).headD []))=false then (190,[])
 else if (zbe zaf 10 most.toNat (zbD ((qd v [44]).headD []))).1≠0 then (142,[])
 else if rest.length<(zbe zaf 10 most.toNat (zbD ((qd v [44]).headD []))).2 then (191,[])
 else (0,rest.take (zbe zaf 10 most.toNat (zbD ((qd v [44]).headD []))).2)
def zlF (st:Int) (l:List (List UInt8×List UInt8)) (rest:List UInt8) (most:Int):Int×List UInt8 :=
 if most<0 then (4,[])
 else if zkd st=true then (0,[])
 else if zbg l teL≠[] then (if zbg l clL≠[]\/zbm (zmh l teL)≠[99,104,117,110,107,101,100] then (190,[]) else zbu rest most)
 else if zbg l clL≠[] then lenE (zmh l clL) rest most
 else if most<rest.length then (142,[])
 else (0,rest)
theorem zgO (p:List UInt8):∀(n:Nat) (s:List UInt8),Lib.splitK p 0 n s≠[]/\∀w∈Lib.splitK p 0 n s,w.length<=s.length
 | 0,s=>⟨by simp[Lib.splitK],by intro w hw;simp[Lib.splitK] at hw;rw[hw];exact zd _⟩
 | n+1,s=>by
  rw[Lib.splitK]
  split
  ·exact⟨by simp,by intro w hw;simp at hw;rw[hw];exact zd _⟩
  ·refine⟨by simp,fun w hw=>?_⟩;rcases qo.1 hw with rfl|hw
   ·rw[qi];omega
   ·have:=(zgO p n _).2 w hw;rw[zv] at this;omega
theorem zpl (s p:List UInt8):qd s p≠[]/\∀w∈qd s p,w.length<=s.length:=zgO p _ s
theorem zf7 (p:List UInt8):∀(n:Nat) (s:List UInt8),(Lib.splitK p 0 n s).length<=n+1
 | 0,s=>by simp[Lib.splitK]
 | n+1,s=>by
  rw[Lib.splitK]
  split
  ·simp
  ·have:=zf7 p n (s.drop ((Lib.index s p).toNat+p.length));simp only[ze];omega
theorem btrim_le (l:List UInt8):(zbD l).length<=l.length:=zio l
section
variable [Tabs Tryz.prog] {objs:List OB} {K:List OB->AV->Prop}
theorem noBody_k (st:Int) (hk:K objs (.b (zkd st))):zaa Tryz.prog 118 [.i .i64 st] objs K:=by
 refine zaR is_body_hasNoBody rfl fun C _=>?_;unfold zkd at hk
 by_cases c1:(100:Int)<=st
 ·by_cases c2:st<=199
  ·simp only[c1,c2,decide_true,Bool.and_true,Bool.true_or] at hk;simp only[c_body_hasNoBody,sxZ,z6,z7,z8,j4,j5,j6,j7,j8,j9,x0,x4,x5,x6,x7,x8,reduceCtorEq,↓reduceIte,c1,c2];exact hk
  ·by_cases c3:st=204
   ·subst c3;simp only[c_body_hasNoBody,sxZ,z6,z7,z8,j4,j5,j6,j7,j8,j9,x0,x4,x5,x6,x7,x8,reduceCtorEq,↓reduceIte];exact hk
   ·by_cases c4:st=304
    ·subst c4;simp only[c_body_hasNoBody,sxZ,z6,z7,z8,j4,j5,j6,j7,j8,j9,x0,x4,x5,x6,x7,x8,reduceCtorEq,↓reduceIte];exact hk
    ·simp only[c1,c2,c3,c4,decide_true,decide_false,Bool.and_false,Bool.or_false,Bool.false_or] at hk;simp only[c_body_hasNoBody,sxZ,z6,z7,z8,j4,j5,j6,j7,j8,j9,x0,x4,x5,x6,x7,x8,reduceCtorEq,↓reduceIte,c1,c2,c3,c4];exact hk
 ·have c3:¬st=204:=by omega
  have c4:¬st=304:=by omega
  simp only[c1,c3,c4,decide_false,Bool.false_and,Bool.or_false] at hk;simp only[c_body_hasNoBody,sxZ,z6,z7,z8,j4,j5,j6,j7,j8,j9,x0,x4,x5,x6,x7,x8,reduceCtorEq,↓reduceIte,c1,c3,c4];exact hk
theorem zpw (s:List UInt8) (hs:s.length<=maxLen) (hk:K objs (.b (zb2 s))):zaa Tryz.prog 193 [.s s] objs K :=
 zjx (vs:=[.string (S s)]) rfl rfl (fun w=>zgT (S s) w (by rw[zap];exact hs)) hk
theorem zm6 [Shp Tryz.prog] (v rest:List UInt8) (most:Int) (hv:v.length<=1000000) (hs:rest.length<=100000000000) (h0:0<=most) (h1:most<=9223372036854775807) (hk:K objs (.tup [.s (lenE v rest most).2,.i .i64 (lenE v rest most).1])):zaa Tryz.prog 122 [.s v,.s rest,.i .i64 most] objs K:=by
 have hm:maxLen=2 ^ 63 - 1:=rfl;refine zaR is_body_readLength rfl fun C _=>?_;obtain⟨hne,hle⟩:=zpl v [44];unfold lenE at hk;have hnum:(qd v [44]).length<=1000002:=by
  have h:=zf7 [44] (Lib.count v [44]) v;have h2:=Lib.count_le v [44];unfold qd;omega
 generalize hels:qd v [44]=els at *;obtain⟨d,hd⟩:∃d,d=zbD (els.headD []):=⟨_,rfl⟩;rw[<-hd] at hk;have hlp:0<els.length:=List.length_pos_iff.2 hne;have h00:els[0]=els.headD []:=by cases els with
  | nil=>exact absurd rfl hne
  | cons a l=>rfl
 have hat0:(els.map AV.s)[0]? = some (.s (els.headD [])):=by rw[List.getElem?_map,List.getElem?_eq_getElem hlp,h00];rfl
 have hd0:(els.headD []).length<=v.length:=by rw[<-h00];exact hle _ (jt hlp)
 have hdl:d.length<=v.length:=by rw[hd];have:=btrim_le (els.headD []);omega
 rw[c_body_readLength];refine zaj fun Y hY=>?_;simp only[sxZ,z6,z7,z8,j4,j5,j6,j7,j8,j9,x0,x4,x5,x6,x7,x8,reduceCtorEq,↓reduceIte];subst hY;refine zaj fun Y hY=>?_;simp only[sxZ,z6,z7,z8,j4,j5,j6,j7,j8,j9,x0,x4,x5,x6,x7,x8,reduceCtorEq,↓reduceIte];refine zal (zkK v [44] (by simp) hv ?_);rw[hels];simp only[sxZ,z6,z7,z8,j4,j5,j6,j7,j8,j9,x0,x4,x5,x6,x7,x8,reduceCtorEq,↓reduceIte];subst hY;refine zaj fun Y hY=>?_;simp only[sxZ,z6,z7,z8,j4,j5,j6,j7,j8,j9,x0,x4,x5,x6,x7,x8,reduceCtorEq,↓reduceIte,hat0,qy];refine⟨by omega,zal (zjl (els.headD []) (by omega) ?_)⟩;rw[<-hd];simp only[sxZ,z6,z7,z8,j4,j5,j6,j7,j8,j9,x0,x4,x5,x6,x7,x8,reduceCtorEq,↓reduceIte];subst hY;refine zaj fun Y hY=>?_;refine zei (fun o t=>(o=[]/\t.length=51/\t[1]? = some (.s rest)/\t[2]? = some (.i .i64 most)/\t[9]? = some (.s d))/\(els.all fun w=>zbD w==d)=true) ?_ ?_
 ·simp only[sxZ,z6,z7,z8,j4,j5,j6,j7,j8,j9,x0,x4,x5,x6,x7,x8,reduceCtorEq,↓reduceIte];refine zbi (fun n objs tm=>∃i:Nat,i<=els.length/\n=els.length - i/\objs=[]/\tm.length=51/\tm[1]? = some (.s rest)/\tm[2]? = some (.i .i64 most)/\tm[9]? = some (.s d)/\tm[20]? = some (.row els.length (els.map .s))/\tm[21]? = some (.i .i64 els.length)/\tm[22]? = some (.i .i64 i)/\(els.all fun w=>zbD w==d)=((els.drop i).all fun w=>zbD w==d)) els.length ⟨0,by omega,rfl,rfl,rfl,rfl,rfl,rfl,rfl,rfl,rfl,rfl⟩ ?_;rintro n _ tm ⟨i,hi,rfl,rfl,hlen,t1,t2,t9,t20,t21,t22,hall⟩
  by_cases hlt:(i:Int)<els.length
  ·have hlt':i<els.length:=by omega
   have hat:(els.map AV.s)[i]? = some (.s els[i]):=by simp[hlt']
   have hwl:=hle _ (jt hlt');rw[qz hlt',List.all_cons] at hall;simp only[sxZ,z6,z7,z8,j4,j5,j6,j7,j8,j9,x0,x4,x5,x6,x7,x8,reduceCtorEq,↓reduceIte,zb,hlen,t1,t2,t9,t20,t21,t22,hlt,ql,Nat.mul_one,hat,qy];refine⟨by omega,zal (zjl els[i] (by omega) ?_)⟩
   by_cases c1:zbD els[i]=d
   ·rw[show (zbD els[i]==d)=true by rw[c1];simp,Bool.true_and] at hall;simp only[sxZ,z6,z7,z8,j4,j5,j6,j7,j8,j9,x0,x4,x5,x6,x7,x8,reduceCtorEq,↓reduceIte,zb,hlen,t1,t2,t9,t20,t21,t22,c1];exact⟨⟨by omega,by omega⟩,_,by omega,i+1,by omega,rfl,rfl,hall⟩
   ·rw[show (zbD els[i]==d)=false by simpa using c1,Bool.false_and] at hall;rw[if_pos hall] at hk;simp only[sxZ,z6,z7,z8,j4,j5,j6,j7,j8,j9,x0,x4,x5,x6,x7,x8,reduceCtorEq,↓reduceIte,zb,hlen,t1,t2,t9,t20,t21,t22,c1,zc9,zbV];exact hk
  ·obtain rfl:i=els.length:=by omega
   rw[xe,List.all_nil] at hall;simp only[sxZ,z6,z7,z8,j4,j5,j6,j7,j8,j9,x0,x4,x5,x6,x7,x8,reduceCtorEq,↓reduceIte,zb,hlen,t1,t2,t9,t20,t21,t22,hlt,zaA,zdH];exact hall
 ·rintro o t ⟨⟨rfl,hlen,t1,t2,t9⟩,hall⟩;rw[if_neg (by rw[hall];simp)] at hk;subst hY;simp only[sxZ,z6,z7,z8,j4,j5,j6,j7,j8,j9,x0,x4,x5,x6,x7,x8,reduceCtorEq,↓reduceIte,zb,hlen,t1,t2,t9];refine zal (zpw d (by omega) ?_)
  by_cases c1:zb2 d=true
  ·rw[if_neg (by rw[c1];simp)] at hk;have hw:IntKind.u64.wrap most=((most.toNat:Nat):Int):=by rw[zbN _ (by omega) (by omega)];omega
   simp only[sxZ,z6,z7,z8,j4,j5,j6,j7,j8,j9,x0,x4,x5,x6,x7,x8,reduceCtorEq,↓reduceIte,zb,hlen,t1,t2,t9,c1,hw];refine zal (zke d most.toNat (by omega) (by omega) ?_);have hnl:=zff zaf 10 most.toNat d
   by_cases c2:(zbe zaf 10 most.toNat d).1=0
   ·rw[if_neg (by rw[c2];simp)] at hk;have hw2:IntKind.u64.wrap ((rest.length:Nat):Int)=((rest.length:Nat):Int):=zbN _ (by omega) (by omega)
    by_cases c3:((rest.length:Nat):Int)<(((zbe zaf 10 most.toNat d).2:Nat):Int)
    ·rw[if_pos (by omega)] at hk;simp only[sxZ,z6,z7,z8,j4,j5,j6,j7,j8,j9,x0,x4,x5,x6,x7,x8,reduceCtorEq,↓reduceIte,zb,hlen,t1,t2,t9,c2,hw2,c3];exact hk
    ·rw[if_neg (by omega)] at hk;simp only[sxZ,z6,z7,z8,j4,j5,j6,j7,j8,j9,x0,x4,x5,x6,x7,x8,reduceCtorEq,↓reduceIte,zb,hlen,t1,t2,t9,c2,hw2,c3,ql];exact⟨⟨by omega,by omega⟩,hk⟩
   ·rw[if_pos c2] at hk;simp only[sxZ,z6,z7,z8,j4,j5,j6,j7,j8,j9,x0,x4,x5,x6,x7,x8,reduceCtorEq,↓reduceIte,zb,hlen,t1,t2,t9,c2];exact hk
  ·simp only[Bool.not_eq_true] at c1;rw[if_pos c1] at hk;simp only[sxZ,z6,z7,z8,j4,j5,j6,j7,j8,j9,x0,x4,x5,x6,x7,x8,reduceCtorEq,↓reduceIte,zb,hlen,t1,t2,t9,c1];exact hk
theorem bRead_k [Shp Tryz.prog] (mi st:Int) (l:List (List UInt8×List UInt8)) (rest:List UInt8) (most:Int) (hf:Few l) (hgl:(zmh l clL).length<=1000000) (hs:rest.length<=100000000000) (h0:-9223372036854775808<=most) (h1:most<=9223372036854775807) (hk:K objs (.tup [.s (zlF st l rest most).2,.i .i64 (zlF st l rest most).1])):zaa Tryz.prog 58 [zfk mi st l,.s rest,.i .i64 most] objs K:=by
 refine zaR is_body_Read (by simp[zfk,zar,AV.plain,zbQ]) fun C _=>?_;have hgt:=zoz hf teL;unfold zlF at hk
 by_cases c1:most<0
 ·rw[if_pos c1] at hk;simp only[zfk,c_body_Read,sxZ,z6,z7,z8,j4,j5,j6,j7,j8,j9,x0,x4,x5,x6,x7,x8,reduceCtorEq,↓reduceIte,c1];exact hk
 rw[if_neg c1] at hk;simp only[zfk,c_body_Read,sxZ,z6,z7,z8,j4,j5,j6,j7,j8,j9,x0,x4,x5,x6,x7,x8,reduceCtorEq,↓reduceIte,c1];refine zal (noBody_k st ?_)
 by_cases c2:zkd st=true
 ·rw[if_pos c2] at hk;simp only[sxZ,z6,z7,z8,j4,j5,j6,j7,j8,j9,x0,x4,x5,x6,x7,x8,reduceCtorEq,↓reduceIte,c2];exact hk
 rw[if_neg c2] at hk;simp only[Bool.not_eq_true] at c2;simp only[sxZ,z6,z7,z8,j4,j5,j6,j7,j8,j9,x0,x4,x5,x6,x7,x8,reduceCtorEq,↓reduceIte,c2];refine zal (hGet_k mi st l teL hf (by decide) ?_);simp only[sxZ,z6,z7,z8,j4,j5,j6,j7,j8,j9,x0,x4,x5,x6,x7,x8,reduceCtorEq,↓reduceIte];refine zal (hGet_k mi st l clL hf (by decide) ?_)
 by_cases c3:zbg l teL≠[]
 ·rw[if_pos c3] at hk
  by_cases c4:zbg l clL≠[]
  ·rw[if_pos (.inl c4)] at hk;simp only[sxZ,z6,z7,z8,j4,j5,j6,j7,j8,j9,x0,x4,x5,x6,x7,x8,reduceCtorEq,↓reduceIte,decide_eq_true c3,decide_eq_true c4];exact hk
  ·simp only[sxZ,z6,z7,z8,j4,j5,j6,j7,j8,j9,x0,x4,x5,x6,x7,x8,reduceCtorEq,↓reduceIte,decide_eq_true c3,decide_eq_false c4];refine zal (zkL (zmh l teL) (by omega) ?_)
   by_cases c5:zbm (zmh l teL)=[99,104,117,110,107,101,100]
   ·rw[if_neg (fun h=>h.elim c4 (fun h=>h c5))] at hk;simp only[sxZ,z6,z7,z8,j4,j5,j6,j7,j8,j9,x0,x4,x5,x6,x7,x8,reduceCtorEq,↓reduceIte,c5];refine zal (zph rest most hs (by omega) h1 ?_);simp only[sxZ,z6,z7,z8,j4,j5,j6,j7,j8,j9,x0,x4,x5,x6,x7,x8,reduceCtorEq,↓reduceIte];exact hk
   ·rw[if_pos (.inr c5)] at hk;simp only[sxZ,z6,z7,z8,j4,j5,j6,j7,j8,j9,x0,x4,x5,x6,x7,x8,reduceCtorEq,↓reduceIte,c5];exact hk
 ·rw[if_neg c3] at hk
  by_cases c4:zbg l clL≠[]
  ·rw[if_pos c4] at hk;simp only[sxZ,z6,z7,z8,j4,j5,j6,j7,j8,j9,x0,x4,x5,x6,x7,x8,reduceCtorEq,↓reduceIte,decide_eq_false c3,decide_eq_true c4];refine zal (zm6 (zmh l clL) rest most hgl hs (by omega) h1 ?_);simp only[sxZ,z6,z7,z8,j4,j5,j6,j7,j8,j9,x0,x4,x5,x6,x7,x8,reduceCtorEq,↓reduceIte];exact hk
  ·rw[if_neg c4] at hk
   by_cases c5:most<rest.length
   ·rw[if_pos c5] at hk;simp only[sxZ,z6,z7,z8,j4,j5,j6,j7,j8,j9,x0,x4,x5,x6,x7,x8,reduceCtorEq,↓reduceIte,decide_eq_false c3,decide_eq_false c4,c5];exact hk
   ·rw[if_neg c5] at hk;simp only[sxZ,z6,z7,z8,j4,j5,j6,j7,j8,j9,x0,x4,x5,x6,x7,x8,reduceCtorEq,↓reduceIte,decide_eq_false c3,decide_eq_false c4,c5];exact hk
end
end
section
attribute [local irreducible] run
theorem zgy {P:Program} [Tabs P] {f:FuncId} {objs:List OB} {K:List OB->AV->Prop} (h:∀b,zaa P f [.zn b] objs K):zaa P f [.row 0 []] objs K:=by
 intro C _ G I w hin hm ys hd;have hd':=hd;simp only[zac,Den] at hd';obtain⟨y,l,rfl,⟨a,c,cells,rfl,hq,hc⟩,hl⟩:=hd';refine h a.isNone C G I w hin hm _ ?_;simp only[zac,Den];exact⟨_,_,rfl,⟨a,c,by simp,rfl,by simpa using hq.2⟩,hl⟩
theorem znE {G:Gh} {I:Imm} {y:Value} (h:Den G I .nil y):Den G I (.row 0 []) y:=by
 simp only[zac,Den] at h ⊢;exact⟨none,0,[],h,⟨zd _,fun ad h=>by cases h⟩,rfl,by simp,by simp⟩
theorem njres {P:Program} [Tabs P] {f:FuncId} {args:List AV} {objs:List OB} {K:List OB->AV->Prop} (r':AV) (hc:zaa P f args objs (fun o r=>(∀G I y,Den G I r y->Den G I r' y)/\K o r')):zaa P f args objs K:=by
 intro C _ G I w hin hm ys hd;refine(hc C G I w hin hm ys hd).mono ?_;rintro e w' ⟨y,objs',r,G',I',he,⟨hr,hk⟩,h1,h2,h3,h4,hy⟩;exact⟨y,objs',r',G',I',he,hk,h1,h2,h3,h4,hr _ _ _ hy⟩
mutual
theorem pub_pl {o:List OB}:∀{d:Nat} {x:AV},x.plain=true->pub o d x=some x
 | d,.agg cs,h=>by
  simp only[pub];rw[zha (show zar cs=true from h)];rfl
 | d,.tup cs,h=>by
  simp only[pub];rw[zha (show zar cs=true from h)];rfl
 | d,.s l,h=>by cases d<;>(simp only[pub];rfl)
 | d,.i k n,h=>by cases d<;>(simp only[pub];rfl)
 | d,.b x,h=>by cases d<;>(simp only[pub];rfl)
 | d,.nil,h=>by cases d<;>(simp only[pub];rfl)
 | d,.zn x,h=>by cases d<;>(simp only[pub];rfl)
 | d,.o v,h=>by cases d<;>(simp only[pub];rfl)
 | d,.u,h=>by cases d<;>(simp only[pub];rfl)
 | d,.row n xs,h=>by cases d<;>(simp only[pub];rw[if_pos h])
 | d,.crow n xs,h=>by cases d<;>(simp only[pub];rw[if_pos h])
 | d,.prow xs j,h=>by cases d<;>(simp only[pub];rw[if_pos h])
 | d,.fn f fs cs,h=>by cases d<;>(simp only[pub];rw[if_pos h])
 | d,.p b off,h=>by simp[AV.plain] at h
 | d,.orow b g,h=>by simp[AV.plain] at h
 | d,.porow b g j,h=>by simp[AV.plain] at h
 | d,.bsl b off n,h=>by simp[AV.plain] at h
 | d,.m b,h=>by simp[AV.plain] at h
theorem zha {o:List OB}:∀{d:Nat} {xs:List AV},zar xs=true->zfe o d xs=some xs
 | d,[],h=>by simp only[zfe]
 | d,x::xs,h=>by
  simp only[zar,Bool.and_eq_true] at h;simp only[zfe];rw[pub_pl h.1,zha h.2]
end
end
section
attribute [local irreducible] run
structure ExP where
 url:UrlP
 st:Int
 err:Int
def zlp (x:ExP):List AV:=[.s x.url.host,.i .i64 x.url.port,.s x.url.path,.s x.url.query,.s x.url.frag,.b x.url.hq,.b x.url.hf,.i .i64 x.st,.i .i64 x.err]
def zbc (l:List ExP):List AV:=l.flatMap zlp
theorem zgi (l:List ExP):(zbc l).length=l.length*9:=by
 induction l with
 | nil=>rfl
 | cons a l ih=>rw[show zbc (a::l)=zlp a++zbc l from rfl,zg,ih];simp[zlp];omega
theorem zdh (l:List ExP):zar (zbc l)=true:=by
 induction l with
 | nil=>rfl
 | cons a l ih=>rw[show zbc (a::l)=zlp a++zbc l from rfl];simp only[zlp,zl,zp,zar,AV.plain,ih,Bool.and_self]
theorem ziO (l:List ExP) (x:ExP):zbc (l++[x])=zbc l++zlp x:=by simp[zbc]
theorem zcK (l:List UrlP):zar (zaJ l)=true:=by
 induction l with
 | nil=>rfl
 | cons a l ih=>rw[show zaJ (a::l)=za5 a++zaJ l from rfl];simp only[za5,zl,zp,zar,AV.plain,ih,Bool.and_self]
theorem zhO (l:List UrlP) (x:UrlP):zaJ (l++[x])=zaJ l++za5 x:=by simp[zaJ]
def fsC (u:UrlP) (h:Int) (d:Bool) (e:Int) (v:UrlP) (mi st:Int) (FL:AV) (body:List UInt8) (TR SE:AV):List AV :=
 [.s u.host,.i .i64 u.port,.s u.path,.s u.query,.s u.frag,.b u.hq,.b u.hf,.i .i64 h,.b d,.i .i64 e,.s v.host,.i .i64 v.port,.s v.path,.s v.query,.s v.frag,.b v.hq,.b v.hf,.i .i64 mi,.i .i64 st,FL,.s body,TR,SE]
def zdd (m:Nat) (l:List ExP) (o:List OB) (X:AV):Prop:=(l=[]/\X=.nil)\/∃r g,X=.orow r g/\m<=r/\o[r]? = some (.orow 62 9 g l.length (zbc l))
def zgS (m:Nat) (l:List UrlP) (o:List OB) (X:AV):Prop:=∃r g,X=.orow r g/\m<=r/\o[r]? = some (.orow 35 7 g l.length (zaJ l))
theorem zdd.mono {m:Nat} {l:List ExP} {o:List OB} {X:AV} (h:zdd m l o X) (z:OB):zdd m l (o++[z]) X:=by
 rcases h with h|⟨r,g,e,h0,hr⟩
 ·exact .inl h
 ·exact .inr ⟨r,g,e,h0,by rw[zu (qp.1 hr).1];exact hr⟩
theorem zdd.tr {m:Nat} {l:List ExP} {o o':List OB} {X:AV} (h:zdd m l o X) (hf:∀j,j<o.length->o'[j]? = o[j]?):zdd m l o' X:=by
 rcases h with h|⟨r,g,e,h0,hr⟩
 ·exact .inl h
 ·exact .inr ⟨r,g,e,h0,by rw[hf r (qp.1 hr).1];exact hr⟩
theorem zdd.far {m m':Nat} {l:List ExP} {o o':List OB} {X:AV} (h:zdd m l o X) (hm:m'<=m) (hf:∀j,m<=j->o'[j]? = o[j]?):zdd m' l o' X:=by
 rcases h with h|⟨r,g,e,h0,hr⟩
 ·exact .inl h
 ·exact .inr ⟨r,g,e,Nat.le_trans hm h0,by rw[hf r h0];exact hr⟩
theorem far2 {a b a' b':OB} {O L:List OB} {j:Nat} (h:O.length+2<=j):(O++a'::b'::L)[j]? = (O++a::b::L)[j]?:=by
 obtain⟨i,rfl⟩:∃i,j=O.length+(i+2):=⟨j - (O.length+2),by omega⟩;rw[ja (by omega),ja (by omega),xp];rfl
theorem zeh {P M:List OB} {T U:TypeId} {c c' d d':List AV} {j E sz g n:Nat} {xs:List AV} (h:(P++.box T c::.box U c'::M)[j]? = some (.orow E sz g n xs)):(P++.box T d::.box U d'::M)[j]? = some (.orow E sz g n xs):=by
 rcases zj j P.length with h0|h0
 ·rw[zu h0] at h ⊢;exact h
 ·rw[ja h0] at h ⊢;generalize j - P.length=i at h;rcases i with _|_|i
  ·cases h
  ·cases h
  ·exact h
theorem zdd.keep {m:Nat} {l:List ExP} {P M:List OB} {T U:TypeId} {c c' d d':List AV} {X:AV} (h:zdd m l (P++.box T c::.box U c'::M) X):zdd m l (P++.box T d::.box U d'::M) X:=by
 rcases h with h|⟨r,g,e,h0,hr⟩
 ·exact .inl h
 ·exact .inr ⟨r,g,e,h0,zeh hr⟩
theorem zgS.keep {m:Nat} {l:List UrlP} {P M:List OB} {T U:TypeId} {c c' d d':List AV} {X:AV} (h:zgS m l (P++.box T c::.box U c'::M) X):zgS m l (P++.box T d::.box U d'::M) X:=by
 obtain⟨r,g,e,h0,hr⟩:=h;exact⟨r,g,e,h0,zeh hr⟩
theorem zdd.one {m:Nat} {l:List ExP} {o:List OB} {X:AV} (h:zdd m l o X):X.one=true:=by
 rcases h with ⟨_,rfl⟩|⟨r,g,rfl,_⟩<;>rfl
theorem zgS.one {m:Nat} {l:List UrlP} {o:List OB} {X:AV} (h:zgS m l o X):X.one=true:=by
 obtain⟨r,g,rfl,_⟩:=h;rfl
theorem zbW {X:AV} (h:X.one=true):X.cells=[X]:=by cases X<;>first|rfl|(simp[AV.one] at h)
theorem zcA {X:AV} (h:X.one=true):X.flat=true:=by cases X<;>first|rfl|exact h|(simp[AV.one] at h)
theorem gkL {α:Type} {O l:List α} {n:Nat} (k:Nat) (h:O.length=n):(O++l)[n+k]? = l[k]?:=by
 subst h;rw[ja (by omega),xp]
theorem gk0 {α:Type} {O l:List α} {n:Nat} (h:O.length=n):(O++l)[n]? = l[0]?:=gkL 0 h
theorem skL {α:Type} {O l:List α} {n:Nat} (k:Nat) (x:α) (h:O.length=n):(O++l).set (n+k) x=O++l.set k x:=by
 subst h;rw[List.set_append_right _ _ (by omega),xp]
theorem sk0 {α:Type} {O l:List α} {n:Nat} (x:α) (h:O.length=n):(O++l).set n x=O++l.set 0 x:=skL 0 x h
section
variable [Tabs Tryz.prog] {objs:List OB} {K:List OB->AV->Prop}
theorem cloneU_k (l:List UrlP) (hl:l≠[]) (hn:l.length<=1000000) (hk:K (objs++[.orow 35 7 1 l.length (zaJ l)]) (.orow objs.length 1)):zaa Tryz.prog 110 [.row l.length (zaJ l)] objs K:=by
 have hul:=zfs l;obtain⟨c,X,e0⟩:∃c X,zaJ l=c::X:=by
  cases l with
  | nil=>exact absurd rfl hl
  | cons a l=>exact⟨_,_,rfl⟩
 rw[e0] at hk hul ⊢;generalize l.length=n at hk hn hul ⊢;refine zdp is_slices_Clone__api_URL_api_URL fun C _=>?_;rw[c_slices_Clone__api_URL_api_URL];simp only[sxZ,z6,z7,z8,j4,j5,j6,j7,j8,j9,x0,x4,x5,x6,x7,x8,reduceCtorEq,↓reduceIte];refine⟨by omega,?_⟩;simp only[sxZ,z6,z7,z8,j4,j5,j6,j7,j8,j9,x0,x4,x5,x6,x7,x8,reduceCtorEq,↓reduceIte,gn1,sn1];rw[zr];exact⟨⟨by simp only[ze] at hul;omega,by omega,by omega⟩,hk⟩
theorem cloneX_k (l:List ExP) (hn:l.length<=1000000) (hk:∀M X,zdd objs.length l (objs++M) X->K (objs++M) X):zaa Tryz.prog 112 [.row l.length (zbc l)] objs K:=by
 have hxl:=zgi l
 cases l with
 | nil=>
  refine zgy fun b=>?_;refine zdp is_slices_Clone__api_Exchange_api_Exchange fun C _=>?_;rw[c_slices_Clone__api_Exchange_api_Exchange]
  cases b with
  | true=>
   simp only[sxZ,z6,z7,z8,j4,j5,j6,j7,j8,j9,x0,x4,x5,x6,x7,x8,reduceCtorEq,↓reduceIte,Bool.false_eq_true];have hk:=hk [] .nil (.inl ⟨rfl,rfl⟩)
   rwa [qw] at hk
  | false=>
   simp only[sxZ,z6,z7,z8,j4,j5,j6,j7,j8,j9,x0,x4,x5,x6,x7,x8,reduceCtorEq,↓reduceIte,Bool.false_eq_true];refine⟨by decide,?_⟩;simp only[sxZ,z6,z7,z8,j4,j5,j6,j7,j8,j9,x0,x4,x5,x6,x7,x8,reduceCtorEq,↓reduceIte,gn1,sn1];exact hk _ _ (.inr ⟨_,_,rfl,zd _,gn1 _ _⟩)
 | cons a l=>
  have e0:zbc (a::l)=.s a.url.host::(.i .i64 a.url.port::.s a.url.path::.s a.url.query::.s a.url.frag::.b a.url.hq::.b a.url.hf::.i .i64 a.st::.i .i64 a.err::zbc l):=rfl;have hk:=hk [.orow 62 9 1 (a::l).length (zbc (a::l))] (.orow objs.length 1) (.inr ⟨_,_,rfl,zd _,gn1 _ _⟩);generalize hX:(AV.i .i64 a.url.port::.s a.url.path::.s a.url.query::.s a.url.frag::.b a.url.hq::.b a.url.hf::.i .i64 a.st::.i .i64 a.err::zbc l)=X at e0;rw[e0] at hk hxl ⊢;generalize (a::l).length=n at hk hn hxl ⊢;refine zdp is_slices_Clone__api_Exchange_api_Exchange fun C _=>?_;rw[c_slices_Clone__api_Exchange_api_Exchange];simp only[sxZ,z6,z7,z8,j4,j5,j6,j7,j8,j9,x0,x4,x5,x6,x7,x8,reduceCtorEq,↓reduceIte];refine⟨by omega,?_⟩;simp only[sxZ,z6,z7,z8,j4,j5,j6,j7,j8,j9,x0,x4,x5,x6,x7,x8,reduceCtorEq,↓reduceIte,gn1,sn1];rw[zr];exact⟨⟨by simp only[ze] at hxl;omega,by omega,by omega⟩,hk⟩
theorem zpg (hk:∀M X,X.one=true->K (objs++M) X):zaa Tryz.prog 111 [.row 0 []] objs K:=by
 refine zgy fun b=>?_;refine zdp is_slices_Clone__api_Field_api_Field fun C _=>?_;rw[c_slices_Clone__api_Field_api_Field]
 cases b with
 | true=>
  simp only[sxZ,z6,z7,z8,j4,j5,j6,j7,j8,j9,x0,x4,x5,x6,x7,x8,reduceCtorEq,↓reduceIte,Bool.false_eq_true];have hk:=hk [] .nil rfl
  rwa [qw] at hk
 | false=>
  simp only[sxZ,z6,z7,z8,j4,j5,j6,j7,j8,j9,x0,x4,x5,x6,x7,x8,reduceCtorEq,↓reduceIte,Bool.false_eq_true];refine⟨by decide,?_⟩;simp only[sxZ,z6,z7,z8,j4,j5,j6,j7,j8,j9,x0,x4,x5,x6,x7,x8,reduceCtorEq,↓reduceIte,gn1,sn1];exact hk _ _ rfl
/-- one exchange more -/
theorem zjs (O B:List OB) (m:Nat) (u v:UrlP) (h e mi st s' er:Int) (d:Bool) (body:List UInt8) (tr:List ExP) (FL TR SE:AV) (hF:FL.one=true) (hS:SE.one=true) (hT:zdd m tr O TR) (hm:m<=O.length) (hn:tr.length<=1000000)
  (hk:∀O' M T',O'.length=O.length->zdd m (tr++[⟨u,s',er⟩]) (O'++(B++M)) T'->(∀j,(∀g,TR≠.orow j g)->O'[j]? = O[j]?)->K (O'++(B++M)) (.agg (fsC u h d e v mi st FL body T' SE))) :
  zaa Tryz.prog 59 [.agg (fsC u h d e v mi st FL body TR SE),.i .i64 s',.i .i64 er] (O++B) K:=by
 have hxl:=zgi tr;unfold fsC at hk ⊢;refine zdp is_fetch_note fun C _=>?_;rw[c_fetch_note];rcases hT with ⟨h0,rfl⟩|⟨r,g,rfl,hr0,hr⟩
 ·simp only[sxZ,z6,z7,z8,j4,j5,j6,j7,j8,j9,x0,x4,x5,x6,x7,x8,reduceCtorEq,↓reduceIte,hF,hS,zi,zl,zp,gkL,gk0,skL,sk0,zg,ze,zk,zh,qe,zy,zx,zz,zw,qk];subst h0;refine hk O _ _ rfl (.inr ⟨_,_,rfl,?_,?_⟩) fun j _=>rfl
  ·omega
  ·rw[gkL _ rfl,gkL _ rfl];rfl
 ·have hr':r<O.length:=(qp.1 hr).1;have hgr:∀l:List OB,(O++l)[r]? = some (.orow 62 9 g tr.length (zbc tr)):=fun l=>by rw[zu hr',hr]
  have hsr:∀(l:List OB) (x:OB),(O++l).set r x=O.set r x++l:=fun l x=>List.set_append_left _ _ hr';simp only[sxZ,z6,z7,z8,j4,j5,j6,j7,j8,j9,x0,x4,x5,x6,x7,x8,reduceCtorEq,↓reduceIte,hF,hS,zi,zl,zp,gkL,gk0,skL,sk0,zg,ze,zk,zh,qe,zy,zx,zz,zw,qk,hgr,hsr];refine⟨⟨by omega,by omega⟩,hk _ _ _ (zh ..) (.inr ⟨_,_,rfl,hr0,?_⟩) fun j hne=>?_⟩
  ·rw[zu (by simpa using hr'),qc hr',zg,ziO];rfl
  ·rw[zo (fun e=>hne g (by rw[e]))]
end
end
def zpu (w:World):Imm:=fun g o v=>w.cell? ⟨g,o,none⟩=some v
theorem zlc {G:Gh} {I:Imm} {w:World} {objs:List OB} {b E sz gen n:Nat} {xs:List AV} {y:Value} (hb:objs[b]? = some (.orow E sz gen n xs)) (hp:zar xs=true) (hm:MemOk G I objs w) (h:Den G I (.orow b gen) y):Den Gh.none (zpu w) (.row n xs) y:=by
 obtain⟨v',vs,m1,m2,m3,m4,m5⟩:=hm.row b E sz gen n xs hb;simp only[Den] at h ⊢;obtain⟨g0,v,k1,k2,k3,_⟩:=h;rw[k1] at m1;injection m1 with m1;injection m1 with m1 m6
 have hv:=k3 m1.symm;subst m1 m6 hv;have q1:zac Gh.none (zpu w) xs vs:=zac.plain (fun g o v hi=>hm.imm g o v hi) _ _ hp m3;rcases m2.2 with ⟨rfl,rfl⟩|⟨g,cap,cur,rfl,hx1,hx2,hx3,hx4⟩
 ·have hvs:vs=[]:=jb (by simpa using m2.1);subst hvs;exact⟨none,0,[],rfl,⟨zd _,by intro _ e;cases e⟩,q1,by simp,by simp⟩
 ·refine⟨some ⟨g,0,none⟩,cap,vs,rfl,⟨hx3,by rintro _ ⟨⟩ _;rfl⟩,q1,m4,fun j u hj=>⟨g,0,rfl,?_⟩⟩;have:=m2.cells (g:=g) rfl j u hj;rw[zay] at this;rw[zr];exact this
theorem zl9 {P:Program} [Tabs P] {f:FuncId} {args args':List AV} {objs:List OB} {K:List OB->AV->Prop} (r:AV) {v:Value} (hr:val r=some v) (hk:K objs r)
  (hl:∀(G:Gh) (I:Imm) (w:World) (ys:List Value),MemOk G I objs w->zac G I args ys->zac Gh.none (zpu w) args' ys) (h:zaa P f args' [] (fun _ r'=>r'=r)):zaa P f args objs K:=by
 refine zeP r hk fun G I w ys hT hm hd=>?_;have hd':=hl G I w ys hm hd
 haveI:On P ⟨w,fun _=>False,zpu w,Gh.none⟩:=⟨hT,fun _ h=>h⟩
 have hc:=h ⟨w,fun _=>False,zpu w,Gh.none⟩ Gh.none (zpu w) w
  ⟨rfl,rfl,rfl,zd _,fun _ _ _=>rfl,fun _ _ _ h=>h,fun _ _ _ h=>.inl h,fun b g hb=>by simp[Gh.own,Gh.none] at hb,Gh.le.refl _⟩
  ⟨fun _ _ _ h=>h,by simp,by simp,by simp,fun b b' g hb=>by simp[Gh.own,Gh.none] at hb,fun b g hb=>by simp[Gh.own,Gh.none] at hb,fun b g o v hb=>by simp[Gh.own,Gh.none] at hb,fun b _=>⟨rfl,rfl⟩⟩ ys hd'
 refine⟨v,hc.mono ?_,(zey G I r v hr v).2 rfl⟩;rintro e w' ⟨y,objs',r',G',I',rfl,rfl,_,_,hin,_,hy⟩;rw[(zey _ _ r' v hr y).1 hy];exact⟨rfl,⟨hin.os,hin.tape,hin.output,hin.size,fun k hk=>hin.block k hk (fun h=>h)⟩⟩
section
attribute [local irreducible] run
theorem zjy {P:Program} [Tabs P] {f:FuncId} {a c:AV} {rest:List AV} {objs:List OB} {K:List OB->AV->Prop} {b E sz gen n:Nat} {xs:List AV} (r:AV) {v:Value} (hb:objs[b]? = some (.orow E sz gen n xs)) (hp:zar xs=true) (ha:a.plain=true) (hc:c.plain=true) (hq:zar rest=true) (hr:val r=some v) (hk:K objs r)
  (h:zaa P f (a::c::.row n xs::rest) [] (fun _ r'=>r'=r)):zaa P f (a::c::.orow b gen::rest) objs K:=by
 refine zl9 r hr hk (fun G I w ys hm hd=>?_) h;simp only[zac] at hd;obtain⟨y1,ys',rfl,h1,y2,ys',rfl,h2,y3,ys',rfl,h3,h4⟩:=hd;have hi:Imm.le I (zpu w):=fun g o v hi=>hm.imm g o v hi;exact zac.cons (Den.plain hi _ _ ha h1) (zac.cons (Den.plain hi _ _ hc h2) (zac.cons (zlc hb hp hm h3) (zac.plain hi _ _ hq h4)))
section
variable [Tabs Tryz.prog] {objs:List OB} {K:List OB->AV->Prop}
theorem fClone_k (u v:UrlP) (h e mi st:Int) (d:Bool) (body:List UInt8) (tr:List ExP) (se:List UrlP) (hs0:se≠[]) (hs:se.length<=1000000) (hn:tr.length<=1000000)
  (hk:∀M F T' S',F.one=true->zdd objs.length tr (objs++M) T'->zgS objs.length se (objs++M) S'->K (objs++M) (.agg (fsC u h d e v mi st F body T' S'))) :
  zaa Tryz.prog 53 [.agg (fsC u h d e v mi st (.row 0 []) body (.row tr.length (zbc tr)) (.row se.length (zaJ se)))] objs K:=by
 unfold fsC at hk ⊢;have hp1:=zdh tr;have hp2:=zcK se;have hX1:(AV.row tr.length (zbc tr)).one=true:=rfl;generalize hTR:(AV.row tr.length (zbc tr))=TR at hX1 ⊢;generalize hSE:(AV.row se.length (zaJ se))=SE;have hX2:SE.one=true:=by rw[<-hSE];rfl
 refine zdp is_fetch_clone fun C _=>?_;rw[c_fetch_clone];simp only[sxZ,z6,z7,z8,j4,j5,j6,j7,j8,j9,x0,x4,x5,x6,x7,x8,reduceCtorEq,↓reduceIte,hX1,hX2,zi,zl,zp,gkL,gk0,skL,sk0,zg,ze,zk,zh,qe,zy,zx,zz,zw,qk];subst hSE;refine zal (cloneU_k se hs0 hs ?_);simp only[sxZ,z6,z7,z8,j4,j5,j6,j7,j8,j9,x0,x4,x5,x6,x7,x8,reduceCtorEq,↓reduceIte,hX1,hX2,zi,zl,zp,gkL,gk0,skL,sk0,zg,ze,zk,zh,qe,zy,zx,zz,zw,qk];refine zal (zpg fun M1 F hF=>?_);have hcF0:=zbW hF;have hfF0:=zcA hF;have hcF:=zbW hF;have hfF:=zcA hF;simp only[AV.cells] at hcF;simp only[AV.flat,AV.one] at hfF;simp only[sxZ,z6,z7,z8,j4,j5,j6,j7,j8,j9,x0,x4,x5,x6,x7,x8,reduceCtorEq,↓reduceIte,hfF,hcF0,hfF0,hcF,hF,hX1,hX2,zi,zl,zp,gkL,gk0,skL,sk0,zg,ze,zk,zh,qe,zy,zx,zz,zw,qk];subst hTR;refine zal (cloneX_k tr hn fun M2 T' hT'=>?_);have hX3:=hT'.one;have hcT0:=zbW hX3;have hfT0:=zcA hX3;have hcT:=zbW hX3;have hfT:=zcA hX3;simp only[AV.cells] at hcT;simp only[AV.flat,AV.one] at hfT;simp only[sxZ,z6,z7,z8,j4,j5,j6,j7,j8,j9,x0,x4,x5,x6,x7,x8,reduceCtorEq,↓reduceIte,hfF,hfT,hcF0,hfF0,hcF,hcT0,hfT0,hcT,hF,hX1,hX2,hX3,zi,zl,zp,gkL,gk0,skL,sk0,zg,ze,zk,zh,qe,zy,zx,zz,zw,qk] at hT' ⊢;exact hk _ F T' _ hF (hT'.far (by omega) fun j hj=>far2 (by omega)) ⟨_,_,rfl,by omega,gkL 2 rfl⟩
/-- a request that failed -/
theorem fFail_k (O B:List OB) (m:Nat) (u v:UrlP) (h e mi st s' er:Int) (d:Bool) (body:List UInt8) (tr:List ExP) (FL TR SE:AV) (hF:FL.one=true) (hS:SE.one=true) (hT:zdd m tr O TR) (hm:m<=O.length) (hn:tr.length<=1000000)
  (hk:∀O' M T',O'.length=O.length->zdd m (tr++[⟨u,s',er⟩]) (O'++(B++M)) T'->(∀j,(∀g,TR≠.orow j g)->O'[j]? = O[j]?)->K (O'++(B++M)) (.agg (fsC u h true er v mi st FL body T' SE))) :
  zaa Tryz.prog 54 [.agg (fsC u h d e v mi st FL body TR SE),.i .i64 s',.i .i64 er] (O++B) K:=by
 have hX1:=hT.one;refine zdp is_fetch_fail fun C _=>?_;rw[c_fetch_fail];unfold fsC at hk ⊢;simp only[sxZ,z6,z7,z8,j4,j5,j6,j7,j8,j9,x0,x4,x5,x6,x7,x8,reduceCtorEq,↓reduceIte,hF,hS,hX1,zg,zi,zl,zp,gkL,gk0,skL,sk0,ze,zk,zh,qe,zy,zx,zz,zw,qk];refine zal (zjs O _ m u v h e mi st s' er d body tr FL TR SE hF hS hT hm hn fun O' M T' hO hT' hfo=>?_);have hX2:=hT'.one;unfold fsC;simp only[sxZ,z6,z7,z8,j4,j5,j6,j7,j8,j9,x0,x4,x5,x6,x7,x8,reduceCtorEq,↓reduceIte,hF,hS,hX2,hO,zg,zi,zl,zp,gkL,gk0,skL,sk0,ze,zk,zh,qe,zy,zx,zz,zw,qk] at hT' ⊢;refine hk O' _ T' hO ?_ hfo;rw[<-zi] at hT' ⊢;exact hT'.keep
end
theorem zdd.imq {m:Nat} {l:List ExP} {o o':List OB} {X:AV} (h:zdd m l o X) (hf:∀(j:Nat) (E:TypeId) (g n:Nat) (xs:List AV),E=62->o[j]? = some (OB.orow E 9 g n xs)->o'[j]? = some (OB.orow E 9 g n xs)):zdd m l o' X:=by
 rcases h with h|⟨r,g,e,h0,hr⟩
 ·exact .inl h
 ·exact .inr ⟨r,g,e,h0,hf _ _ _ _ _ rfl hr⟩
theorem keep3n {O B M N:List OB} {x:OB} {T U E:TypeId} {sz g n j:Nat} {c c' d d' xs:List AV} (h:(O++(B++.box T c::x::.box U c'::M))[j]? = some (.orow E sz g n xs)):(O++(B++.box T d::x::.box U d'::(M++N)))[j]? = some (.orow E sz g n xs):=by
 rcases zj j O.length with h0|h0
 ·rw[zu h0] at h ⊢;exact h
 ·rw[ja h0] at h ⊢;generalize j - O.length=i at h;rcases zj i B.length with h1|h1
  ·rw[zu h1] at h ⊢;exact h
  ·rw[ja h1] at h ⊢;generalize i - B.length=k at h;rcases k with _|_|_|k
   ·cases h
   ·exact h
   ·cases h
   ·simp only[zy] at h ⊢;rw[zu (qp.1 h).1];exact h
theorem keepS {O L:List OB} {rs j:Nat} {R y z:OB} (hr:O[rs]? = some y) (hy:y≠z) (h:(O++L)[j]? = some z):(O.set rs R++L)[j]? = some z:=by
 rcases zj j O.length with h0|h0
 ·rw[zu h0] at h;rw[zu (by simpa using h0),zo fun e=>hy ?_,h];subst e;rw[h] at hr;injection hr with hr;exact hr.symm
 ·rw[ja h0] at h;rw[ja (by simpa using h0),zh,h]
theorem keepB0 {O:List OB} {rs j:Nat} {E:TypeId} {sz g n:Nat} {xs cs:List AV} {R:OB} {T:TypeId} (hr:O[rs]? = some (.orow E sz g n xs)) (hb:O[j]? = some (.box T cs)):(O.set rs R)[j]? = some (.box T cs):=by
 rw[zo fun e=>?_,hb];subst e;rw[hr] at hb;cases hb
section
variable [Tabs Tryz.prog] [Pow Tryz.prog] {objs:List OB} {K:List OB->AV->Prop}
/-- a redirect -/
theorem zoJ (O B:List OB) (m:Nat) (u v:UrlP) (h mi st mi' s':Int) (body:List UInt8) (tr:List ExP) (se:List UrlP) (l:List (List UInt8×List UInt8)) (FL TR SE:AV) (hF:FL.one=true) (hT:zdd m tr O TR) (hS:zgS m se O SE) (hm:m<=O.length) (hn:tr.length<=1000000) (hsn:se.length<=1000000) (hu:zbk u) (hl:FewH l) (hh:0<=h) (hh2:h<=1000000)
  (hk:∀o T' S',zdd m (tr++[⟨u,s',0⟩]) o T'->(∀j T cs,j<O.length->O[j]? = some (.box T cs)->o[j]? = some (.box T cs)) ->
   ((zcO u l se h).1≠0->zgS m se o S'->K o (.agg (fsC u h true (zcO u l se h).1 v mi st FL body T' S'))) /\
   ((zcO u l se h).1=0->zgS m (se++[(zcO u l se h).2]) o S'->K o (.agg (fsC (zcO u l se h).2 (h+1) false 0 v mi st FL body T' S')))) :
  zaa Tryz.prog 57 [.agg (fsC u h false 0 v mi st FL body TR SE),zfk mi' s' l] (O++B) K:=by
 have hX1:=hT.one;have hX4:=hS.one;refine zdp is_fetch_follow fun C _=>?_;rw[c_fetch_follow];unfold fsC at hk ⊢;simp only[sxZ,z6,z7,z8,j4,j5,j6,j7,j8,j9,x0,x4,x5,x6,x7,x8,reduceCtorEq,↓reduceIte,zfk,hF,hX4,hX1,zg,zi,zl,zp,gkL,gk0,skL,sk0,ze,zk,zh,qe,zy,zx,zz,zw,qk];refine zal (zjs O _ m u v h 0 mi st s' 0 false body tr FL TR SE hF hX4 hT hm hn fun O' M T' hO hT' hfo=>?_);have hX2:=hT'.one;unfold fsC;simp only[sxZ,z6,z7,z8,j4,j5,j6,j7,j8,j9,x0,x4,x5,x6,x7,x8,reduceCtorEq,↓reduceIte,hF,hX4,hX2,hO,zg,zi,zl,zp,gkL,gk0,skL,sk0,ze,zk,zh,qe,zy,zx,zz,zw,qk] at hT' ⊢;obtain⟨rs,gs,rfl,hrs0,hrs⟩:=hS;have hrs1:rs<O.length:=(qp.1 hrs).1;have hrs2:O'[rs]? = some (.orow 35 7 gs se.length (zaJ se)):=by
  rw[hfo rs fun g e=>?_,hrs];subst e;rcases hT with ⟨_,e⟩|⟨r,g',e,_,hr⟩
  ·cases e
  ·injection e with e1;subst e1;rw[hrs] at hr;injection hr with hr;injection hr with hr;exact absurd hr (by decide)
 refine zal (zjy (.tup [zaM (zcO u l se h).2,.i .i64 (zcO u l se h).1]) ((zu (by omega)).trans hrs2) (zcK se) rfl (by simp only[AV.plain,zar,zbQ,Bool.and_self]) rfl rfl ?_ (rNext_k u mi' s' l se h hu hl hsn rfl));generalize zcO u l se h=r at hk ⊢;obtain⟨er,nu⟩:=r;simp only at hk ⊢;simp only[sxZ,z6,z7,z8,j4,j5,j6,j7,j8,j9,x0,x4,x5,x6,x7,x8,reduceCtorEq,↓reduceIte,zaM,hF,hX2,hO,zg,zi,zl,zp,gkL,gk0,skL,sk0,ze,zk,zh,qe,zy,zx,zz,zw,qk];have hrs3:rs<O'.length:=by omega
 have hgr:∀l:List OB,(O'++l)[rs]? = some (.orow 35 7 gs se.length (zaJ se)):=fun l=>by rw[zu hrs3,hrs2]
 have hsr:∀(l:List OB) (x:OB),(O'++l).set rs x=O'.set rs x++l:=fun l x=>List.set_append_left _ _ hrs3;have hfb:∀(j:Nat) (T:TypeId) (cs:List AV),O[j]? = some (.box T cs)->O'[j]? = some (.box T cs):=fun j T cs hb=>by
  rw[hfo j fun g e=>?_,hb];subst e;rcases hT with ⟨_,e⟩|⟨r,g',e,_,hr⟩
  ·cases e
  ·injection e with e1;subst e1;rw[hb] at hr;cases hr
 by_cases h1:er=0
 ·subst h1;simp only[sxZ,z6,z7,z8,j4,j5,j6,j7,j8,j9,x0,x4,x5,x6,x7,x8,reduceCtorEq,↓reduceIte,hF,hX2,hO,hgr,hsr,zg,zi,zl,zp,gkL,gk0,skL,sk0,ze,zk,zh,qe,zy,zx,zz,zw,qk];refine⟨⟨by omega,by omega⟩,⟨by omega,by omega⟩,⟨by omega,by omega⟩,(hk _ T' _ (hT'.imq fun j E g n xs hE hj=>keepS hrs2 (by subst hE;intro e;injection e with e;exact absurd e (by decide)) (keep3n hj)) fun j T cs hj hb=>by
   rw[zu (by rw[zh];omega)];exact keepB0 hrs2 (hfb j T cs hb)).2 rfl ⟨_,_,rfl,hrs0,?_⟩⟩
  rw[zu (by simpa using hrs3),qc hrs3,zg,zhO];rfl
 ·simp only[h1,sxZ,z6,z7,z8,j4,j5,j6,j7,j8,j9,x0,x4,x5,x6,x7,x8,reduceCtorEq,↓reduceIte,hF,hX2,hO,zg,zi,zl,zp,gkL,gk0,skL,sk0,ze,zk,zh,qe,zy,zx,zz,zw,qk,Bool.not_true,Bool.not_false];refine(hk _ T' _ (hT'.imq fun j E g n xs hE hj=>keep3n hj) fun j T cs hj hb=>by
   rw[zu (by omega)];exact hfb j T cs hb).1 h1 ⟨_,_,rfl,hrs0,hgr _⟩
end
end
section
attribute [local irreducible] run
structure FsP where
 u:UrlP
 h:Int
 d:Bool
 e:Int
 v:UrlP
 mi:Int
 st:Int
 fl:List (List UInt8×List UInt8)
 body:List UInt8
 tr:List ExP
 se:List UrlP
def zlZ (f:FsP):AV:=.agg (fsC f.u f.h f.d f.e f.v f.mi f.st (.row f.fl.length (zaS f.fl)) f.body (.row f.tr.length (zbc f.tr)) (.row f.se.length (zaJ f.se)))
def failF (f:FsP) (s e:Int):FsP:=⟨f.u,f.h,true,e,zbS,0,0,[],[],f.tr++[⟨f.u,s,e⟩],f.se⟩
def folF (f:FsP) (s:Int) (r:Int×UrlP):FsP :=
 if r.1=0 then ⟨r.2,f.h+1,false,0,zbS,0,0,[],[],f.tr++[⟨f.u,s,0⟩],f.se++[r.2]⟩
 else ⟨f.u,f.h,true,r.1,zbS,0,0,[],[],f.tr++[⟨f.u,s,0⟩],f.se⟩
def bodF (f:FsP) (h:HeadR) (b:Int×List UInt8):FsP :=
 if b.1=0 then ⟨f.u,f.h,true,0,f.u,h.minor,h.status,h.fields,b.2,f.tr++[⟨f.u,h.status,0⟩],f.se⟩ else failF f h.status b.1
def zck (l:List Ans) (now:Nat) (f:FsP):FsP :=
 if (zgQ l f.u now).1=0 then
  if (zaU (zgQ l f.u now).2).err=0 then
   if zfQ (zaU (zgQ l f.u now).2).status=true then folF f (zaU (zgQ l f.u now).2).status (zcO f.u (zaU (zgQ l f.u now).2).fields f.se f.h)
   else bodF f (zaU (zgQ l f.u now).2) (zlF (zaU (zgQ l f.u now).2).status (zaU (zgQ l f.u now).2).fields ((zgQ l f.u now).2.drop (zaU (zgQ l f.u now).2).at_) 1048576)
  else failF f 0 (zaU (zgQ l f.u now).2).err
 else failF f 0 (zgQ l f.u now).1
def KpX (objs o:List OB):Prop:=∀(j:Nat) (y:OB),objs[j]? = some y->(∀(g n:Nat) (xs:List AV),y≠OB.orow 62 9 g n xs)->o[j]? = some y
theorem kpx_of {O O':List OB} {m:Nat} {tr:List ExP} {TR:AV} (hT:zdd m tr O TR) (hO:O'.length=O.length) (L:List OB) (hf:∀j,(∀g,TR≠.orow j g)->O'[j]? = O[j]?):KpX O (O'++L):=fun j y hj hy=>by
 have h0:=(qp.1 hj).1;rw[zu (by omega),hf j fun g e=>?_,hj];subst e;rcases hT with ⟨_,e⟩|⟨r,g',e,_,hr⟩
 ·cases e
 ·injection e with e1;subst e1;rw[hr] at hj;injection hj with hj;exact hy _ _ _ hj.symm
theorem KpX.roww {objs o:List OB} (h:KpX objs o) {m:Nat} {l:List UrlP} {X:AV} (hw:zgS m l objs X):zgS m l o X:=by
 obtain⟨r,g,e,h0,hr⟩:=hw;exact⟨r,g,e,h0,h _ _ hr fun g n xs e=>by injection e with e;exact absurd e (by decide)⟩
theorem KpX.box {objs o:List OB} (h:KpX objs o) {j:Nat} {T:TypeId} {cs:List AV} (hw:objs[j]? = some (.box T cs)):o[j]? = some (.box T cs):=h _ _ hw fun g n xs e=>by cases e
theorem head_bd {s:List UInt8} (h:(zaU s).err=0) (hs:s.length<=12000):Few (zaU s).fields/\FewH (zaU s).fields/\(zmh (zaU s).fields clL).length<=1000000/\(zaU s).at_<=s.length:=by
 obtain⟨f1,f2,f3,f4,f5,f6,f7⟩:=zjk h;have hb:∀p∈(zaU s).fields,p.1.length+p.2.length<=12064:=fun p hp=>by
  have h1:(zit p).length<=((zaU s).fields.flatMap zit).length:=by
   generalize (zaU s).fields=fs at hp
   induction fs with
   | nil=>cases hp
   | cons q fs ih=>
    rw[List.flatMap_cons,zg];rcases qo.1 hp with rfl|hp
    ·omega
    ·have:=ih hp;omega
  have h2:(zit p).length=p.1.length+(p.2.length+1+1):=by simp[zit]
  omega
 have hv:∀x∈zbg (zaU s).fields clL,x.length<=12064:=fun x hx=>by
  obtain⟨p,hp,rfl⟩:=List.mem_map.1 hx;have:=hb p (List.mem_filter.1 hp).1;omega
 have hn:(zbg (zaU s).fields clL).length<=64:=by
  unfold zbg;rw[qy];exact Nat.le_trans (List.length_filter_le _ _) f5
 refine⟨⟨by omega,fun p hp=>by have:=hb p hp;omega⟩,⟨by omega,fun p hp=>by have:=hb p hp;omega,fun p hp=>by have:=hb p hp;omega⟩,?_,f6⟩;have h2:=zof 12064 _ hv [44,32];have h3:([44,32]:List UInt8).length=2:=rfl;rw[h3] at h2;have h4:(2+12064)*(zbg (zaU s).fields clL).length<=(2+12064)*64:=Nat.mul_le_mul (zd _) hn;unfold zmh;omega
theorem zds {G:Gh} {I:Imm}:∀(xs:List AV) {ys:List AV} {zs:List Value},zac G I (xs++.nil::ys) zs->zac G I (xs++.row 0 []::ys) zs
 | [],ys,zs,h=>by
  simp only[zp,zac] at h ⊢;obtain⟨y,zs',rfl,h1,h2⟩:=h;exact⟨y,zs',rfl,znE h1,h2⟩
 | x::xs,ys,zs,h=>by
  simp only[zl,zac] at h ⊢;obtain⟨y,zs',rfl,h1,h2⟩:=h;exact⟨y,zs',rfl,h1,zds xs h2⟩
theorem zpe {G:Gh} {I:Imm} {y:Value} {u v:UrlP} {h e mi st:Int} {d:Bool} {body:List UInt8} {T S:AV} (hd:Den G I (.agg (fsC u h d e v mi st .nil body T S)) y):Den G I (.agg (fsC u h d e v mi st (.row 0 []) body T S)) y:=by
 simp only[Den] at hd ⊢;obtain⟨ys,h1,h2,h3⟩:=hd;exact⟨ys,h1,zds [.s u.host,.i .i64 u.port,.s u.path,.s u.query,.s u.frag,.b u.hq,.b u.hf,.i .i64 h,.b d,.i .i64 e,.s v.host,.i .i64 v.port,.s v.path,.s v.query,.s v.frag,.b v.hq,.b v.hf,.i .i64 mi,.i .i64 st] h2,h3⟩
theorem zis {G:Gh} {I:Imm} {y:Value} {u v:UrlP} {h e mi st:Int} {d:Bool} {body:List UInt8} {tr:List ExP} {x:ExP} {S:AV} (hd:Den G I (.agg (fsC u h d e v mi st .nil body (.row (tr.length+1) (zbc (tr++[x]))) S)) y):Den G I (.agg (fsC u h d e v mi st (.row 0 []) body (.row (tr++[x]).length (zbc (tr++[x]))) S)) y:=by
 rw[zg];exact zpe hd
theorem zj2 {o:List OB} {d r g n:Nat} {E:TypeId} {sz:Nat} {xs:List AV} (h:o[r]? = some (.orow E sz g n xs)) (hp:zar xs=true):pub o (d+1) (.orow r g)=some (.row n xs):=by
 simp only[pub,h,if_true,zha hp,Option.map_some]
theorem pub_x0 {o:List OB} {tr:List ExP} {T:AV} (hT:zdd 2 tr o T) (hl:tr≠[]):pub o 5 T=some (.row tr.length (zbc tr)):=by
 rcases hT with ⟨h0,_⟩|⟨r,g,rfl,h2,hr⟩
 ·exact absurd h0 hl
 exact zj2 hr (zdh tr)
theorem pub_w0 {o:List OB} {se:List UrlP} {S:AV} (hS:zgS 2 se o S):pub o 5 S=some (.row se.length (zaJ se)):=by
 obtain⟨r,g,rfl,h2,hr⟩:=hS;exact zj2 hr (zcK se)
theorem two_at {o:List OB} {a b:OB} (h0:o[0]? = some a) (h1:o[1]? = some b):∃L,o=a::b::L:=by
 rcases o with _|⟨x,_|⟨y,L⟩⟩
 ·cases h0
 ·cases h1
 ·simp only[qe,zy,Option.some.injEq] at h0 h1;subst h0 h1;exact⟨L,rfl⟩
theorem pub_x {o:List OB} {tr:List ExP} {T:AV} (hT:zdd 2 tr o T) (hl:tr≠[]) (x:OB):pub (o.set 1 x) 5 T=some (.row tr.length (zbc tr)):=by
 rcases hT with ⟨h0,_⟩|⟨r,g,rfl,h2,hr⟩
 ·exact absurd h0 hl
 exact zj2 (by rw[zo (by omega),hr]) (zdh tr)
theorem zm9 {o:List OB} {se:List UrlP} {S:AV} (hS:zgS 2 se o S) (x:OB):pub (o.set 1 x) 5 S=some (.row se.length (zaJ se)):=by
 obtain⟨r,g,rfl,h2,hr⟩:=hS;exact zj2 (by rw[zo (by omega),hr]) (zcK se)
section
variable [Tabs Tryz.prog] {objs:List OB} {K:List OB->AV->Prop}
theorem fNote0_k (m:Nat) (u v:UrlP) (h e mi st s' er:Int) (d:Bool) (body:List UInt8) (tr:List ExP) (FL TR SE:AV) (hF:FL.one=true) (hS:SE.one=true) (hT:zdd m tr objs TR) (hm:m<=objs.length) (hn:tr.length<=1000000)
  (hk:∀o T',zdd m (tr++[⟨u,s',er⟩]) o T'->KpX objs o->K o (.agg (fsC u h d e v mi st FL body T' SE))) :
  zaa Tryz.prog 59 [.agg (fsC u h d e v mi st FL body TR SE),.i .i64 s',.i .i64 er] objs K:=by
 have:=zjs (K:=K) objs [] m u v h e mi st s' er d body tr FL TR SE hF hS hT hm hn fun O' M T' hO hT' hfo=>hk _ T' hT' (kpx_of hT hO _ hfo)
 rwa [qw] at this
theorem fFail0_k (m:Nat) (u v:UrlP) (h e mi st s' er:Int) (d:Bool) (body:List UInt8) (tr:List ExP) (FL TR SE:AV) (hF:FL.one=true) (hS:SE.one=true) (hT:zdd m tr objs TR) (hm:m<=objs.length) (hn:tr.length<=1000000)
  (hk:∀o T',zdd m (tr++[⟨u,s',er⟩]) o T'->KpX objs o->K o (.agg (fsC u h true er v mi st FL body T' SE))) :
  zaa Tryz.prog 54 [.agg (fsC u h d e v mi st FL body TR SE),.i .i64 s',.i .i64 er] objs K:=by
 have:=fFail_k (K:=K) objs [] m u v h e mi st s' er d body tr FL TR SE hF hS hT hm hn fun O' M T' hO hT' hfo=>hk _ T' hT' (kpx_of hT hO _ hfo)
 rwa [qw] at this
theorem zl1 [Pow Tryz.prog] (m:Nat) (u v:UrlP) (h mi st mi' s':Int) (body:List UInt8) (tr:List ExP) (se:List UrlP) (l:List (List UInt8×List UInt8)) (FL TR SE:AV) (hF:FL.one=true) (hT:zdd m tr objs TR) (hS:zgS m se objs SE) (hm:m<=objs.length) (hn:tr.length<=1000000) (hsn:se.length<=1000000) (hu:zbk u) (hl:FewH l) (hh:0<=h) (hh2:h<=1000000)
  (hk:∀o T' S',zdd m (tr++[⟨u,s',0⟩]) o T'->(∀j T cs,j<objs.length->objs[j]? = some (.box T cs)->o[j]? = some (.box T cs)) ->
   ((zcO u l se h).1≠0->zgS m se o S'->K o (.agg (fsC u h true (zcO u l se h).1 v mi st FL body T' S'))) /\
   ((zcO u l se h).1=0->zgS m (se++[(zcO u l se h).2]) o S'->K o (.agg (fsC (zcO u l se h).2 (h+1) false 0 v mi st FL body T' S')))) :
  zaa Tryz.prog 57 [.agg (fsC u h false 0 v mi st FL body TR SE),zfk mi' s' l] objs K:=by
 have:=zoJ (K:=K) objs [] m u v h mi st mi' s' body tr se l FL TR SE hF hT hS hm hn hsn hu hl hh hh2 hk
 rwa [qw] at this
/-- one request more -/
theorem fStep_k [Shp Tryz.prog] [Pow Tryz.prog] (l:List Ans) (now:Nat) (f:FsP) (hl:l.length<=1000000) (hraw:∀a∈l,a.raw.length<=12000) (hu:zbk f.u) (hd:f.d=false) (he:f.e=0) (hfl:f.fl=[]) (hs0:f.se≠[]) (hs:f.se.length<=1000000) (hn:f.tr.length<=1000000) (hh:0<=f.h) (hh2:f.h<=1000000)
  (hk:K objs (zlZ (zck l now f))):zaa Tryz.prog 21 [.row l.length (zaI l),.i .u64 now,zlZ f] objs K:=by
 obtain⟨u,h,d,e,v,mi,st,fl,body,tr,se⟩:=f;simp only at hd he hfl hu hs0 hs hn hh hh2;subst hd he hfl;have hp1:=zdh tr;have hp2:=zcK se;refine njres (zlZ (zck l now ⟨u,h,false,0,v,mi,st,[],body,tr,se⟩)) ?_;generalize hR:zlZ (zck l now ⟨u,h,false,0,v,mi,st,[],body,tr,se⟩)=R at hk ⊢;unfold zck at hR;simp only at hR;refine zaR is_fetch_Step (by simp only[zlZ,fsC,zar,AV.plain,zdP,hp1,hp2,Bool.and_self,zaS,List.flatMap_nil]) fun C _=>?_;rw[c_fetch_Step];unfold zlZ fsC;have hcl:=fun (o:List OB) (K':List OB->AV->Prop)=>fClone_k (objs:=o) (K:=K') u v h 0 mi st false body tr se hs0 hs hn;unfold fsC at hcl;refine zaj fun Z1 hZ1=>?_;simp only[sxZ,z6,z7,z8,j4,j5,j6,j7,j8,j9,x0,x4,x5,x6,x7,x8,reduceCtorEq,↓reduceIte,zk,zaS,List.flatMap_nil];subst hZ1;refine zaj fun Z2 hZ2=>?_;simp only[sxZ,z6,z7,z8,j4,j5,j6,j7,j8,j9,x0,x4,x5,x6,x7,x8,reduceCtorEq,↓reduceIte,gk0,zg,zi,zl,zp,gkL,gk0,skL,sk0,ze,zk,zh,qe,zy,zx,zz,zw,qk];refine zal (hcl _ _ fun M F T' S' hF hT hS=>?_);have hTo:=hT.one;have hSo:=hS.one;simp only[sxZ,z6,z7,z8,j4,j5,j6,j7,j8,j9,x0,x4,x5,x6,x7,x8,reduceCtorEq,↓reduceIte,hF,hTo,hSo,zg,zi,zl,zp,gkL,gk0,skL,sk0,ze,zk,zh,qe,zy,zx,zz,zw,qk] at hT hS ⊢;have hcT0:=zbW hTo;have hfT0:=zcA hTo;have hcT:=zbW hTo;have hne:∀x:ExP,tr++[x]≠[]:=fun x=>by simp
 have hfT:=zcA hTo;simp only[AV.cells] at hcT;simp only[AV.flat,AV.one] at hfT;subst hZ2;simp only[sxZ,z6,z7,z8,j4,j5,j6,j7,j8,j9,x0,x4,x5,x6,x7,x8,reduceCtorEq,↓reduceIte,hF,hTo,hSo,hcT0,hfT0,hcT,hfT,zg,zi,zl,zp,gkL,gk0,skL,sk0,ze,zk,zh,qe,zy,zx,zz,zw,qk];have hraw2:(zgQ l u now).2.length<=12000:=by
  unfold zgQ
  split
  ·simp
  ·cases hfd:l.find? (zgf u now) with
   | none=>simp[askA]
   | some a=>
    have:=hraw a (List.mem_of_find?_eq_some hfd);simp only[askA]
    split<;>simp<;>omega
 refine zal (ask_k l u now hl hu ?_);generalize zgQ l u now=a at hR hraw2 ⊢;obtain⟨ea,raw⟩:=a;simp only at hR hraw2 ⊢;simp only[sxZ,z6,z7,z8,j4,j5,j6,j7,j8,j9,x0,x4,x5,x6,x7,x8,reduceCtorEq,↓reduceIte,hF,hTo,hSo,hcT0,hfT0,hcT,hfT,zg,zi,zl,zp,gkL,gk0,skL,sk0,ze,zk,zh,qe,zy,zx,zz,zw,qk];have hT1:∀d d',zdd 2 tr (.box 58 d::.box 58 d'::M) T':=fun d d'=>zdd.keep (P:=[]) hT;have hS1:∀d d',zgS 2 se (.box 58 d::.box 58 d'::M) S':=fun d d'=>zgS.keep (P:=[]) hS;have hFL:=fun (o:List OB) (K':List OB->AV->Prop) (s' er:Int) (TR:AV)=>fFail0_k (objs:=o) (K:=K') 2 u zbS h 0 0 0 s' er false [] tr .nil TR S' rfl hSo;unfold fsC at hFL
 by_cases c1:ea=0
 ·rw[if_pos c1] at hR;subst c1;simp only[sxZ,z6,z7,z8,j4,j5,j6,j7,j8,j9,x0,x4,x5,x6,x7,x8,reduceCtorEq,↓reduceIte,zg,zi,zl,zp,gkL,gk0,skL,sk0,ze,zk,zh,qe,zy,zx,zz,zw,qk];refine zal (zlW raw (by omega) ?_);have hbd:=fun he:(zaU raw).err=0=>head_bd he hraw2;generalize zaU raw=H at hR hbd ⊢;simp only[zkI,zfk,sxZ,z6,z7,z8,j4,j5,j6,j7,j8,j9,x0,x4,x5,x6,x7,x8,reduceCtorEq,↓reduceIte,hTo,hSo,zg,zi,zl,zp,gkL,gk0,skL,sk0,ze,zk,zh,qe,zy,zx,zz,zw,qk];have hT4:∀d d' N,zdd 2 tr (.box 58 d::.box 58 d'::(M++N)) T':=fun d d' N=>(hT1 d d').tr fun j hj=>zu (l₁:=.box 58 d::.box 58 d'::M) hj;have hS4:∀d d' N,zgS 2 se (.box 58 d::.box 58 d'::(M++N)) S':=fun d d' N=>by
   obtain⟨r,g,e,h0,hr⟩:=hS1 d d';exact⟨r,g,e,h0,(zu (l₁:=.box 58 d::.box 58 d'::M) (qp.1 hr).1).trans hr⟩
  by_cases c2:H.err=0
  ·rw[if_pos c2] at hR;obtain⟨hfew,hfewh,hgl,hat⟩:=hbd c2;simp only[sxZ,z6,z7,z8,j4,j5,j6,j7,j8,j9,x0,x4,x5,x6,x7,x8,reduceCtorEq,↓reduceIte,c2,zg,zi,zl,zp,gkL,gk0,skL,sk0,ze,zk,zh,qe,zy,zx,zz,zw,qk];refine zal (zoh _ ?_)
   by_cases c3:zfQ H.status=true
   ·rw[if_pos c3] at hR;simp only[sxZ,z6,z7,z8,j4,j5,j6,j7,j8,j9,x0,x4,x5,x6,x7,x8,reduceCtorEq,↓reduceIte,c3,hTo,hSo,zg,zi,zl,zp,gkL,gk0,skL,sk0,ze,zk,zh,qe,zy,zx,zz,zw,qk];have hfo:=fun (o:List OB) (K':List OB->AV->Prop) (TR SE:AV)=>zl1 (objs:=o) (K:=K') 2 u zbS h 0 0 H.minor H.status [] tr se H.fields .nil TR SE rfl;unfold fsC zfk at hfo;refine zal (hfo _ _ _ _ (hT4 _ _ _) (hS4 _ _ _) (by simp) hn hs hu hfewh hh hh2 fun o T'' S'' hT2 hkb=>?_);have ho1:=hkb 1 _ _ (by simp) rfl;have hT3:=hT2.one;have hg1:∀x:OB,(o.set 1 x)[1]? = some x:=fun x=>qc (qp.1 ho1).1;have hpT:=pub_x hT2 (hne _);generalize zcO u H.fields se h=r at hR ⊢;unfold folF at hR
    constructor
    ·intro c4 hSw;rw[if_neg c4] at hR;have hS3:=hSw.one;have hpS:=zm9 hSw;simp only[sxZ,z6,z7,z8,j4,j5,j6,j7,j8,j9,x0,x4,x5,x6,x7,x8,reduceCtorEq,↓reduceIte,hg1,ho1,hT3,hS3,hpT,hpS,zg,zi,zl,zp,gkL,gk0,skL,sk0,ze,zk,zh,qe,zy,zx,zz,zw,qk];refine⟨fun G I y hd=>?_,hk⟩;rw[<-hR];exact zis (u:=u) (v:=zbS) hd
    ·intro c4 hSw;rw[if_pos c4] at hR;have hS3:=hSw.one;have hpS:=zm9 hSw;simp only[sxZ,z6,z7,z8,j4,j5,j6,j7,j8,j9,x0,x4,x5,x6,x7,x8,reduceCtorEq,↓reduceIte,hg1,ho1,hT3,hS3,hpT,hpS,zg,zi,zl,zp,gkL,gk0,skL,sk0,ze,zk,zh,qe,zy,zx,zz,zw,qk];refine⟨fun G I y hd=>?_,hk⟩;rw[<-hR];have hd2:=zis (u:=r.2) (v:=zbS) hd;have e1:(se++[r.2]).length=se.length+1:=by simp
     simp only[zlZ,e1];exact hd2
   ·rw[if_neg c3] at hR;simp only[sxZ,z6,z7,z8,j4,j5,j6,j7,j8,j9,x0,x4,x5,x6,x7,x8,reduceCtorEq,↓reduceIte,c3,hTo,hSo,zg,zi,zl,zp,gkL,gk0,skL,sk0,ze,zk,zh,qe,zy,zx,zz,zw,qk];refine⟨⟨by omega,by omega,by omega⟩,?_⟩;refine zbs (bRead_k H.minor H.status H.fields (raw.drop H.at_) 1048576 hfew hgl (by rw[zv];omega) (by omega) (by omega) ⟨rfl,rfl⟩) ?_;generalize zlF H.status H.fields (raw.drop H.at_) 1048576=b at hR ⊢;obtain⟨eb,text⟩:=b;unfold bodF at hR;simp only at hR ⊢;simp only[sxZ,z6,z7,z8,j4,j5,j6,j7,j8,j9,x0,x4,x5,x6,x7,x8,reduceCtorEq,↓reduceIte,hTo,hSo,zg,zi,zl,zp,gkL,gk0,skL,sk0,ze,zk,zh,qe,zy,zx,zz,zw,qk]
    by_cases c4:eb=0
    ·rw[if_pos c4] at hR;subst c4;have hNo:=fun (o:List OB) (K':List OB->AV->Prop) (TR SE:AV)=>fNote0_k (objs:=o) (K:=K') 2 u zbS h 0 0 0 H.status 0 false [] tr .nil TR SE rfl;unfold fsC at hNo;simp only[sxZ,z6,z7,z8,j4,j5,j6,j7,j8,j9,x0,x4,x5,x6,x7,x8,reduceCtorEq,↓reduceIte,hTo,hSo,zg,zi,zl,zp,gkL,gk0,skL,sk0,ze,zk,zh,qe,zy,zx,zz,zw,qk];refine zal (hNo _ _ _ _ hSo (hT4 _ _ _) (by simp) hn fun o T'' hT2 hkp=>?_);have hw0:=hkp.roww (hS4 _ _ _);have ho9:=hkp.box (j:=M.length+2) (T:=48) (cs:=[.i .i64 H.minor,.i .i64 H.status,.row H.fields.length (zaS H.fields)]) (by simp only[zg,zi,zl,zp,gkL,gk0,skL,sk0,ze,zk,zh,qe,zy,zx,zz,zw,qk]);obtain⟨L,rfl⟩:=two_at (hkp.box (j:=0) rfl) (hkp.box (j:=1) rfl);have hT3:=hT2.one;have hcT30:=zbW hT3;have hfT30:=zcA hT3;have hcT3:=zbW hT3;have hfT3:=zcA hT3;simp only[AV.cells] at hcT3;simp only[AV.flat,AV.one] at hfT3;have hpT:=fun d d'=>pub_x0 (zdd.keep (P:=[]) (d:=d) (d':=d') hT2) (hne _);have hpS:=fun d d'=>pub_w0 (zgS.keep (P:=[]) (d:=d) (d':=d') hw0);simp only[zg,zi,zl,zp,gkL,gk0,skL,sk0,ze,zk,zh,qe,zy,zx,zz,zw,qk] at ho9 hpT hpS;simp only[sxZ,z6,z7,z8,j4,j5,j6,j7,j8,j9,x0,x4,x5,x6,x7,x8,reduceCtorEq,↓reduceIte,zbQ,ho9,hT3,hSo,hcT30,hfT30,hcT3,hfT3,hpT,hpS,zg,zi,zl,zp,gkL,gk0,skL,sk0,ze,zk,zh,qe,zy,zx,zz,zw,qk];have e1:(tr++[(⟨u,H.status,0⟩:ExP)]).length=tr.length+1:=by simp
     simp only[zlZ,e1] at hR;refine⟨fun G I y hd=>?_,hk⟩;rw[<-hR];exact hd
    ·rw[if_neg c4] at hR;simp only[sxZ,z6,z7,z8,j4,j5,j6,j7,j8,j9,x0,x4,x5,x6,x7,x8,reduceCtorEq,↓reduceIte,c4,Bool.not_false,Bool.not_true,decide_true,decide_false,not_false_eq_true,hTo,hSo,zg,zi,zl,zp,gkL,gk0,skL,sk0,ze,zk,zh,qe,zy,zx,zz,zw,qk];refine zal (hFL _ _ _ _ _ (hT4 _ _ _) (by simp) hn fun o T'' hT2 hkp=>?_);have ho1:=hkp.box (j:=1) rfl;have hT3:=hT2.one;have hg1:∀x:OB,(o.set 1 x)[1]? = some x:=fun x=>qc (qp.1 ho1).1;have hpT:=pub_x hT2 (hne _);have hpS:=zm9 (hkp.roww (hS4 _ _ _));simp only[sxZ,z6,z7,z8,j4,j5,j6,j7,j8,j9,x0,x4,x5,x6,x7,x8,reduceCtorEq,↓reduceIte,hg1,ho1,hT3,hSo,hpT,hpS,zg,zi,zl,zp,gkL,gk0,skL,sk0,ze,zk,zh,qe,zy,zx,zz,zw,qk];refine⟨fun G I y hd=>?_,hk⟩;rw[<-hR];exact zis (u:=u) (v:=zbS) hd
  ·rw[if_neg c2] at hR;simp only[sxZ,z6,z7,z8,j4,j5,j6,j7,j8,j9,x0,x4,x5,x6,x7,x8,reduceCtorEq,↓reduceIte,c2,Bool.not_false,Bool.not_true,decide_true,decide_false,not_false_eq_true,zg,zi,zl,zp,gkL,gk0,skL,sk0,ze,zk,zh,qe,zy,zx,zz,zw,qk];refine zal (hFL _ _ _ _ _ (hT4 _ _ _) (by simp) hn fun o T'' hT2 hkp=>?_);have ho1:=hkp.box (j:=1) rfl;have hT3:=hT2.one;have hg1:∀x:OB,(o.set 1 x)[1]? = some x:=fun x=>qc (qp.1 ho1).1;have hpT:=pub_x hT2 (hne _);have hpS:=zm9 (hkp.roww (hS4 _ _ _));simp only[sxZ,z6,z7,z8,j4,j5,j6,j7,j8,j9,x0,x4,x5,x6,x7,x8,reduceCtorEq,↓reduceIte,hg1,ho1,hT3,hSo,hpT,hpS,zg,zi,zl,zp,gkL,gk0,skL,sk0,ze,zk,zh,qe,zy,zx,zz,zw,qk];refine⟨fun G I y hd=>?_,hk⟩;rw[<-hR];exact zis (u:=u) (v:=zbS) hd
 ·rw[if_neg c1] at hR;simp only[sxZ,z6,z7,z8,j4,j5,j6,j7,j8,j9,x0,x4,x5,x6,x7,x8,reduceCtorEq,↓reduceIte,c1,Bool.not_false,Bool.not_true,decide_true,decide_false,not_false_eq_true,zg,zi,zl,zp,gkL,gk0,skL,sk0,ze,zk,zh,qe,zy,zx,zz,zw,qk];refine zal (hFL _ _ _ _ _ (hT1 _ _) (by simp) hn fun o T'' hT2 hkp=>?_);have ho1:=hkp.box (j:=1) rfl;have hT3:=hT2.one;have hg1:∀x:OB,(o.set 1 x)[1]? = some x:=fun x=>qc (qp.1 ho1).1;have hpT:=pub_x hT2 (hne _);have hpS:=zm9 (hkp.roww (hS1 _ _));simp only[sxZ,z6,z7,z8,j4,j5,j6,j7,j8,j9,x0,x4,x5,x6,x7,x8,reduceCtorEq,↓reduceIte,hg1,ho1,hT3,hSo,hpT,hpS,zg,zi,zl,zp,gkL,gk0,skL,sk0,ze,zk,zh,qe,zy,zx,zz,zw,qk];refine⟨fun G I y hd=>?_,hk⟩;rw[<-hR];exact zis (u:=u) (v:=zbS) hd
end
end
section
attribute [local irreducible] run
def zaG (u:UrlP):FsP:=if zch u=true then ⟨zeR u,0,false,0,zbS,0,0,[],[],[],[zeR u]⟩ else ⟨zbS,0,true,8,zbS,0,0,[],[],[],[]⟩
def zi7 (f:FsP):List AV:=[.s f.v.host,.i .i64 f.v.port,.s f.v.path,.s f.v.query,.s f.v.frag,.b f.v.hq,.b f.v.hf,.i .i64 f.mi,.i .i64 f.st,.row f.fl.length (zaS f.fl),.s f.body,.row f.tr.length (zbc f.tr)]
theorem zpd {G:Gh} {I:Imm} {y:Value} {u v:UrlP} {h e mi st:Int} {d:Bool} {body:List UInt8} {S:AV} (hd:Den G I (.agg (fsC u h d e v mi st .nil body .nil S)) y):Den G I (.agg (fsC u h d e v mi st (.row 0 []) body (.row 0 []) S)) y:=by
 have h1:=zpe hd;simp only[Den] at h1 ⊢;obtain⟨ys,h2,h3,h4⟩:=h1;exact⟨ys,h2,zds [.s u.host,.i .i64 u.port,.s u.path,.s u.query,.s u.frag,.b u.hq,.b u.hf,.i .i64 h,.b d,.i .i64 e,.s v.host,.i .i64 v.port,.s v.path,.s v.query,.s v.frag,.b v.hq,.b v.hf,.i .i64 mi,.i .i64 st,.row 0 [],.s body] h3,h4⟩
theorem den_fs4 {G:Gh} {I:Imm} {y:Value} {u v:UrlP} {h e mi st:Int} {d:Bool} {body:List UInt8} (hd:Den G I (.agg (fsC u h d e v mi st .nil body .nil .nil)) y):Den G I (.agg (fsC u h d e v mi st (.row 0 []) body (.row 0 []) (.row 0 []))) y:=by
 have h1:=zpd hd;simp only[Den] at h1 ⊢;obtain⟨ys,h2,h3,h4⟩:=h1;exact⟨ys,h2,zds [.s u.host,.i .i64 u.port,.s u.path,.s u.query,.s u.frag,.b u.hq,.b u.hf,.i .i64 h,.b d,.i .i64 e,.s v.host,.i .i64 v.port,.s v.path,.s v.query,.s v.frag,.b v.hq,.b v.hf,.i .i64 mi,.i .i64 st,.row 0 [],.s body,.row 0 []] h3,h4⟩
section
variable [Tabs Tryz.prog] {objs:List OB} {K:List OB->AV->Prop}
theorem fStart_k [Pow Tryz.prog] (u:UrlP) (hu:zbk u) (hk:K objs (zlZ (zaG u))):zaa Tryz.prog 20 [zaM u] objs K:=by
 refine njres (zlZ (zaG u)) ?_;generalize hR:zlZ (zaG u)=R at hk ⊢;refine zaR is_fetch_Start rfl fun C _=>?_;have hv:=fun (o:List OB) (K':List OB->AV->Prop)=>zgY (objs:=o) (K:=K') u hu;unfold zaM at hv;simp only[c_fetch_Start,zaM,sxZ,z6,z7,z8,j4,j5,j6,j7,j8,j9,x0,x4,x5,x6,x7,x8,reduceCtorEq,↓reduceIte];refine zal (hv _ _ ?_);unfold zaG at hR
 by_cases c1:zch u=true
 ·rw[if_pos c1] at hR;simp only[c1,sxZ,z6,z7,z8,j4,j5,j6,j7,j8,j9,x0,x4,x5,x6,x7,x8,reduceCtorEq,↓reduceIte];refine⟨fun G I y hd=>?_,hk⟩;rw[<-hR];exact zpd (u:=zeR u) (v:=zbS) hd
 ·rw[if_neg c1] at hR;simp only[Bool.not_eq_true] at c1;simp only[c1,sxZ,z6,z7,z8,j4,j5,j6,j7,j8,j9,x0,x4,x5,x6,x7,x8,reduceCtorEq,↓reduceIte];refine⟨fun G I y hd=>?_,hk⟩;rw[<-hR];exact den_fs4 (u:=zbS) (v:=zbS) hd
/-- a whole way, of which the states are known -/
theorem fRun_k [Shp Tryz.prog] [Pow Tryz.prog] (l:List Ans) (now:Nat) (u:UrlP) (n:Nat) (fs:Nat->FsP) (hl:l.length<=1000000) (hraw:∀a∈l,a.raw.length<=12000) (hu:zbk u)
  (h0:fs 0=zaG u) (hs:∀i,i<n->fs (i+1)=zck l now (fs i)) (hd:(fs n).d=true)
  (hg:∀i,i<n->zbk (fs i).u/\(fs i).d=false/\(fs i).e=0/\(fs i).fl=[]/\(fs i).se≠[]/\(fs i).se.length<=1000000/\(fs i).tr.length<=1000000/\0<=(fs i).h/\(fs i).h<=1000000)
  (hk:K objs (.tup [.agg (zi7 (fs n)),.i .i64 (fs n).e])):zaa Tryz.prog 17 [.row l.length (zaI l),.i .u64 now,zaM u] objs K:=by
 refine zaR is_fetch_Run (by simp only[zaM,zar,AV.plain,zdP,Bool.and_self]) fun C _=>?_;have hst:=fun (o:List OB) (K':List OB->AV->Prop)=>fStart_k (objs:=o) (K:=K') u hu;unfold zaM at hst;rw[c_fetch_Run];refine zaj fun Z1 hZ1=>?_;simp only[zaM,sxZ,z6,z7,z8,j4,j5,j6,j7,j8,j9,x0,x4,x5,x6,x7,x8,reduceCtorEq,↓reduceIte];subst hZ1;refine zaj fun Z2 hZ2=>?_;simp only[sxZ,z6,z7,z8,j4,j5,j6,j7,j8,j9,x0,x4,x5,x6,x7,x8,reduceCtorEq,↓reduceIte];refine zal (hst _ _ ?_);rw[<-h0];simp only[zlZ,fsC,sxZ,z6,z7,z8,j4,j5,j6,j7,j8,j9,x0,x4,x5,x6,x7,x8,reduceCtorEq,↓reduceIte];have hstep:=fun (o:List OB) (K':List OB->AV->Prop) (i:Nat) (hi:i<n) (hh:zbk (fs i).u/\(fs i).d=false/\(fs i).e=0/\(fs i).fl=[]/\(fs i).se≠[]/\(fs i).se.length<=1000000/\(fs i).tr.length<=1000000/\0<=(fs i).h/\(fs i).h<=1000000)=>fStep_k (objs:=o) (K:=K') l now (fs i) hl hraw hh.1 hh.2.1 hh.2.2.1 hh.2.2.2.1 hh.2.2.2.2.1 hh.2.2.2.2.2.1 hh.2.2.2.2.2.2.1 hh.2.2.2.2.2.2.2.1 hh.2.2.2.2.2.2.2.2;unfold zlZ fsC at hstep;subst hZ2;refine zaj fun Z3 hZ3=>?_;rw[zgt];refine zbi (fun m o tm=>∃i:Nat,i<=n/\m=n - i/\o=[.box 35 [.s u.host,.i .i64 u.port,.s u.path,.s u.query,.s u.frag,.b u.hq,.b u.hf],.box 51 [.s [],.i .i64 0,.s [],.s [],.s [],.b false,.b false,.i .i64 0,.i .i64 0,.nil,.s [],.nil],.box 58 (fsC (fs i).u (fs i).h (fs i).d (fs i).e (fs i).v (fs i).mi (fs i).st (.row (fs i).fl.length (zaS (fs i).fl)) (fs i).body (.row (fs i).tr.length (zbc (fs i).tr)) (.row (fs i).se.length (zaJ (fs i).se)))]/\tm.length=22/\tm[0]? = some (.row l.length (zaI l))/\tm[1]? = some (.i .u64 now)/\tm[6]? = some (.p 1 0)/\tm[8]? = some (.p 2 0)) n ⟨0,zq _,rfl,rfl,rfl,rfl,rfl,rfl,rfl⟩ ?_;rintro m o tm ⟨i,hi,rfl,rfl,hlen,t0,t1,t6,t8⟩;refine zaj fun W hW=>?_;unfold fsC;rcases zj i n with hlt|hge
 ·have hgi:=hg i hlt;simp only[sxZ,z6,z7,z8,j4,j5,j6,j7,j8,j9,x0,x4,x5,x6,x7,x8,reduceCtorEq,↓reduceIte,zb,hlen,t8,hgi.2.1];subst hW;rw[zgt];simp only[sxZ,z6,z7,z8,j4,j5,j6,j7,j8,j9,x0,x4,x5,x6,x7,x8,reduceCtorEq,↓reduceIte,zb,hlen,t0,t1,t8];have h1:=fun (o:List OB) (K':List OB->AV->Prop)=>hstep o K' i hlt hgi;simp only[hgi.2.1,<-hs i hlt] at h1;refine zal (h1 _ _ ?_);simp only[sxZ,z6,z7,z8,j4,j5,j6,j7,j8,j9,x0,x4,x5,x6,x7,x8,reduceCtorEq,↓reduceIte,zb,hlen,t8];refine⟨n - (i+1),by omega,i+1,hlt,rfl,rfl,?_⟩;simp only[zh,zb,hlen,t0,t1,t6,t8];simp
 ·have hin:i=n:=by omega
  subst hin;simp only[sxZ,z6,z7,z8,j4,j5,j6,j7,j8,j9,x0,x4,x5,x6,x7,x8,reduceCtorEq,↓reduceIte,zb,hlen,t8,hd];subst hZ3;simp only[sxZ,z6,z7,z8,j4,j5,j6,j7,j8,j9,x0,x4,x5,x6,x7,x8,reduceCtorEq,↓reduceIte,zbQ,zdh,zb,hlen,t6,t8];exact hk
end
end
section
attribute [local irreducible] run
section
variable [Tabs Tryz.prog] {objs:List OB} {K:List OB->AV->Prop}
end
end
section
attribute [local irreducible] run
section
variable [Tabs Tryz.prog] {objs:List OB} {K:List OB->AV->Prop}
end
end
section
attribute [local irreducible] run
theorem dig10m:∀d:Fin 10,IntKind.u8.wrap ((48:Int)+((d.val:Nat):Int))=(((UInt8.ofNat (48+d.val)).toNat:Nat):Int):=by decide +kernel
section
variable [Tabs Tryz.prog] {objs:List OB} {K:List OB->AV->Prop}
theorem zlO (n:Nat) (hn:n<=1000000) (hk:K objs (.s (qq n))):zaa Tryz.prog 63 [.i .i64 n] objs K:=by
 refine zaR is_made_decimal rfl fun C _=>?_;simp only[c_made_decimal,sxZ,z6,z7,z8,j4,j5,j6,j7,j8,j9,x0,x4,x5,x6,x7,x8,reduceCtorEq,↓reduceIte];refine zbi (fun m objs tm=>∃(v:Nat) (ds:List UInt8),m=v+1/\v<=1000000/\v+ds.length<=1000000/\objs=[]/\qq n=qq v++ds/\tm.length=17/\tm[0]? = some (.i .i64 v)/\tm[3]? = some (.s ds)) (n+1) ⟨n,[],rfl,hn,by simp;omega,rfl,by simp,rfl,rfl,rfl⟩ ?_;rintro m _ tm ⟨v,ds,rfl,hv,hdl,rfl,hh,hlen,t0,t3⟩;have ht:((v:Nat):Int).tmod 10=((v % 10:Nat):Int):=by rw[Int.tmod_eq_emod_of_nonneg (by omega)];omega
 have hq:((v:Nat):Int).tdiv 10=((v / 10:Nat):Int):=by rw[Int.tdiv_eq_ediv_of_nonneg (by omega)];omega
 have hw:IntKind.u8.wrap ((48:Int)+((v % 10:Nat):Int))=(((UInt8.ofNat (48+v % 10)).toNat:Nat):Int):=by
  exact dig10m ⟨v % 10,by omega⟩
 by_cases c1:((v / 10:Nat):Int)=0
 ·have e:qq n=UInt8.ofNat (48+v % 10)::ds:=by rw[hh,zdu (show v<10 by omega),show v % 10=v by omega];rfl
  rw[e] at hk;simp only[sxZ,z6,z7,z8,j4,j5,j6,j7,j8,j9,x0,x4,x5,x6,x7,x8,reduceCtorEq,↓reduceIte,zb,hlen,t0,t3,ht,hq,hw,c1];refine⟨by omega,zho [UInt8.ofNat (48+v % 10)] 1 rfl ?_⟩;simp only[sxZ,z6,z7,z8,j4,j5,j6,j7,j8,j9,x0,x4,x5,x6,x7,x8,reduceCtorEq,↓reduceIte,zb,hlen,t0,t3,hq,c1,xm];exact⟨by omega,hk⟩
 ·have e:qq n=qq (v / 10)++(UInt8.ofNat (48+v % 10)::ds):=by rw[hh,zet (show ¬v<10 by omega)];simp
  simp only[sxZ,z6,z7,z8,j4,j5,j6,j7,j8,j9,x0,x4,x5,x6,x7,x8,reduceCtorEq,↓reduceIte,zb,hlen,t0,t3,ht,hq,hw,c1];refine⟨by omega,zho [UInt8.ofNat (48+v % 10)] 1 rfl ?_⟩;simp only[sxZ,z6,z7,z8,j4,j5,j6,j7,j8,j9,x0,x4,x5,x6,x7,x8,reduceCtorEq,↓reduceIte,zb,hlen,t0,t3,hq,c1,xm];exact⟨by omega,⟨by omega,by omega⟩,_,by omega,v / 10,_,rfl,by omega,by rw[ze];omega,e,rfl,rfl⟩
end
end
end Go.Proofs.YtomkbafdmbfmfaaGreatDoor
namespace Go.Proofs.YtomkbafdmbfmfaaGreatDoor.Sx
open Go.RowKit
open List renaming replicate->qs
def zef (b gen n:Nat) (xs:List AV):AV->AV
 | .orow b' g'=>if b'=b/\g'=gen then .row n xs else .orow b' g'
 | x=>x
def subOB (b gen n:Nat) (xs:List AV):OB->OB
 | .box T cs=>.box T (cs.map (zef b gen n xs))
 | x=>x
def pubO (objs:List OB) (b gen n:Nat) (xs:List AV):List OB:=(objs.map (subOB b gen n xs)).set b .dead
def zja (G:Gh) (b gen:Nat):Gh:=⟨G.blk,fun x=>if x=b then some (gen+1,.slice none 0 0) else G.cur x⟩
theorem zna {G:Gh} {b gen:Nat} {v:Value} (h:G.cur b=some (gen,v)):G.le (zja G b gen) where
 blk:=fun _ _ h=>h
 cur:=fun x n w hx=>by
  by_cases hb:x=b
  ·subst hb;rw[h] at hx;injection hx with hx;injection hx with h1 h2
   exact⟨gen+1,.slice none 0 0,by simp[zja],.inr (by omega)⟩
  ·exact⟨n,w,by simp[zja,hb,hx],.inl ⟨rfl,rfl⟩⟩
theorem zek {G:Gh} {b gen:Nat} (hb:G.blk b=none) {x g:Nat} (h:(zja G b gen).own x=some g):x≠b/\G.own x=some g:=by
 by_cases hx:x=b
 ·subst hx;exfalso;unfold Gh.own zja at h;simp only[hb] at h;simp[Value.ownBlock] at h
 ·refine⟨hx,?_⟩;unfold Gh.own zja at h;simp only[if_neg hx] at h;exact h
def pubI (I:Imm) (G:Gh) (b:Nat) (w:World):Imm:=fun g o v=>I g o v\/(w.cell? ⟨g,o,none⟩=some v/\G.own b=some g)
theorem den_sub {G:Gh} {I:Imm} {objs:List OB} {w:World} (hm:MemOk G I objs w) {b E sz gen n:Nat} {xs:List AV} (hb:objs[b]? = some (.orow E sz gen n xs)) (x:AV) (y:Value) (h:Den G I x y):Den (zja G b gen) (pubI I G b w) (zef b gen n xs x) y:=by
 obtain⟨v',vs,m1,m2,m3,m4,m5⟩:=hm.row b E sz gen n xs hb;have hG:=zna m1;have hI:Imm.le I (pubI I G b w):=fun _ _ _ h=>.inl h;have other:zef b gen n xs x=x->Den (zja G b gen) (pubI I G b w) (zef b gen n xs x) y:=fun e=>by rw[e];exact Den.mono hG hI x y h
 cases x with
 | orow b' g'=>
  by_cases hh:b'=b/\g'=gen
  ·obtain⟨rfl,rfl⟩:=hh;have e:zef b' g' n xs (.orow b' g')=.row n xs:=by simp[zef]
   rw[e];simp only[Den] at h ⊢;obtain⟨g0,v,k1,k2,k3,_⟩:=h;rw[k1] at m1;injection m1 with m1;injection m1 with m1 m6
   have hv:=k3 m1.symm;subst m1 m6 hv;have hown:=zbz m5 k1;have q1:=zac.mono hG hI xs vs m3;rcases m2.2 with ⟨rfl,rfl⟩|⟨g,cap,cur,rfl,hx1,hx2,hx3,hx4⟩
   ·have hvs:vs=[]:=List.eq_nil_of_length_eq_zero (by simpa using m2.1);subst hvs;exact⟨none,0,[],rfl,⟨Nat.le_refl _,by intro _ e;cases e⟩,q1,by simp,by simp⟩
   ·refine⟨some ⟨g,0,none⟩,cap,vs,rfl,⟨hx3,by rintro _ ⟨⟩ _;rfl⟩,q1,m4,fun j u hj=>⟨g,0,rfl,.inr ⟨?_,hown⟩⟩⟩;have:=m2.cells (g:=g) rfl j u hj
    rwa [zay] at this
  ·exact other (by simp only[zef,if_neg hh])
 | _=>exact other rfl
theorem zhA {G:Gh} {I:Imm} {objs:List OB} {w:World} (hm:MemOk G I objs w) {b E sz gen n:Nat} {xs:List AV} (hb:objs[b]? = some (.orow E sz gen n xs)):∀(l:List AV) (ys:List Value),zac G I l ys->zac (zja G b gen) (pubI I G b w) (l.map (zef b gen n xs)) ys
 | [],ys,h=>by simpa[zac] using h
 | x::l,ys,h=>by
  simp only[zac] at h;obtain⟨y,ys',rfl,h1,h2⟩:=h;exact zac.cons (den_sub hm hb x y h1) (zhA hm hb l ys' h2)
theorem mem_pub {P:Program} [Tabs P] {C:Cx} {G:Gh} {I:Imm} {w:World} {objs:List OB} {b E sz gen n:Nat} {xs:List AV} (hb:objs[b]? = some (.orow E sz gen n xs)) (hin:In C G I w) (hm:MemOk G I objs w) :
  In C (zja G b gen) (pubI I G b w) w/\MemOk (zja G b gen) (pubI I G b w) (pubO objs b gen n xs) w:=by
 obtain⟨v',vs,m1,m2,m3,m4,m5⟩:=hm.row b E sz gen n xs hb;have hlt:b<objs.length:=by
  by_cases h:b<objs.length
  ·exact h
  ·rw[List.getElem?_eq_none (by omega)] at hb;cases hb
 have hG:=zna m1;have hI:Imm.le I (pubI I G b w):=fun _ _ _ h=>.inl h;have hin':In C (zja G b gen) (pubI I G b w) w:={
  os:=hin.os,tape:=hin.tape,output:=hin.output,size:=hin.size,block:=hin.block
  imm:=fun g o v h=>.inl (hin.imm g o v h)
  news:=fun g o v h=>by
   rcases h with h|⟨_,h⟩
   ·exact hin.news g o v h
   ·exact .inr (hin.blk b g h)
  blk:=fun x g h=>hin.blk x g (zek m5 h).2
  gh:=hin.gh.trans hG }
 have hat:∀x o,(pubO objs b gen n xs)[x]? = some o->o=.dead\/(x≠b/\∃o',objs[x]? = some o'/\subOB b gen n xs o'=o):=by
  intro x o h;unfold pubO at h
  by_cases hx:x=b
  ·subst hx;rw[List.getElem?_set_self (by simpa using hlt)] at h;injection h with h;exact .inl h.symm
  ·rw[List.getElem?_set_ne (Ne.symm hx),List.getElem?_map] at h;obtain⟨o',h1,h2⟩:=Option.map_eq_some_iff.1 h;exact .inr ⟨hx,o',h1,h2⟩
 have hm':MemOk (zja G b gen) (pubI I G b w) (pubO objs b gen n xs) w:={
  imm:=fun g o v h=>by
   rcases h with h|⟨h,_⟩
   ·exact hm.imm g o v h
   ·exact h
  box:=fun x T cs h=>by
   rcases hat x _ h with h|⟨hx,o',h1,h2⟩
   ·cases h
   ·cases o' with
    | box T' cs'=>
     injection h2 with e1 e2
     subst e1 e2;obtain⟨g,ys,k1,k2,k3,k4⟩:=hm.box x _ _ h1;exact⟨g,ys,k1,k2,zhA hm hb _ _ k3,k4⟩
    | orow=>cases h2
    | mp=>cases h2
    | dead=>cases h2
  row:=fun x E' sz' gen' n' xs' h=>by
   rcases hat x _ h with h|⟨hx,o',h1,h2⟩
   ·cases h
   ·cases o' with
    | box T' cs'=>cases h2
    | orow=>
     injection h2 with e1 e2 e3 e4 e5
     subst e1 e2 e3 e4 e5;obtain⟨v,ys,k1,k2,k3,k4,k5⟩:=hm.row x _ _ _ _ _ h1;exact⟨v,ys,by simp[zja,hx,k1],k2,zac.mono hG hI _ _ k3,k4,k5⟩
    | mp=>cases h2
    | dead=>cases h2
  map:=fun x es h=>by
   rcases hat x _ h with h|⟨hx,o',h1,h2⟩
   ·cases h
   ·cases o' with
    | box T' cs'=>cases h2
    | orow=>cases h2
    | mp=>
     injection h2 with e1
     subst e1;obtain⟨g,en,ck,k1,k2,k3⟩:=hm.map x _ h1;exact⟨g,en,ck,k1,k2,k3.mono hG hI⟩
    | dead=>cases h2
  inj:=fun x x' g h h'=>hm.inj x x' g (zek m5 h).2 (zek m5 h').2
  lt:=fun x g h=>hm.lt x g (zek m5 h).2
  apart:=fun x g o v h h'=>by
   obtain⟨hx,h1⟩:=zek m5 h;rcases h' with h' | ⟨_,h'⟩
   ·exact hm.apart x g o v h1 h'
   ·exact hx (hm.inj x b g h1 h')
  fresh:=fun x hx=>by
   have hx':objs.length<=x:=by simpa[pubO] using hx
   obtain⟨k1,k2⟩:=hm.fresh x hx';exact⟨k1,by simp[zja,k2];omega⟩ }
 exact⟨hin',hm'⟩
section
variable {P:Program} [Tabs P] {C:Cx} [On P C] {F:zaP} {objs:List OB} {tm:List AV}
def zf9 (P:Program) (C:Cx) (sc:SCode) (F:zaP) (objs:List OB) (tm:List AV):Prop:=WPS P C sc (ngK F) objs tm
theorem zhb {sc:SCode} (h:run P C [.code sc] objs tm F):zf9 P C sc F objs tm:=fun c ht=>zd9 c sc F objs tm ht h
omit [Tabs P] [On P C] in
theorem znb {x y:SCode} (J:List OB->List AV->Prop) (hx:zf9 P C x (zed J F) objs tm) (hy:∀o t,J o t->zf9 P C y F o t):zf9 P C (.seq x y) F objs tm:=by
 intro c ht
 induction c with
 | scope c ih=>simp only[trC] at ht;exact WP.scope (ih ht)
 | seq a b _ _=>
  simp only[trC] at ht
  split at ht
  ·rename_i sa sb ha hb;injection ht with ht;injection ht with e1 e2;subst e1 e2
   refine WP.seq (WP.mono ?_ (hx a ha));intro e o t hk
   cases e with
   | normal=>exact hy o t hk b hb
   | _=>exact hk
  ·cases ht
 | region id ops draw=>
  cases draw
  ·simp only[trC] at ht;split at ht
   ·cases ht
   ·split at ht<;>cases ht
  ·simp only[trC] at ht
   split at ht
   ·split at ht
    ·split at ht
     ·cases ht
     split at ht
     ·cases ht
     ·rcases zem ht with ⟨c,_,e⟩|⟨r,_,e⟩
      ·cases e
      ·unfold craC at e;cases e
    ·cases ht
   ·cases ht
 | cond c x y _ _=>simp only[trC] at ht;split at ht<;>cases ht
 | block id c _=>simp only[trC] at ht;cases h1:trC P c<;>(rw[h1] at ht;cases ht)
 | loop c _=>simp only[trC] at ht;cases h1:trC P c<;>(rw[h1] at ht;cases ht)
 | _=>simp[trC] at ht
def ptF (P:Program) (C:Cx) (y:SCode) (F:zaP):zaP:=zed (fun o t=>zf9 P C y F o t) F
omit [Tabs P] [On P C] in
theorem zaV (y:SCode):ptF P C y F .normal objs tm=zf9 P C y F objs tm:=Eq.trans rfl rfl
omit [Tabs P] [On P C] in
theorem ptF_ret (y:SCode):ptF P C y F .ret objs tm=F .ret objs tm:=Eq.trans rfl rfl
theorem zdm {x y:SCode} (h:run P C [.code x] objs tm (ptF P C y F)):zf9 P C (.seq x y) F objs tm :=
 znb (fun o t=>zf9 P C y F o t) (zhb h) (fun _ _ h=>h)
omit [Tabs P] [On P C] in
/-- a part of parts -/
theorem zj4 {x y:SCode} (h:zf9 P C x (ptF P C y F) objs tm):zf9 P C (.seq x y) F objs tm:=znb (fun o t=>zf9 P C y F o t) h (fun _ _ h=>h)
omit [Tabs P] [On P C] in
theorem zj3 (h:F .normal objs tm):zf9 P C .skip F objs tm:=by
 intro c ht
 induction c with
 | scope c ih=>simp only[trC] at ht;exact WP.scope (ih ht)
 | skip=>exact WP.skip h
 | label l=>exact fun a w hr=>wp_label ⟨_,_,h,hr⟩
 | seq x y _ _=>simp only[trC] at ht;split at ht<;>cases ht
 | region id ops draw=>
  cases draw
  ·simp only[trC] at ht;split at ht
   ·cases ht
   ·split at ht<;>cases ht
  ·simp only[trC] at ht
   split at ht
   ·split at ht
    ·split at ht
     ·cases ht
     split at ht
     ·cases ht
     ·rcases zem ht with ⟨c,_,e⟩|⟨r,_,e⟩
      ·cases e
      ·unfold craC at e;cases e
    ·cases ht
   ·cases ht
 | cond c x y _ _=>simp only[trC] at ht;split at ht<;>cases ht
 | block id c _=>simp only[trC] at ht;cases h1:trC P c<;>(rw[h1] at ht;cases ht)
 | loop c _=>simp only[trC] at ht;cases h1:trC P c<;>(rw[h1] at ht;cases ht)
 | _=>simp[trC] at ht
omit [Tabs P] [On P C] in
/-- a test -/
theorem zhc {c:SV} {x y:SCode} {t:Bool} (hc:c.ev tm=.b t) (hx:t=true->zf9 P C x F objs tm) (hy:t=false->zf9 P C y F objs tm):zf9 P C (.cond c x y) F objs tm:=by
 intro d ht
 induction d with
 | scope c ih=>simp only[trC] at ht;exact WP.scope (ih ht)
 | cond c' a b _ _=>
  simp only[trC] at ht
  split at ht
  ·rename_i sa sb ha hb;injection ht with ht;injection ht with e1 e2 e3;subst e1 e2 e3
   exact WP.cond hc (fun e=>hx e a ha) (fun e=>hy e b hb)
  ·cases ht
 | seq x y _ _=>simp only[trC] at ht;split at ht<;>cases ht
 | region id ops draw=>
  cases draw
  ·simp only[trC] at ht;split at ht
   ·cases ht
   ·split at ht<;>cases ht
  ·simp only[trC] at ht
   split at ht
   ·split at ht
    ·split at ht
     ·cases ht
     split at ht
     ·cases ht
     ·rcases zem ht with ⟨c,_,e⟩|⟨r,_,e⟩
      ·cases e
      ·unfold craC at e;cases e
    ·cases ht
   ·cases ht
 | block id c _=>simp only[trC] at ht;cases h1:trC P c<;>(rw[h1] at ht;cases ht)
 | loop c _=>simp only[trC] at ht;cases h1:trC P c<;>(rw[h1] at ht;cases ht)
 | _=>simp[trC] at ht
omit [Tabs P] [On P C] in
/-- what comes behind the next two statements, under a name -/
theorem znd {a b y:SCode} (h:∀Y,Y=y->zf9 P C (.seq a (.seq b Y)) F objs tm):zf9 P C (.seq a (.seq b y)) F objs tm:=h y rfl
omit [Tabs P] [On P C] in
/-- the slots under facts of one's own -/
theorem zia {sc:SCode} (J:List AV->Prop) (h:J tm) (hk:∀t,J t->zf9 P C sc F objs t):zf9 P C sc F objs tm:=hk tm h
end
section
variable {P:Program} [Tabs P]
theorem rel_pub (P:Program) [Tabs P] {C:Cx} {objs:List OB} {tm:List AV} {a:Act} {w:World} {b E sz gen n:Nat} {xs:List AV} (hb:objs[b]? = some (.orow E sz gen n xs)) (h:Rel C objs tm a w):Rel C (pubO objs b gen n xs) (tm.map (zef b gen n xs)) a w:=by
 obtain⟨G,I,hin,hm,hd,hdef⟩:=h;obtain⟨hin',hm'⟩:=mem_pub (P:=P) hb hin hm;exact⟨_,_,hin',hm',zhA hm hb _ _ hd,hdef⟩
theorem znc {C:Cx} {sc:SCode} {F:zaP} {objs:List OB} {tm:List AV} (b:Nat) {E sz gen n:Nat} {xs:List AV} (hb:objs[b]? = some (.orow E sz gen n xs)) (h:zf9 P C sc F (pubO objs b gen n xs) (tm.map (zef b gen n xs))):zf9 P C sc F objs tm :=
 fun c ht a w hr=>h c ht a w (rel_pub P hb hr)
theorem fn_part {f:FuncId} {n:Nat} {ss:List SRes} {sc:SCode} (hf:FnIs P f n ss sc) {args:List AV} {objs:List OB} {K:List OB->AV->Prop} (hp:zar args=true)
  (h:∀(C:Cx) [On P C],zf9 P C sc (endK ss (fun r=>K objs r)) [] (args++qs (n - args.length) (.o undef))):zaa P f args objs K:=by
 intro C hOn G I w hin hm ys hd;obtain⟨fn,c,h1,h2,h3,h4,h5⟩:=hf.is
 let C':Cx:=⟨w,fun _=>False,I,Gh.none⟩
 haveI hOn':On P C':=⟨hin.tab (P:=P),fun _ h=>h⟩
 have hwp:=h C' c h5;have hlen:=hd.length;have hrel:Rel C' [] (args++qs (n - args.length) (.o undef)) { tmps:=ys.toArray++Array.replicate (fn.ntmps - ys.toArray.size) undef,defers:=[] } w:=by
  refine⟨Gh.none,I,⟨rfl,rfl,rfl,Nat.le_refl _,fun _ _ _=>rfl,fun _ _ _ h=>h,fun _ _ _ h=>.inl h,fun b g hb=>by simp[Gh.own,Gh.none] at hb,Gh.le.refl _⟩,
   ⟨hm.imm,by simp,by simp,by simp,fun b b' g hb=>by simp[Gh.own,Gh.none] at hb,fun b g hb=>by simp[Gh.own,Gh.none] at hb,fun b g o v hb=>by simp[Gh.own,Gh.none] at hb,fun b _=>⟨rfl,rfl⟩⟩,?_,rfl⟩
  simp only[Array.toList_append,Array.toList_replicate,h3,List.size_toArray];refine zac.append (zac.plain (Imm.le.refl I) _ _ hp hd) ?_;rw[hlen];have:∀k,zac Gh.none I (qs k (.o undef)) (qs k undef):=by
   intro k
   induction k with
   | zero=>exact zac.nil
   | succ k ih=>exact zac.cons (by simp[Den]) ih
  exact this _
 refine calls_of_wp h1 h2 (wp_mono (hwp _ _ hrel) ?_);rintro e a' w' ⟨objs',tm',hk,G',I',hin',hm',hd',hdef⟩;have key:outK ss (fun r=>K objs r) objs' tm' ->
   a'.defers=[]/\∃v,(results fn a'.tmps).run P w'=.ok v w'/\∃y objs'' r G'' I'',Ending.returned v=.returned y/\K objs'' r/\G.le G''/\Imm.le I I''/\In C G'' I'' w'/\MemOk G'' I'' objs'' w'/\Den G'' I'' r y:=by
  intro hk;unfold outK at hk
  split at hk
  ·rename_i r hr0;obtain⟨xs,hxs,hr⟩:=Option.bind_eq_some_iff.1 hr0
   ·obtain⟨y,hy,hyd⟩:=zd0 (P:=P) (fn:=fn) hm' hd' ss xs h4 hxs;obtain⟨p1,p2⟩:=pub_ok hm' 5 _ r y hr hyd;have hg:w.grownBy w' none:=⟨hin'.os,hin'.tape,hin'.output,hin'.size,fun k hk _=>hin'.block k hk (fun h=>h)⟩;have hle:Imm.le I (I'.rows G' objs' w'):=fun g o v hi=>.inl (hin'.imm g o v hi);have hnew:∀g o v,I'.rows G' objs' w' g o v->I g o v\/w.heap.size<=g:=by
     rintro g o v (hi|⟨_,b,E,sz,gen,n,xs,hb,ho⟩)
     ·rcases hin'.news g o v hi with h|h|h
      ·exact .inl h
      ·exact h.elim
      ·exact .inr h
     ·rcases hin'.blk b g ho with h|h
      ·exact h.elim
      ·exact .inr h
    refine⟨hdef,y,hy,y,objs,r,G,I'.rows G' objs' w',rfl,hk,Gh.le.refl G,hle,(hin.evolve hg (by simp)).imm_more hle ?_,(hm.evolve hg).imm_more hle ?_ ?_,Den.plain (Imm.le.refl _) r y p2 p1⟩
    ·intro g o v hi;rcases hnew g o v hi with h|h
     ·exact .inl h
     ·exact .inr (.inr (Nat.le_trans hin.size h))
    ·rintro g o v (hi|⟨hc,_⟩)
     ·exact hm'.imm g o v hi
     ·exact hc
    ·intro b g o v hb hi;rcases hnew g o v hi with h|h
     ·exact hm.apart b g o v hb h
     ·have:=hm.lt b g hb;omega
  ·exact hk.elim
 cases e with
 | normal=>exact key hk
 | ret=>exact key hk
 | _=>exact hk.elim
end
end Go.Proofs.YtomkbafdmbfmfaaGreatDoor.Sx
namespace Go.Proofs.YtomkbafdmbfmfaaGreatDoor
open Nat renaming reduceAdd -> z6, reduceSub -> z7, reduceLeDiff -> z8, reduceLT -> j4, reduceMul -> j5, reduceEqDiff -> j6
open Int renaming reduceToNat -> j7, reduceAdd -> j8, reduceSub -> j9, reduceMul -> x0, reduceNeg -> x4, reduceLT -> x5, reduceLE -> x6, reduceEq -> x7, reduceNe -> x8
open Go.RowKit Sx
open Lib renaming decDigits->qq
open List renaming getElem?_map->jc, getElem?_set->zb, length_append->zg, length_cons->ze, length_map->qy, map_cons->zt, mem_append->qn, set_cons_succ->zz, set_cons_zero->zx
open Option renaming map_some->jk
section
attribute [local irreducible] run
def ctL:List UInt8:=[99,111,110,116,101,110,116,45,116,121,112,101]
def teF:List UInt8×List UInt8:=([116,114,97,110,115,102,101,114,45,101,110,99,111,100,105,110,103],[99,104,117,110,107,101,100])
def cnlL:List UInt8:=[99,111,110,116,101,110,116,45,108,101,110,103,116,104]
def zj0 (kind:List UInt8) (extra:List (List UInt8×List UInt8)):List (List UInt8×List UInt8):=(if kind=[] then [] else [(ctL,kind)])++extra
def zm7 (st:Int) (kind body:List UInt8) (extra:List (List UInt8×List UInt8)) (ch:Bool):List UInt8 :=
 if ch=true then fmtG 1 st (zj0 kind extra++[teF])++zc6 body 50 else fmtG 1 st (zj0 kind extra++[(cnlL,qq body.length)])++body
theorem zkT (k:Nat) (hk:1<=k) (hk2:k<4096):∀(n:Nat) (s:List UInt8),(zdr k n s).length<=5+8*s.length
 | 0,s=>by rw[zdr];simp[endL]
 | n+1,s=>by
  rw[zdr]
  split
  ·simp[endL]
  ·rename_i h;have ih:=zkT k hk hk2 n (s.drop k);have h1:=zfj (n:=min k s.length) (by omega);have h2:1<=s.length:=by
    cases s with
    | nil=>exact absurd rfl h
    | cons=>simp
   simp only[zg,ze,List.length_take,List.length_drop] at ih ⊢;omega
section
variable [Tabs Tryz.prog] {objs:List OB} {K:List OB->AV->Prop}
theorem zkh (henc:∀(s:List UInt8) (objs:List OB) (K:List OB->AV->Prop),s.length<=4000->K objs (.s (zc6 s 50))->zaa Tryz.prog 62 [.s s,.i .i64 50] objs K)
  (st:Int) (kind body:List UInt8) (extra:List (List UInt8×List UInt8)) (ch:Bool) (h0:0<=st) (h1:st<=1000) (hkd:kind.length<=100) (hbd:body.length<=4000) (hex:extra.length<=5) (hex2:∀p∈extra,p.1.length+p.2.length<=5000)
  (hk:K objs (.s (zm7 st kind body extra ch))):zaa Tryz.prog 28 [.i .i64 st,.s kind,.s body,.row extra.length (zaS extra),.b ch] objs K:=by
 have hm:maxLen=2 ^ 63 - 1:=rfl;have hfl:=zdJ extra;have hel:(zc6 body 50).length<=1000000:=by
  have:=zkT 50 (by omega) (by omega) body.length body;unfold zc6;rw[show (max (50:Int) 1).toNat=50 by decide];omega
 refine fn_part is_made_Raw (by simp[zar,AV.plain,zbQ]) fun C _=>?_;rw[c_made_Raw];refine zdm ?_;simp only[sxZ,z6,z7,z8,j4,j5,j6,j7,j8,j9,x0,x4,x5,x6,x7,x8,reduceCtorEq,↓reduceIte,zaV];refine zdm ?_;simp only[sxZ,z6,z7,z8,j4,j5,j6,j7,j8,j9,x0,x4,x5,x6,x7,x8,reduceCtorEq,↓reduceIte,zaV];have hfew:∀q:List UInt8×List UInt8,q.1.length+q.2.length<=100->Few (zj0 kind extra++[q]):=by
  intro q hq;unfold zj0;refine⟨?_,fun p hp=>?_⟩
  ·rw[zg,zg]
   split<;>simp<;>omega
  ·rw[qn,qn] at hp;rcases hp with (hp|hp)|hp
   ·split at hp
    ·cases hp
    ·rw[List.mem_singleton.1 hp];simp[ctL];omega
   ·have:=hex2 p hp;omega
   ·rw[List.mem_singleton.1 hp];omega
 have hfg:∀q:List UInt8×List UInt8,q.1.length+q.2.length<=100->(fmtG 1 st (zj0 kind extra++[q])).length<=2200000:=by
  intro q hq;have h:=zkQ (hfew q hq) (zj0 kind extra++[q]).length (hdL 1 (Lib.itoa st)) (by
   have:=Lib.itoa_length_le st (by omega) (by omega);simp[hdL];omega)
  rw[List.take_of_length_le (Nat.le_refl _)] at h;unfold fmtG;rw[zg];have:zcs.length=2:=rfl;omega
 have hrl:(zj0 kind extra).length<=6:=by unfold zj0;rw[zg];split<;>simp<;>omega
 refine znd fun Y hY=>?_;have tail:∀(g n:Nat) (cs:List AV) (fs:List (List UInt8×List UInt8)) (tm:List AV),n=fs.length->cs=zaS fs->fs=zj0 kind extra->tm.length=53->tm[2]? = some (.s body)->tm[4]? = some (.b ch)->tm[11]? = some (.p 0 0) ->
   zf9 Tryz.prog C Y (endK [.tmp 10] fun r=>K objs r) [.box 48 [.i .i64 1,.i .i64 st,.orow 1 g],.orow 74 2 g n cs] tm:=by
  intro g n cs fs tm hn hcs hfs hlen t2 t4 t11;subst hY hn hcs;refine zj4 ?_;refine zdm ?_;simp only[sxZ,z6,z7,z8,j4,j5,j6,j7,j8,j9,x0,x4,x5,x6,x7,x8,reduceCtorEq,↓reduceIte,zb,hlen,t4,zaV];have hfl2:=zdJ fs;have hrl2:fs.length<=6:=by rw[hfs];exact hrl
  have hF:∀(q:List UInt8×List UInt8) (o:List OB) (K':List OB->AV->Prop),q.1.length+q.2.length<=100->K' o (.s (fmtG 1 st (zj0 kind extra++[q])))->zaa Tryz.prog 61 [.agg [.i .i64 1,.i .i64 st,.row (fs.length+1) (zaS fs++[.s q.1,.s q.2])]] o K':=by
   intro q o K' hq h;have e1:(zj0 kind extra++[q]).length=fs.length+1:=by rw[<-hfs,zg];rfl
   have e2:zaS (zj0 kind extra++[q])=zaS fs++[.s q.1,.s q.2]:=by rw[<-hfs];simp[zaS]
   have:=zi4 (objs:=o) (K:=K') 1 st (zj0 kind extra++[q]) (hfew q hq) (by omega) (by omega) h;unfold zfk at this;rw[e1,e2] at this;exact this
  refine zhc (t:=ch) (by simp only[sxZ,z6,z7,z8,j4,j5,j6,j7,j8,j9,x0,x4,x5,x6,x7,x8,reduceCtorEq,↓reduceIte,zb,hlen]) (fun hc=>?_) fun hc=>?_
  ·subst hc;refine zdm ?_;simp only[sxZ,z6,z7,z8,j4,j5,j6,j7,j8,j9,x0,x4,x5,x6,x7,x8,reduceCtorEq,↓reduceIte,zb,hlen,t11,zaV];refine⟨⟨by omega,by omega⟩,?_⟩;refine znc 1 rfl ?_;simp only[pubO,subOB,zef,zt,List.map_nil,zz,zx,and_self,if_true];refine zia (fun t=>t.length=53/\t[2]? = some (.s body)/\t[11]? = some (.p 0 0)) (by simp only[qy,jc,sxZ,z6,z7,z8,j4,j5,j6,j7,j8,j9,x0,x4,x5,x6,x7,x8,reduceCtorEq,↓reduceIte,zb,hlen,t2,t11,jk,zef]) ?_;clear hlen t2 t4 t11 tm;rintro tm ⟨hlen,t2,t11⟩;refine zhb ?_;simp only[sxZ,z6,z7,z8,j4,j5,j6,j7,j8,j9,x0,x4,x5,x6,x7,x8,reduceCtorEq,↓reduceIte,zb,hlen,t2,t11];refine zal (hF teF _ _ (by decide) ?_);simp only[sxZ,z6,z7,z8,j4,j5,j6,j7,j8,j9,x0,x4,x5,x6,x7,x8,reduceCtorEq,↓reduceIte,zb,hlen,t2,t11];refine zal (henc body _ _ hbd ?_);simp only[sxZ,z6,z7,z8,j4,j5,j6,j7,j8,j9,x0,x4,x5,x6,x7,x8,reduceCtorEq,↓reduceIte,zb,hlen,t2,t11,ptF_ret];have hg:=hfg teF (by decide);refine⟨by omega,?_⟩;unfold zm7 at hk;rw[if_pos rfl] at hk;exact hk
  ·subst hc;refine zj3 ?_;rw[zaV];refine zdm ?_;simp only[sxZ,z6,z7,z8,j4,j5,j6,j7,j8,j9,x0,x4,x5,x6,x7,x8,reduceCtorEq,↓reduceIte,zb,hlen,t2,t11,zaV];refine zbs (zlO body.length (by omega) ⟨rfl,rfl⟩) ?_;simp only[sxZ,z6,z7,z8,j4,j5,j6,j7,j8,j9,x0,x4,x5,x6,x7,x8,reduceCtorEq,↓reduceIte,zb,hlen,t2,t11,zaV];refine⟨⟨by omega,by omega⟩,?_⟩;refine znc 1 rfl ?_;simp only[pubO,subOB,zef,zt,List.map_nil,zz,zx,and_self,if_true];refine zia (fun t=>t.length=53/\t[2]? = some (.s body)/\t[11]? = some (.p 0 0)) (by simp only[qy,jc,sxZ,z6,z7,z8,j4,j5,j6,j7,j8,j9,x0,x4,x5,x6,x7,x8,reduceCtorEq,↓reduceIte,zb,hlen,t2,t11,jk,zef]) ?_;clear hlen t2 t4 t11 tm;rintro tm ⟨hlen,t2,t11⟩;refine zhb ?_;simp only[sxZ,z6,z7,z8,j4,j5,j6,j7,j8,j9,x0,x4,x5,x6,x7,x8,reduceCtorEq,↓reduceIte,zb,hlen,t2,t11];refine zal (hF (cnlL,qq body.length) _ _ ?_ ?_)
   ·have hd:=Lib.nDigits_le20 body.length (by omega);have hdl:=Lib.decDigits_length body.length;simp[cnlL];omega
   simp only[sxZ,z6,z7,z8,j4,j5,j6,j7,j8,j9,x0,x4,x5,x6,x7,x8,reduceCtorEq,↓reduceIte,zb,hlen,t2,t11];have hd:=Lib.nDigits_le20 body.length (by omega);have hdl:=Lib.decDigits_length body.length;have hg:=hfg (cnlL,qq body.length) (by simp[cnlL];omega);refine⟨by omega,?_⟩;unfold zm7 at hk;rw[if_neg (by decide)] at hk;exact hk
 refine zj4 ?_;refine zdm ?_;simp only[sxZ,z6,z7,z8,j4,j5,j6,j7,j8,j9,x0,x4,x5,x6,x7,x8,reduceCtorEq,↓reduceIte,zaV]
 by_cases c1:kind=[]
 ·subst c1;refine zhc (t:=false) (by simp only[sxZ,z6,z7,z8,j4,j5,j6,j7,j8,j9,x0,x4,x5,x6,x7,x8,reduceCtorEq,↓reduceIte]) (fun h=>by cases h) fun _=>?_;refine zj3 ?_;rw[zaV];refine zdm ?_;simp only[sxZ,z6,z7,z8,j4,j5,j6,j7,j8,j9,x0,x4,x5,x6,x7,x8,reduceCtorEq,↓reduceIte,zaV];refine⟨⟨by omega,by omega,by omega⟩,?_⟩;exact tail _ _ _ extra _ rfl rfl rfl rfl rfl rfl rfl
 ·refine zhc (t:=true) (by simp only[c1,sxZ,z6,z7,z8,j4,j5,j6,j7,j8,j9,x0,x4,x5,x6,x7,x8,reduceCtorEq,↓reduceIte]) (fun _=>?_) fun h=>by cases h
  refine zhb ?_;simp only[sxZ,z6,z7,z8,j4,j5,j6,j7,j8,j9,x0,x4,x5,x6,x7,x8,reduceCtorEq,↓reduceIte,zaV];refine zdm ?_;simp only[sxZ,z6,z7,z8,j4,j5,j6,j7,j8,j9,x0,x4,x5,x6,x7,x8,reduceCtorEq,↓reduceIte,zaV];refine⟨⟨by omega,by omega,by omega⟩,?_⟩;exact tail _ _ _ ((ctL,kind)::extra) _ (by rw[ze];omega) rfl (by unfold zj0;rw[if_neg c1];rfl) rfl rfl rfl rfl
end
end
end Go.Proofs.YtomkbafdmbfmfaaGreatDoor
namespace Go.Proofs.YtomkbafdmbfmfaaGreatDoor
open Int renaming toNat_natCast->ql
open Lib renaming hasPrefix->zm
open List renaming all_eq_true->qf, append_assoc->zi, append_nil->qw, cons->qv, cons_append->zl, drop_eq_nil_of_le->jp, getElem?_set->zb, length_append->zg, length_cons->ze, length_drop->zv, length_nil->zk, length_take->qi, mem_append->qn, mem_cons->qo, nil_append->zp, not_mem_nil->js, range->zf, singleton_append->xm, take_of_length_le->jg
open Nat renaming le_refl->zd
def jn (l:List (List UInt8)):List UInt8:=l.flatMap fun s=>47::s
def zgh (s:List UInt8):Prop:=47∉s/\s≠[46]/\s≠[46,46]
theorem zkC:jn []=[]:=rfl
theorem zcF (s:List UInt8) (l:List (List UInt8)):jn (s::l)=47::(s++jn l):=by simp[jn]
theorem zjh (s:List UInt8) (l:List (List UInt8)):jn (l++[s])=jn l++47::s:=by simp[jn]
theorem zog (l:List (List UInt8)):jn l=[]\/∃r,jn l=47::r:=by
 cases l with
 | nil=>exact .inl rfl
 | cons s l=>exact .inr ⟨_,zcF s l⟩
theorem zgr:∀a b:List UInt8,47∉a->zeW (a++47::b)=b
 | [],b,_=>by rw[zp,zeW,if_pos rfl]
 | x::a,b,h=>by
  simp only[qo,not_or] at h;rw[zl,zeW,if_neg (fun e=>h.1 e.symm)];exact zgr a b h.2
theorem zlA (l s:List UInt8) (h:47∉s):za7 (l++47::s)=l:=by
 unfold za7;have:(l++47::s).reverse=s.reverse++47::l.reverse:=by simp
 rw[this,zgr _ _ (by simpa using h),List.reverse_reverse]
theorem zmD (l:List (List UInt8)) (h:∀s∈l,zgh s):za7 (jn l)=jn l.dropLast:=by
 rcases List.eq_nil_or_concat l with rfl|⟨l',s,rfl⟩
 ·rfl
 ·rw[List.concat_eq_append,zjh,zlA _ _ (h s (by simp)).1];simp
theorem zfU (s rest:List UInt8) (hs:47∉s) (hr:rest=[]\/∃r,rest=47::r):zaF (s++rest)=s:=by
 unfold zaF;rcases hr with rfl|⟨r,rfl⟩
 ·rw[qw,zcR 47 s hs]
 ·rw[zbM 47 s r hs]
theorem step_one (rest o:List UInt8) (hr:rest=[]\/∃r,rest=47::r):zaw (47::([46]++rest)) o=(if rest=[] then [47] else rest,o):=by
 rcases hr with rfl|⟨r,rfl⟩
 ·simp[zaw,zm]
 ·simp[zaw,zm]
theorem step_two (rest o:List UInt8) (hr:rest=[]\/∃r,rest=47::r):zaw (47::([46,46]++rest)) o=(if rest=[] then [47] else rest,za7 o):=by
 rcases hr with rfl|⟨r,rfl⟩
 ·simp[zaw,zm]
 ·simp[zaw,zm]
theorem zfi {l p:List UInt8} (h:∀u,p++u=l->False):zm l p=false:=by
 rw[Bool.eq_false_iff];intro e;obtain⟨u,hu⟩:=List.isPrefixOf_iff_prefix.1 (show List.isPrefixOf p l=true from e);exact h u hu
theorem zg1 (s rest o:List UInt8) (hs:zgh s) (hr:rest=[]\/∃r,rest=47::r):zaw (47::(s++rest)) o=(rest,o++47::s):=by
 obtain⟨h1,h2,h3⟩:=hs;have hf:=zfU s rest h1 hr;have hseg:zg5 (47::(s++rest))=1+s.length:=by
  unfold zg5;rw[List.drop_succ_cons,List.drop_zero,hf]
 have e1:(47::(s++rest)).drop (1+s.length)=rest:=by
  rw[Nat.add_comm,List.drop_succ_cons];simp
 have e2:(47::(s++rest)).take (1+s.length)=47::s:=by
  rw[Nat.add_comm,List.take_succ_cons];simp
 have key:zaw (47::(s++rest)) o=((47::(s++rest)).drop (zg5 (47::(s++rest))),o++(47::(s++rest)).take (zg5 (47::(s++rest)))):=by
  unfold zaw;have p1:zm (47::(s++rest)) [46,46,47]=false:=zfi fun u hu=>by simp at hu
  have p2:zm (47::(s++rest)) [46,47]=false:=zfi fun u hu=>by simp at hu
  have p7:¬(47::(s++rest)=[46]\/47::(s++rest)=[46,46]):=by simp
  have p3:zm (47::(s++rest)) [47,46,47]=false:=zfi fun u hu=>by
   rcases s with _|⟨a,_|⟨b,s⟩⟩
   ·rcases hr with rfl|⟨r,rfl⟩<;>simp at hu
   ·simp only[zl,zp,qv.injEq,true_and] at hu;exact h2 (by rw[<-hu.1])
   ·simp only[zl,zp,qv.injEq,true_and] at hu;exact h1 (by rw[hu.2.1];simp)
  have p4:¬47::(s++rest)=[47,46]:=by
   rcases s with _|⟨a,s⟩
   ·rcases hr with rfl|⟨r,rfl⟩<;>simp
   ·intro e;simp only[zl,qv.injEq,true_and,List.append_eq_nil_iff] at e;exact h2 (by rw[e.1,e.2.1])
  have p5:zm (47::(s++rest)) [47,46,46,47]=false:=zfi fun u hu=>by
   rcases s with _|⟨a,_|⟨b,_|⟨c,s⟩⟩⟩
   ·rcases hr with rfl|⟨r,rfl⟩<;>simp at hu
   ·rcases hr with rfl|⟨r,rfl⟩<;>simp at hu
   ·simp only[zl,zp,qv.injEq,true_and] at hu;exact h3 (by rw[<-hu.1,<-hu.2.1])
   ·simp only[zl,zp,qv.injEq,true_and] at hu;exact h1 (by rw[hu.2.2.1];simp)
  have p6:¬47::(s++rest)=[47,46,46]:=by
   rcases s with _|⟨a,_|⟨b,s⟩⟩
   ·rcases hr with rfl|⟨r,rfl⟩<;>simp
   ·rcases hr with rfl|⟨r,rfl⟩<;>simp
   ·intro e;simp only[zl,qv.injEq,true_and,List.append_eq_nil_iff] at e;exact h3 (by rw[e.1,e.2.1,e.2.2.1])
  rw[p1,p2,p3,p5,if_neg Bool.false_ne_true,if_neg Bool.false_ne_true,if_neg Bool.false_ne_true,if_neg p4,if_neg Bool.false_ne_true,if_neg p6,if_neg p7]
 rw[key,hseg,e1,e2]
theorem ziC:∀(l:List (List UInt8)) (o:List UInt8),(∀s∈l,zgh s)->zc8 (jn l) o=o++jn l
 | [],o,_=>by rw[zkC,zer,qw]
 | s::l,o,h=>by
  rw[zcF,zaW (by simp),zg1 s (jn l) o (h s (by simp)) (zog l)];simp only;rw[ziC l _ (fun s hs=>h s (by simp[hs]))];simp
theorem zg3 (p:UriP) (h1:p.hs=true) (h2:zcX p.scheme=true) (h3:∀c∈p.scheme,zc4 c [58,47,63,35]=false) (h4:p.ha=true) (h5:∀c∈p.auth,zc4 c [47,63,35]=false)
  (h6:p.path=[]\/∃r,p.path=47::r) (h7:∀c∈p.path,zc4 c [63,35]=false) (h8:(35:UInt8)∉p.query) (h9:p.hq=false->p.query=[]) (h10:p.hf=false->p.frag=[]) (h11:(zcP p).length<=16384):zai (zcP p)=(0,p):=by
 obtain⟨sc,au,pa,qu,fr,hs,ha,hq,hf⟩:=p;simp only at h1 h2 h3 h4 h5 h6 h7 h8 h9 h10;subst h1 h4;have n1:∀c:UInt8,zc4 c [58,47,63,35]=true->c∉sc:=fun c hc hm=>by have:=h3 c hm;rw[hc] at this;cases this
 have n2:∀c:UInt8,zc4 c [47,63,35]=true->c∉au:=fun c hc hm=>by have:=h5 c hm;rw[hc] at this;cases this
 have n3:∀c:UInt8,zc4 c [63,35]=true->c∉pa:=fun c hc hm=>by have:=h7 c hm;rw[hc] at this;cases this
 have eb:zcP ⟨sc,au,pa,qu,fr,true,true,hq,hf⟩=sc++58::47::47::(au++pa++(if hq=true then [63]++qu else [])++(if hf=true then [35]++fr else [])):=by
  unfold zcP;simp
 have q35:(35:UInt8)∉(if hq=true then [63]++qu else []):=by
  split
  ·simp[h8]
  ·simp
 have m35:(35:UInt8)∉sc++58::47::47::(au++pa++(if hq=true then [63]++qu else [])):=by
  simp only[qn,qo,not_or];exact⟨n1 35 (by decide),by decide,by decide,by decide,⟨n2 35 (by decide),n3 35 (by decide)⟩,q35⟩
 have m63:(63:UInt8)∉sc++58::47::47::(au++pa):=by
  simp only[qn,qo,not_or];exact⟨n1 63 (by decide),by decide,by decide,by decide,n2 63 (by decide),n3 63 (by decide)⟩
 have e35:zaB 35 (zcP ⟨sc,au,pa,qu,fr,true,true,hq,hf⟩)=(sc++58::47::47::(au++pa++(if hq=true then [63]++qu else [])),fr,hf):=by
  rw[eb]
  cases hf
  ·have:=h10 rfl;subst this;have:sc++58::47::47::(au++pa++(if hq=true then [63]++qu else [])++(if false=true then [35]++[] else []))=sc++58::47::47::(au++pa++(if hq=true then [63]++qu else [])):=by simp
   rw[this,zcR 35 _ m35]
  ·have:sc++58::47::47::(au++pa++(if hq=true then [63]++qu else [])++(if true=true then [35]++fr else []))=(sc++58::47::47::(au++pa++(if hq=true then [63]++qu else [])))++35::fr:=by simp
   rw[this,zbM 35 _ fr m35]
 have e63:zaB 63 (sc++58::47::47::(au++pa++(if hq=true then [63]++qu else [])))=(sc++58::47::47::(au++pa),qu,hq):=by
  cases hq
  ·have:=h9 rfl;subst this;have:sc++58::47::47::(au++pa++(if false=true then [63]++[] else []))=sc++58::47::47::(au++pa):=by simp
   rw[this,zcR 63 _ m63]
  ·have:sc++58::47::47::(au++pa++(if true=true then [63]++qu else []))=(sc++58::47::47::(au++pa))++63::qu:=by simp
   rw[this,zbM 63 _ qu m63]
 have ef:zaF (sc++58::47::47::(au++pa))=sc++[58]:=by
  unfold zaF;have:sc++58::47::47::(au++pa)=(sc++[58])++47::(47::(au++pa)):=by simp
  rw[this,zbM 47 _ _ (by simp only[qn,qo,js,or_false,not_or];exact⟨n1 47 (by decide),by decide⟩)]
 have ec:zaB 58 (sc++[58])=(sc,[],true):=zbM 58 sc [] (n1 58 (by decide));have ed:(sc++58::47::47::(au++pa)).drop (sc.length+1)=47::47::(au++pa):=by
  have:sc++58::47::47::(au++pa)=(sc++[58])++(47::47::(au++pa)):=by simp
  rw[this,List.drop_append_of_le_length (by simp)];simp
 have et:zeb (47::47::(au++pa))=true:=by simp[zeb,zm]
 have ea:zcc (47::47::(au++pa))=au:=by
  unfold zcc;rw[if_pos et];show zaF (au++pa)=au;rcases h6 with rfl|⟨r,rfl⟩
  ·exact zfU au [] (n2 47 (by decide)) (.inl rfl)
  ·exact zfU au _ (n2 47 (by decide)) (.inr ⟨r,rfl⟩)
 have ep:zcZ (47::47::(au++pa))=pa:=by
  unfold zcZ;rw[if_pos et,ea];show (au++pa).drop au.length=pa;simp
 have hb:zhE (zcP ⟨sc,au,pa,qu,fr,true,true,hq,hf⟩)=sc++58::47::47::(au++pa):=by
  unfold zhE;rw[e35];simp only;rw[e63]
 have hsc:za3 (zcP ⟨sc,au,pa,qu,fr,true,true,hq,hf⟩)=(sc,[],true):=by
  unfold za3;rw[hb,ef,ec]
 have hh:zde (zcP ⟨sc,au,pa,qu,fr,true,true,hq,hf⟩)=47::47::(au++pa):=by
  unfold zde;rw[hsc,hb,if_pos rfl,ed]
 unfold zai;rw[if_neg (by omega),hsc,h2];simp only[Bool.not_true,Bool.and_false,Bool.false_eq_true,if_false,if_true];rw[hh,ea,ep,et,e35];simp only;rw[e63]
def Cn (keep l:List UInt8):Prop:=∀o r,rwS (zdf keep) 0 (l++r) o=rwS (zdf keep) 0 r (o++l)
theorem Cn.nil (keep:List UInt8):Cn keep []:=by intro o r;simp
theorem Cn.append {keep a b:List UInt8} (ha:Cn keep a) (hb:Cn keep b):Cn keep (a++b):=by
 intro o r;rw[zi,ha,hb,zi]
theorem Cn.one {keep:List UInt8} {c:UInt8} (hp:zby c keep=true):Cn keep [c]:=by
 intro o r;have hc:c≠37:=znl hp;exact zdl _ _ _ _ _ hc (zbf rfl hp)
theorem Cn.norm {keep l:List UInt8} (h:Cn keep l) (hl:l.length<=16384):zaD l keep=(0,l):=by
 have:=h [] [];unfold zaD zkl;rw[if_neg (by omega)];rw[qw,zp,rwS] at this;exact this
theorem Cn.jn {keep:List UInt8} (h47:zby 47 keep=true):∀l:List (List UInt8),(∀s∈l,Cn keep s)->Cn keep (jn l)
 | [],_=>Cn.nil keep
 | s::l,h=>by
  rw[zcF];exact(Cn.one h47).append ((h s (by simp)).append (Cn.jn h47 l fun s hs=>h s (by simp[hs])))
theorem pl47:zby 47 zaz=true:=by decide
theorem esc47:∀n:Fin 256,(47:UInt8)∉ziM (UInt8.ofNat n.val):=by decide +kernel
theorem zoK (c:UInt8):(47:UInt8)∉ziM c:=by
 have:=esc47 ⟨c.toNat,UInt8.toNat_lt c⟩;simpa using this
theorem znC:∀(n:Nat) (l out x:List UInt8),l.length<=n->rwS (zdf zaz) 0 l out=(0,x)->∃s m,x=out++(s++jn m)/\(47∉s/\Cn zaz s)/\(∀q∈m,47∉q/\Cn zaz q)/\(l=[]->s=[]/\m=[])/\(∀t,l=47::t->s=[]/\m≠[]):=by
 intro n
 induction n with
 | zero=>
  intro l out x hl h;obtain rfl:l=[]:=List.eq_nil_of_length_eq_zero (by omega);rw[rwS] at h;obtain rfl:out=x:=by injection h
  exact⟨[],[],by simp[jn],⟨by simp,Cn.nil _⟩,by simp,fun _=>⟨rfl,rfl⟩,fun t e=>by cases e⟩
 | succ n ih=>
  intro l out x hl h
  cases l with
  | nil=>
   rw[rwS] at h;obtain rfl:out=x:=by injection h
   exact⟨[],[],by simp[jn],⟨by simp,Cn.nil _⟩,by simp,fun _=>⟨rfl,rfl⟩,fun t e=>by cases e⟩
  | cons c t=>
   simp only[ze] at hl
   by_cases hc:c=37
   ·subst hc;rcases he:zdq (37::t) with _|_
    ·rw[rwS,if_pos rfl,if_neg (by rw[he];exact Bool.false_ne_true)] at h;injection h with h1 _
     exact absurd h1 (by decide)
    ·obtain⟨a,b,r,rfl⟩:=zeL he;rcases hu:za9 (ze9 (37::a::b::r)) with _|_
     ·rw[rwS,if_pos rfl,if_pos he,zdO hu,if_pos rfl,zb8] at h;obtain⟨s,m,e,⟨h1,h1'⟩,h2,_,_⟩:=ih r _ x (by simp at hl;omega) h;refine⟨ziM (ze9 (37::a::b::r))++s,m,by rw[e];simp,⟨?_,?_⟩,h2,(fun e=>by cases e),(fun t e=>by cases e)⟩
      ·simp only[qn,not_or];exact⟨zoK _,h1⟩
      ·exact Cn.append (fun o r'=>zg7 _ _ _ _ _ (zdO hu)) h1'
     ·rw[rwS,if_pos rfl,if_pos he,zbf (by rw[hu];rfl) (zbU hu),if_pos rfl,zb8] at h;obtain⟨s,m,e,⟨h1,h1'⟩,h2,_,_⟩:=ih r _ x (by simp at hl;omega) h;refine⟨[ze9 (37::a::b::r)]++s,m,by rw[e];simp,⟨?_,(Cn.one (zbU hu)).append h1'⟩,h2,(fun e=>by cases e),(fun t e=>by cases e)⟩;simp only[qn,qo,js,or_false,not_or];refine⟨fun e=>?_,h1⟩;rw[<-e] at hu;exact absurd hu (by decide)
   ·rcases hp:zby c zaz with _|_
    ·rw[rwS,if_neg hc,zfn rfl hp,if_neg (by decide)] at h;injection h with h1 _
     exact absurd h1 (by decide)
    ·rw[rwS,if_neg hc,zbf rfl hp,if_pos rfl] at h;obtain⟨s,m,e,⟨h1,h1'⟩,h2,_,_⟩:=ih t _ x (by omega) h
     by_cases h47:c=47
     ·subst h47;refine⟨[],s::m,by rw[e,zcF];simp,⟨by simp,Cn.nil _⟩,?_,(fun e=>by cases e),(fun t e=>⟨rfl,by simp⟩)⟩;intro q hq;rcases qo.1 hq with rfl|hq
      ·exact⟨h1,h1'⟩
      ·exact h2 q hq
     ·refine⟨[c]++s,m,by rw[e];simp,⟨?_,(Cn.one hp).append h1'⟩,h2,(fun e=>by cases e),(fun t e=>by injection e with e _;exact absurd e h47)⟩;simp only[qn,qo,js,or_false,not_or];exact⟨fun e=>h47 e.symm,h1⟩
theorem zo8 (P:List UInt8->Prop) (h0:P []):∀(n:Nat) (m l:List (List UInt8)),(jn m).length<=n->m≠[]->(∀s∈m,47∉s/\P s)->(∀s∈l,zgh s/\P s)->∃k,k≠[]/\(∀s∈k,zgh s/\P s)/\zc8 (jn m) (jn l)=jn k:=by
 intro n
 induction n with
 | zero=>
  intro m l hn hm _ _
  cases m with
  | nil=>exact absurd rfl hm
  | cons s m=>rw[zcF] at hn;simp at hn
 | succ n ih=>
  intro m l hn hm hmp hl
  cases m with
  | nil=>exact absurd rfl hm
  | cons s m=>
   have hdl:∀s∈l.dropLast,zgh s/\P s:=fun s hs=>hl s (List.dropLast_subset l hs);have hs:=hmp s (by simp);have hmp':∀s∈m,47∉s/\P s:=fun s hs=>hmp s (by simp[hs]);have hr:=zog m;have hnil:∀l:List (List UInt8),(∀s∈l,zgh s/\P s)->∃k,k≠[]/\(∀s∈k,zgh s/\P s)/\zc8 [47] (jn l)=jn k:=by
    intro l hl;refine⟨l++[[]],by simp,?_,?_⟩
    ·intro s hs;rcases qn.1 hs with hs|hs
     ·exact hl s hs
     ·simp at hs;subst hs;exact⟨⟨by simp,by simp,by simp⟩,h0⟩
    ·have:=zg1 [] [] (jn l) ⟨by simp,by simp,by simp⟩ (.inl rfl);rw[zaW (by simp)];simp only[qw] at this;rw[this,zer,zjh]
   rw[zcF] at hn ⊢;simp only[ze,zg] at hn;rw[zaW (by simp)]
   by_cases h2:s=[46]
   ·subst h2;rw[step_one (jn m) _ hr]
    by_cases hm0:m=[]
    ·subst hm0;simp only[zkC,if_true];exact hnil l hl
    ·have:jn m≠[]:=by
      cases m with
      | nil=>exact absurd rfl hm0
      | cons q m=>rw[zcF];simp
     simp only[this,if_false];exact ih m l (by simp at hn;omega) hm0 hmp' hl
   ·by_cases h3:s=[46,46]
    ·subst h3;rw[step_two (jn m) _ hr];simp only;rw[zmD l (fun s hs=>(hl s hs).1)]
     by_cases hm0:m=[]
     ·subst hm0;simp only[zkC,if_true];exact hnil _ hdl
     ·have:jn m≠[]:=by
       cases m with
       | nil=>exact absurd rfl hm0
       | cons q m=>rw[zcF];simp
      simp only[this,if_false];exact ih m _ (by simp at hn;omega) hm0 hmp' hdl
    ·rw[zg1 s (jn m) _ ⟨hs.1,h2,h3⟩ hr,<-zjh];have hl2:∀s'∈l++[s],zgh s'/\P s':=by
      intro s' hs';rcases qn.1 hs' with hs' | hs'
      ·exact hl s' hs'
      ·simp at hs';subst hs';exact⟨⟨hs.1,h2,h3⟩,hs.2⟩
     by_cases hm0:m=[]
     ·subst hm0;exact⟨l++[s],by simp,hl2,by rw[zkC,zer]⟩
     ·exact ih m _ (by omega) hm0 hmp' hl2
def zgg (l:List UInt8):Prop:=∃m,m≠[]/\(∀s∈m,zgh s/\Cn zaz s)/\l=jn m
theorem zlJ (l:List UInt8) (hl:l=[]\/∃t,l=47::t) (hn:(zaD l zaz).1=0):zgg (zcE (zaD l zaz).2):=by
 have e:zaD l zaz=(0,(zaD l zaz).2):=by rw[<-hn]
 have hlen:=zkc e;have hr:rwS (zdf zaz) 0 l []=(0,(zaD l zaz).2):=by
  have e2:=e;unfold zaD zkl at e2;rw[if_neg (by omega)] at e2;rw[e2];unfold zaD zkl;rw[if_neg (by omega)]
 obtain⟨s,m,k1,k2,k3,k4,k5⟩:=znC l.length l [] _ (zd _) hr;rw[zp] at k1;rw[k1];rcases hl with rfl|⟨t,rfl⟩
 ·obtain⟨rfl,rfl⟩:=k4 rfl;refine⟨[[]],by simp,?_,?_⟩
  ·intro q hq;simp at hq;subst hq;exact⟨⟨by simp,by simp,by simp⟩,Cn.nil _⟩
  ·unfold zcE;rfl
 ·obtain⟨rfl,hm⟩:=k5 t rfl;rw[zp];obtain⟨k,q1,q2,q3⟩:=zo8 (Cn zaz) (Cn.nil _) (jn m).length m [] (zd _) hm k3 (by simp);refine⟨k,q1,q2,?_⟩;unfold zcE;have:za8 (jn m)=jn k:=q3;rw[this,if_neg]
  cases k with
  | nil=>exact absurd rfl q1
  | cons a k=>rw[zcF];simp
theorem zgg.form {l:List UInt8} (h:zgg l):∃r,l=47::r:=by
 obtain⟨m,hm,_,rfl⟩:=h
 cases m with
 | nil=>exact absurd rfl hm
 | cons s m=>exact⟨_,zcF s m⟩
theorem zgg.dots {l:List UInt8} (h:zgg l):za8 l=l:=by
 obtain⟨m,hm,hs,rfl⟩:=h;have:=ziC m [] (fun s h=>(hs s h).1);simpa[za8] using this
theorem zgg.norm {l:List UInt8} (h:zgg l) (hl:l.length<=16384):zaD l zaz=(0,l):=by
 obtain⟨m,hm,hs,rfl⟩:=h;exact(Cn.jn pl47 m fun s h=>(hs s h).2).norm hl
theorem zgg.slash {l:List UInt8} (h:zgg l):zcE l=l:=by
 obtain⟨r,hr⟩:=h.form;unfold zcE;rw[h.dots,if_neg (by rw[hr];simp)]
open Go.RowKit Sx
theorem zeA {P:Program} {w w':World} {name:String} {k:IntKind} {zs:List Int} (h:Lib.TabIs P w name k zs) (hk:∀k,k<w.heap.size->w'.heap[k]? = w.heap[k]?):Lib.TabIs P w' name k zs:=by
 unfold Lib.TabIs World.var? at *
 cases hg:P.globalNamed name with
 | none=>simp[hg] at h
 | some g=>
  simp only[hg,Option.bind_some] at h ⊢;have hlt:g<w.heap.size:=by
   rcases Nat.lt_or_ge g w.heap.size with h' | h'
   ·exact h'
   ·rw[Array.getElem?_eq_none h'] at h;simp at h
  rw[hk g hlt];exact h
instance tabsN : Tabs Tryz.prog := ⟨fun w => w.ShapedOpen Tryz.prog ∧ Lib.TabIs Tryz.prog w "internal/strconv.uint64pow10" .u64 Lib.pow10Tab, fun _ _ h hk _ => ⟨zfC h.1 hk, zeA h.2 hk⟩⟩
instance tabsN_shp:Shp Tryz.prog:=⟨fun _ h=>h.1⟩
instance tabsN_pow:Pow Tryz.prog:=⟨fun _ h=>h.2⟩
structure CanW (u:UrlP):Prop where
 host:zbH u.host=(0,u.host)
 port:∃n:Nat,u.port=n/\n<=65535/\n≠443
 path:zgg u.path
 query:zaD u.query zat=(0,u.query)
 frag:zaD u.frag zat=(0,u.frag)
 noq:u.hq=false->u.query=[]
 nof:u.hf=false->u.frag=[]
 len:(zcz u).length<=4096
def zcx (u:UrlP):UriP:=⟨zbG,zkP u.host u.port,u.path,u.query,u.frag,true,true,u.hq,u.hf⟩
theorem zeJ (u:UrlP):zcP (zcx u)=zcz u:=by
 obtain⟨h,p,pa,q,f,hq,hf⟩:=u;unfold zcP zcx zcz zbE zbG
 cases hq<;>cases hf<;>simp
theorem qk256:∀n:Fin 256,(okB zaz (UInt8.ofNat n.val)=true->zc4 (UInt8.ofNat n.val) [63,35]=false)/\(okB zat (UInt8.ofNat n.val)=true->UInt8.ofNat n.val≠35):=by decide +kernel
theorem zj1 (c:UInt8):(okB zaz c=true->zc4 c [63,35]=false)/\(okB zat c=true->c≠35):=by
 have:=qk256 ⟨c.toNat,UInt8.toNat_lt c⟩;simpa using this
theorem dg256:∀n:Fin 256,zaf (UInt8.ofNat n.val)=true->zc4 (UInt8.ofNat n.val) [47,63,35,64]=false:=by decide +kernel
theorem dg_facts (c:UInt8) (h:zaf c=true):zc4 c [47,63,35,64]=false:=by
 have:=dg256 ⟨c.toNat,UInt8.toNat_lt c⟩;simp only[UInt8.ofNat_toNat] at this;exact this h
theorem zgP {h:List UInt8} {n:Nat} (hh:zbH h=(0,h)):∀c∈zkP h n,zc4 c [47,63,35,64]=false:=by
 intro c hc;have hb:∀c∈h,zc4 c [47,63,35,64]=false:=by
  intro c hc;have:=zkJ c (zgG (by rw[hh]) c hc);unfold zc4 at this ⊢;simp only[List.contains_cons,List.contains_nil,Bool.or_false,Bool.or_eq_false_iff] at this ⊢;exact⟨this.2.2.1,this.2.2.2.1,this.2.2.2.2,this.2.1⟩
 unfold zkP at hc
 split at hc
 ·exact hb c hc
 ·rw[zkD] at hc;simp only[qn,qo,js,or_false] at hc;rcases hc with (hc|hc)|hc
  ·exact hb c hc
  ·subst hc;decide
  ·exact dg_facts c (qf.1 (zpf n n (zd _)).1 c hc)
theorem zow {c:UInt8} (h:zc4 c [47,63,35,64]=false):zc4 c [47,63,35]=false/\c≠64:=by
 unfold zc4 at h ⊢;simp only[List.contains_cons,List.contains_nil,Bool.or_false,Bool.or_eq_false_iff] at h ⊢;refine⟨⟨h.1,h.2.1,h.2.2.1⟩,?_⟩;have:=h.2.2.2;simpa using this
theorem ze3 (u:UrlP):u.path.length<=(zcz u).length:=by
 unfold zcz zbE
 split<;>simp only[zg]<;>omega
theorem CanW.split {u:UrlP} (h:CanW u):zai (zcz u)=(0,zcx u):=by
 obtain⟨n,hn,_,_⟩:=h.port;rw[<-zeJ];have hl:=h.len;refine zg3 (zcx u) rfl (by show zcX zbG=true;decide) (by show ∀c∈zbG,_;decide) rfl ?_ ?_ ?_ ?_ h.noq h.nof (by rw[zeJ];omega)
 ·intro c hc;have hc':c∈zkP u.host u.port:=hc;rw[hn] at hc';exact(zow (zgP h.host c hc')).1
 ·exact .inr h.path.form
 ·intro c hc;have h3:=ze3 u;have:=qf.1 (zdV (h.path.norm (by omega))) c hc;exact(zj1 c).1 this
 ·intro hm;have:=qf.1 (zdV h.query) 35 hm;exact(zj1 35).2 this rfl
theorem CanW.back {u:UrlP} (h:CanW u):ziJ (zcz u)=(0,u):=by
 obtain⟨n,hn,hn1,hn2⟩:=h.port;have hl:=h.len;have hpl:=ze3 u;have ho:zaC (zcx u)=(0,u.host,n):=by
  have e1:eqL zbG zbG=true:=by decide
  have h64:(64:UInt8)∉zkP u.host n:=fun hm=>(zow (zgP h.host 64 hm)).2 rfl;unfold zaC zcx;simp only[e1];rw[hn,zcR 64 _ h64];simp only;rw[hp_fmt h.host hn1 hn2];simp
 have hr:zcn (zcx u)=(0,⟨[],0,u.path,u.query,u.frag,u.hq,u.hf⟩):=by
  unfold zcn zcx;simp only;rw[h.path.norm (by omega),h.query,h.frag];simp only;rw[h.path.slash];simp
 unfold ziJ;rw[if_neg (by omega),h.split];simp only;unfold webO;rw[ho,hr];simp only;have hu:zhP u.host n ⟨[],0,u.path,u.query,u.frag,u.hq,u.hf⟩=u:=by
  obtain⟨a,b,c,d,e,f,g⟩:=u;simp only at hn;subst hn;rfl
 rw[hu];unfold webF;rw[if_neg (by omega)];simp;omega
theorem CanW.valid {u:UrlP} (h:CanW u):zch u=true:=by
 unfold zch;rw[h.back];simp
theorem zfz (s:List UInt8) (h:(zai s).2.ha=true):(zai s).2.path=[]\/∃r,(zai s).2.path=47::r:=by
 unfold zai at h ⊢
 split at h
 ·cases h
 ·rename_i h1
  split at h
  ·cases h
  ·rename_i h2;rw[if_neg h1,if_neg h2];simp only at h ⊢;unfold zcZ;rw[if_pos h];have ea:zcc (zde s)=zaF ((zde s).drop 2):=by unfold zcc;rw[if_pos h]
   rw[ea];generalize (zde s).drop 2=l;unfold zaF;rcases zbR 47 l with ⟨_,h3,_⟩|⟨k,_,hk,h3,h4⟩
   ·rw[h3];left;simp
   ·rw[h3];right;have e:(l.take k).length=k:=by rw[qi];omega
    simp only[e];rw[List.drop_eq_getElem_cons hk];rw[List.getElem?_eq_getElem hk] at h4;injection h4 with h4
    exact⟨_,by rw[h4]⟩
theorem CanW.of {s:List UInt8} {u:UrlP} (h:ziJ s=(0,u)):CanW u:=by
 unfold ziJ at h
 split at h
 ·injection h with h1 _;cases h1
 ·split at h
  ·rename_i h1;injection h with h2 _;exact absurd h2 h1
  ·rename_i h0 h1;simp only[Decidable.not_not] at h1;have hj:=zgo s h1;have hpf:=zfz s;have hqq:(zai s).2.hq=false->(zai s).2.query=[]:=by
    unfold zai
    split
    ·intro _;rfl
    ·split
     ·intro _;rfl
     ·intro h1;simp only at h1 ⊢;exact((zdK 63 _).2.2 h1).2
   have hff:(zai s).2.hf=false->(zai s).2.frag=[]:=by
    unfold zai
    split
    ·intro _;rfl
    ·split
     ·intro _;rfl
     ·intro h1;simp only at h1 ⊢;exact((zdK 35 _).2.2 h1).2
   generalize (zai s).2=p at *;unfold webO at h
   split at h
   ·rename_i h2;injection h with h3 _;exact absurd h3 h2
   ·rename_i h2;simp only[Decidable.not_not] at h2
    split at h
    ·rename_i h3;injection h with h4 _;exact absurd h4 h3
    ·rename_i h3;simp only[Decidable.not_not] at h3;unfold webF at h
     split at h
     ·injection h with h4 _;cases h4
     ·rename_i h4;injection h with _ h
      subst h;have ho:p.ha=true/\hpE p.auth=(0,(zaC p).2.1,(zaC p).2.2):=by
       unfold zaC at h2 ⊢
       split at h2
       ·cases h2
       ·rename_i g1;rw[if_neg g1]
        split at h2
        ·cases h2
        ·rename_i g2;rw[if_neg g2]
         split at h2
         ·cases h2
         ·rename_i g3;rw[if_neg g3]
          split at h2
          ·cases h2
          ·rename_i g4;rw[if_neg g4];exact⟨by simpa using g3,by rw[<-h2]⟩
      obtain⟨k1,k2,k3,_,_⟩:=hp_again ho.2;have hr:(zaD p.path zaz).1=0/\(zaD p.query zat).1=0/\(zaD p.frag zat).1=0/\(zcn p).2=⟨[],0,zcE (zaD p.path zaz).2,(zaD p.query zat).2,(zaD p.frag zat).2,p.hq,p.hf⟩:=by
       unfold zcn at h3 ⊢
       split at h3
       ·rename_i g;exact absurd h3 g
       ·rename_i g1;rw[if_neg g1]
        split at h3
        ·rename_i g;exact absurd h3 g
        ·rename_i g2;rw[if_neg g2]
         split at h3
         ·rename_i g;exact absurd h3 g
         ·rename_i g3;rw[if_neg g3];exact⟨by simpa using g1,by simpa using g2,by simpa using g3,rfl⟩
      obtain⟨r1,r2,r3,r4⟩:=hr;rw[r4] at h4 ⊢;have e2:zaD p.query zat=(0,(zaD p.query zat).2):=by rw[<-r2]
      have e3:zaD p.frag zat=(0,(zaD p.frag zat).2):=by rw[<-r3]
      refine⟨k1,⟨(zaC p).2.2,rfl,k2,k3⟩,zlJ p.path (hpf ho.1) r1,(zen _ _ _ e2).1,(zen _ _ _ e3).1,?_,?_,by omega⟩
      ·intro hq;show (zaD p.query zat).2=[];rw[hqq hq];rfl
      ·intro hf;show (zaD p.frag zat).2=[];rw[hff hf];rfl
theorem CanW.rel {b u:UrlP} (hb:CanW b) (hu:CanW u):relW b (zcz u)=(0,u):=by
 unfold relW;rw[hb.valid,hu.split];have hres:zaK (zai (zcz b)).2 (zcx u)=zcx u:=by
  unfold zaK;rw[if_pos (show (zcx u).hs=true from rfl)];show ({ zcx u with path:=za8 u.path }:UriP)=zcx u;rw[hu.path.dots];rfl
 simp only;rw[hres,zeJ,hu.back];have e1:eqL (zcx u).scheme zbG=true:=by show eqL zbG zbG=true;decide
 rw[e1];simp
open Nat renaming reduceAdd -> z6, reduceSub -> z7, reduceLeDiff -> z8, reduceLT -> j4, reduceMul -> j5, reduceEqDiff -> j6
open Int renaming reduceToNat -> j7, reduceAdd -> j8, reduceSub -> j9, reduceMul -> x0, reduceNeg -> x4, reduceLT -> x5, reduceLE -> x6, reduceEq -> x7, reduceNe -> x8
section
attribute [local irreducible] run
theorem ziv (k:Nat) (hk:1<=k):∀(n m:Nat) (s:List UInt8),s.length<=n->s.length<=m->zdr k n s=zdr k m s
 | n,m,[],_,_=>by cases n<;>cases m<;>rfl
 | 0,_,c::s,h,_=>by simp at h
 | _,0,c::s,_,h=>by simp at h
 | n+1,m+1,c::s,h1,h2=>by
  rw[zdr,zdr,if_neg (by simp),if_neg (by simp)];simp only[ze] at h1 h2;rw[ziv k hk n m _ (by rw[zv,ze];omega) (by rw[zv,ze];omega)]
theorem zoN {k:Nat} (hk:1<=k) {l:List UInt8} (h:l≠[]):zdr k l.length l=zhs (min k l.length)++(13::10::(l.take k++13::10::zdr k (l.drop k).length (l.drop k))):=by
 obtain⟨n,hn⟩:∃n,l.length=n+1:=⟨l.length - 1,by have:=List.length_pos_iff.2 h;omega⟩
 conv=>lhs;rw[hn,zdr,if_neg h]
 rw[ziv k hk n (l.drop k).length (l.drop k) (by rw[zv];omega) (zd _)]
theorem take_min (l:List UInt8) (k:Nat):l.take (min k l.length)=l.take k/\l.drop (min k l.length)=l.drop k:=by
 rcases Nat.le_total k l.length with h|h
 ·rw[Nat.min_eq_left h];exact⟨rfl,rfl⟩
 ·rw[Nat.min_eq_right h,jg (zd _),jg h,jp (zd _),jp h];exact⟨rfl,rfl⟩
theorem dig16:∀n:Fin 16,List.drop n.val (List.take (n.val+1) ([48,49,50,51,52,53,54,55,56,57,97,98,99,100,101,102]:List UInt8))=[zji n.val]:=by decide +kernel
section
variable [Tabs Tryz.prog] [Brn Tryz.prog] {objs:List OB} {K:List OB->AV->Prop}
omit [Brn Tryz.prog] in
theorem rhex_k (n:Nat) (hn:n<4096) (hk:K objs (.s (zhs n))):zaa Tryz.prog 124 [.i .i64 n] objs K:=by
 refine zaR is_ref19_hex rfl fun C _=>?_;simp only[c_ref19_hex,sxZ,z6,z7,z8,j4,j5,j6,j7,j8,j9,x0,x4,x5,x6,x7,x8,reduceCtorEq,↓reduceIte];refine zbi (fun m objs tm=>∃(v:Nat) (ds:List UInt8),m=v+1/\v<4096/\ds.length<=8/\objs=[]/\zhs n=zhs v++ds/\tm.length=17/\tm[0]? = some (.i .i64 v)/\tm[3]? = some (.s ds)) (n+1) ⟨n,[],rfl,hn,by simp,rfl,by simp,rfl,rfl,rfl⟩ ?_;rintro m _ tm ⟨v,ds,rfl,hv,hdl,rfl,hh,hlen,t0,t3⟩;have hl3:=zfj hn;rw[hh,zg] at hl3;have hvl:0<(zhs v).length:=List.length_pos_iff.2 (hexL_ne v);have ht:((v:Nat):Int).tmod 16=((v % 16:Nat):Int):=by rw[Int.tmod_eq_emod_of_nonneg (by omega)];omega
 have hq:((v:Nat):Int).tdiv 16=((v / 16:Nat):Int):=by rw[Int.tdiv_eq_ediv_of_nonneg (by omega)];omega
 have h1:(((v % 16:Nat):Int)+1).toNat=v % 16+1:=by omega
 have hd:List.drop (v % 16) (48::List.take (v % 16) ([49,50,51,52,53,54,55,56,57,97,98,99,100,101,102]:List UInt8))=[zji (v % 16)]:=dig16 ⟨v % 16,by omega⟩
 by_cases c1:((v / 16:Nat):Int)=0
 ·have e:zhs n=zji (v % 16)::ds:=by rw[hh,zou (n:=v) (by omega),show v % 16=v by omega];rfl
  rw[e] at hk;simp only[sxZ,z6,z7,z8,j4,j5,j6,j7,j8,j9,x0,x4,x5,x6,x7,x8,reduceCtorEq,↓reduceIte,zb,hlen,t0,t3,ht,hq,h1,ql,hd,c1,xm];exact⟨⟨by omega,by omega⟩,⟨by omega,by omega,by omega⟩,by omega,hk⟩
 ·have e:zhs n=zhs (v / 16)++(zji (v % 16)::ds):=by
   rw[hh]
   conv=>lhs;arg 1;rw[zhs,dif_neg (show ¬v<16 by omega)]
   simp
  simp only[sxZ,z6,z7,z8,j4,j5,j6,j7,j8,j9,x0,x4,x5,x6,x7,x8,reduceCtorEq,↓reduceIte,zb,hlen,t0,t3,ht,hq,h1,ql,hd,c1,xm];exact⟨⟨by omega,by omega⟩,⟨by omega,by omega,by omega⟩,by omega,⟨by omega,by omega⟩,_,by omega,v / 16,_,rfl,by omega,by rw[ze];omega,e,rfl,rfl⟩
omit [Brn Tryz.prog] in
theorem zlH (s:List UInt8) (size:Int) (hs:s.length<=4000) (h0:-9223372036854775808<=size) (h1:size<=9223372036854775807) (hk:K objs (.s (zc6 s size))):zaa Tryz.prog 62 [.s s,.i .i64 size] objs K:=by
 refine zaR is_ref19_Encode rfl fun C _=>?_;obtain⟨k,hkk⟩:∃k,k=(max size 1).toNat:=⟨_,rfl⟩;have hk1:1<=k:=by omega
 have hE:zc6 s size=zdr k s.length s:=by unfold zc6;rw[hkk]
 have hlen0:=zoO k hk1 s.length s (by omega) (zd _);simp only[c_ref19_Encode,sxZ,z6,z7,z8,j4,j5,j6,j7,j8,j9,x0,x4,x5,x6,x7,x8,reduceCtorEq,↓reduceIte];refine zbi (fun n objs tm=>∃(l pre:List UInt8),n=l.length/\l.length<=s.length/\objs=[]/\zc6 s size=pre++zdr k l.length l/\tm.length=29/\tm[0]? = some (.s l)/\tm[1]? = some (.i .i64 size)/\tm[5]? = some (.s pre)) s.length ⟨s,[],rfl,zd _,rfl,hE,rfl,rfl,rfl,rfl⟩ ?_;rintro n o tm ⟨l,pre,rfl,hll,rfl,hpre,hlen,t0,t1,t5⟩;have hpl:=congrArg List.length hpre;rw[zg,hE] at hpl
 by_cases c1:l=[]
 ·subst c1;rw[hpre] at hk;simp only[sxZ,z6,z7,z8,j4,j5,j6,j7,j8,j9,x0,x4,x5,x6,x7,x8,reduceCtorEq,↓reduceIte,zb,hlen,t0,t1,t5];exact⟨by omega,hk⟩
 ·have hst:=zoN hk1 c1;have hlp:0<l.length:=List.length_pos_iff.2 c1;have hx1:(if 1<size then size else 1)=((k:Nat):Int):=by split<;>omega
  have hx2:(if ((l.length:Nat):Int)<((k:Nat):Int) then ((l.length:Nat):Int) else ((k:Nat):Int))=((min k l.length:Nat):Int):=by split<;>omega
  obtain⟨hm1,hm2⟩:=take_min l k;have hxl:=zfj (n:=min k l.length) (by omega);have htl:(l.take k).length<=l.length:=by rw[qi];omega
  have hdl:(l.drop k).length<l.length:=by rw[zv];omega
  simp only[sxZ,z6,z7,z8,j4,j5,j6,j7,j8,j9,x0,x4,x5,x6,x7,x8,reduceCtorEq,↓reduceIte,zb,hlen,t0,t1,t5,c1,hx1,hx2];refine zbs (rhex_k (min k l.length) (by omega) ⟨rfl,rfl⟩) ?_;simp only[sxZ,z6,z7,z8,j4,j5,j6,j7,j8,j9,x0,x4,x5,x6,x7,x8,reduceCtorEq,↓reduceIte,zb,hlen,t0,t1,t5,ql,hm1,hm2,List.take_length];exact⟨by omega,by omega,⟨by omega,by omega⟩,by omega,by omega,⟨by omega,by omega,by omega⟩,_,hdl,l.drop k,_,rfl,by omega,by rw[hpre,hst];simp,rfl,rfl⟩
end
end
section
attribute [local irreducible] run
def exL:List UInt8:=[46,101,120,97,109,112,108,101]
def zhq:Nat->List UInt8
 | 0=>104::exL
 | 1=>104::97::exL
 | 2=>104::98::exL
 | _=>104::99::exL
def zbZ (h i:Nat):UrlP:=⟨zhq h,0,[47,UInt8.ofNat (97+i)],[],[],false,false⟩
def zfa:Nat->Int
 | 0=>301
 | 1=>302
 | 2=>303
 | 3=>307
 | _=>308
def zhx:List UInt8:=[101,110,100]
def rawX (s h i:Nat):List UInt8:=zm7 (zfa s) [] [] [(zjf,zcz (zbZ h i))] false
def zi8:List UInt8:=zm7 200 [] zhx [] false
theorem urlX_web:∀h:Fin 4,∀i:Fin 9,ziJ (zcz (zbZ h.val i.val))=(0,zbZ h.val i.val):=by decide +kernel
theorem zfI:∀s:Fin 5,∀h:Fin 4,∀i:Fin 9,(zaU (rawX s.val h.val i.val)).err=0/\((zaU (rawX s.val h.val i.val)).status:Int)=zfa s.val/\zbg (zaU (rawX s.val h.val i.val)).fields zjf=[zcz (zbZ h.val i.val)]/\(rawX s.val h.val i.val).length<=12000:=by decide +kernel
theorem zh9:(zaU zi8).err=0/\(zaU zi8).status=200/\zlF 200 (zaU zi8).fields (zi8.drop (zaU zi8).at_) 1048576=(0,zhx)/\zi8.length<=12000:=by decide +kernel
theorem ziF:∀s:Fin 5,zfQ (zfa s.val)=true:=by decide +kernel
def ziN (hx:Nat->Nat) (k s j:Nat):Ans:=⟨zhq (hx j),0,[47,UInt8.ofNat (97+j)],if j<k then rawX s (hx (j+1)) (j+1) else zi8,0,0,0⟩
def zbp (hx:Nat->Nat) (k s:Nat):List Ans:=(zf (k+1)).map (ziN hx k s)
def trX (hx:Nat->Nat) (s n:Nat):List ExP:=(zf n).map fun j=>⟨zbZ (hx j) j,zfa s,0⟩
def seX (hx:Nat->Nat) (n:Nat):List UrlP:=(zf n).map fun j=>zbZ (hx j) j
def zhJ (hx:Nat->Nat) (s i:Nat):FsP:=⟨zbZ (hx i) i,i,false,0,zbS,0,0,[],[],trX hx s i,seX hx (i+1)⟩
theorem zea {h i:Nat} (hh:h<4) (hi:i<9):CanW (zbZ h i):=CanW.of (urlX_web ⟨h,hh⟩ ⟨i,hi⟩)
theorem znn {i j:Nat} (hi:i<9) (hj:j<9) (h:([47,UInt8.ofNat (97+i)]:List UInt8)=[47,UInt8.ofNat (97+j)]):i=j:=by
 have h1:UInt8.ofNat (97+i)=UInt8.ofNat (97+j):=by injection h with _ h;injection h
 have h2:=congrArg UInt8.toNat h1;simp only[UInt8.toNat_ofNat'] at h2;omega
theorem fits_X {hx:Nat->Nat} {k s i j:Nat} (hi:i<9) (hj:j<9):zgf (zbZ (hx i) i) 0 (ziN hx k s j)=decide (j=i):=by
 by_cases h:j=i
 ·subst h;simp[zgf,ziN,zbZ,zbE]
 ·have:¬([47,UInt8.ofNat (97+j)]:List UInt8)=[47,UInt8.ofNat (97+i)]:=fun e=>h (znn hj hi e);simp only[zgf,ziN,zbZ,zbE,h,this,decide_false,Bool.false_and,Bool.and_false,Bool.false_eq_true,if_false]
theorem find_X {hx:Nat->Nat} {k s i:Nat} (hk:k<=8) (hi:i<=k):(zbp hx k s).find? (zgf (zbZ (hx i) i) 0)=some (ziN hx k s i):=by
 rw[List.find?_eq_some_iff_getElem];refine⟨by rw[fits_X (by omega) (by omega)];simp,i,by simp[zbp];omega,by simp[zbp],fun j hj=>?_⟩;have hj2:(zbp hx k s)[j]'(by simp[zbp];omega)=ziN hx k s j:=by simp[zbp]
 rw[hj2,fits_X (by omega) (by omega)];simp;omega
theorem ask_X {hx:Nat->Nat} {k s i:Nat} (hh:∀j,hx j<4) (hk:k<=8) (hi:i<=k):zgQ (zbp hx k s) (zbZ (hx i) i) 0=(0,(ziN hx k s i).raw):=by
 unfold zgQ;rw[if_neg (by rw[(zea (hh i) (by omega)).valid];decide),find_X hk hi]
 rfl
theorem start_X {hx:Nat->Nat} (s:Nat) (hh:∀j,hx j<4):zaG (zbZ (hx 0) 0)=zhJ hx s 0:=by
 unfold zaG;rw[if_pos (zea (hh 0) (by omega)).valid]
 rfl
theorem seX_not {hx:Nat->Nat} {i:Nat} (hi:i<8):((seX hx (i+1)).any fun u=>decide (u=zbZ (hx (i+1)) (i+1)))=false:=by
 rw[List.any_eq_false];intro u hu;obtain⟨j,hj,rfl⟩:=List.mem_map.1 hu;have hj:=List.mem_range.1 hj;simp only[decide_eq_true_eq];intro e;have:=congrArg UrlP.path e;have:=znn (by omega) (by omega) this;omega
theorem next_X {hx:Nat->Nat} {k s i:Nat} (hh:∀j,hx j<4) (hi:i<5) (fl:List (List UInt8×List UInt8)) (hv:zbg fl zjf=[zcz (zbZ (hx (i+1)) (i+1))]):zcO (zbZ (hx i) i) fl (seX hx (i+1)) i=(0,zbZ (hx (i+1)) (i+1)):=by
 unfold zcO;rw[if_neg (by omega),hv,if_neg (by simp),List.headD_cons,(zea (hh i) (by omega)).rel (zea (hh (i+1)) (by omega))];unfold nextR;rw[if_pos rfl,if_neg ?_]
 ·rfl
 ·have h1:=seX_not (hx:=hx) (i:=i) (by omega);rw[show zeR (0,zbZ (hx (i+1)) (i+1)).2=zbZ (hx (i+1)) (i+1) from rfl,h1]
  decide
theorem step_run {hx:Nat->Nat} {k s i:Nat} (hh:∀j,hx j<4) (hs:s<5) (hk:k<=8) (hi:i<k) (h5:i<5):zck (zbp hx k s) 0 (zhJ hx s i)=zhJ hx s (i+1):=by
 obtain⟨a1,a2,a3,_⟩:=zfI ⟨s,hs⟩ ⟨hx (i+1),hh _⟩ ⟨i+1,by omega⟩;simp only at a1 a2 a3;have hr:(ziN hx k s i).raw=rawX s (hx (i+1)) (i+1):=by simp[ziN,hi]
 unfold zck;rw[show (zhJ hx s i).u=zbZ (hx i) i from rfl,ask_X hh hk (by omega),hr];simp only;rw[if_pos trivial,if_pos a1,a2,if_pos (ziF ⟨s,hs⟩),show (zhJ hx s i).se=seX hx (i+1) from rfl,show (zhJ hx s i).h=i from rfl,next_X (k:=k) (s:=s) hh h5 _ a3];unfold folF zhJ;rw[if_pos rfl];simp only[trX,seX,List.range_succ,List.map_append,List.map_cons,List.map_nil,Int.natCast_add,Int.cast_ofNat_Int]
theorem step_end {hx:Nat->Nat} {k s:Nat} (hh:∀j,hx j<4) (hk:k<=8):zck (zbp hx k s) 0 (zhJ hx s k)=⟨zbZ (hx k) k,k,true,0,zbZ (hx k) k,(zaU zi8).minor,200,(zaU zi8).fields,zhx,trX hx s k++[⟨zbZ (hx k) k,200,0⟩],seX hx (k+1)⟩:=by
 obtain⟨a1,a2,a3,_⟩:=zh9;have hr:(ziN hx k s k).raw=zi8:=by simp[ziN]
 unfold zck;rw[show (zhJ hx s k).u=zbZ (hx k) k from rfl,ask_X hh hk (by omega),hr];simp only;rw[if_pos trivial,if_pos a1,a2,if_neg (by decide),show ((200:Nat):Int)=200 from rfl,a3];unfold bodF;rw[if_pos rfl,a2]
 rfl
theorem zmy {hx:Nat->Nat} {k s:Nat} (hh:∀j,hx j<4) (hs:s<5) (hk:k<=8) (h5:5<k):zck (zbp hx k s) 0 (zhJ hx s 5)=⟨zbZ (hx 5) 5,5,true,250,zbS,0,0,[],[],trX hx s 5++[⟨zbZ (hx 5) 5,zfa s,0⟩],seX hx 6⟩:=by
 obtain⟨a1,a2,a3,_⟩:=zfI ⟨s,hs⟩ ⟨hx 6,hh _⟩ ⟨6,by omega⟩;simp only at a1 a2 a3;have hr:(ziN hx k s 5).raw=rawX s (hx 6) 6:=by simp[ziN,h5]
 unfold zck;rw[show (zhJ hx s 5).u=zbZ (hx 5) 5 from rfl,ask_X hh hk (by omega),hr];simp only;rw[if_pos trivial,if_pos a1,a2,if_pos (ziF ⟨s,hs⟩),show (zhJ hx s 5).h=5 from rfl]
 rfl
end
section
attribute [local irreducible] run
mutual
/-- what is known of a value without its rows -/
def zb0:AV->AV
 | .agg cs=>.agg (zdU cs)
 | .tup cs=>.tup (zdU cs)
 | .row n _=>.row n []
 | .s l=>.s l
 | .i k n=>.i k n
 | .b x=>.b x
 | .nil=>.nil
 | _=>.u
def zdU:List AV->List AV
 | []=>[]
 | x::xs=>zb0 x::zdU xs
end
mutual
theorem ziD {G G':Gh} {I I':Imm}:∀(x:AV) (y:Value),Den G I x y->Den G' I' (zb0 x) y
 | .agg cs,y,h=>by
  simp only[Den,zb0] at h ⊢;obtain⟨ys,h1,h2,h3⟩:=h;exact⟨ys,h1,zeM cs ys h2,h3⟩
 | .tup cs,y,h=>by
  simp only[Den,zb0] at h ⊢;obtain⟨ys,h1,h2⟩:=h;exact⟨ys,h1,zeM cs ys h2⟩
 | .row n xs,y,h=>by
  simp only[Den,zb0] at h ⊢;obtain⟨a,c,ys,h1,h2,_⟩:=h;exact⟨a,c,[],h1,h2,by simp[zac],by simp,by simp⟩
 | .s l,y,h=>by simpa[Den,zb0] using h
 | .i k n,y,h=>by simpa[Den,zb0] using h
 | .b x,y,h=>by simpa[Den,zb0] using h
 | .nil,y,h=>by simpa[Den,zb0] using h
 | .p _ _,y,h=>by simp[Den,zb0]
 | .prow _ _,y,h=>by simp[Den,zb0]
 | .crow _ _,y,h=>by simp[Den,zb0]
 | .orow _ _,y,h=>by simp[Den,zb0]
 | .porow _ _ _,y,h=>by simp[Den,zb0]
 | .bsl _ _ _,y,h=>by simp[Den,zb0]
 | .m _,y,h=>by simp[Den,zb0]
 | .zn _,y,h=>by simp[Den,zb0]
 | .fn _ _ _,y,h=>by simp[Den,zb0]
 | .o _,y,h=>by simp[Den,zb0]
 | .u,y,h=>by simp[Den,zb0]
theorem zeM {G G':Gh} {I I':Imm}:∀(xs:List AV) (ys:List Value),zac G I xs ys->zac G' I' (zdU xs) ys
 | [],ys,h=>by simpa[zac,zdU] using h
 | x::xs,ys,h=>by
  simp only[zac,zdU] at h ⊢;obtain⟨y,ys',h0,h1,h2⟩:=h;exact⟨y,ys',h0,ziD x y h1,zeM xs ys' h2⟩
end
theorem zd6 {P:Program} [Tabs P] {f:FuncId} {rest:List AV} {objs:List OB} {K:List OB->AV->Prop} {b E sz gen n:Nat} {xs:List AV} (r:AV) (hb:objs[b]? = some (.orow E sz gen n xs)) (hp:zar xs=true) (hq:zar rest=true) (hk:K objs (zb0 r))
  (h:zaa P f (.row n xs::rest) [] (fun _ r'=>r'=r)):zaa P f (.orow b gen::rest) objs K:=by
 intro C _ G I w hin hm ys hd;have hd':zac Gh.none (zpu w) (.row n xs::rest) ys:=by
  simp only[zac] at hd;obtain⟨y,ys',rfl,h1,h2⟩:=hd;exact zac.cons (zlc hb hp hm h1) (zac.plain (fun g o v hi=>hm.imm g o v hi) _ _ hq h2)
 haveI:On P ⟨w,fun _=>False,zpu w,Gh.none⟩:=⟨hin.tab (P:=P),fun _ h=>h⟩
 have hc:=h ⟨w,fun _=>False,zpu w,Gh.none⟩ Gh.none (zpu w) w
  ⟨rfl,rfl,rfl,zd _,fun _ _ _=>rfl,fun _ _ _ h=>h,fun _ _ _ h=>.inl h,fun b g hb=>by simp[Gh.own,Gh.none] at hb,Gh.le.refl _⟩
  ⟨fun _ _ _ h=>h,by simp,by simp,by simp,fun b b' g hb=>by simp[Gh.own,Gh.none] at hb,fun b g hb=>by simp[Gh.own,Gh.none] at hb,fun b g o v hb=>by simp[Gh.own,Gh.none] at hb,fun b _=>⟨rfl,rfl⟩⟩ ys hd'
 refine hc.mono ?_;rintro e w' ⟨y,objs',r',G',I',rfl,rfl,_,_,hin',_,hy⟩;have hg:w.grownBy w' none:=⟨hin'.os,hin'.tape,hin'.output,hin'.size,fun k hk _=>hin'.block k hk (fun h=>h)⟩;exact⟨y,objs,_,G,I,rfl,hk,Gh.le.refl G,Imm.le.refl I,hin.evolve hg (by simp),hm.evolve hg,ziD _ y hy⟩
theorem zf4 {P:Program} [Tabs P] {f:FuncId} (xs:List AV) {ys:List AV} {objs:List OB} {K:List OB->AV->Prop} (h:zaa P f (xs++.row 0 []::ys) objs K):zaa P f (xs++.nil::ys) objs K :=
 fun C _ G I w hin hm zs hd=>h C G I w hin hm zs (zds xs hd)
def aEx:List UInt8:=97::exL
def uS (p:List UInt8):UrlP:=⟨aEx,0,p,[],[],false,false⟩
def abcL:List UInt8:=[97,98,99]
def raw1:List UInt8:=zm7 302 [] [] [(zjf,[47])] false
def raw2:List UInt8:=zm7 200 [] abcL [] true
def zdZ:List Ans:=[⟨aEx,0,[47],raw1,0,0,0⟩,⟨aEx,0,[47,120],raw2,0,0,0⟩]
theorem saneA_1:(zaG (uS [47])).d=false/\(zaG (uS [47])).e=0/\(zaG (uS [47])).fl=[]/\(zaG (uS [47])).u=uS [47]/\(zaG (uS [47])).se=[uS [47]]/\(zaG (uS [47])).tr=[]/\(zaG (uS [47])).h=0 /\
  (zck zdZ 0 (zaG (uS [47]))).d=true/\(zck zdZ 0 (zaG (uS [47]))).e=251/\(zck zdZ 0 (zaG (uS [47]))).tr.length=1:=by decide +kernel
theorem saneA_2:(zaG (uS [47,120])).d=false/\(zaG (uS [47,120])).e=0/\(zaG (uS [47,120])).fl=[]/\(zaG (uS [47,120])).u=uS [47,120]/\(zaG (uS [47,120])).se=[uS [47,120]]/\(zaG (uS [47,120])).tr=[]/\(zaG (uS [47,120])).h=0 /\
  (zck zdZ 0 (zaG (uS [47,120]))).d=true/\(zck zdZ 0 (zaG (uS [47,120]))).e=0/\(zck zdZ 0 (zaG (uS [47,120]))).tr.length=1/\(zck zdZ 0 (zaG (uS [47,120]))).body=abcL:=by decide +kernel
theorem zh1:raw1.length<=12000/\raw2.length<=12000:=by decide +kernel
theorem zoI [Tabs Tryz.prog] [Shp Tryz.prog] [Pow Tryz.prog] {objs:List OB} {K:List OB->AV->Prop} (l:List Ans) (u:UrlP) (hl:l.length<=1000000) (hraw:∀a∈l,a.raw.length<=12000) (hu:zbk u)
  (h1:(zaG u).d=false) (h2:(zaG u).e=0) (h3:(zaG u).fl=[]) (h4:(zaG u).u=u) (h5:(zaG u).se=[u]) (h6:(zaG u).tr=[]) (h7:(zaG u).h=0) (hd:(zck l 0 (zaG u)).d=true)
  (hk:K objs (.tup [.agg (zi7 (zck l 0 (zaG u))),.i .i64 (zck l 0 (zaG u)).e])):zaa Tryz.prog 17 [.row l.length (zaI l),.i .u64 0,zaM u] objs K :=
 fRun_k l 0 u 1 (fun i=>if i=0 then zaG u else zck l 0 (zaG u)) hl hraw hu rfl (fun i hi=>by
  have h0:i=0:=by omega
  rw[h0];rfl) hd (fun i hi=>by
  have h0:i=0:=by omega
  rw[h0];simp only[if_true,h1,h2,h3,h4,h5,h6,h7,ze,zk];exact⟨hu,trivial,trivial,trivial,by simp,by omega,by omega,by omega,by omega⟩) hk
section
variable [Tabs Tryz.prog] {objs:List OB} {K:List OB->AV->Prop}
theorem zkH:∀(s:List UInt8) (objs:List OB) (K:List OB->AV->Prop),s.length<=4000->K objs (.s (zc6 s 50))->zaa Tryz.prog 62 [.s s,.i .i64 50] objs K :=
 fun s objs K h hk=>zlH s 50 h (by omega) (by omega) hk
theorem sane26_k [Shp Tryz.prog] [Pow Tryz.prog] (hk:K objs (.b true)):zaa Tryz.prog 15 [] objs K:=by
 refine zaR is_law26_sane rfl fun C _=>?_;rw[c_law26_sane];refine zaj fun Z hZ=>?_;simp only[sxZ,z6,z7,z8,j4,j5,j6,j7,j8,j9,x0,x4,x5,x6,x7,x8,reduceCtorEq,↓reduceIte];subst hZ;refine zaj fun Z hZ=>?_;simp only[sxZ,z6,z7,z8,j4,j5,j6,j7,j8,j9,x0,x4,x5,x6,x7,x8,reduceCtorEq,↓reduceIte];subst hZ;refine zaj fun Z hZ=>?_;simp only[sxZ,z6,z7,z8,j4,j5,j6,j7,j8,j9,x0,x4,x5,x6,x7,x8,reduceCtorEq,↓reduceIte];refine zal (zkh zkH 302 [] [] [(zjf,[47])] false (by omega) (by omega) (by simp) (by simp) (by simp) (by simp[zjf]) ?_);simp only[sxZ,z6,z7,z8,j4,j5,j6,j7,j8,j9,x0,x4,x5,x6,x7,x8,reduceCtorEq,↓reduceIte];refine zal (zf4 [_,_,_] (zkh zkH 200 [] abcL [] true (by omega) (by omega) (by simp) (by simp[abcL]) (by simp) (by simp) ?_));rw[show zm7 302 [] [] [(zjf,[47])] false=raw1 from rfl,show zm7 200 [] abcL [] true=raw2 from rfl];simp only[sxZ,z6,z7,z8,j4,j5,j6,j7,j8,j9,x0,x4,x5,x6,x7,x8,reduceCtorEq,↓reduceIte];subst hZ;have hraw:∀a∈zdZ,a.raw.length<=12000:=by
  intro a ha;simp only[zdZ,qo,js,or_false] at ha;rcases ha with rfl|rfl
  ·exact zh1.1
  ·exact zh1.2
 have hu:∀p:List UInt8,p.length<=100->zbk (uS p):=fun p hp=>by
  simp only[zbk,uS,aEx,exL,ze,zk];omega
 refine zaj fun Z hZ=>?_;simp only[sxZ,z6,z7,z8,j4,j5,j6,j7,j8,j9,x0,x4,x5,x6,x7,x8,reduceCtorEq,↓reduceIte];obtain⟨a1,a2,a3,a4,a5,a6,a7,a8,a9,a10⟩:=saneA_1;refine zal (zd6 _ (xs:=zaI zdZ) (n:=zdZ.length) rfl (zdP _) rfl ?_ (zoI zdZ (uS [47]) (by decide) hraw (hu _ (by decide)) a1 a2 a3 a4 a5 a6 a7 a8 rfl));simp only[zb0,zdU,zi7,a9,a10,sxZ,z6,z7,z8,j4,j5,j6,j7,j8,j9,x0,x4,x5,x6,x7,x8,reduceCtorEq,↓reduceIte];subst hZ;refine zaj fun Z hZ=>?_;simp only[sxZ,z6,z7,z8,j4,j5,j6,j7,j8,j9,x0,x4,x5,x6,x7,x8,reduceCtorEq,↓reduceIte];subst hZ;refine zaj fun Z hZ=>?_;simp only[sxZ,z6,z7,z8,j4,j5,j6,j7,j8,j9,x0,x4,x5,x6,x7,x8,reduceCtorEq,↓reduceIte];obtain⟨b1,b2,b3,b4,b5,b6,b7,b8,b9,b10,b11⟩:=saneA_2;refine zal (zd6 _ (xs:=zaI zdZ) (n:=zdZ.length) rfl (zdP _) rfl ?_ (zoI zdZ (uS [47,120]) (by decide) hraw (hu _ (by decide)) b1 b2 b3 b4 b5 b6 b7 b8 rfl));simp only[zb0,zdU,zi7,b9,b10,b11,sxZ,z6,z7,z8,j4,j5,j6,j7,j8,j9,x0,x4,x5,x6,x7,x8,reduceCtorEq,↓reduceIte];subst hZ;have h1c:((1:Nat):Int)=1:=rfl;simp only[sxZ,z6,z7,z8,j4,j5,j6,j7,j8,j9,x0,x4,x5,x6,x7,x8,reduceCtorEq,↓reduceIte,abcL,h1c];exact hk
end
end
end Go.Proofs.YtomkbafdmbfmfaaGreatDoor
