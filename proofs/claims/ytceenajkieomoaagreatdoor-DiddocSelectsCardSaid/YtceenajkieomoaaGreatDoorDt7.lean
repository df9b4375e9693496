/- The texts that the proofs of these statements reach, in their order, as few files. -/
import Derived.Lib.Replace
import Derived.Lib.CountLaws
import Derived.Lib.Join
import Derived.Test.YtceenajkieomoaaGreatDoorProg
import Derived.Test.YtceenajkieomoaaGreatDoorDt6
set_option linter.unusedVariables false
set_option linter.unusedSimpArgs false
set_option maxRecDepth 100000
namespace Go.Proofs.YtceenajkieomoaaGreatDoor
open Lib renaming hasPrefix->qx, indexByte->xi
open List renaming all_eq_true->zt, append_nil->jh, eq_nil_of_length_eq_zero->jd, flatMap_cons->ya, getElem?_append_left->qd, getElem?_eq_getElem->zm, getElem?_eq_some_iff->zf, getElem?_set->za, getElem?_set_ne->zi, getElem?_set_self->zl, getElem_mem->jc, length_append->zk, length_cons->zu, length_drop->zw, length_map->qq, length_take->qc, map_append->jg, mem_append->zq, mem_cons->zv, mem_cons_of_mem->qm, mem_iff_getElem->y6, mem_singleton->jy, take_add_one->yb, take_of_length_le->ju
open Nat renaming le_refl->ze, zero_le->zd
open Option renaming getD_some->qh, map_some->jl
def idB (c:UInt8):Bool:=zbB c||zaq c||zbu c [46,45,95]
def za5:List UInt8:=[46,45,95,58]
def meB (c:UInt8):Bool:=zaq c||(decide (97<=c.toNat)&&decide (c.toNat<=122))
def zcd (l:List UInt8):Bool:=l.all meB&&!l.isEmpty
def zjE (c:UInt8) (new s:List UInt8):List UInt8:=s.flatMap fun x=>if x=c then new else [x]
def zcL (s:List UInt8):List UInt8:=zjE 126 [37,55,69] s
def ibB (c:UInt8):Bool:=c==37||idB c||c==58
def idE (l:List UInt8):Int×List UInt8 :=
 if (zcF l).1≠0 then ((zcF l).1,[])
 else if l.all ibB=false then (1,[])
 else if l=[]\/l.getLast? = some 58 then (3,[])
 else if (zat l za5).1≠0 then ((zat l za5).1,[])
 else (0,zcL (zat l za5).2)
def zbq:List UInt8:=[100,105,100,58]
def zb2 (s:List UInt8):Int×List UInt8×List UInt8 :=
 if 4096<s.length then (5,[],[])
 else if qx s zbq=false then (60,[],[])
 else if (zaw 58 (s.drop 4)).2.2=false then (6,[],[])
 else if zcd (zaw 58 (s.drop 4)).1=false then (100,[],[])
 else if (idE (zaw 58 (s.drop 4)).2.1).1≠0 then ((idE (zaw 58 (s.drop 4)).2.1).1,[],[])
 else (0,(zaw 58 (s.drop 4)).1,(idE (zaw 58 (s.drop 4)).2.1).2)
structure DidU where
 meth:List UInt8
 id:List UInt8
 path:List UInt8
 query:List UInt8
 frag:List UInt8
 hq:Bool
 hf:Bool
instance:DecidableEq DidU:=fun a b=>
 decidable_of_iff (a.meth=b.meth/\a.id=b.id/\a.path=b.path/\a.query=b.query/\a.frag=b.frag/\a.hq=b.hq/\a.hf=b.hf) (by
  cases a;cases b;simp)
def zfj:DidU:=⟨[],[],[],[],[],false,false⟩
def zbl (s:List UInt8):List UInt8:=zbU (za6 s)
def zdw (s:List UInt8):Int×DidU :=
 if 4096<s.length then (5,zfj)
 else if (zb2 (zbl s)).1≠0 then ((zb2 (zbl s)).1,zfj)
 else if (zat ((za6 s).drop (zbl s).length) zax).1≠0 then ((zat ((za6 s).drop (zbl s).length) zax).1,zfj)
 else if (zat (zaw 63 (zaw 35 s).1).2.1 zak).1≠0 then ((zat (zaw 63 (zaw 35 s).1).2.1 zak).1,zfj)
 else if (zat (zaw 35 s).2.1 zak).1≠0 then ((zat (zaw 35 s).2.1 zak).1,zfj)
 else (0,⟨(zb2 (zbl s)).2.1,(zb2 (zbl s)).2.2,(zat ((za6 s).drop (zbl s).length) zax).2,(zat (zaw 63 (zaw 35 s).1).2.1 zak).2,(zat (zaw 35 s).2.1 zak).2,(zaw 63 (zaw 35 s).1).2.2,(zaw 35 s).2.2⟩)
def zbX (m i:List UInt8):List UInt8:=zbq++m++[58]++i
def zcv (u:DidU):List UInt8:=zbX u.meth u.id++u.path++(if u.hq=true then [63]++u.query else [])++(if u.hf=true then [35]++u.frag else [])
def zdp (m i r:List UInt8):Int×DidU :=
 if qx r zbq=true then zdw r
 else if r=[]\/(r.head?.map fun c=>zbu c [47,63,35])=some true then zdw (zbX m i++r)
 else (6,zfj)
theorem zgB (c:UInt8):∀s:List UInt8,Lib.index s [c]=xi s c
 | []=>rfl
 | b::l=>by
  have ih:=zgB c l;unfold Lib.index xi;rw[ih]
  by_cases h:b=c
  ·subst h;simp
  ·have h':¬c=b:=fun e=>h e.symm;simp[h,h']
theorem zeC (c:UInt8) (new:List UInt8):∀s:List UInt8,c∉s->zjE c new s=s
 | [],_=>rfl
 | x::s,h=>by
  simp only[zv,not_or] at h;unfold zjE;rw[ya,if_neg (fun e=>h.1 e.symm)];show [x]++zjE c new s=_;rw[zeC c new s h.2];rfl
theorem zek (c:UInt8) (new a b:List UInt8):zjE c new (a++b)=zjE c new a++zjE c new b:=by simp[zjE]
theorem zi0 (c:UInt8) (new:List UInt8):∀(n:Nat) (s:List UInt8),s.length<=n->Lib.replaceK [c] new (Lib.count s [c]) s=zjE c new s:=by
 intro n
 induction n with
 | zero=>
  intro s hs;obtain rfl:s=[]:=jd (by omega)
  rfl
 | succ n ih=>
  intro s hs;rcases zco c s with ⟨h1,_,h2⟩|⟨k,h1,h2,_,h3⟩
  ·rw[Lib.count_miss (by rw[zgB];exact h1),zeC c new s h2];rfl
  ·have hi:Lib.index s [c]=k:=by rw[zgB];exact h1
   rw[Lib.count_hit (by simp) hi,Nat.add_comm,Lib.replaceK_hit _ _ _ _ _ hi];have:=ih (s.drop (k+[c].length)) (by rw[zw];simp;omega);rw[this];have hk:s[k]=c:=by rw[zm h2] at h3;injection h3
   have hpre:c∉s.take k:=by
    intro hm;obtain⟨j,hj,hjc⟩:=y6.1 hm;have hj':j<k:=by rw[qc] at hj;omega
    have:=(Lib.indexByte_some h1).2 j hj';rw[List.getElem_take] at hjc;exact this (by rw[zm (by omega),hjc])
   conv=>rhs;rw[<-List.take_append_drop k s,List.drop_eq_getElem_cons h2,hk,zek,zeC c new _ hpre]
   show _=s.take k++zjE c new ([c]++s.drop (k+1));rw[zek];simp[zjE]
theorem zgZ (c:UInt8) (new s:List UInt8) (h:new≠[c]):Lib.replaceAll s [c] new=zjE c new s:=by
 unfold Lib.replaceAll Lib.replace;rw[if_neg (by simp;exact fun e=>h e.symm)];unfold Lib.replaceNum;rw[if_pos (.inl (by decide))];exact zi0 c new s.length s (ze _)
theorem zjz (c:UInt8) (s:List UInt8):Lib.count s [c]<=s.length+1:=Lib.count_le s [c]
theorem zg2 (s:List UInt8):(zcL s).length<=3*s.length:=by
 induction s with
 | nil=>exact ze _
 | cons x s ih=>
  unfold zcL zjE at ih ⊢;rw[ya,zk,zu]
  split<;>simp only[zu,List.length_nil]<;>omega
def zdh (l:List UInt8):List UInt8:=l.flatMap fun c=>if idB c=true then [c] else zdB c
def zbj (p:List UInt8):List UInt8:=zdh (zcF p).2
def jnc (ps:List (List UInt8)):List UInt8:=ps.flatMap fun q=>58::zbj q
theorem id256:∀n:Fin 256,(idB (UInt8.ofNat n.val)=true->zbS (UInt8.ofNat n.val) za5=true/\UInt8.ofNat n.val≠126/\UInt8.ofNat n.val≠58/\UInt8.ofNat n.val≠37) /\
  (zaG (UInt8.ofNat n.val)=true->UInt8.ofNat n.val≠126->idB (UInt8.ofNat n.val)=true)/\(zaG (UInt8.ofNat n.val)=false->idB (UInt8.ofNat n.val)=false) /\
  ((zdB (UInt8.ofNat n.val)).all (fun c=>c != 126))=true/\(zaT (UInt8.ofNat n.val)=true->UInt8.ofNat n.val≠58/\idB (UInt8.ofNat n.val)=true):=by decide +kernel
theorem zdt (c:UInt8):(idB c=true->zbS c za5=true/\c≠126/\c≠58/\c≠37)/\(zaG c=true->c≠126->idB c=true)/\(zaG c=false->idB c=false)/\(zdB c).all (fun c=>c != 126)=true/\(zaT c=true->c≠58/\idB c=true):=by
 have:=id256 ⟨c.toNat,UInt8.toNat_lt c⟩;simpa using this
theorem zdk (a b:List UInt8):zcL (a++b)=zcL a++zcL b:=zek _ _ a b
theorem zeY {c:UInt8} (h:c≠126):zcL [c]=[c]:=by simp[zcL,zjE,h]
theorem zmp (c:UInt8):zcL (zdB c)=zdB c:=zeC _ _ _ (fun hm=>by
 have:=zt.1 (zdt c).2.2.2.1 126 hm;simp at this)
theorem zcw (c:UInt8) (l:List UInt8):zdh (c::l)=(if idB c=true then [c] else zdB c)++zdh l:=by simp[zdh]
theorem zhb:∀(n:Nat) (l o:List UInt8),l.length<=n->(rwS zca 0 l o).1=(rwS zca 0 l []).1/\((rwS zca 0 l []).1=0->(rwS zca 0 l o).2=o++(rwS zca 0 l []).2):=by
 intro n
 induction n with
 | zero=>
  intro l o hl;obtain rfl:l=[]:=jd (by omega);simp[rwS]
 | succ n ih=>
  intro l o hl
  cases l with
  | nil=>simp[rwS]
  | cons c t=>
   by_cases hc:c=37
   ·rcases he:zbi (c::t) with _|_
    ·simp[rwS,hc,he,show zbi (37::t)=false from by rw[<-hc];exact he]
    ·obtain⟨a,b,r,rfl⟩:=zbF he;have hd:∀o,rwS zca 0 (c::a::b::r) o=rwS zca 0 r (o++[zcf (c::a::b::r)]):=by
      intro o;rw[rwS,if_pos hc,if_pos he];show (if (0:Int)=0 then rwS zca 2 (a::b::r) _ else _)=_;rw[if_pos rfl,zbI]
      rfl
     rw[hd,hd];have i1:=ih r (o++[zcf (c::a::b::r)]) (by simp at hl ⊢;omega);have i2:=ih r ([]++[zcf (c::a::b::r)]) (by simp at hl ⊢;omega);refine⟨by rw[i1.1,i2.1],fun h=>?_⟩;rw[i2.1] at h;rw[i1.2 h,i2.2 h];simp
   ·have hd:∀o,rwS zca 0 (c::t) o=rwS zca 0 t (o++[c]):=by
     intro o;rw[rwS,if_neg hc];show (if (0:Int)=0 then rwS zca 0 t _ else _)=_;rw[if_pos rfl];rfl
    rw[hd,hd];have i1:=ih t (o++[c]) (by simp at hl;omega);have i2:=ih t ([]++[c]) (by simp at hl;omega);refine⟨by rw[i1.1,i2.1],fun h=>?_⟩;rw[i2.1] at h;rw[i1.2 h,i2.2 h];simp
theorem rwD_esc {c:UInt8} {t:List UInt8} (hc:c=37) (a b:UInt8) (r:List UInt8) (ht:t=a::b::r) (he:zbi (c::t)=true) (o:List UInt8):rwS zca 0 (c::t) o=rwS zca 0 r (o++[zcf (c::t)]):=by
 subst ht;rw[rwS,if_pos hc,if_pos he];show (if (0:Int)=0 then rwS zca 2 (a::b::r) _ else _)=_;rw[if_pos rfl,zbI]
 rfl
theorem rwD_one {c:UInt8} {t:List UInt8} (hc:c≠37) (o:List UInt8):rwS zca 0 (c::t) o=rwS zca 0 t (o++[c]):=by
 rw[rwS,if_neg hc];show (if (0:Int)=0 then rwS zca 0 t _ else _)=_;rw[if_pos rfl];rfl
def dcL (l:List UInt8):Int×List UInt8:=rwS zca 0 l []
theorem zd2 {l:List UInt8} (h:l.length<=16384):zcF l=dcL l:=by unfold zcF zgz;rw[if_neg (by omega)];rfl
theorem zdQ {c:UInt8} {t:List UInt8} (hc:c≠37):(dcL (c::t)).1=(dcL t).1/\((dcL t).1=0->(dcL (c::t)).2=c::(dcL t).2):=by
 unfold dcL;rw[rwD_one hc];have:=zhb t.length t ([]++[c]) (ze _);exact⟨this.1,fun h=>by rw[this.2 h];rfl⟩
theorem zer {a b:UInt8} {r:List UInt8} (he:zbi (37::a::b::r)=true):(dcL (37::a::b::r)).1=(dcL r).1/\((dcL r).1=0->(dcL (37::a::b::r)).2=zcf (37::a::b::r)::(dcL r).2):=by
 unfold dcL;rw[rwD_esc rfl a b r rfl he];have:=zhb r.length r ([]++[zcf (37::a::b::r)]) (ze _);exact⟨this.1,fun h=>by rw[this.2 h];rfl⟩
theorem zfk {t:List UInt8} (he:zbi (37::t)=false):(dcL (37::t)).1=2:=by
 unfold dcL;rw[rwS,if_pos rfl,if_neg (by rw[he];exact Bool.false_ne_true)]
theorem dcL_err:∀(n:Nat) (l:List UInt8),l.length<=n->(dcL l).1=0\/(dcL l).1=2:=by
 intro n
 induction n with
 | zero=>
  intro l hl;obtain rfl:l=[]:=jd (by omega);exact .inl rfl
 | succ n ih=>
  intro l hl
  cases l with
  | nil=>exact .inl rfl
  | cons c t=>
   by_cases hc:c=37
   ·subst hc;rcases he:zbi (37::t) with _|_
    ·exact .inr (zfk he)
    ·obtain⟨a,b,r,rfl⟩:=zbF he;rw[(zer he).1];exact ih r (by simp at hl ⊢;omega)
   ·rw[(zdQ hc).1];exact ih t (by simp at hl;omega)
open Go.RowKit Sx
section
attribute [local irreducible] run
def kId:List UInt8:=[105,100]
def zbh:List UInt8:=[116,121,112,101]
def zbE:List UInt8:=[99,111,110,116,114,111,108,108,101,114]
def zbH:List UInt8:=[115,101,114,118,105,99,101,69,110,100,112,111,105,110,116]
def zce:List UInt8:=[97,108,115,111,75,110,111,119,110,65,115]
def zbP:List UInt8:=[118,101,114,105,102,105,99,97,116,105,111,110,77,101,116,104,111,100]
def zbr:List UInt8:=[115,101,114,118,105,99,101]
structure MtP where
 id:List UInt8
 typ:List UInt8
 ctl:List UInt8
structure SvP where
 id:List UInt8
 typ:List (List UInt8)
 eps:List (List UInt8)
structure DoP where
 id:List UInt8
 also:List (List UInt8)
 ctl:List (List UInt8)
 mts:List MtP
 svs:List SvP
def mtZ:MtP:=⟨[],[],[]⟩
def svZ:SvP:=⟨[],[],[]⟩
def doZ:DoP:=⟨[],[],[],[],[]⟩
def tmD (v:JV) (key:List UInt8):List UInt8×Bool:=if (zaB v key).2=true/\(zaB v key).1.kind=5 then ((zaB v key).1.text,true) else ([],false)
def txD (l:List JV):Int×List (List UInt8) :=
 if 64<l.length then (161,[]) else if l.all (fun x=>decide (x.kind=5))=true then (0,l.map JV.text) else (160,[])
def ltD (v:JV):Int×List (List UInt8):=if v.kind=6 then txD v.items else (160,[])
def olD (v:JV):Int×List (List UInt8):=if v.kind=6 then txD v.items else txD [v]
def zdg (m i:List UInt8) (v:JV):Int×List UInt8 :=
 if (tmD v kId).2=false then (160,[]) else if (zdp m i (tmD v kId).1).1≠0 then (160,[]) else (0,zcv (zdp m i (tmD v kId).1).2)
def mtD (m i:List UInt8) (v:JV):Int×MtP :=
 if (zdg m i v).1≠0 then ((zdg m i v).1,mtZ)
 else if (tmD v zbh).2=true/\(tmD v zbE).2=true then (0,⟨(zdg m i v).2,(tmD v zbh).1,(tmD v zbE).1⟩) else (160,mtZ)
def svD (m i:List UInt8) (v:JV):Int×SvP :=
 if (zdg m i v).1≠0 then ((zdg m i v).1,svZ)
 else if (olD (zaB v zbh).1).1≠0 then ((olD (zaB v zbh).1).1,svZ)
 else if (zaB v zbH).1.kind=7 then (0,⟨(zdg m i v).2,(olD (zaB v zbh).1).2,[]⟩)
 else if (olD (zaB v zbH).1).1≠0 then ((olD (zaB v zbH).1).1,svZ)
 else (0,⟨(zdg m i v).2,(olD (zaB v zbh).1).2,(olD (zaB v zbH).1).2⟩)
def zfJ {α:Type} (f:JV->Int×α):List JV->Int×List α
 | []=>(0,[])
 | y::l=>if (f y).1≠0 then ((f y).1,[]) else if (zfJ f l).1≠0 then ((zfJ f l).1,[]) else (0,(f y).2::(zfJ f l).2)
def elD {α:Type} (f:JV->Int×α) (v:JV):Int×List α:=if v.kind=6 then (if 64<v.items.length then (161,[]) else zfJ f v.items) else (160,[])
def opD {α:Type} (v:JV) (key:List UInt8) (f:JV->Int×List α):Int×List α:=if (zaB v key).2=true then f (zaB v key).1 else (0,[])
def sbD (v:JV):Int×List UInt8×List UInt8 :=
 if (tmD v kId).2=false then (160,[],[]) else if (zb2 (tmD v kId).1).1≠0 then (160,[],[]) else (0,(zb2 (tmD v kId).1).2)
def ddE (v:JV):Int×DoP :=
 if (sbD v).1≠0 then ((sbD v).1,doZ)
 else if (opD v zce ltD).1≠0 then ((opD v zce ltD).1,doZ)
 else if (opD v zbE olD).1≠0 then ((opD v zbE olD).1,doZ)
 else if (opD v zbP (elD (mtD (sbD v).2.1 (sbD v).2.2))).1≠0 then ((opD v zbP (elD (mtD (sbD v).2.1 (sbD v).2.2))).1,doZ)
 else if (opD v zbr (elD (svD (sbD v).2.1 (sbD v).2.2))).1≠0 then ((opD v zbr (elD (svD (sbD v).2.1 (sbD v).2.2))).1,doZ)
 else (0,⟨zbX (sbD v).2.1 (sbD v).2.2,(opD v zce ltD).2,(opD v zbE olD).2,(opD v zbP (elD (mtD (sbD v).2.1 (sbD v).2.2))).2,(opD v zbr (elD (svD (sbD v).2.1 (sbD v).2.2))).2⟩)
def rsB (x:JV) (single:Bool):Int×List (List UInt8) :=
 if single=true/\x.kind=5 then (0,[x.text])
 else if x.kind≠6 then (160,[])
 else if 64<x.items.length then (161,[])
 else ((if x.items.all (fun y=>decide (y.kind=5))=true then 0 else 160),x.items.map JV.text)
def rsD (v:JV) (key:List UInt8) (single:Bool):Int×List (List UInt8):=if (zaB v key).2=true then rsB (zaB v key).1 single else (0,[])
def roD (v:JV) (key:List UInt8):Int×List JV :=
 if (zaB v key).2=false then (0,[]) else if (zaB v key).1.kind≠6 then (160,[]) else if 64<(zaB v key).1.items.length then (161,[]) else (0,(zaB v key).1.items)
def rtE (v:JV) (key:List UInt8):Int:=if (zaB v key).1.kind=5 then 0 else 160
def riD (m i:List UInt8) (v:JV):Int×List UInt8 :=
 if (zdp m i (zaB v kId).1.text).1≠0 then (orE (rtE v kId) 160,[]) else (rtE v kId,zcv (zdp m i (zaB v kId).1.text).2)
def rmD (m i:List UInt8) (v:JV):Int×MtP :=
 if v.kind≠7 then (160,mtZ)
 else (orE (orE (riD m i v).1 (rtE v zbh)) (rtE v zbE),⟨(riD m i v).2,(zaB v zbh).1.text,(zaB v zbE).1.text⟩)
def thE (v:JV) (key:List UInt8):Int:=if (zaB v key).2=true then 0 else 160
def rvD (m i:List UInt8) (v:JV):Int×SvP :=
 if v.kind≠7 then (160,svZ)
 else if (zaB v zbH).1.kind=7 then (orE (orE (orE (riD m i v).1 (thE v zbh)) (rsD v zbh true).1) (thE v zbH),⟨(riD m i v).2,(rsD v zbh true).2,[]⟩)
 else (orE (orE (orE (orE (riD m i v).1 (thE v zbh)) (rsD v zbh true).1) (thE v zbH)) (rsD v zbH true).1,⟨(riD m i v).2,(rsD v zbh true).2,(rsD v zbH true).2⟩)
def feD {α:Type} (f:JV->Int×α):List JV->Int
 | []=>0
 | y::l=>orE (f y).1 (feD f l)
theorem zeG {a b:Int} (h:a≠0):orE a b=a:=if_neg h
theorem zd9 (b:Int):orE 0 b=b:=if_pos rfl
theorem zgH {v:JV} {key:List UInt8} (h:(zaB v key).2=false):(zaB v key).1=jvZ:=by
 unfold zaB at h ⊢
 split at h
 ·rename_i a;rw[if_pos a]
  split at h
  ·cases h
  ·rfl
 ·rename_i a;rw[if_neg a]
theorem rs_ol {v:JV} {key:List UInt8}:orE (thE v key) (rsD v key true).1=(olD (zaB v key).1).1/\((olD (zaB v key).1).1=0->(rsD v key true).2=(olD (zaB v key).1).2):=by
 unfold thE rsD
 by_cases h:(zaB v key).2=true
 ·rw[if_pos h,if_pos h,zd9];unfold rsB olD;generalize (zaB v key).1=x
  by_cases h5:x.kind=5
  ·rw[if_pos ⟨rfl,h5⟩,if_neg (by omega)];unfold txD;rw[if_neg (by simp),if_pos (by simp[h5])];exact⟨rfl,fun _=>rfl⟩
  ·rw[if_neg (fun e=>h5 e.2)]
   by_cases h6:x.kind=6
   ·rw[if_neg (fun e=>e h6),if_pos h6];unfold txD
    by_cases hl:64<x.items.length
    ·rw[if_pos hl,if_pos hl];exact⟨rfl,fun _=>rfl⟩
    ·rw[if_neg hl,if_neg hl]
     by_cases ha:x.items.all (fun y=>decide (y.kind=5))=true
     ·rw[if_pos ha,if_pos ha];exact⟨rfl,fun _=>rfl⟩
     ·rw[if_neg ha,if_neg ha];exact⟨rfl,fun e=>by cases e⟩
   ·rw[if_pos h6,if_neg h6];unfold txD;rw[if_neg (by simp),if_neg (by simp[h5])];exact⟨rfl,fun _=>rfl⟩
 ·rw[if_neg h,if_neg h,zeG (by decide),zgH (by simpa using h)];refine⟨rfl,fun e=>?_⟩;have:(olD jvZ).1=160:=rfl;rw[this] at e;cases e
theorem zhc (v:JV) (key:List UInt8) (s:Bool):(rsD v key s).1=(opD v key (if s=true then olD else ltD)).1/\((rsD v key s).1=0->(rsD v key s).2=(opD v key (if s=true then olD else ltD)).2):=by
 unfold rsD opD
 by_cases h:(zaB v key).2=true
 ·rw[if_pos h,if_pos h];unfold rsB;generalize (zaB v key).1=x
  cases s with
  | true=>
   rw[if_pos (show true=true from rfl)];unfold olD
   by_cases h5:x.kind=5
   ·rw[if_pos ⟨rfl,h5⟩,if_neg (by omega)];unfold txD;rw[if_neg (by simp),if_pos (by simp[h5])];exact⟨rfl,fun _=>rfl⟩
   rw[if_neg (fun e=>h5 e.2)]
   by_cases h6:x.kind=6
   ·rw[if_neg (fun e=>e h6),if_pos h6];unfold txD
    by_cases hl:64<x.items.length
    ·rw[if_pos hl,if_pos hl];exact⟨rfl,fun _=>rfl⟩
    ·rw[if_neg hl,if_neg hl]
     by_cases ha:x.items.all (fun y=>decide (y.kind=5))=true
     ·rw[if_pos ha,if_pos ha];exact⟨rfl,fun _=>rfl⟩
     ·rw[if_neg ha,if_neg ha];exact⟨rfl,fun e=>by cases e⟩
   ·rw[if_pos h6,if_neg h6];unfold txD;rw[if_neg (by simp),if_neg (by simp[h5])];exact⟨rfl,fun _=>rfl⟩
  | false=>
   rw[if_neg (show ¬(false=true/\x.kind=5) from fun e=>by cases e.1),if_neg (show ¬(false=true) by decide)];unfold ltD
   by_cases h6:x.kind=6
   ·rw[if_neg (fun e=>e h6),if_pos h6];unfold txD
    by_cases hl:64<x.items.length
    ·rw[if_pos hl,if_pos hl];exact⟨rfl,fun _=>rfl⟩
    ·rw[if_neg hl,if_neg hl]
     by_cases ha:x.items.all (fun y=>decide (y.kind=5))=true
     ·rw[if_pos ha,if_pos ha];exact⟨rfl,fun _=>rfl⟩
     ·rw[if_neg ha,if_neg ha];exact⟨rfl,fun e=>by cases e⟩
   ·rw[if_pos h6,if_neg h6];exact⟨rfl,fun _=>rfl⟩
 ·rw[if_neg h,if_neg h];exact⟨rfl,fun _=>rfl⟩
theorem tm_rt (v:JV) (key:List UInt8):((tmD v key).2=true↔rtE v key=0)/\(rtE v key=0->(zaB v key).1.text=(tmD v key).1):=by
 unfold tmD rtE
 by_cases h5:(zaB v key).1.kind=5
 ·have h2:(zaB v key).2=true:=by
   cases h:(zaB v key).2 with
   | true=>rfl
   | false=>rw[zgH h] at h5;cases h5
  rw[if_pos ⟨h2,h5⟩,if_pos h5];exact⟨⟨fun _=>rfl,fun _=>rfl⟩,fun _=>rfl⟩
 ·rw[if_neg (fun e=>h5 e.2),if_neg h5];exact⟨⟨(fun e=>by cases e),(fun e=>by cases e)⟩,(fun e=>by cases e)⟩
theorem zfO (v:JV) (key:List UInt8):rtE v key=0\/rtE v key=160:=by unfold rtE;split<;>simp
theorem ri_mid (m i:List UInt8) (v:JV):(riD m i v).1=(zdg m i v).1/\((zdg m i v).1=0->(riD m i v).2=(zdg m i v).2):=by
 unfold riD zdg;obtain⟨h1,h2⟩:=tm_rt v kId
 by_cases h:rtE v kId=0
 ·rw[h2 h,h,zd9,if_neg (show ¬(tmD v kId).2=false by rw[h1.2 h];decide)]
  by_cases hr:(zdp m i (tmD v kId).1).1≠0
  ·rw[if_pos hr];exact⟨rfl,fun _=>rfl⟩
  ·rw[if_neg hr];exact⟨rfl,fun _=>rfl⟩
 ·have hf:(tmD v kId).2=false:=by
   cases e:(tmD v kId).2 with
   | true=>exact absurd (h1.1 e) h
   | false=>rfl
  rw[if_pos hf,zeG h,(zfO v kId).resolve_left h];exact⟨by split<;>rfl,fun e=>by cases e⟩
theorem zhP {v:JV} (h:v.kind≠7) (key:List UInt8):(tmD v key).2=false:=by
 unfold tmD;rw[if_neg (fun e=>by rw[zgI h] at e;cases e.1)]
theorem rm_mt (m i:List UInt8) (v:JV):(rmD m i v).1=(mtD m i v).1/\((mtD m i v).1=0->(rmD m i v).2=(mtD m i v).2):=by
 unfold rmD mtD
 by_cases h7:v.kind=7
 ·rw[if_neg (fun e=>e h7)];obtain⟨a1,a2⟩:=ri_mid m i v;obtain⟨b1,b2⟩:=tm_rt v zbh;obtain⟨c1,c2⟩:=tm_rt v zbE;dsimp only
  by_cases h:(zdg m i v).1=0
  ·rw[if_neg (fun e=>e h),a1,h,zd9,a2 h]
   by_cases hc:(tmD v zbh).2=true/\(tmD v zbE).2=true
   ·rw[if_pos hc,b1.1 hc.1,c1.1 hc.2,b2 (b1.1 hc.1),c2 (c1.1 hc.2)];exact⟨rfl,fun _=>rfl⟩
   ·rw[if_neg hc];refine⟨?_,fun e=>by cases e⟩
    by_cases ht:rtE v zbh=0
    ·rw[ht,zd9];exact(zfO v zbE).resolve_left fun e=>hc ⟨b1.2 ht,c1.2 e⟩
    ·rw[zeG (a:=rtE v zbh) ht];exact(zfO v zbh).resolve_left ht
  ·rw[if_pos h,a1,zeG h,zeG h];exact⟨rfl,fun e=>absurd e h⟩
 ·rw[if_pos h7];have:(zdg m i v).1=160:=by unfold zdg;rw[if_pos (zhP h7 kId)]
  rw[if_pos (by rw[this];decide),this];exact⟨rfl,fun e=>by cases e⟩
theorem zaE (a b c:Int):orE (orE a b) c=orE a (orE b c):=by
 unfold orE;by_cases h:a=0<;>simp[h]
theorem rv_sv (m i:List UInt8) (v:JV):(rvD m i v).1=(svD m i v).1/\((svD m i v).1=0->(rvD m i v).2=(svD m i v).2):=by
 unfold rvD svD
 by_cases h7:v.kind=7
 ·rw[if_neg (show ¬v.kind≠7 from fun e=>e h7)];obtain⟨a1,a2⟩:=ri_mid m i v;obtain⟨b1,b2⟩:=rs_ol (v:=v) (key:=zbh);obtain⟨c1,c2⟩:=rs_ol (v:=v) (key:=zbH);have hth:(zaB v zbH).1.kind=7->thE v zbH=0:=fun e=>by
   unfold thE
   cases h:(zaB v zbH).2 with
   | true=>rfl
   | false=>rw[zgH h] at e;cases e
  by_cases h:(zdg m i v).1=0
  ·rw[if_neg (show ¬(zdg m i v).1≠0 from fun e=>e h)]
   by_cases ho:(olD (zaB v zbh).1).1=0
   ·rw[if_neg (show ¬(olD (zaB v zbh).1).1≠0 from fun e=>e ho)];have e1:=b2 ho
    by_cases hk:(zaB v zbH).1.kind=7
    ·rw[if_pos hk,if_pos hk];dsimp only;rw[zaE (riD m i v).1,b1,ho,a1,h,hth hk,a2 h,e1];exact⟨rfl,fun _=>rfl⟩
    ·rw[if_neg hk,if_neg hk];dsimp only;rw[zaE _ (thE v zbH),c1,zaE (riD m i v).1,b1,ho,a1,h,a2 h,e1];show orE (orE 0 0) _=_/\_;rw[zd9,zd9]
     by_cases hp:(olD (zaB v zbH).1).1=0
     ·rw[if_neg (show ¬(olD (zaB v zbH).1).1≠0 from fun e=>e hp),hp,c2 hp];exact⟨rfl,fun _=>rfl⟩
     ·rw[if_pos hp];exact⟨rfl,fun e=>absurd e hp⟩
   ·rw[if_pos ho];refine⟨?_,fun e=>absurd e ho⟩
    by_cases hk:(zaB v zbH).1.kind=7
    ·rw[if_pos hk];dsimp only;rw[zaE (riD m i v).1,b1,a1,h,zd9,zeG ho]
    ·rw[if_neg hk];dsimp only;rw[zaE _ (thE v zbH),zaE (riD m i v).1,b1,a1,h,zd9,zeG ho]
  ·rw[if_pos h];refine⟨?_,fun e=>absurd e h⟩
   by_cases hk:(zaB v zbH).1.kind=7
   ·rw[if_pos hk];dsimp only;rw[zaE,zaE,a1,zeG h]
   ·rw[if_neg hk];dsimp only;rw[zaE,zaE,zaE,a1,zeG h]
 ·rw[if_pos h7];have:(zdg m i v).1=160:=by unfold zdg;rw[if_pos (zhP h7 kId)]
  rw[if_pos (by rw[this];decide),this];exact⟨rfl,fun e=>by cases e⟩
theorem fe_els {α:Type} {f g:JV->Int×α} (h:∀y,(g y).1=(f y).1/\((f y).1=0->(g y).2=(f y).2)):∀l:List JV,feD g l=(zfJ f l).1/\((zfJ f l).1=0->l.map (fun y=>(g y).2)=(zfJ f l).2)
 | []=>⟨rfl,fun _=>rfl⟩
 | y::l=>by
  obtain⟨h1,h2⟩:=h y;obtain⟨h3,h4⟩:=fe_els h l;rw[feD,zfJ,h1,h3]
  by_cases a:(f y).1=0
  ·rw[if_neg (fun e=>e a),a,zd9]
   by_cases b:(zfJ f l).1=0
   ·rw[if_neg (fun e=>e b),b,List.map_cons,h2 a,h4 b];exact⟨rfl,fun _=>rfl⟩
   ·rw[if_pos b];exact⟨rfl,fun e=>absurd e b⟩
  ·rw[if_pos a,zeG a];exact⟨rfl,fun e=>absurd e a⟩
theorem ro_el {α:Type} {f g:JV->Int×α} (h:∀y,(g y).1=(f y).1/\((f y).1=0->(g y).2=(f y).2)) (v:JV) (key:List UInt8) :
  orE (roD v key).1 (feD g (roD v key).2)=(opD v key (elD f)).1/\((opD v key (elD f)).1=0->(roD v key).2.map (fun y=>(g y).2)=(opD v key (elD f)).2):=by
 unfold roD opD
 by_cases h2:(zaB v key).2=true
 ·rw[if_neg (by rw[h2];decide),if_pos h2];unfold elD;generalize (zaB v key).1=x
  by_cases h6:x.kind=6
  ·rw[if_neg (fun e=>e h6),if_pos h6]
   by_cases hl:64<x.items.length
   ·rw[if_pos hl,if_pos hl];exact⟨rfl,fun e=>by cases e⟩
   ·rw[if_neg hl,if_neg hl,zd9];exact fe_els h x.items
  ·rw[if_pos h6,if_neg h6];exact⟨rfl,fun e=>by cases e⟩
 ·rw[if_pos (by simpa using h2),if_neg h2];exact⟨rfl,fun _=>rfl⟩
end
open Nat renaming reduceAdd -> z6, reduceSub -> z7, reduceLeDiff -> z8, reduceLT -> j4, reduceMul -> j5, reduceEqDiff -> j6
open Int renaming reduceToNat -> j7, reduceAdd -> j8, reduceSub -> j9, reduceMul -> x6, reduceNeg -> x7, reduceLT -> x8, reduceLE -> x9, reduceEq -> y4, reduceNe -> y5
theorem zow (c:UInt8) (hd:zaq c=false):meB c=(decide (97<=c.toNat)&&decide (c.toNat<=122)):=by unfold meB;rw[hd];rfl
theorem ib256:∀n:Fin 256,ibB (UInt8.ofNat n.val)=(UInt8.ofNat n.val==37||(zbB (UInt8.ofNat n.val)||zaq (UInt8.ofNat n.val)||zbu (UInt8.ofNat n.val) [46,45,95,58])):=by decide +kernel
theorem ib_form (c:UInt8):ibB c=(c==37||(zbB c||zaq c||zbu c [46,45,95,58])):=by
 have:=ib256 ⟨c.toNat,UInt8.toNat_lt c⟩;simpa using this
theorem trim_did {s:List UInt8} (h:qx s zbq=true):Lib.trimPrefix s zbq=s.drop 4:=by unfold Lib.trimPrefix;rw[if_pos h];rfl
theorem idE_len (s:List UInt8):(idE s).2.length<=50000:=by
 have h1:=zfc s za5;have h2:=zg2 (zat s za5).2;unfold idE
 repeat' split
 all_goals first
  | exact zd _
  | (show (zcL (zat s za5).2).length<=50000;omega)
theorem zcE (m i:List UInt8):(zbX m i).length=m.length+i.length+5:=by simp[zbX,zbq];omega
section
variable [Tabs Tryz.prog] {objs:List OB} {K:List OB->AV->Prop}
theorem zjQ [Shp Tryz.prog] (s new:List UInt8) (c:UInt8) (hs:s.length<=100000) (hn:new.length<=100) (hne:new≠[c]) (hk:K objs (.s (zjE c new s))):zaf Tryz.prog 113 [.s s,.s [c],.s new] objs K:=by
 have hc:Lib.countB (S s) (S [c])<=s.length+1:=zjz c s;have hl:(S s).size+Lib.countB (S s) (S [c])*(S new).size<=140737488355328:=by
  have h1:Lib.countB (S s) (S [c])*(S new).size<=100001*100:=Nat.mul_le_mul (by omega) (by rw[zcb];omega);rw[zcb];omega
 have e:Lib.replaceAll s [c] new=zjE c new s:=zgZ c new s hne;rw[<-e] at hk;exact convT (vs:=[.string (S s),.string (S [c]),.string (S new)]) rfl rfl (fun w hT=>Tryz.strings_ReplaceAll_shaped (S s) (S [c]) (S new) w (Shp.sh w hT) (by rw[zcb];omega) (by rw[zcb];simp) hl) hk
theorem zpV (s:List UInt8) (hs:s.length<=1000000) (hk:K objs (.b (zcd s))):zaf Tryz.prog 94 [.s s] objs K:=by
 refine za4 is_did_isMethod rfl fun C _=>?_;unfold zcd at hk;simp only[c_did_isMethod,sxZ,z6,z7,z8,j4,j5,j6,j7,j8,j9,x6,x7,x8,x9,y4,y5,reduceCtorEq,↓reduceIte];refine zaK (fun n objs tm=>∃i:Nat,i<=s.length/\n=s.length - i/\objs=[]/\(∀j (h:j<s.length),j<i->meB s[j]=true)/\tm.length=29/\tm[0]? = some (.s s)/\tm[5]? = some (.i .i64 s.length)/\tm[6]? = some (.i .i64 i)) s.length ⟨0,zd _,rfl,rfl,fun j h h0=>absurd h0 (by omega),rfl,rfl,rfl,rfl⟩ ?_;rintro n _ tm ⟨i,hi,rfl,rfl,hall,hlen,t0,t5,t6⟩
 by_cases hlt:(i:Int)<s.length
 ·have hlt':i<s.length:=by omega
  have hg:=zaP hlt';have hfin:meB s[i]=false->K objs (.b false):=fun h=>by
   rw[ziB hlt' h] at hk;exact hk
  have hnext:meB s[i]=true->∀j (h:j<s.length),j<i+1->meB s[j]=true:=by
   intro h j hj hji;rcases Nat.lt_or_ge j i with h1|h1
   ·exact hall j hj h1
   ·have:j=i:=by omega
    subst this;exact h
  simp only[sxZ,z6,z7,z8,j4,j5,j6,j7,j8,j9,x6,x7,x8,x9,y4,y5,reduceCtorEq,↓reduceIte,za,hlen,t0,t5,t6,hlt];refine⟨by omega,?_⟩;rw[hg];generalize s[i]=c at *;refine zae (zmk c ?_)
  by_cases hd:zaq c=true
  ·have hm:meB c=true:=by unfold meB;rw[hd];rfl
   simp only[hd,sxZ,z6,z7,z8,j4,j5,j6,j7,j8,j9,x6,x7,x8,x9,y4,y5,reduceCtorEq,↓reduceIte,za,hlen,t0,t5,t6];exact⟨⟨by omega,by omega⟩,s.length - (i+1),by omega,i+1,by omega,rfl,hnext hm,rfl⟩
  ·simp only[Bool.not_eq_true] at hd;have hm:=zow c hd
   by_cases h97:((c.toNat:Nat):Int)<97
   ·have hm2:meB c=false:=by rw[hm,decide_eq_false (by omega)];rfl
    simp only[hd,hg,h97,sxZ,z6,z7,z8,j4,j5,j6,j7,j8,j9,x6,x7,x8,x9,y4,y5,reduceCtorEq,↓reduceIte,za,hlen,t0,t5,t6];exact⟨⟨by omega,by omega⟩,hfin hm2⟩
   ·by_cases h122:(122:Int)<((c.toNat:Nat):Int)
    ·have hm2:meB c=false:=by rw[hm,decide_eq_false (p:=c.toNat<=122) (by omega),Bool.and_false]
     simp only[hd,hg,h97,h122,sxZ,z6,z7,z8,j4,j5,j6,j7,j8,j9,x6,x7,x8,x9,y4,y5,reduceCtorEq,↓reduceIte,za,hlen,t0,t5,t6];exact⟨⟨by omega,by omega⟩,⟨by omega,by omega⟩,hfin hm2⟩
    ·have hm2:meB c=true:=by rw[hm,decide_eq_true (by omega),decide_eq_true (by omega)];rfl
     simp only[hd,hg,h97,h122,sxZ,z6,z7,z8,j4,j5,j6,j7,j8,j9,x6,x7,x8,x9,y4,y5,reduceCtorEq,↓reduceIte,za,hlen,t0,t5,t6];exact⟨⟨by omega,by omega⟩,⟨by omega,by omega⟩,⟨by omega,by omega⟩,s.length - (i+1),by omega,i+1,by omega,rfl,hnext hm2,rfl⟩
 ·have hie:i=s.length:=by omega
  subst hie;have ha:s.all meB=true:=zmh fun j h=>hall j h h;rw[ha] at hk;simp only[sxZ,z6,z7,z8,j4,j5,j6,j7,j8,j9,x6,x7,x8,x9,y4,y5,reduceCtorEq,↓reduceIte,za,hlen,t0,t5,t6,hlt];have e:decide (¬s=[])=(true&&!s.isEmpty):=by cases s<;>simp
  rw[e];exact hk
theorem zpW (c:UInt8) (hk:K objs (.b (zbB c||zaq c||zbu c [46,45,95,58]))):zaf Tryz.prog 111 [.i .u8 c.toNat] objs K:=by
 refine za4 is_did_isIDByte rfl fun C _=>?_;simp only[c_did_isIDByte,sxZ,z6,z7,z8,j4,j5,j6,j7,j8,j9,x6,x7,x8,x9,y4,y5,reduceCtorEq,↓reduceIte];refine zae (aAlpha_k c ?_)
 by_cases h1:zbB c=true
 ·simp only[h1,Bool.true_or] at hk;simp only[h1,sxZ,z6,z7,z8,j4,j5,j6,j7,j8,j9,x6,x7,x8,x9,y4,y5,reduceCtorEq,↓reduceIte];exact hk
 ·simp only[h1,sxZ,z6,z7,z8,j4,j5,j6,j7,j8,j9,x6,x7,x8,x9,y4,y5,reduceCtorEq,↓reduceIte];refine zae (zmk c ?_)
  by_cases h2:zaq c=true
  ·simp only[h1,h2,Bool.true_or,Bool.or_true,Bool.false_or] at hk;simp only[h2,sxZ,z6,z7,z8,j4,j5,j6,j7,j8,j9,x6,x7,x8,x9,y4,y5,reduceCtorEq,↓reduceIte];exact hk
  ·simp only[h1,h2,Bool.false_or] at hk;simp only[h2,sxZ,z6,z7,z8,j4,j5,j6,j7,j8,j9,x6,x7,x8,x9,y4,y5,reduceCtorEq,↓reduceIte];refine zae (zfs _ c ?_);simp only[sxZ,z6,z7,z8,j4,j5,j6,j7,j8,j9,x6,x7,x8,x9,y4,y5,reduceCtorEq,↓reduceIte];rw[zpb];exact hk
set_option maxHeartbeats 4000000 in
theorem zmP [Shp Tryz.prog] (s:List UInt8) (hs:s.length<=16384) (hk:K objs (.tup [.s (idE s).2,.i .i64 (idE s).1])):zaf Tryz.prog 95 [.s s] objs K:=by
 refine za4 is_did_parseID rfl fun C _=>?_;have hid:idE s=if (zcF s).1≠0 then ((zcF s).1,[]) else if s.all ibB=false then (1,[]) else if s=[]\/s.getLast? = some 58 then (3,[]) else if (zat s za5).1≠0 then ((zat s za5).1,[]) else (0,zcL (zat s za5).2):=rfl
 simp only[c_did_parseID,sxZ,z6,z7,z8,j4,j5,j6,j7,j8,j9,x6,x7,x8,x9,y4,y5,reduceCtorEq,↓reduceIte];refine zae (zoc s ?_)
 by_cases h1:(zcF s).1=0
 ·simp only[h1,sxZ,z6,z7,z8,j4,j5,j6,j7,j8,j9,x6,x7,x8,x9,y4,y5,reduceCtorEq,↓reduceIte] at hid ⊢;refine zaK (fun n objs tm=>∃i:Nat,i<=s.length/\n=s.length - i/\objs=[]/\(∀j (h:j<s.length),j<i->ibB s[j]=true)/\tm.length=54/\tm[0]? = some (.s s)/\tm[18]? = some (.i .i64 s.length)/\tm[19]? = some (.i .i64 i)) s.length ⟨0,zd _,rfl,rfl,fun j h h0=>absurd h0 (by omega),rfl,rfl,rfl,rfl⟩ ?_;rintro n _ tm ⟨i,hi,rfl,rfl,hall,hlen,t0,t5,t6⟩
  by_cases hlt:(i:Int)<s.length
  ·have hlt':i<s.length:=by omega
   have hg:=zaP hlt';have hfin:ibB s[i]=false->K objs (.tup [.s [],.i .i64 1]):=fun h=>by
    rw[ziB hlt' h] at hid;simp only[sxZ,z6,z7,z8,j4,j5,j6,j7,j8,j9,x6,x7,x8,x9,y4,y5,reduceCtorEq,↓reduceIte] at hid;rw[hid] at hk;exact hk
   have hnext:ibB s[i]=true->∀j (h:j<s.length),j<i+1->ibB s[j]=true:=by
    intro h j hj hji;rcases Nat.lt_or_ge j i with h1|h1
    ·exact hall j hj h1
    ·have:j=i:=by omega
     subst this;exact h
   clear hk hid;generalize s[i]=c at *;have hib:=ib_form c
   by_cases h37:c=37
   ·have e37:((c.toNat:Nat):Int)=37:=by rw[h37];rfl
    have hb:ibB c=true:=by rw[hib,h37];rfl
    simp only[sxZ,z6,z7,z8,j4,j5,j6,j7,j8,j9,x6,x7,x8,x9,y4,y5,reduceCtorEq,↓reduceIte,za,hlen,t0,t5,t6,hlt,hg,e37];exact⟨by omega,⟨by omega,by omega⟩,s.length - (i+1),by omega,i+1,by omega,rfl,hnext hb,rfl⟩
   ·have e37:¬((c.toNat:Nat):Int)=37:=fun e=>h37 (UInt8.toNat_inj.1 (by have:(37:UInt8).toNat=37:=rfl;omega));have hne:(c==37)=false:=by simpa using h37
    simp only[sxZ,z6,z7,z8,j4,j5,j6,j7,j8,j9,x6,x7,x8,x9,y4,y5,reduceCtorEq,↓reduceIte,za,hlen,t0,t5,t6,hlt,hg,e37];refine⟨by omega,by omega,?_⟩;refine zae (zpW c ?_);rw[hne,Bool.false_or] at hib;rw[<-hib]
    by_cases hb:ibB c=true
    ·simp only[hb,sxZ,z6,z7,z8,j4,j5,j6,j7,j8,j9,x6,x7,x8,x9,y4,y5,reduceCtorEq,↓reduceIte,za,hlen,t0,t5,t6];exact⟨⟨by omega,by omega⟩,s.length - (i+1),by omega,i+1,by omega,rfl,hnext hb,rfl⟩
    ·simp only[Bool.not_eq_true] at hb;simp only[hb,sxZ,z6,z7,z8,j4,j5,j6,j7,j8,j9,x6,x7,x8,x9,y4,y5,reduceCtorEq,↓reduceIte,za,hlen,t0,t5,t6];exact hfin hb
  ·have hie:i=s.length:=by omega
   subst hie;have ha:s.all ibB=true:=zmh fun j h=>hall j h h;simp only[ha,sxZ,z6,z7,z8,j4,j5,j6,j7,j8,j9,x6,x7,x8,x9,y4,y5,reduceCtorEq,↓reduceIte] at hid;simp only[sxZ,z6,z7,z8,j4,j5,j6,j7,j8,j9,x6,x7,x8,x9,y4,y5,reduceCtorEq,↓reduceIte,za,hlen,t0,t5,t6,hlt]
   by_cases hs0:s=[]
   ·have ho:s=[]\/s.getLast? = some 58:=.inl hs0;rw[if_pos ho] at hid;rw[hid] at hk;simp only[sxZ,z6,z7,z8,j4,j5,j6,j7,j8,j9,x6,x7,x8,x9,y4,y5,reduceCtorEq,↓reduceIte,za,hlen,t0,t5,t6,hs0];exact hk
   ·have hpos:0<s.length:=by
     rcases Nat.eq_zero_or_pos s.length with h|h
     ·exact absurd (jd h) hs0
     ·exact h
    have hgl:s.getLast? = some s[s.length - 1]:=by rw[List.getLast?_eq_getElem?,zm (by omega)]
    have hg2:s.getD ((s.length:Int) - 1).toNat 0=s[s.length - 1]:=by
     rw[show ((s.length:Int) - 1).toNat=s.length - 1 by omega];exact zaP (by omega)
    by_cases h58:s[s.length - 1]=58
    ·have ho:s=[]\/s.getLast? = some 58:=.inr (by rw[hgl,h58]);have e58:((s[s.length - 1].toNat:Nat):Int)=58:=by rw[h58];rfl
     rw[if_pos ho] at hid;rw[hid] at hk;simp only[sxZ,z6,z7,z8,j4,j5,j6,j7,j8,j9,x6,x7,x8,x9,y4,y5,reduceCtorEq,↓reduceIte,za,hlen,t0,t5,t6,hs0];refine⟨⟨by omega,by omega⟩,⟨by omega,by omega⟩,?_⟩;rw[hg2];simp only[sxZ,z6,z7,z8,j4,j5,j6,j7,j8,j9,x6,x7,x8,x9,y4,y5,reduceCtorEq,↓reduceIte,za,hlen,t0,t5,t6,e58];exact hk
    ·have ho:¬(s=[]\/s.getLast? = some 58):=by
      rw[hgl];rintro(h|h)
      ·exact hs0 h
      ·injection h with h;exact h58 h
     have e58:¬((s[s.length - 1].toNat:Nat):Int)=58:=fun e=>h58 (UInt8.toNat_inj.1 (by have:(58:UInt8).toNat=58:=rfl;omega));rw[if_neg ho] at hid;simp only[sxZ,z6,z7,z8,j4,j5,j6,j7,j8,j9,x6,x7,x8,x9,y4,y5,reduceCtorEq,↓reduceIte,za,hlen,t0,t5,t6,hs0];refine⟨⟨by omega,by omega⟩,⟨by omega,by omega⟩,?_⟩;rw[hg2];simp only[sxZ,z6,z7,z8,j4,j5,j6,j7,j8,j9,x6,x7,x8,x9,y4,y5,reduceCtorEq,↓reduceIte,za,hlen,t0,t5,t6,e58];refine zae (zh9 s za5 ?_)
     by_cases h3:(zat s za5).1=0
     ·have nl:=zfc s za5;simp only[h3,sxZ,z6,z7,z8,j4,j5,j6,j7,j8,j9,x6,x7,x8,x9,y4,y5,reduceCtorEq,↓reduceIte] at hid;simp only[h3,sxZ,z6,z7,z8,j4,j5,j6,j7,j8,j9,x6,x7,x8,x9,y4,y5,reduceCtorEq,↓reduceIte,za,hlen];refine zae (zjQ _ _ 126 (by omega) (by decide) (by decide) ?_);rw[hid] at hk;simp only[sxZ,z6,z7,z8,j4,j5,j6,j7,j8,j9,x6,x7,x8,x9,y4,y5,reduceCtorEq,↓reduceIte,za,hlen];exact hk
     ·simp only[h3,sxZ,z6,z7,z8,j4,j5,j6,j7,j8,j9,x6,x7,x8,x9,y4,y5,reduceCtorEq,↓reduceIte] at hid;simp only[h3,sxZ,z6,z7,z8,j4,j5,j6,j7,j8,j9,x6,x7,x8,x9,y4,y5,reduceCtorEq,↓reduceIte,za,hlen];rw[hid] at hk;exact hk
 ·simp only[h1,sxZ,z6,z7,z8,j4,j5,j6,j7,j8,j9,x6,x7,x8,x9,y4,y5,reduceCtorEq,↓reduceIte] at hid ⊢;rw[hid] at hk;exact hk
theorem zgN [Shp Tryz.prog] (s:List UInt8) (hs:s.length<=maxLen) (hk:K objs (.tup [.agg [.s (zb2 s).2.1,.s (zb2 s).2.2],.i .i64 (zb2 s).1])):zaf Tryz.prog 66 [.s s] objs K:=by
 have hm:maxLen=2 ^ 63 - 1:=rfl;refine za4 is_did_ParseDID rfl fun C _=>?_;unfold zb2 at hk
 by_cases c0:(4096:Int)<↑s.length
 ·have c0':4096<s.length:=by omega
  simp only[c0',if_true] at hk;simp only[c0,c_did_ParseDID,sxZ,z6,z7,z8,j4,j5,j6,j7,j8,j9,x6,x7,x8,x9,y4,y5,reduceCtorEq,↓reduceIte];exact hk
 ·have c0':¬4096<s.length:=by omega
  simp only[c0',if_false] at hk;simp only[c0,c_did_ParseDID,sxZ,z6,z7,z8,j4,j5,j6,j7,j8,j9,x6,x7,x8,x9,y4,y5,reduceCtorEq,↓reduceIte];refine zae (ziS s zbq ?_)
  by_cases c1:qx s zbq=true
  ·have ct:=zcx 58 (s.drop 4);have hdl:(s.drop 4).length<=s.length:=by rw[zw];omega
   rw[trim_did c1];simp only[c1,sxZ,z6,z7,z8,j4,j5,j6,j7,j8,j9,x6,x7,x8,x9,y4,y5,reduceCtorEq,↓reduceIte] at hk ⊢;generalize s.drop 4=r at *;refine zae (zkC r 58 (by omega) ?_)
   by_cases c2:(zaw 58 r).2.2=true
   ·simp only[c2,sxZ,z6,z7,z8,j4,j5,j6,j7,j8,j9,x6,x7,x8,x9,y4,y5,reduceCtorEq,↓reduceIte] at hk ⊢;refine zae (zpV _ (by omega) ?_)
    by_cases c3:zcd (zaw 58 r).1=true
    ·simp only[c3,sxZ,z6,z7,z8,j4,j5,j6,j7,j8,j9,x6,x7,x8,x9,y4,y5,reduceCtorEq,↓reduceIte] at hk ⊢;refine zae (zmP _ (by omega) ?_)
     by_cases c4:(idE (zaw 58 r).2.1).1=0
     ·simp only[c4,sxZ,z6,z7,z8,j4,j5,j6,j7,j8,j9,x6,x7,x8,x9,y4,y5,reduceCtorEq,↓reduceIte] at hk ⊢;exact hk
     ·simp only[c4,sxZ,z6,z7,z8,j4,j5,j6,j7,j8,j9,x6,x7,x8,x9,y4,y5,reduceCtorEq,↓reduceIte] at hk ⊢;exact hk
    ·simp only[c3,sxZ,z6,z7,z8,j4,j5,j6,j7,j8,j9,x6,x7,x8,x9,y4,y5,reduceCtorEq,↓reduceIte] at hk ⊢;exact hk
   ·simp only[c2,sxZ,z6,z7,z8,j4,j5,j6,j7,j8,j9,x6,x7,x8,x9,y4,y5,reduceCtorEq,↓reduceIte] at hk ⊢;exact hk
  ·simp only[c1,sxZ,z6,z7,z8,j4,j5,j6,j7,j8,j9,x6,x7,x8,x9,y4,y5,reduceCtorEq,↓reduceIte] at hk ⊢;exact hk
def zbm (u:DidU):AV:=.agg [.s u.meth,.s u.id,.s u.path,.s u.query,.s u.frag,.b u.hq,.b u.hf]
set_option maxHeartbeats 4000000 in
theorem ziv [Shp Tryz.prog] (s:List UInt8) (hs:s.length<=maxLen) (hk:K objs (.tup [zbm (zdw s).2,.i .i64 (zdw s).1])):zaf Tryz.prog 101 [.s s] objs K:=by
 have hm:maxLen=2 ^ 63 - 1:=rfl;refine za4 is_did_Parse rfl fun C _=>?_;unfold zdw at hk
 by_cases c0:(4096:Int)<↑s.length
 ·have c0':4096<s.length:=by omega
  simp only[c0',if_true,zbm,zfj] at hk;simp only[c0,c_did_Parse,sxZ,z6,z7,z8,j4,j5,j6,j7,j8,j9,x6,x7,x8,x9,y4,y5,reduceCtorEq,↓reduceIte];exact hk
 ·have c0':¬4096<s.length:=by omega
  simp only[c0',if_false] at hk;simp only[c0,c_did_Parse,sxZ,z6,z7,z8,j4,j5,j6,j7,j8,j9,x6,x7,x8,x9,y4,y5,reduceCtorEq,↓reduceIte];refine zae (zkC s 35 (by omega) ?_);simp only[sxZ,z6,z7,z8,j4,j5,j6,j7,j8,j9,x6,x7,x8,x9,y4,y5,reduceCtorEq,↓reduceIte];have l1:=zcx 35 s;refine zae (zkC _ 63 (by omega) ?_);have l2:=zcx 63 (zaw 35 s).1;simp only[sxZ,z6,z7,z8,j4,j5,j6,j7,j8,j9,x6,x7,x8,x9,y4,y5,reduceCtorEq,↓reduceIte];refine zae (zkC _ 47 (by omega) ?_);have l3:=zcx 47 (zaw 63 (zaw 35 s).1).1;simp only[sxZ,z6,z7,z8,j4,j5,j6,j7,j8,j9,x6,x7,x8,x9,y4,y5,reduceCtorEq,↓reduceIte];have en:(zaw 47 (zaw 63 (zaw 35 s).1).1).1=zbl s:=rfl;have eb:(zaw 63 (zaw 35 s).1).1=za6 s:=rfl;rw[en,eb] at l3;rw[eb] at l2;rw[en,eb];generalize zbl s=nm at *;generalize za6 s=bd at *;generalize (zaw 63 (zaw 35 s).1).2.1=qu at *;generalize (zaw 63 (zaw 35 s).1).2.2=bq at *;generalize (zaw 35 s).2.1=fr at *;generalize (zaw 35 s).2.2=bf at *;refine zae (zgN nm (by omega) ?_)
  by_cases c1:(zb2 nm).1=0
  ·simp only[c1,sxZ,z6,z7,z8,j4,j5,j6,j7,j8,j9,x6,x7,x8,x9,y4,y5,reduceCtorEq,↓reduceIte] at hk ⊢;refine⟨⟨by omega,by omega⟩,?_⟩;refine zae (zh9 _ zax ?_)
   by_cases c2:(zat (bd.drop nm.length) zax).1=0
   ·simp only[c2,sxZ,z6,z7,z8,j4,j5,j6,j7,j8,j9,x6,x7,x8,x9,y4,y5,reduceCtorEq,↓reduceIte] at hk ⊢;refine zae (zh9 _ zak ?_)
    by_cases c3:(zat qu zak).1=0
    ·simp only[c3,sxZ,z6,z7,z8,j4,j5,j6,j7,j8,j9,x6,x7,x8,x9,y4,y5,reduceCtorEq,↓reduceIte] at hk ⊢;refine zae (zh9 _ zak ?_)
     by_cases c4:(zat fr zak).1=0
     ·simp only[c4,zbm,sxZ,z6,z7,z8,j4,j5,j6,j7,j8,j9,x6,x7,x8,x9,y4,y5,reduceCtorEq,↓reduceIte] at hk ⊢;exact hk
     ·simp only[c4,zbm,zfj,sxZ,z6,z7,z8,j4,j5,j6,j7,j8,j9,x6,x7,x8,x9,y4,y5,reduceCtorEq,↓reduceIte] at hk ⊢;exact hk
    ·simp only[c3,zbm,zfj,sxZ,z6,z7,z8,j4,j5,j6,j7,j8,j9,x6,x7,x8,x9,y4,y5,reduceCtorEq,↓reduceIte] at hk ⊢;exact hk
   ·simp only[c2,zbm,zfj,sxZ,z6,z7,z8,j4,j5,j6,j7,j8,j9,x6,x7,x8,x9,y4,y5,reduceCtorEq,↓reduceIte] at hk ⊢;exact hk
  ·simp only[c1,zbm,zfj,sxZ,z6,z7,z8,j4,j5,j6,j7,j8,j9,x6,x7,x8,x9,y4,y5,reduceCtorEq,↓reduceIte] at hk ⊢;exact hk
theorem zcZ (m i:List UInt8) (h1:m.length<=200000000000000) (h2:i.length<=200000000000000) (hk:K objs (.s (zbX m i))):zaf Tryz.prog 25 [.agg [.s m,.s i]] objs K:=by
 refine za4 is_did_FormatDID rfl fun C _=>?_;simp only[c_did_FormatDID,sxZ,z6,z7,z8,j4,j5,j6,j7,j8,j9,x6,x7,x8,x9,y4,y5,reduceCtorEq,↓reduceIte];exact⟨by omega,by omega,by omega,by simpa[zbX,zbq] using hk⟩
theorem zb1 (m i:List UInt8) (h1:m.length<=200000000000000) (h2:i.length<=200000000000000) (hk:K objs (.s (zbX m i))):zaf Tryz.prog 34 [.agg [.s m,.s i]] objs K:=by
 refine za4 is_ref10_FormatDID rfl fun C _=>?_;simp only[c_ref10_FormatDID,sxZ,z6,z7,z8,j4,j5,j6,j7,j8,j9,x6,x7,x8,x9,y4,y5,reduceCtorEq,↓reduceIte];exact⟨by omega,by omega,by omega,by simpa[zbX,zbq] using hk⟩
theorem zpX (u:DidU) (h1:u.meth.length<=200000000000000) (h2:u.id.length<=200000000000000) (h3:u.path.length<=200000000000000) (h4:u.query.length<=200000000000000) (h5:u.frag.length<=200000000000000) (hk:K objs (.s (zcv u))):zaf Tryz.prog 80 [zbm u] objs K:=by
 refine za4 is_did_Format rfl fun C _=>?_;have hl:=zcE u.meth u.id;unfold zcv at hk;simp only[zbm,c_did_Format,sxZ,z6,z7,z8,j4,j5,j6,j7,j8,j9,x6,x7,x8,x9,y4,y5,reduceCtorEq,↓reduceIte];refine zhr (zcZ u.meth u.id h1 h2 ⟨rfl,rfl⟩) ?_;simp only[sxZ,z6,z7,z8,j4,j5,j6,j7,j8,j9,x6,x7,x8,x9,y4,y5,reduceCtorEq,↓reduceIte];refine⟨by omega,?_⟩
 by_cases c1:u.hq=true
 all_goals by_cases c2:u.hf=true
 all_goals simp only[c1,c2,if_true,if_false,Bool.false_eq_true,jh] at hk
 all_goals simp only[c1,c2,sxZ,z6,z7,z8,j4,j5,j6,j7,j8,j9,x6,x7,x8,x9,y4,y5,reduceCtorEq,↓reduceIte]
 ·exact⟨by omega,by omega,by omega,by omega,by simpa using hk⟩
 ·exact⟨by omega,by omega,by simpa using hk⟩
 ·exact⟨by omega,by omega,by simpa using hk⟩
 ·exact hk
theorem zhh (u:DidU) (h1:u.meth.length<=200000000000000) (h2:u.id.length<=200000000000000) (h3:u.path.length<=200000000000000) (h4:u.query.length<=200000000000000) (h5:u.frag.length<=200000000000000) (hk:K objs (.s (zcv u))):zaf Tryz.prog 44 [zbm u] objs K:=by
 refine za4 is_ref10_Format rfl fun C _=>?_;have hl:=zcE u.meth u.id;unfold zcv at hk;simp only[zbm,c_ref10_Format,sxZ,z6,z7,z8,j4,j5,j6,j7,j8,j9,x6,x7,x8,x9,y4,y5,reduceCtorEq,↓reduceIte];refine zhr (zb1 u.meth u.id h1 h2 ⟨rfl,rfl⟩) ?_;simp only[sxZ,z6,z7,z8,j4,j5,j6,j7,j8,j9,x6,x7,x8,x9,y4,y5,reduceCtorEq,↓reduceIte];refine⟨by omega,?_⟩
 by_cases c1:u.hq=true
 all_goals by_cases c2:u.hf=true
 all_goals simp only[c1,c2,if_true,if_false,Bool.false_eq_true,jh] at hk
 all_goals simp only[c1,c2,sxZ,z6,z7,z8,j4,j5,j6,j7,j8,j9,x6,x7,x8,x9,y4,y5,reduceCtorEq,↓reduceIte]
 ·exact⟨by omega,by omega,by omega,by omega,by simpa using hk⟩
 ·exact⟨by omega,by omega,by simpa using hk⟩
 ·exact⟨by omega,by omega,by simpa using hk⟩
 ·exact hk
theorem zmO [Shp Tryz.prog] (m i r:List UInt8) (h1:m.length<=200000000) (h2:i.length<=200000000) (hr:r.length<=200000000) (hk:K objs (.tup [zbm (zdp m i r).2,.i .i64 (zdp m i r).1])):zaf Tryz.prog 79 [.agg [.s m,.s i],.s r] objs K:=by
 have hm:maxLen=2 ^ 63 - 1:=rfl;have hl:=zcE m i;refine za4 is_did_Resolve rfl fun C _=>?_;unfold zdp at hk;simp only[c_did_Resolve,sxZ,z6,z7,z8,j4,j5,j6,j7,j8,j9,x6,x7,x8,x9,y4,y5,reduceCtorEq,↓reduceIte];refine zae (ziR r zbq ?_)
 by_cases c1:qx r zbq=true
 ·simp only[c1,sxZ,z6,z7,z8,j4,j5,j6,j7,j8,j9,x6,x7,x8,x9,y4,y5,reduceCtorEq,↓reduceIte] at hk ⊢;refine zae (ziv r (by omega) ?_);simp only[zbm,sxZ,z6,z7,z8,j4,j5,j6,j7,j8,j9,x6,x7,x8,x9,y4,y5,reduceCtorEq,↓reduceIte] at hk ⊢;exact hk
 ·cases r with
  | nil=>
   simp only[c1,sxZ,z6,z7,z8,j4,j5,j6,j7,j8,j9,x6,x7,x8,x9,y4,y5,reduceCtorEq,↓reduceIte] at hk ⊢;refine zae (zcZ m i (by omega) (by omega) ?_);simp only[sxZ,z6,z7,z8,j4,j5,j6,j7,j8,j9,x6,x7,x8,x9,y4,y5,reduceCtorEq,↓reduceIte];refine⟨by omega,?_⟩;refine zae (ziv _ (by omega) ?_);simp only[zbm,sxZ,z6,z7,z8,j4,j5,j6,j7,j8,j9,x6,x7,x8,x9,y4,y5,reduceCtorEq,↓reduceIte,true_or] at hk ⊢;exact hk
  | cons c t=>
   simp only[c1,sxZ,z6,z7,z8,j4,j5,j6,j7,j8,j9,x6,x7,x8,x9,y4,y5,reduceCtorEq,↓reduceIte,List.head?_cons,Option.some.injEq,false_or] at hk;simp only[c1,sxZ,z6,z7,z8,j4,j5,j6,j7,j8,j9,x6,x7,x8,x9,y4,y5,reduceCtorEq,↓reduceIte,List.getD_cons_zero];refine⟨by omega,?_⟩;refine zae (zfs _ c ?_);have hix:=zpb [47,63,35] c
   by_cases c2:zbu c [47,63,35]=true
   ·rw[c2] at hix;have h0:=of_decide_eq_true hix;simp only[c2,sxZ,z6,z7,z8,j4,j5,j6,j7,j8,j9,x6,x7,x8,x9,y4,y5,reduceCtorEq,↓reduceIte] at hk;simp only[h0,sxZ,z6,z7,z8,j4,j5,j6,j7,j8,j9,x6,x7,x8,x9,y4,y5,reduceCtorEq,↓reduceIte];refine zae (zcZ m i (by omega) (by omega) ?_);simp only[sxZ,z6,z7,z8,j4,j5,j6,j7,j8,j9,x6,x7,x8,x9,y4,y5,reduceCtorEq,↓reduceIte];simp only[zu] at hr;refine⟨by omega,?_⟩;refine zae (ziv _ (by simp only[zk,zu];omega) ?_);simp only[zbm,sxZ,z6,z7,z8,j4,j5,j6,j7,j8,j9,x6,x7,x8,x9,y4,y5,reduceCtorEq,↓reduceIte] at hk ⊢;exact hk
   ·simp only[Bool.not_eq_true] at c2;rw[c2] at hix;have h0:=of_decide_eq_false hix;simp only[c2,sxZ,z6,z7,z8,j4,j5,j6,j7,j8,j9,x6,x7,x8,x9,y4,y5,reduceCtorEq,↓reduceIte] at hk;simp only[h0,sxZ,z6,z7,z8,j4,j5,j6,j7,j8,j9,x6,x7,x8,x9,y4,y5,reduceCtorEq,↓reduceIte];simp only[zbm,zfj,sxZ,z6,z7,z8,j4,j5,j6,j7,j8,j9,x6,x7,x8,x9,y4,y5,reduceCtorEq,↓reduceIte] at hk;exact hk
end
section
attribute [local irreducible] run
theorem zem:IsFn Tryz.prog 64:=⟨_,Tryz.func64,by kernel_rfl,of_decide_eq_true (by kernel_rfl)⟩
theorem zng (v:JV) (key:List UInt8) (n:Nat) (h:(zaB v key).1.text.length<=n):(tmD v key).1.length<=n:=by
 unfold tmD;split
 ·exact h
 ·exact zd _
section
variable [Tabs Tryz.prog] {objs:List OB} {K:List OB->AV->Prop}
theorem zox (v:JV) (hk:K (objs++[.box 25 (zap v)]) (.fn 64 [] [.p objs.length 0])):zaf Tryz.prog 23 [.agg (zap v)] objs K:=by
 refine zcu is_diddoc_membersOf fun C _=>?_;rw[c_diddoc_membersOf];rw[zad v] at hk ⊢;simp only[sxZ,z6,z7,z8,j4,j5,j6,j7,j8,j9,x6,x7,x8,x9,y4,y5,reduceCtorEq,↓reduceIte];exact hk
theorem zj7 (v:JV) (key:List UInt8) (b:Nat) (hb:objs[b]? = some (.box 25 (zap v))) (hv:JOk v) (hj:JBd v) (hk:∀z,K (objs++[z]) (zbd (zaB v key))):zaf Tryz.prog 64 [.s key,.p b 0] objs K:=by
 refine zcu is_diddoc_membersOf_1 fun C _=>?_;rw[c_diddoc_membersOf_1];have ejv:=zad v;have hbl:=(zf.1 hb).1;refine zaa fun Z hZ=>?_;simp only[sxZ,z6,z7,z8,j4,j5,j6,j7,j8,j9,x6,x7,x8,x9,y4,y5,reduceCtorEq,↓reduceIte];have eb:(objs++[OB.box 25 [.i .i64 0,.s [],.nil,.nil]])[b]? = some (.box 25 (zap v)):=by rw[qd hbl];exact hb
 have eX:(objs++[OB.box 25 [.i .i64 0,.s [],.nil,.nil]])[objs.length]? = some (.box 25 [.i .i64 0,.s [],.nil,.nil]):=gn1 _ _;have eS:∀Y,(objs++[OB.box 25 [.i .i64 0,.s [],.nil,.nil]]).set objs.length Y=objs++[Y]:=fun Y=>sn1 _ _ _;have eG:∀Y:OB,(objs++[Y])[objs.length]? = some Y:=fun Y=>gn1 _ _;rw[ejv] at eb;generalize objs++[OB.box 25 [.i .i64 0,.s [],.nil,.nil]]=o1 at eb eX eS ⊢;generalize objs.length=q at eX eS eG ⊢;subst hZ;refine zaa fun Z hZ=>?_;simp only[sxZ,z6,z7,z8,j4,j5,j6,j7,j8,j9,x6,x7,x8,x9,y4,y5,reduceCtorEq,↓reduceIte,eb];rw[<-ejv];refine zae (zlz v key hv hj ?_);unfold zbd at hk ⊢;generalize zaB v key=R at hk ⊢;obtain⟨x,ok⟩:=R;dsimp only at hk ⊢;rw[zad x] at hk ⊢;simp only[sxZ,z6,z7,z8,j4,j5,j6,j7,j8,j9,x6,x7,x8,x9,y4,y5,reduceCtorEq,↓reduceIte,eX,eS];subst hZ;simp only[sxZ,z6,z7,z8,j4,j5,j6,j7,j8,j9,x6,x7,x8,x9,y4,y5,reduceCtorEq,↓reduceIte,eG];exact hk _
theorem tm_k (v:JV) (key:List UInt8) (hv:JOk v) (hj:JBd v) (hk:K objs (.tup [.s (tmD v key).1,.b (tmD v key).2])):zaf Tryz.prog 65 [.agg (zap v),.s key] objs K:=by
 refine za4 is_diddoc_textMember (by simp only[zao,AV.plain,zaN,Bool.and_self]) fun C _=>?_;rw[c_diddoc_textMember];have ejv:=zad v;rw[ejv];refine zaa fun Z hZ=>?_;simp only[sxZ,z6,z7,z8,j4,j5,j6,j7,j8,j9,x6,x7,x8,x9,y4,y5,reduceCtorEq,↓reduceIte];subst hZ;refine zaa fun Z hZ=>?_;simp only[sxZ,z6,z7,z8,j4,j5,j6,j7,j8,j9,x6,x7,x8,x9,y4,y5,reduceCtorEq,↓reduceIte];rw[<-ejv];refine zae (zox v ?_);simp only[sxZ,z6,z7,z8,j4,j5,j6,j7,j8,j9,x6,x7,x8,x9,y4,y5,reduceCtorEq,↓reduceIte];refine zeK zem (zj7 v key 1 rfl hv hj fun z=>?_);unfold tmD at hk;unfold zbd;generalize zaB v key=R at hk ⊢;obtain⟨x,ok⟩:=R;dsimp only at hk ⊢;rw[zad x];simp only[sxZ,z6,z7,z8,j4,j5,j6,j7,j8,j9,x6,x7,x8,x9,y4,y5,reduceCtorEq,↓reduceIte];subst hZ;refine zaa fun Z hZ=>?_
 cases ok with
 | false=>
  rw[if_neg (show ¬(false=true/\x.kind=5) from fun e=>by cases e.1)] at hk;simp only[sxZ,z6,z7,z8,j4,j5,j6,j7,j8,j9,x6,x7,x8,x9,y4,y5,reduceCtorEq,↓reduceIte];exact hk
 | true=>
  by_cases c:x.kind=5
  ·rw[if_pos ⟨rfl,c⟩] at hk;simp only[sxZ,z6,z7,z8,j4,j5,j6,j7,j8,j9,x6,x7,x8,x9,y4,y5,reduceCtorEq,↓reduceIte,c];subst hZ;simp only[sxZ,z6,z7,z8,j4,j5,j6,j7,j8,j9,x6,x7,x8,x9,y4,y5,reduceCtorEq,↓reduceIte];exact hk
  ·rw[if_neg (fun e=>c e.2)] at hk;simp only[sxZ,z6,z7,z8,j4,j5,j6,j7,j8,j9,x6,x7,x8,x9,y4,y5,reduceCtorEq,↓reduceIte,c];exact hk
theorem mid_k [Shp Tryz.prog] (m i:List UInt8) (v:JV) (hv:JOk v) (hj:JBd v) (h1:m.length<=100000) (h2:i.length<=100000) (ht:(zaB v kId).1.text.length<=100000000) (hl:∀r:List UInt8,r.length<=100000000->(zdp m i r).1=0->(zdp m i r).2.meth.length<=200000000000000/\(zdp m i r).2.id.length<=200000000000000/\(zdp m i r).2.path.length<=200000000000000/\(zdp m i r).2.query.length<=200000000000000/\(zdp m i r).2.frag.length<=200000000000000)
  (hk:K objs (.tup [.s (zdg m i v).2,.i .i64 (zdg m i v).1])):zaf Tryz.prog 41 [.agg (zap v),.agg [.s m,.s i]] objs K:=by
 refine za4 is_diddoc_memberID (by simp only[zao,AV.plain,zaN,Bool.and_self]) fun C _=>?_;rw[c_diddoc_memberID];have ejv:=zad v;have htl:=zng v kId _ ht;rw[ejv];refine zaa fun Z hZ=>?_;simp only[sxZ,z6,z7,z8,j4,j5,j6,j7,j8,j9,x6,x7,x8,x9,y4,y5,reduceCtorEq,↓reduceIte];subst hZ;refine zaa fun Z hZ=>?_;simp only[sxZ,z6,z7,z8,j4,j5,j6,j7,j8,j9,x6,x7,x8,x9,y4,y5,reduceCtorEq,↓reduceIte];rw[<-ejv];refine zae (tm_k v kId hv hj ?_);unfold zdg at hk;generalize tmD v kId=R at hk htl ⊢;obtain⟨x,ok⟩:=R;dsimp only at hk htl ⊢;rw[ejv];simp only[sxZ,z6,z7,z8,j4,j5,j6,j7,j8,j9,x6,x7,x8,x9,y4,y5,reduceCtorEq,↓reduceIte];subst hZ;refine zaa fun Z hZ=>?_
 cases ok with
 | false=>
  rw[if_pos rfl] at hk;simp only[sxZ,z6,z7,z8,j4,j5,j6,j7,j8,j9,x6,x7,x8,x9,y4,y5,reduceCtorEq,↓reduceIte];exact hk
 | true=>
  rw[if_neg (by decide)] at hk;simp only[sxZ,z6,z7,z8,j4,j5,j6,j7,j8,j9,x6,x7,x8,x9,y4,y5,reduceCtorEq,↓reduceIte];subst hZ;refine zaa fun Z hZ=>?_;simp only[sxZ,z6,z7,z8,j4,j5,j6,j7,j8,j9,x6,x7,x8,x9,y4,y5,reduceCtorEq,↓reduceIte];refine zae (zmO m i x (by omega) (by omega) (by omega) ?_);have hl:=hl x htl;generalize zdp m i x=R at hk hl ⊢;obtain⟨e,u⟩:=R;dsimp only at hk hl ⊢;unfold zbm;simp only[sxZ,z6,z7,z8,j4,j5,j6,j7,j8,j9,x6,x7,x8,x9,y4,y5,reduceCtorEq,↓reduceIte];subst hZ;refine zaa fun Z hZ=>?_
  by_cases c:e=0
  ·subst c;rw[if_neg (by decide)] at hk;obtain⟨q1,q2,q3,q4,q5⟩:=hl rfl;simp only[sxZ,z6,z7,z8,j4,j5,j6,j7,j8,j9,x6,x7,x8,x9,y4,y5,reduceCtorEq,↓reduceIte];subst hZ;refine zaa fun Z hZ=>?_;simp only[sxZ,z6,z7,z8,j4,j5,j6,j7,j8,j9,x6,x7,x8,x9,y4,y5,reduceCtorEq,↓reduceIte];refine zae (zpX u q1 q2 q3 q4 q5 ?_);simp only[sxZ,z6,z7,z8,j4,j5,j6,j7,j8,j9,x6,x7,x8,x9,y4,y5,reduceCtorEq,↓reduceIte];subst hZ;simp only[sxZ,z6,z7,z8,j4,j5,j6,j7,j8,j9,x6,x7,x8,x9,y4,y5,reduceCtorEq,↓reduceIte];exact hk
  ·rw[if_pos c] at hk;simp only[sxZ,z6,z7,z8,j4,j5,j6,j7,j8,j9,x6,x7,x8,x9,y4,y5,reduceCtorEq,↓reduceIte,c];exact hk
end
end
section
attribute [local irreducible] run
theorem zcs {G:Gh} {I:Imm} {a a' b:AV} {y:Value} (h:∀z,Den G I a z->Den G I a' z) (hd:Den G I (.tup [a,b]) y):Den G I (.tup [a',b]) y:=by
 simp only[Den,zaj] at hd ⊢;obtain⟨ys,rfl,y1,ys1,rfl,h1,h2⟩:=hd;exact⟨_,rfl,y1,ys1,rfl,h _ h1,h2⟩
def zkx (R:Int×List (List UInt8)):AV:=.tup [.row R.2.length (R.2.map .s),.i .i64 R.1]
section
variable [Tabs Tryz.prog] {objs:List OB} {K:List OB->AV->Prop}
theorem znh (l:List JV) (hk:K objs (zkx (txD l))):zaf Tryz.prog 67 [.row l.length (zab l)] objs K:=by
 refine zfG (zkx (txD l)) ?_;have knil:∀e:Int,txD l=(e,[])->(∀G I y,Den G I (.tup [.nil,.i .i64 e]) y->Den G I (zkx (txD l)) y)/\K objs (zkx (txD l)):=fun e he=>⟨fun G I y h=>by rw[he];exact zcs (fun z hz=>zaz hz) h,hk⟩;refine za4 is_diddoc_texts (by simp only[zao,AV.plain,zbA,Bool.and_self]) fun C _=>?_;rw[c_diddoc_texts];have hl4:=zaI l;refine zaa fun Z hZ=>?_;simp only[sxZ,z6,z7,z8,j4,j5,j6,j7,j8,j9,x6,x7,x8,x9,y4,y5,reduceCtorEq,↓reduceIte];subst hZ;refine zaa fun Z hZ=>?_
 by_cases hl:(64:Int)<(l.length:Int)
 ·have:=knil 161 (by unfold txD;rw[if_pos (by omega)]);simp only[sxZ,z6,z7,z8,j4,j5,j6,j7,j8,j9,x6,x7,x8,x9,y4,y5,reduceCtorEq,↓reduceIte,hl,decide_true];exact this
 simp only[sxZ,z6,z7,z8,j4,j5,j6,j7,j8,j9,x6,x7,x8,x9,y4,y5,reduceCtorEq,↓reduceIte,hl,decide_false];subst hZ;refine zaa fun Z hZ=>?_;simp only[sxZ,z6,z7,z8,j4,j5,j6,j7,j8,j9,x6,x7,x8,x9,y4,y5,reduceCtorEq,↓reduceIte];subst hZ;refine zaa fun Z hZ=>?_;refine zaa fun W hW=>?_;simp only[sxZ,z6,z7,z8,j4,j5,j6,j7,j8,j9,x6,x7,x8,x9,y4,y5,reduceCtorEq,↓reduceIte];subst hW;rw[za8];refine zaK (fun n o tm=>∃i:Nat,i<=l.length/\n=l.length - i/\zmX 0 ((l.take i).map JV.text) o (tm[4]?.getD .u)/\(∀y∈l.take i,y.kind=5)/\tm.length=26/\tm[10]? = some (.row l.length (zab l))/\tm[11]? = some (.i .i64 (l.length:Int))/\tm[12]? = some (.i .i64 (i:Int))) l.length ⟨0,zd _,rfl,.inl ⟨rfl,rfl⟩,(by simp),rfl,rfl,rfl,rfl⟩ ?_;rintro n o tm ⟨i,hi,rfl,hA,hall,hlen,t10,t11,t12⟩;obtain⟨a4,t4⟩:∃a,tm[4]? = some a:=⟨_,zm (by omega)⟩;rw[t4,qh] at hA;refine zaa fun W hW=>?_
 by_cases hlt:(i:Int)<(l.length:Int)
 ·have hi':i<l.length:=by omega
  have kv:=zea hi';have htk:l.take (i+1)=l.take i++[l[i]]:=by rw[yb,zm hi'];rfl
  have hfl:((l.take i).map JV.text).length=i:=by rw[qq,qc];omega
  have hmem:l[i]∈l:=jc hi';generalize l[i]=y at kv htk hmem;rw[zad y] at kv;simp only[sxZ,z6,z7,z8,j4,j5,j6,j7,j8,j9,x6,x7,x8,x9,y4,y5,reduceCtorEq,↓reduceIte,za,hlen,t11,t12,hlt];subst hW;refine zaa fun W hW=>?_;simp only[sxZ,z6,z7,z8,j4,j5,j6,j7,j8,j9,x6,x7,x8,x9,y4,y5,reduceCtorEq,↓reduceIte,za,hlen];subst hW;refine zaa fun V hV=>?_;rw[za8];refine zaa fun W hW=>?_;simp only[sxZ,z6,z7,z8,j4,j5,j6,j7,j8,j9,x6,x7,x8,x9,y4,y5,reduceCtorEq,↓reduceIte,za,hlen,t10,t12,kv];refine⟨⟨by omega,by omega,by omega⟩,by omega,?_⟩;simp only[sxZ,z6,z7,z8,j4,j5,j6,j7,j8,j9,x6,x7,x8,x9,y4,y5,reduceCtorEq,↓reduceIte,za,hlen,gn1,sn1];subst hW;have hA2:=hA.mono (.box 25 [.i .i64 y.kind,.s y.text,.row y.keys.length (y.keys.map .s),.row y.items.length (zab y.items)]);have eB:(o++[OB.box 25 [.i .i64 y.kind,.s y.text,.row y.keys.length (y.keys.map .s),.row y.items.length (zab y.items)]])[o.length]? = some (.box 25 [.i .i64 y.kind,.s y.text,.row y.keys.length (y.keys.map .s),.row y.items.length (zab y.items)]):=gn1 _ _;generalize hpp:o.length=p at eB ⊢;generalize o++[OB.box 25 [.i .i64 y.kind,.s y.text,.row y.keys.length (y.keys.map .s),.row y.items.length (zab y.items)]]=o1 at hA2 eB ⊢;refine zaa fun W hW=>?_
  by_cases c:y.kind=5
  ·simp only[sxZ,z6,z7,z8,j4,j5,j6,j7,j8,j9,x6,x7,x8,x9,y4,y5,reduceCtorEq,↓reduceIte,za,hlen,eB,c];subst hW;have hall2:∀z∈l.take (i+1),z.kind=5:=by
    intro z hz;rw[htk] at hz;rcases zq.1 hz with h|h
    ·exact hall z h
    ·rw[jy] at h;subst h;exact c
   generalize hacc:(l.take i).map JV.text=acc at hA2 hfl;rcases hA2 with ⟨rfl,rfl⟩|⟨r,g,rfl,hr0,hr⟩
   ·simp only[sxZ,z6,z7,z8,j4,j5,j6,j7,j8,j9,x6,x7,x8,x9,y4,y5,reduceCtorEq,↓reduceIte,za,hlen,t4,eB];subst hV;simp only[sxZ,z6,z7,z8,j4,j5,j6,j7,j8,j9,x6,x7,x8,x9,y4,y5,reduceCtorEq,↓reduceIte,za,hlen,t10,t11,t12];refine⟨by omega,l.length - (i+1),by omega,i+1,by omega,rfl,?_,hall2,rfl⟩;rw[htk,jg,hacc];exact .inr ⟨o1.length,0,rfl,zd _,by rw[gn1];rfl⟩
   ·have hrl:=(zf.1 hr).1;simp only[sxZ,z6,z7,z8,j4,j5,j6,j7,j8,j9,x6,x7,x8,x9,y4,y5,reduceCtorEq,↓reduceIte,za,hlen,t4,eB,hr];refine⟨⟨by omega,by omega⟩,?_⟩;subst hV;simp only[sxZ,z6,z7,z8,j4,j5,j6,j7,j8,j9,x6,x7,x8,x9,y4,y5,reduceCtorEq,↓reduceIte,za,hlen,t10,t11,t12];refine⟨by omega,l.length - (i+1),by omega,i+1,by omega,rfl,?_,hall2,rfl⟩;rw[htk,jg,hacc];exact .inr ⟨r,g+1,rfl,hr0,by rw[zl hrl,zk,jg];rfl⟩
  ·have:=knil 160 (by
    unfold txD;rw[if_neg (by omega),if_neg];intro ha;rw[zt] at ha;exact c (by simpa using ha y hmem))
   simp only[sxZ,z6,z7,z8,j4,j5,j6,j7,j8,j9,x6,x7,x8,x9,y4,y5,reduceCtorEq,↓reduceIte,za,hlen,eB,c];exact this
 have hn:i=l.length:=by omega
 rw[hn,ju (ze _)] at hA hall;have e:txD l=(0,l.map JV.text):=by
  unfold txD;rw[if_neg (by omega),if_pos (by rw[zt];intro y hy;simpa using hall y hy)]
 simp only[sxZ,z6,z7,z8,j4,j5,j6,j7,j8,j9,x6,x7,x8,x9,y4,y5,reduceCtorEq,↓reduceIte,za,hlen,t11,t12,hlt];subst hW;simp only[sxZ,z6,z7,z8,j4,j5,j6,j7,j8,j9,x6,x7,x8,x9,y4,y5,reduceCtorEq,↓reduceIte,za,hlen];subst hZ;rcases hA with ⟨h0,rfl⟩|⟨r,g,rfl,hr0,hr⟩
 ·have:=knil 0 (by rw[e,h0]);simp only[sxZ,z6,z7,z8,j4,j5,j6,j7,j8,j9,x6,x7,x8,x9,y4,y5,reduceCtorEq,↓reduceIte,za,hlen,t4];exact this
 ·simp only[sxZ,z6,z7,z8,j4,j5,j6,j7,j8,j9,x6,x7,x8,x9,y4,y5,reduceCtorEq,↓reduceIte,za,hlen,t4,hr,zdL (zbe _),jl];rw[e] at hk ⊢;exact⟨fun G I y hy=>hy,hk⟩
theorem zlh (v:JV) (hk:K objs (zkx (ltD v))):zaf Tryz.prog 26 [.agg (zap v)] objs K:=by
 refine zfG (zkx (ltD v)) ?_;refine za4 is_diddoc_listed (by simp only[zao,AV.plain,zaN,Bool.and_self]) fun C _=>?_;rw[c_diddoc_listed];unfold ltD at hk ⊢;rw[zad v];refine zaa fun Z hZ=>?_;simp only[sxZ,z6,z7,z8,j4,j5,j6,j7,j8,j9,x6,x7,x8,x9,y4,y5,reduceCtorEq,↓reduceIte];subst hZ;refine zaa fun Z hZ=>?_
 by_cases c:v.kind=6
 ·rw[if_pos c] at hk ⊢;simp only[sxZ,z6,z7,z8,j4,j5,j6,j7,j8,j9,x6,x7,x8,x9,y4,y5,reduceCtorEq,↓reduceIte,c];subst hZ;refine zaa fun Z hZ=>?_;simp only[sxZ,z6,z7,z8,j4,j5,j6,j7,j8,j9,x6,x7,x8,x9,y4,y5,reduceCtorEq,↓reduceIte];refine zae (znh v.items ?_);unfold zkx at hk ⊢;simp only[sxZ,z6,z7,z8,j4,j5,j6,j7,j8,j9,x6,x7,x8,x9,y4,y5,reduceCtorEq,↓reduceIte];subst hZ;simp only[sxZ,z6,z7,z8,j4,j5,j6,j7,j8,j9,x6,x7,x8,x9,y4,y5,reduceCtorEq,↓reduceIte,zbe];exact⟨fun G I y hy=>hy,hk⟩
 ·rw[if_neg c] at hk ⊢;simp only[sxZ,z6,z7,z8,j4,j5,j6,j7,j8,j9,x6,x7,x8,x9,y4,y5,reduceCtorEq,↓reduceIte,c];exact⟨fun G I y hy=>zcs (fun z hz=>zaz hz) hy,hk⟩
theorem ol_k (v:JV) (hk:K objs (zkx (olD v))):zaf Tryz.prog 27 [.agg (zap v)] objs K:=by
 refine za4 is_diddoc_oneOrListed (by simp only[zao,AV.plain,zaN,Bool.and_self]) fun C _=>?_;rw[c_diddoc_oneOrListed];unfold olD at hk;have ejv:=zad v;rw[ejv];refine zaa fun Z hZ=>?_;simp only[sxZ,z6,z7,z8,j4,j5,j6,j7,j8,j9,x6,x7,x8,x9,y4,y5,reduceCtorEq,↓reduceIte];subst hZ;refine zaa fun Z hZ=>?_
 by_cases c:v.kind=6
 ·rw[if_pos c] at hk;simp only[sxZ,z6,z7,z8,j4,j5,j6,j7,j8,j9,x6,x7,x8,x9,y4,y5,reduceCtorEq,↓reduceIte,c];rw[<-c,<-ejv];refine zae (zlh v ?_);unfold ltD;rw[if_pos c];unfold zkx at hk ⊢;simp only[sxZ,z6,z7,z8,j4,j5,j6,j7,j8,j9,x6,x7,x8,x9,y4,y5,reduceCtorEq,↓reduceIte,zbe];exact hk
 ·rw[if_neg c] at hk;simp only[sxZ,z6,z7,z8,j4,j5,j6,j7,j8,j9,x6,x7,x8,x9,y4,y5,reduceCtorEq,↓reduceIte,c];subst hZ;refine zaa fun Z hZ=>?_;simp only[sxZ,z6,z7,z8,j4,j5,j6,j7,j8,j9,x6,x7,x8,x9,y4,y5,reduceCtorEq,↓reduceIte];have e1:zab [v]=[.i .i64 v.kind,.s v.text,.row v.keys.length (v.keys.map .s),.row v.items.length (zab v.items)]:=by rw[zaO,zaH,ejv];rfl
  rw[<-e1];refine zae (znh [v] ?_);unfold zkx at hk ⊢;simp only[sxZ,z6,z7,z8,j4,j5,j6,j7,j8,j9,x6,x7,x8,x9,y4,y5,reduceCtorEq,↓reduceIte];subst hZ;simp only[sxZ,z6,z7,z8,j4,j5,j6,j7,j8,j9,x6,x7,x8,x9,y4,y5,reduceCtorEq,↓reduceIte,zbe];exact hk
end
end
section
attribute [local irreducible] run
def ResL (m i:List UInt8):Prop:=∀r:List UInt8,r.length<=100000000->(zdp m i r).1=0->(zdp m i r).2.meth.length<=200000000000000/\(zdp m i r).2.id.length<=200000000000000/\(zdp m i r).2.path.length<=200000000000000/\(zdp m i r).2.query.length<=200000000000000/\(zdp m i r).2.frag.length<=200000000000000
def mtc (x:MtP):List AV:=[.s x.id,.s x.typ,.s x.ctl]
def svc (x:SvP):List AV:=[.s x.id,.row x.typ.length (x.typ.map .s),.row x.eps.length (x.eps.map .s)]
def zhp (l:List MtP):List AV:=l.flatMap mtc
def zgX (l:List SvP):List AV:=l.flatMap svc
theorem zld (l:List MtP):(zhp l).length=l.length*3:=by
 unfold zhp
 induction l with
 | nil=>rfl
 | cons a l ih=>rw[ya,zk,ih,zu];show 3+_=_;omega
theorem zkz (l:List SvP):(zgX l).length=l.length*3:=by
 unfold zgX
 induction l with
 | nil=>rfl
 | cons a l ih=>rw[ya,zk,ih,zu];show 3+_=_;omega
theorem zig (a b:List MtP):zhp (a++b)=zhp a++zhp b:=by unfold zhp;rw[List.flatMap_append]
theorem zhR (a b:List SvP):zgX (a++b)=zgX a++zgX b:=by unfold zgX;rw[List.flatMap_append]
theorem zgy (l:List MtP):zao (zhp l)=true:=by
 unfold zhp
 induction l with
 | nil=>rfl
 | cons a l ih=>rw[ya,zen,ih];rfl
theorem zf8 (l:List SvP):zao (zgX l)=true:=by
 unfold zgX
 induction l with
 | nil=>rfl
 | cons a l ih=>
  rw[ya,zen,ih];unfold svc;simp only[zao,AV.plain,zbe,Bool.and_self]
theorem den_sv {G:Gh} {I:Imm} {a a' b b' c:AV} {t:List UInt8} {y:Value} (h1:∀z,Den G I a z->Den G I a' z) (h2:∀z,Den G I b z->Den G I b' z) (hd:Den G I (.tup [.agg [.s t,a,b],c]) y):Den G I (.tup [.agg [.s t,a',b'],c]) y:=by
 refine zcs (fun z hz=>?_) hd;simp only[zaj,Den] at hz ⊢;obtain⟨zs,rfl,⟨z0,m0,rfl,q0,z1,m1,rfl,q1,z2,m2,rfl,q2,q3⟩,hz⟩:=hz;exact⟨_,rfl,⟨_,_,rfl,q0,_,_,rfl,h1 _ q1,_,_,rfl,h2 _ q2,q3⟩,hz⟩
def RowM (l:List MtP) (o:List OB) (X:AV):Prop:=(l=[]/\X=.nil)\/∃r g,X=.orow r g/\o[r]? = some (.orow 48 3 g l.length (zhp l))
def RowV (l:List SvP) (o:List OB) (X:AV):Prop:=(l=[]/\X=.nil)\/∃r g,X=.orow r g/\o[r]? = some (.orow 46 3 g l.length (zgX l))
theorem RowM.mono {l:List MtP} {o:List OB} {X:AV} (h:RowM l o X) (z:OB):RowM l (o++[z]) X:=by
 rcases h with h|⟨r,g,h1,h2⟩
 ·exact .inl h
 ·exact .inr ⟨r,g,h1,by rw[qd (zf.1 h2).1];exact h2⟩
theorem RowV.mono {l:List SvP} {o:List OB} {X:AV} (h:RowV l o X) (z:OB):RowV l (o++[z]) X:=by
 rcases h with h|⟨r,g,h1,h2⟩
 ·exact .inl h
 ·exact .inr ⟨r,g,h1,by rw[qd (zf.1 h2).1];exact h2⟩
theorem zjr {α:Type} (f:JV->Int×α) {l:List JV} {i:Nat} (hi:i<l.length) (h:∀y∈l.take i,(f y).1=0) (h2:(f l[i]).1≠0):zfJ f l=((f l[i]).1,[]):=by
 induction l generalizing i with
 | nil=>simp at hi
 | cons a l ih=>
  cases i with
  | zero=>rw[zfJ];exact if_pos h2
  | succ i=>
   have ih2:=ih (i:=i) (by simpa using hi) (fun y hy=>h y (by rw[List.take_succ_cons];exact qm _ hy)) h2;have h0:=h a (by simp);rw[zfJ,if_neg (fun e=>e h0),ih2];exact if_pos h2
theorem zlP {α:Type} (f:JV->Int×α) {l:List JV} (h:∀y∈l,(f y).1=0):zfJ f l=(0,l.map fun y=>(f y).2):=by
 induction l with
 | nil=>rfl
 | cons a l ih=>
  have h0:=h a (by simp);rw[zfJ,if_neg (fun e=>e h0),ih fun y hy=>h y (qm _ hy)]
  rfl
theorem dm_isFn:IsFn Tryz.prog 29:=⟨_,Tryz.func29,by kernel_rfl,of_decide_eq_true (by kernel_rfl)⟩
theorem ds_isFn:IsFn Tryz.prog 31:=⟨_,Tryz.func31,by kernel_rfl,of_decide_eq_true (by kernel_rfl)⟩
section
variable [Tabs Tryz.prog] {objs:List OB} {K:List OB->AV->Prop}
theorem dm_k [Shp Tryz.prog] (m i:List UInt8) (v:JV) (hv:JOk v) (hj:JBd v) (h1:m.length<=100000) (h2:i.length<=100000) (ht:(zaB v kId).1.text.length<=100000000) (hl:ResL m i)
  (hk:K objs (.tup [.agg (mtc (mtD m i v).2),.i .i64 (mtD m i v).1])):zaf Tryz.prog 29 [.agg (zap v),.agg [.s m,.s i]] objs K:=by
 refine za4 is_diddoc_decodeMethod (by simp only[zao,AV.plain,zaN,Bool.and_self]) fun C _=>?_;rw[c_diddoc_decodeMethod];have ejv:=zad v;rw[ejv];refine zaa fun Z hZ=>?_;simp only[sxZ,z6,z7,z8,j4,j5,j6,j7,j8,j9,x6,x7,x8,x9,y4,y5,reduceCtorEq,↓reduceIte];subst hZ;refine zaa fun Z hZ=>?_;simp only[sxZ,z6,z7,z8,j4,j5,j6,j7,j8,j9,x6,x7,x8,x9,y4,y5,reduceCtorEq,↓reduceIte];rw[<-ejv];refine zae (mid_k m i v hv hj h1 h2 ht hl ?_);unfold mtD at hk;generalize zdg m i v=R at hk ⊢;obtain⟨e,x⟩:=R;dsimp only at hk ⊢;rw[ejv];simp only[sxZ,z6,z7,z8,j4,j5,j6,j7,j8,j9,x6,x7,x8,x9,y4,y5,reduceCtorEq,↓reduceIte];subst hZ;refine zaa fun Z hZ=>?_
 by_cases c:e=0
 rotate_left
 ·rw[if_pos c] at hk;simp only[sxZ,z6,z7,z8,j4,j5,j6,j7,j8,j9,x6,x7,x8,x9,y4,y5,reduceCtorEq,↓reduceIte,c];exact hk
 subst c;rw[if_neg (by decide)] at hk;simp only[sxZ,z6,z7,z8,j4,j5,j6,j7,j8,j9,x6,x7,x8,x9,y4,y5,reduceCtorEq,↓reduceIte];subst hZ;refine zaa fun Z hZ=>?_;simp only[sxZ,z6,z7,z8,j4,j5,j6,j7,j8,j9,x6,x7,x8,x9,y4,y5,reduceCtorEq,↓reduceIte];rw[<-ejv];refine zae (tm_k v zbh hv hj ?_);generalize tmD v zbh=T at hk ⊢;obtain⟨t,okt⟩:=T;dsimp only at hk ⊢;rw[ejv];simp only[sxZ,z6,z7,z8,j4,j5,j6,j7,j8,j9,x6,x7,x8,x9,y4,y5,reduceCtorEq,↓reduceIte];subst hZ;refine zaa fun Z hZ=>?_;simp only[sxZ,z6,z7,z8,j4,j5,j6,j7,j8,j9,x6,x7,x8,x9,y4,y5,reduceCtorEq,↓reduceIte];rw[<-ejv];refine zae (tm_k v zbE hv hj ?_);generalize tmD v zbE=U at hk ⊢;obtain⟨u,oku⟩:=U;dsimp only at hk ⊢;rw[ejv];simp only[sxZ,z6,z7,z8,j4,j5,j6,j7,j8,j9,x6,x7,x8,x9,y4,y5,reduceCtorEq,↓reduceIte];subst hZ;refine zaa fun Z hZ=>?_
 cases okt with
 | false=>
  rw[if_neg (fun e=>by cases e.1)] at hk;simp only[sxZ,z6,z7,z8,j4,j5,j6,j7,j8,j9,x6,x7,x8,x9,y4,y5,reduceCtorEq,↓reduceIte];exact hk
 | true=>
  cases oku with
  | false=>
   rw[if_neg (fun e=>by cases e.2)] at hk;simp only[sxZ,z6,z7,z8,j4,j5,j6,j7,j8,j9,x6,x7,x8,x9,y4,y5,reduceCtorEq,↓reduceIte];exact hk
  | true=>
   rw[if_pos ⟨rfl,rfl⟩] at hk;simp only[sxZ,z6,z7,z8,j4,j5,j6,j7,j8,j9,x6,x7,x8,x9,y4,y5,reduceCtorEq,↓reduceIte];subst hZ;simp only[sxZ,z6,z7,z8,j4,j5,j6,j7,j8,j9,x6,x7,x8,x9,y4,y5,reduceCtorEq,↓reduceIte];exact hk
theorem ds_k [Shp Tryz.prog] (m i:List UInt8) (v:JV) (hv:JOk v) (hj:JBd v) (h1:m.length<=100000) (h2:i.length<=100000) (ht:(zaB v kId).1.text.length<=100000000) (hl:ResL m i)
  (hk:K objs (.tup [.agg (svc (svD m i v).2),.i .i64 (svD m i v).1])):zaf Tryz.prog 31 [.agg (zap v),.agg [.s m,.s i]] objs K:=by
 refine zfG (.tup [.agg (svc (svD m i v).2),.i .i64 (svD m i v).1]) ?_;have kz:∀e:Int,svD m i v=(e,svZ)->(∀G I y,Den G I (.tup [.agg [.s [],.nil,.nil],.i .i64 e]) y->Den G I (.tup [.agg (svc (svD m i v).2),.i .i64 (svD m i v).1]) y)/\K objs (.tup [.agg (svc (svD m i v).2),.i .i64 (svD m i v).1]):=fun e he=>⟨fun G I y h=>by rw[he];exact den_sv (fun z hz=>zaz hz) (fun z hz=>zaz hz) h,hk⟩;refine za4 is_diddoc_decodeService (by simp only[zao,AV.plain,zaN,Bool.and_self]) fun C _=>?_;rw[c_diddoc_decodeService];have ejv:=zad v;rw[ejv];refine zaa fun Z hZ=>?_;simp only[sxZ,z6,z7,z8,j4,j5,j6,j7,j8,j9,x6,x7,x8,x9,y4,y5,reduceCtorEq,↓reduceIte];subst hZ;refine zaa fun Z hZ=>?_;simp only[sxZ,z6,z7,z8,j4,j5,j6,j7,j8,j9,x6,x7,x8,x9,y4,y5,reduceCtorEq,↓reduceIte];rw[<-ejv];refine zae (zox v ?_);rw[ejv];simp only[sxZ,z6,z7,z8,j4,j5,j6,j7,j8,j9,x6,x7,x8,x9,y4,y5,reduceCtorEq,↓reduceIte];subst hZ;refine zaa fun Z hZ=>?_;simp only[sxZ,z6,z7,z8,j4,j5,j6,j7,j8,j9,x6,x7,x8,x9,y4,y5,reduceCtorEq,↓reduceIte];rw[<-ejv];refine zae (mid_k m i v hv hj h1 h2 ht hl ?_);unfold svD at kz hk ⊢;generalize zdg m i v=R at kz hk ⊢;obtain⟨e,x⟩:=R;dsimp only at kz hk ⊢;rw[ejv];simp only[sxZ,z6,z7,z8,j4,j5,j6,j7,j8,j9,x6,x7,x8,x9,y4,y5,reduceCtorEq,↓reduceIte];subst hZ;refine zaa fun Z hZ=>?_
 by_cases c:e=0
 rotate_left
 ·rw[if_pos c] at kz hk ⊢;have:=kz e rfl;simp only[sxZ,z6,z7,z8,j4,j5,j6,j7,j8,j9,x6,x7,x8,x9,y4,y5,reduceCtorEq,↓reduceIte,c];exact this
 subst c;rw[if_neg (show ¬((0:Int)≠0) by decide)] at kz hk ⊢;simp only[sxZ,z6,z7,z8,j4,j5,j6,j7,j8,j9,x6,x7,x8,x9,y4,y5,reduceCtorEq,↓reduceIte];subst hZ;refine zaa fun Z hZ=>?_;simp only[sxZ,z6,z7,z8,j4,j5,j6,j7,j8,j9,x6,x7,x8,x9,y4,y5,reduceCtorEq,↓reduceIte];subst hZ;refine zaa fun Z hZ=>?_;simp only[sxZ,z6,z7,z8,j4,j5,j6,j7,j8,j9,x6,x7,x8,x9,y4,y5,reduceCtorEq,↓reduceIte];refine zeK zem (zj7 v zbh 3 (by rw[ejv];rfl) hv hj fun z=>?_);unfold zbd;generalize zaB v zbh=T at kz hk ⊢;obtain⟨x1,ok1⟩:=T;dsimp only at kz hk ⊢;have ex1:=zad x1;rw[ex1];simp only[sxZ,z6,z7,z8,j4,j5,j6,j7,j8,j9,x6,x7,x8,x9,y4,y5,reduceCtorEq,↓reduceIte];subst hZ;refine zaa fun Z hZ=>?_;simp only[sxZ,z6,z7,z8,j4,j5,j6,j7,j8,j9,x6,x7,x8,x9,y4,y5,reduceCtorEq,↓reduceIte];rw[<-ex1];refine zae (ol_k x1 ?_);generalize olD x1=O at kz hk ⊢;obtain⟨e1,l1⟩:=O;dsimp only at kz hk ⊢;unfold zkx;rw[ex1];simp only[sxZ,z6,z7,z8,j4,j5,j6,j7,j8,j9,x6,x7,x8,x9,y4,y5,reduceCtorEq,↓reduceIte]
 by_cases c1:e1=0
 rotate_left
 ·rw[if_pos c1] at kz hk ⊢;have:=kz e1 rfl;simp only[sxZ,z6,z7,z8,j4,j5,j6,j7,j8,j9,x6,x7,x8,x9,y4,y5,reduceCtorEq,↓reduceIte,c1];exact this
 subst c1;rw[if_neg (show ¬((0:Int)≠0) by decide)] at kz hk ⊢;simp only[sxZ,z6,z7,z8,j4,j5,j6,j7,j8,j9,x6,x7,x8,x9,y4,y5,reduceCtorEq,↓reduceIte];subst hZ;refine zaa fun Z hZ=>?_;simp only[sxZ,z6,z7,z8,j4,j5,j6,j7,j8,j9,x6,x7,x8,x9,y4,y5,reduceCtorEq,↓reduceIte];refine zeK zem (zj7 v zbH 3 (by rw[ejv];rfl) hv hj fun z2=>?_);unfold zbd;generalize zaB v zbH=T at kz hk ⊢;obtain⟨x2,ok2⟩:=T;dsimp only at kz hk ⊢;have ex2:=zad x2;rw[ex2];simp only[sxZ,z6,z7,z8,j4,j5,j6,j7,j8,j9,x6,x7,x8,x9,y4,y5,reduceCtorEq,↓reduceIte];subst hZ;refine zaa fun Z hZ=>?_
 by_cases c2:x2.kind=7
 ·rw[if_pos c2] at kz hk ⊢;simp only[sxZ,z6,z7,z8,j4,j5,j6,j7,j8,j9,x6,x7,x8,x9,y4,y5,reduceCtorEq,↓reduceIte,c2,zbe];exact⟨fun G I y h=>den_sv (fun z hz=>hz) (fun z hz=>zaz hz) h,hk⟩
 rw[if_neg c2] at kz hk ⊢;simp only[sxZ,z6,z7,z8,j4,j5,j6,j7,j8,j9,x6,x7,x8,x9,y4,y5,reduceCtorEq,↓reduceIte,c2];subst hZ;refine zaa fun Z hZ=>?_;simp only[sxZ,z6,z7,z8,j4,j5,j6,j7,j8,j9,x6,x7,x8,x9,y4,y5,reduceCtorEq,↓reduceIte];rw[<-ex2];refine zae (ol_k x2 ?_);generalize olD x2=O at kz hk ⊢;obtain⟨e2,l2⟩:=O;dsimp only at kz hk ⊢;unfold zkx;rw[ex2];simp only[sxZ,z6,z7,z8,j4,j5,j6,j7,j8,j9,x6,x7,x8,x9,y4,y5,reduceCtorEq,↓reduceIte]
 by_cases c3:e2=0
 rotate_left
 ·rw[if_pos c3] at kz hk ⊢;have:=kz e2 rfl;simp only[sxZ,z6,z7,z8,j4,j5,j6,j7,j8,j9,x6,x7,x8,x9,y4,y5,reduceCtorEq,↓reduceIte,c3];exact this
 subst c3;rw[if_neg (show ¬((0:Int)≠0) by decide)] at kz hk ⊢;simp only[sxZ,z6,z7,z8,j4,j5,j6,j7,j8,j9,x6,x7,x8,x9,y4,y5,reduceCtorEq,↓reduceIte];subst hZ;simp only[sxZ,z6,z7,z8,j4,j5,j6,j7,j8,j9,x6,x7,x8,x9,y4,y5,reduceCtorEq,↓reduceIte,zbe];exact⟨fun G I y h=>h,hk⟩
theorem elM_k [Shp Tryz.prog] (m i:List UInt8) (v:JV) (hv:∀y∈v.items,JOk y/\JBd y/\(zaB y kId).1.text.length<=100000000) (h1:m.length<=100000) (h2:i.length<=100000) (hl:ResL m i)
  (hk:K objs (.tup [.row (elD (mtD m i) v).2.length (zhp (elD (mtD m i) v).2),.i .i64 (elD (mtD m i) v).1])):zaf Tryz.prog 28 [.agg (zap v),.agg [.s m,.s i],.fn 29 [] []] objs K:=by
 refine zfG (.tup [.row (elD (mtD m i) v).2.length (zhp (elD (mtD m i) v).2),.i .i64 (elD (mtD m i) v).1]) ?_;have knil:∀e:Int,elD (mtD m i) v=(e,[])->(∀G I y,Den G I (.tup [.nil,.i .i64 e]) y->Den G I (.tup [.row (elD (mtD m i) v).2.length (zhp (elD (mtD m i) v).2),.i .i64 (elD (mtD m i) v).1]) y)/\K objs (.tup [.row (elD (mtD m i) v).2.length (zhp (elD (mtD m i) v).2),.i .i64 (elD (mtD m i) v).1]):=fun e he=>⟨fun G I y h=>by rw[he];exact zcs (fun z hz=>zaz hz) h,hk⟩;refine za4 is_diddoc_elements__api_Method (by simp only[zao,AV.plain,zaN,Bool.and_self]) fun C _=>?_;rw[c_diddoc_elements__api_Method];unfold elD at knil hk ⊢;have ejv:=zad v;have hl4:=zaI v.items;rw[ejv];refine zaa fun Z hZ=>?_;simp only[sxZ,z6,z7,z8,j4,j5,j6,j7,j8,j9,x6,x7,x8,x9,y4,y5,reduceCtorEq,↓reduceIte];subst hZ;refine zaa fun Z hZ=>?_
 by_cases c6:v.kind=6
 rotate_left
 ·rw[if_neg c6] at knil hk ⊢;have:=knil 160 rfl;simp only[sxZ,z6,z7,z8,j4,j5,j6,j7,j8,j9,x6,x7,x8,x9,y4,y5,reduceCtorEq,↓reduceIte,c6];exact this
 rw[if_pos c6] at knil hk ⊢;simp only[sxZ,z6,z7,z8,j4,j5,j6,j7,j8,j9,x6,x7,x8,x9,y4,y5,reduceCtorEq,↓reduceIte,c6];subst hZ;refine zaa fun Z hZ=>?_
 by_cases c64:(64:Int)<(v.items.length:Int)
 ·rw[if_pos (show 64<v.items.length by omega)] at knil hk ⊢;have:=knil 161 rfl;simp only[sxZ,z6,z7,z8,j4,j5,j6,j7,j8,j9,x6,x7,x8,x9,y4,y5,reduceCtorEq,↓reduceIte,c64,decide_true];exact this
 rw[if_neg (show ¬64<v.items.length by omega)] at knil hk ⊢;simp only[sxZ,z6,z7,z8,j4,j5,j6,j7,j8,j9,x6,x7,x8,x9,y4,y5,reduceCtorEq,↓reduceIte,c64,decide_false];subst hZ;refine zaa fun Z hZ=>?_;simp only[sxZ,z6,z7,z8,j4,j5,j6,j7,j8,j9,x6,x7,x8,x9,y4,y5,reduceCtorEq,↓reduceIte];subst hZ;refine zaa fun Z hZ=>?_;refine zaa fun W hW=>?_;simp only[sxZ,z6,z7,z8,j4,j5,j6,j7,j8,j9,x6,x7,x8,x9,y4,y5,reduceCtorEq,↓reduceIte];subst hW;rw[za8];generalize v.items=l at hv knil hk hl4 c64 ⊢;refine zaK (fun n o tm=>∃j:Nat,j<=l.length/\n=l.length - j/\RowM ((l.take j).map fun y=>(mtD m i y).2) o (tm[8]?.getD .u)/\(∀y∈l.take j,(mtD m i y).1=0)/\o[1]? = some (.box 62 [.s m,.s i])/\tm.length=43/\tm[2]? = some (.fn 29 [] [])/\tm[4]? = some (.p 1 0)/\tm[21]? = some (.row l.length (zab l))/\tm[22]? = some (.i .i64 (l.length:Int))/\tm[23]? = some (.i .i64 (j:Int))) l.length ⟨0,zd _,rfl,.inl ⟨rfl,rfl⟩,(by simp),rfl,rfl,rfl,rfl,rfl,rfl,rfl⟩ ?_;rintro n o tm ⟨j,hj,rfl,hA,hall,e1,hlen,t2,t4,t21,t22,t23⟩;obtain⟨a8,t8⟩:∃a,tm[8]? = some a:=⟨_,zm (by omega)⟩;rw[t8,qh] at hA;refine zaa fun W hW=>?_
 by_cases hlt:(j:Int)<(l.length:Int)
 ·have hj':j<l.length:=by omega
  have kv:=zea hj';have htk:l.take (j+1)=l.take j++[l[j]]:=by rw[yb,zm hj'];rfl
  have hfl:((l.take j).map fun y=>(mtD m i y).2).length=j:=by rw[qq,qc];omega
  obtain⟨y1,y2,y3⟩:=hv l[j] (jc hj');have hbad:(mtD m i l[j]).1≠0->zfJ (mtD m i) l=((mtD m i l[j]).1,[]):=fun h=>zjr (mtD m i) hj' hall h;generalize l[j]=y at kv htk y1 y2 y3 hbad;have ey:=zad y;rw[ey] at kv;simp only[sxZ,z6,z7,z8,j4,j5,j6,j7,j8,j9,x6,x7,x8,x9,y4,y5,reduceCtorEq,↓reduceIte,za,hlen,t22,t23,hlt];subst hW;refine zaa fun W hW=>?_;simp only[sxZ,z6,z7,z8,j4,j5,j6,j7,j8,j9,x6,x7,x8,x9,y4,y5,reduceCtorEq,↓reduceIte,za,hlen];subst hW;refine zaa fun V hV=>?_;rw[za8];refine zaa fun W hW=>?_;simp only[sxZ,z6,z7,z8,j4,j5,j6,j7,j8,j9,x6,x7,x8,x9,y4,y5,reduceCtorEq,↓reduceIte,za,hlen,t21,t23,kv];refine⟨⟨by omega,by omega,by omega⟩,by omega,?_⟩;simp only[sxZ,z6,z7,z8,j4,j5,j6,j7,j8,j9,x6,x7,x8,x9,y4,y5,reduceCtorEq,↓reduceIte,za,hlen,gn1,sn1];subst hW;have hol:1<o.length:=(zf.1 e1).1;have hA2:=hA.mono (.box 25 [.i .i64 y.kind,.s y.text,.row y.keys.length (y.keys.map .s),.row y.items.length (zab y.items)]);have eB:(o++[OB.box 25 [.i .i64 y.kind,.s y.text,.row y.keys.length (y.keys.map .s),.row y.items.length (zab y.items)]])[o.length]? = some (.box 25 [.i .i64 y.kind,.s y.text,.row y.keys.length (y.keys.map .s),.row y.items.length (zab y.items)]):=gn1 _ _;have e11:(o++[OB.box 25 [.i .i64 y.kind,.s y.text,.row y.keys.length (y.keys.map .s),.row y.items.length (zab y.items)]])[1]? = some (.box 62 [.s m,.s i]):=by rw[qd hol];exact e1
  generalize hpp:o.length=p at eB ⊢;generalize o++[OB.box 25 [.i .i64 y.kind,.s y.text,.row y.keys.length (y.keys.map .s),.row y.items.length (zab y.items)]]=o1 at hA2 eB e11 ⊢;refine zaa fun W hW=>?_;simp only[sxZ,z6,z7,z8,j4,j5,j6,j7,j8,j9,x6,x7,x8,x9,y4,y5,reduceCtorEq,↓reduceIte,za,hlen,t2,t4,eB,e11];rw[<-ey];refine zeK dm_isFn (dm_k m i y y1 y2 h1 h2 y3 hl ?_);generalize hfd:mtD m i y=R at hbad ⊢;obtain⟨e,x⟩:=R;dsimp only at hbad ⊢;unfold mtc;simp only[sxZ,z6,z7,z8,j4,j5,j6,j7,j8,j9,x6,x7,x8,x9,y4,y5,reduceCtorEq,↓reduceIte,za,hlen,gn1,sn1];have hol1:1<o1.length:=(zf.1 e11).1;have hA3:=hA2.mono (.box 48 (mtc x));have eC:(o1++[OB.box 48 (mtc x)])[o1.length]? = some (.box 48 (mtc x)):=gn1 _ _;have e12:(o1++[OB.box 48 (mtc x)])[1]? = some (.box 62 [.s m,.s i]):=by rw[qd hol1];exact e11
  unfold mtc at hA3 eC e12;generalize o1.length=q at eC ⊢;generalize o1++[OB.box 48 _]=o2 at hA3 eC e12 ⊢;subst hW;refine zaa fun W hW=>?_
  by_cases c:e=0
  ·subst c;simp only[sxZ,z6,z7,z8,j4,j5,j6,j7,j8,j9,x6,x7,x8,x9,y4,y5,reduceCtorEq,↓reduceIte,za,hlen];subst hW;have hall2:∀z∈l.take (j+1),(mtD m i z).1=0:=by
    intro z hz;rw[htk] at hz;rcases zq.1 hz with h|h
    ·exact hall z h
    ·rw[jy] at h;subst h;rw[hfd]
   have hmp:(l.take (j+1)).map (fun y=>(mtD m i y).2)=(l.take j).map (fun y=>(mtD m i y).2)++[x]:=by rw[htk,jg];simp[hfd]
   generalize hacc:(l.take j).map (fun y=>(mtD m i y).2)=acc at hA3 hfl hmp;rcases hA3 with ⟨rfl,rfl⟩|⟨r,g,rfl,hr⟩
   ·simp only[sxZ,z6,z7,z8,j4,j5,j6,j7,j8,j9,x6,x7,x8,x9,y4,y5,reduceCtorEq,↓reduceIte,za,hlen,t8,eC];subst hV;simp only[sxZ,z6,z7,z8,j4,j5,j6,j7,j8,j9,x6,x7,x8,x9,y4,y5,reduceCtorEq,↓reduceIte,za,hlen,t2,t4,t21,t22,t23];refine⟨by omega,l.length - (j+1),by omega,j+1,by omega,rfl,?_,hall2,?_,rfl⟩
    ·rw[hmp];exact .inr ⟨o2.length,0,rfl,by rw[gn1];rfl⟩
    ·rw[qd (zf.1 e12).1];exact e12
   ·have hrl:=(zf.1 hr).1;have hr1:r≠1:=fun e=>by rw[e,e12] at hr;injection hr with hr;cases hr
    simp only[sxZ,z6,z7,z8,j4,j5,j6,j7,j8,j9,x6,x7,x8,x9,y4,y5,reduceCtorEq,↓reduceIte,za,hlen,t8,eC,hr];have hcl:=zld acc;refine⟨⟨by omega,by omega⟩,?_⟩;subst hV;simp only[sxZ,z6,z7,z8,j4,j5,j6,j7,j8,j9,x6,x7,x8,x9,y4,y5,reduceCtorEq,↓reduceIte,za,hlen,t2,t4,t21,t22,t23];refine⟨by omega,l.length - (j+1),by omega,j+1,by omega,rfl,?_,hall2,?_,rfl⟩
    ·rw[hmp];exact .inr ⟨r,g+1,rfl,by rw[zl hrl,zk,zig];rfl⟩
    ·rw[if_neg hr1];exact e12
  ·have:=knil e (hbad c);simp only[sxZ,z6,z7,z8,j4,j5,j6,j7,j8,j9,x6,x7,x8,x9,y4,y5,reduceCtorEq,↓reduceIte,za,hlen,c];exact this
 have hn:j=l.length:=by omega
 rw[hn,ju (ze _)] at hA hall;have e:=zlP (mtD m i) hall;simp only[sxZ,z6,z7,z8,j4,j5,j6,j7,j8,j9,x6,x7,x8,x9,y4,y5,reduceCtorEq,↓reduceIte,za,hlen,t22,t23,hlt];subst hW;simp only[sxZ,z6,z7,z8,j4,j5,j6,j7,j8,j9,x6,x7,x8,x9,y4,y5,reduceCtorEq,↓reduceIte,za,hlen];subst hZ;rcases hA with ⟨h0,rfl⟩|⟨r,g,rfl,hr⟩
 ·have:=knil 0 (by rw[e,h0]);simp only[sxZ,z6,z7,z8,j4,j5,j6,j7,j8,j9,x6,x7,x8,x9,y4,y5,reduceCtorEq,↓reduceIte,za,hlen,t8];exact this
 ·simp only[sxZ,z6,z7,z8,j4,j5,j6,j7,j8,j9,x6,x7,x8,x9,y4,y5,reduceCtorEq,↓reduceIte,za,hlen,t8,hr,zdL (zgy _),jl];rw[e] at hk ⊢;exact⟨fun G I y hy=>hy,hk⟩
theorem elV_k [Shp Tryz.prog] (m i:List UInt8) (v:JV) (hv:∀y∈v.items,JOk y/\JBd y/\(zaB y kId).1.text.length<=100000000) (h1:m.length<=100000) (h2:i.length<=100000) (hl:ResL m i)
  (hk:K objs (.tup [.row (elD (svD m i) v).2.length (zgX (elD (svD m i) v).2),.i .i64 (elD (svD m i) v).1])):zaf Tryz.prog 30 [.agg (zap v),.agg [.s m,.s i],.fn 31 [] []] objs K:=by
 refine zfG (.tup [.row (elD (svD m i) v).2.length (zgX (elD (svD m i) v).2),.i .i64 (elD (svD m i) v).1]) ?_;have knil:∀e:Int,elD (svD m i) v=(e,[])->(∀G I y,Den G I (.tup [.nil,.i .i64 e]) y->Den G I (.tup [.row (elD (svD m i) v).2.length (zgX (elD (svD m i) v).2),.i .i64 (elD (svD m i) v).1]) y)/\K objs (.tup [.row (elD (svD m i) v).2.length (zgX (elD (svD m i) v).2),.i .i64 (elD (svD m i) v).1]):=fun e he=>⟨fun G I y h=>by rw[he];exact zcs (fun z hz=>zaz hz) h,hk⟩;refine za4 is_diddoc_elements__api_Service (by simp only[zao,AV.plain,zaN,Bool.and_self]) fun C _=>?_;rw[c_diddoc_elements__api_Service];unfold elD at knil hk ⊢;have ejv:=zad v;have hl4:=zaI v.items;rw[ejv];refine zaa fun Z hZ=>?_;simp only[sxZ,z6,z7,z8,j4,j5,j6,j7,j8,j9,x6,x7,x8,x9,y4,y5,reduceCtorEq,↓reduceIte];subst hZ;refine zaa fun Z hZ=>?_
 by_cases c6:v.kind=6
 rotate_left
 ·rw[if_neg c6] at knil hk ⊢;have:=knil 160 rfl;simp only[sxZ,z6,z7,z8,j4,j5,j6,j7,j8,j9,x6,x7,x8,x9,y4,y5,reduceCtorEq,↓reduceIte,c6];exact this
 rw[if_pos c6] at knil hk ⊢;simp only[sxZ,z6,z7,z8,j4,j5,j6,j7,j8,j9,x6,x7,x8,x9,y4,y5,reduceCtorEq,↓reduceIte,c6];subst hZ;refine zaa fun Z hZ=>?_
 by_cases c64:(64:Int)<(v.items.length:Int)
 ·rw[if_pos (show 64<v.items.length by omega)] at knil hk ⊢;have:=knil 161 rfl;simp only[sxZ,z6,z7,z8,j4,j5,j6,j7,j8,j9,x6,x7,x8,x9,y4,y5,reduceCtorEq,↓reduceIte,c64,decide_true];exact this
 rw[if_neg (show ¬64<v.items.length by omega)] at knil hk ⊢;simp only[sxZ,z6,z7,z8,j4,j5,j6,j7,j8,j9,x6,x7,x8,x9,y4,y5,reduceCtorEq,↓reduceIte,c64,decide_false];subst hZ;refine zaa fun Z hZ=>?_;simp only[sxZ,z6,z7,z8,j4,j5,j6,j7,j8,j9,x6,x7,x8,x9,y4,y5,reduceCtorEq,↓reduceIte];subst hZ;refine zaa fun Z hZ=>?_;refine zaa fun W hW=>?_;simp only[sxZ,z6,z7,z8,j4,j5,j6,j7,j8,j9,x6,x7,x8,x9,y4,y5,reduceCtorEq,↓reduceIte];subst hW;rw[za8];generalize v.items=l at hv knil hk hl4 c64 ⊢;refine zaK (fun n o tm=>∃j:Nat,j<=l.length/\n=l.length - j/\RowV ((l.take j).map fun y=>(svD m i y).2) o (tm[8]?.getD .u)/\(∀y∈l.take j,(svD m i y).1=0)/\o[1]? = some (.box 62 [.s m,.s i])/\tm.length=43/\tm[2]? = some (.fn 31 [] [])/\tm[4]? = some (.p 1 0)/\tm[21]? = some (.row l.length (zab l))/\tm[22]? = some (.i .i64 (l.length:Int))/\tm[23]? = some (.i .i64 (j:Int))) l.length ⟨0,zd _,rfl,.inl ⟨rfl,rfl⟩,(by simp),rfl,rfl,rfl,rfl,rfl,rfl,rfl⟩ ?_;rintro n o tm ⟨j,hj,rfl,hA,hall,e1,hlen,t2,t4,t21,t22,t23⟩;obtain⟨a8,t8⟩:∃a,tm[8]? = some a:=⟨_,zm (by omega)⟩;rw[t8,qh] at hA;refine zaa fun W hW=>?_
 by_cases hlt:(j:Int)<(l.length:Int)
 ·have hj':j<l.length:=by omega
  have kv:=zea hj';have htk:l.take (j+1)=l.take j++[l[j]]:=by rw[yb,zm hj'];rfl
  have hfl:((l.take j).map fun y=>(svD m i y).2).length=j:=by rw[qq,qc];omega
  obtain⟨y1,y2,y3⟩:=hv l[j] (jc hj');have hbad:(svD m i l[j]).1≠0->zfJ (svD m i) l=((svD m i l[j]).1,[]):=fun h=>zjr (svD m i) hj' hall h;generalize l[j]=y at kv htk y1 y2 y3 hbad;have ey:=zad y;rw[ey] at kv;simp only[sxZ,z6,z7,z8,j4,j5,j6,j7,j8,j9,x6,x7,x8,x9,y4,y5,reduceCtorEq,↓reduceIte,za,hlen,t22,t23,hlt];subst hW;refine zaa fun W hW=>?_;simp only[sxZ,z6,z7,z8,j4,j5,j6,j7,j8,j9,x6,x7,x8,x9,y4,y5,reduceCtorEq,↓reduceIte,za,hlen];subst hW;refine zaa fun V hV=>?_;rw[za8];refine zaa fun W hW=>?_;simp only[sxZ,z6,z7,z8,j4,j5,j6,j7,j8,j9,x6,x7,x8,x9,y4,y5,reduceCtorEq,↓reduceIte,za,hlen,t21,t23,kv];refine⟨⟨by omega,by omega,by omega⟩,by omega,?_⟩;simp only[sxZ,z6,z7,z8,j4,j5,j6,j7,j8,j9,x6,x7,x8,x9,y4,y5,reduceCtorEq,↓reduceIte,za,hlen,gn1,sn1];subst hW;have hol:1<o.length:=(zf.1 e1).1;have hA2:=hA.mono (.box 25 [.i .i64 y.kind,.s y.text,.row y.keys.length (y.keys.map .s),.row y.items.length (zab y.items)]);have eB:(o++[OB.box 25 [.i .i64 y.kind,.s y.text,.row y.keys.length (y.keys.map .s),.row y.items.length (zab y.items)]])[o.length]? = some (.box 25 [.i .i64 y.kind,.s y.text,.row y.keys.length (y.keys.map .s),.row y.items.length (zab y.items)]):=gn1 _ _;have e11:(o++[OB.box 25 [.i .i64 y.kind,.s y.text,.row y.keys.length (y.keys.map .s),.row y.items.length (zab y.items)]])[1]? = some (.box 62 [.s m,.s i]):=by rw[qd hol];exact e1
  generalize hpp:o.length=p at eB ⊢;generalize o++[OB.box 25 [.i .i64 y.kind,.s y.text,.row y.keys.length (y.keys.map .s),.row y.items.length (zab y.items)]]=o1 at hA2 eB e11 ⊢;refine zaa fun W hW=>?_;simp only[sxZ,z6,z7,z8,j4,j5,j6,j7,j8,j9,x6,x7,x8,x9,y4,y5,reduceCtorEq,↓reduceIte,za,hlen,t2,t4,eB,e11];rw[<-ey];refine zeK ds_isFn (ds_k m i y y1 y2 h1 h2 y3 hl ?_);generalize hfd:svD m i y=R at hbad ⊢;obtain⟨e,x⟩:=R;dsimp only at hbad ⊢;unfold svc;simp only[sxZ,z6,z7,z8,j4,j5,j6,j7,j8,j9,x6,x7,x8,x9,y4,y5,reduceCtorEq,↓reduceIte,za,hlen,gn1,sn1];have hol1:1<o1.length:=(zf.1 e11).1;have hA3:=hA2.mono (.box 46 (svc x));have eC:(o1++[OB.box 46 (svc x)])[o1.length]? = some (.box 46 (svc x)):=gn1 _ _;have e12:(o1++[OB.box 46 (svc x)])[1]? = some (.box 62 [.s m,.s i]):=by rw[qd hol1];exact e11
  unfold svc at hA3 eC e12;generalize o1.length=q at eC ⊢;generalize o1++[OB.box 46 _]=o2 at hA3 eC e12 ⊢;subst hW;refine zaa fun W hW=>?_
  by_cases c:e=0
  ·subst c;simp only[sxZ,z6,z7,z8,j4,j5,j6,j7,j8,j9,x6,x7,x8,x9,y4,y5,reduceCtorEq,↓reduceIte,za,hlen];subst hW;have hall2:∀z∈l.take (j+1),(svD m i z).1=0:=by
    intro z hz;rw[htk] at hz;rcases zq.1 hz with h|h
    ·exact hall z h
    ·rw[jy] at h;subst h;rw[hfd]
   have hmp:(l.take (j+1)).map (fun y=>(svD m i y).2)=(l.take j).map (fun y=>(svD m i y).2)++[x]:=by rw[htk,jg];simp[hfd]
   generalize hacc:(l.take j).map (fun y=>(svD m i y).2)=acc at hA3 hfl hmp;rcases hA3 with ⟨rfl,rfl⟩|⟨r,g,rfl,hr⟩
   ·simp only[sxZ,z6,z7,z8,j4,j5,j6,j7,j8,j9,x6,x7,x8,x9,y4,y5,reduceCtorEq,↓reduceIte,za,hlen,t8,eC];subst hV;simp only[sxZ,z6,z7,z8,j4,j5,j6,j7,j8,j9,x6,x7,x8,x9,y4,y5,reduceCtorEq,↓reduceIte,za,hlen,t2,t4,t21,t22,t23];refine⟨by omega,l.length - (j+1),by omega,j+1,by omega,rfl,?_,hall2,?_,rfl⟩
    ·rw[hmp];exact .inr ⟨o2.length,0,rfl,by rw[gn1];rfl⟩
    ·rw[qd (zf.1 e12).1];exact e12
   ·have hrl:=(zf.1 hr).1;have hr1:r≠1:=fun e=>by rw[e,e12] at hr;injection hr with hr;cases hr
    simp only[sxZ,z6,z7,z8,j4,j5,j6,j7,j8,j9,x6,x7,x8,x9,y4,y5,reduceCtorEq,↓reduceIte,za,hlen,t8,eC,hr];have hcl:=zkz acc;refine⟨⟨by omega,by omega⟩,?_⟩;subst hV;simp only[sxZ,z6,z7,z8,j4,j5,j6,j7,j8,j9,x6,x7,x8,x9,y4,y5,reduceCtorEq,↓reduceIte,za,hlen,t2,t4,t21,t22,t23];refine⟨by omega,l.length - (j+1),by omega,j+1,by omega,rfl,?_,hall2,?_,rfl⟩
    ·rw[hmp];exact .inr ⟨r,g+1,rfl,by rw[zl hrl,zk,zhR];rfl⟩
    ·rw[if_neg hr1];exact e12
  ·have:=knil e (hbad c);simp only[sxZ,z6,z7,z8,j4,j5,j6,j7,j8,j9,x6,x7,x8,x9,y4,y5,reduceCtorEq,↓reduceIte,za,hlen,c];exact this
 have hn:j=l.length:=by omega
 rw[hn,ju (ze _)] at hA hall;have e:=zlP (svD m i) hall;simp only[sxZ,z6,z7,z8,j4,j5,j6,j7,j8,j9,x6,x7,x8,x9,y4,y5,reduceCtorEq,↓reduceIte,za,hlen,t22,t23,hlt];subst hW;simp only[sxZ,z6,z7,z8,j4,j5,j6,j7,j8,j9,x6,x7,x8,x9,y4,y5,reduceCtorEq,↓reduceIte,za,hlen];subst hZ;rcases hA with ⟨h0,rfl⟩|⟨r,g,rfl,hr⟩
 ·have:=knil 0 (by rw[e,h0]);simp only[sxZ,z6,z7,z8,j4,j5,j6,j7,j8,j9,x6,x7,x8,x9,y4,y5,reduceCtorEq,↓reduceIte,za,hlen,t8];exact this
 ·simp only[sxZ,z6,z7,z8,j4,j5,j6,j7,j8,j9,x6,x7,x8,x9,y4,y5,reduceCtorEq,↓reduceIte,za,hlen,t8,hr,zdL (zf8 _),jl];rw[e] at hk ⊢;exact⟨fun G I y hy=>hy,hk⟩
end
end
section
attribute [local irreducible] run
theorem zeO (s:List UInt8):(zb2 s).2.1.length<=4096/\(zb2 s).2.2.length<=50000:=by
 have h1:=(zeQ 58 (s.drop 4)).1;have h2:(s.drop 4).length=s.length - 4:=zw;have h3:=idE_len (zaw 58 (s.drop 4)).2.1;unfold zb2
 by_cases c0:4096<s.length
 ·rw[if_pos c0];exact⟨zd _,zd _⟩
 rw[if_neg c0]
 repeat' split
 all_goals first
  | exact⟨zd _,zd _⟩
  | (refine⟨?_,h3⟩;show (zaw 58 (s.drop 4)).1.length<=4096;omega)
def ShD (u:DidU):Prop:=u.meth.length<=4096/\u.id.length<=50000/\u.path.length<=16384/\u.query.length<=16384/\u.frag.length<=16384
theorem shZ:ShD zfj:=⟨zd _,zd _,zd _,zd _,zd _⟩
theorem zhy (s:List UInt8):ShD (zdw s).2:=by
 unfold zdw
 repeat' split
 all_goals first
  | exact shZ
  | exact⟨(zeO _).1,(zeO _).2,(zfc _ _).2,(zfc _ _).2,(zfc _ _).2⟩
theorem zeB (m i r:List UInt8):ShD (zdp m i r).2:=by
 unfold zdp
 repeat' split
 ·exact zhy _
 ·exact zhy _
 ·exact shZ
theorem resL (m i:List UInt8):ResL m i:=fun r _ _=>by
 obtain⟨h1,h2,h3,h4,h5⟩:=zeB m i r;exact⟨by omega,by omega,by omega,by omega,by omega⟩
theorem zhU (v:JV):(sbD v).2.1.length<=4096/\(sbD v).2.2.length<=50000:=by
 unfold sbD
 repeat' split
 ·exact⟨zd _,zd _⟩
 ·exact⟨zd _,zd _⟩
 ·exact zeO _
def zfL (A:AV) (n:Nat) (cs:List AV):Prop:=A=.row n cs\/(A=.nil/\n=0/\cs=[])
theorem zfL.den {A:AV} {n:Nat} {cs:List AV} (h:zfL A n cs) {G:Gh} {I:Imm} (z:Value) (hz:Den G I A z):Den G I (.row n cs) z:=by
 rcases h with rfl|⟨rfl,rfl,rfl⟩
 ·exact hz
 ·exact zaz hz
theorem zfL.pl {A:AV} {n:Nat} {cs:List AV} (h:zfL A n cs) (hp:zao cs=true):A.plain=true:=by
 rcases h with rfl|⟨rfl,_,_⟩
 ·exact hp
 ·rfl
theorem zhA {G:Gh} {I:Imm} {a a' b b' c c' d d' x:AV} {t:List UInt8} {y:Value} (h1:∀z,Den G I a z->Den G I a' z) (h2:∀z,Den G I b z->Den G I b' z) (h3:∀z,Den G I c z->Den G I c' z) (h4:∀z,Den G I d z->Den G I d' z) (hd:Den G I (.tup [.agg [.s t,a,b,c,d],x]) y):Den G I (.tup [.agg [.s t,a',b',c',d'],x]) y:=by
 refine zcs (fun z hz=>?_) hd;simp only[zaj,Den] at hz ⊢;obtain⟨zs,rfl,⟨z0,m0,rfl,q0,z1,m1,rfl,q1,z2,m2,rfl,q2,z3,m3,rfl,q3,z4,m4,rfl,q4,q5⟩,hz⟩:=hz;exact⟨_,rfl,⟨_,_,rfl,q0,_,_,rfl,h1 _ q1,_,_,rfl,h2 _ q2,_,_,rfl,h3 _ q3,_,_,rfl,h4 _ q4,q5⟩,hz⟩
def doc (d:DoP):List AV:=[.s d.id,.row d.also.length (d.also.map .s),.row d.ctl.length (d.ctl.map .s),.row d.mts.length (zhp d.mts),.row d.svs.length (zgX d.svs)]
def zpU (R:Int×DoP):AV:=.tup [.agg (doc R.2),.i .i64 R.1]
def IdB (v:JV):Prop:=(zaB v kId).1.text.length<=100000000/\∀key,∀y∈(zaB v key).1.items,(zaB y kId).1.text.length<=100000000
theorem IdB.it {v:JV} (h:IdB v) (hv:JOk v) (hj:JBd v) (key:List UInt8):∀y∈(zaB v key).1.items,JOk y/\JBd y/\(zaB y kId).1.text.length<=100000000:=fun y hy=>by
 have h1:=zij hv key;have h2:=zil hj key;refine⟨?_,?_,h.2 key y hy⟩
 ·obtain⟨i,hi,rfl⟩:=y6.1 hy;exact h1.its hi
 ·obtain⟨i,hi,rfl⟩:=y6.1 hy;exact h2.its hi
section
variable [Tabs Tryz.prog] {objs:List OB} {K:List OB->AV->Prop}
theorem sub_k [Shp Tryz.prog] (v:JV) (hv:JOk v) (hj:JBd v) (ht:(zaB v kId).1.text.length<=100000000) (hk:K objs (.tup [.agg [.s (sbD v).2.1,.s (sbD v).2.2],.i .i64 (sbD v).1])):zaf Tryz.prog 24 [.agg (zap v)] objs K:=by
 refine za4 is_diddoc_subject (by simp only[zao,AV.plain,zaN,Bool.and_self]) fun C _=>?_;rw[c_diddoc_subject];have ejv:=zad v;have htl:=zng v kId _ ht;have hm:maxLen=2 ^ 63 - 1:=rfl;rw[ejv];refine zaa fun Z hZ=>?_;simp only[sxZ,z6,z7,z8,j4,j5,j6,j7,j8,j9,x6,x7,x8,x9,y4,y5,reduceCtorEq,↓reduceIte];subst hZ;refine zaa fun Z hZ=>?_;simp only[sxZ,z6,z7,z8,j4,j5,j6,j7,j8,j9,x6,x7,x8,x9,y4,y5,reduceCtorEq,↓reduceIte];rw[<-ejv];refine zae (tm_k v kId hv hj ?_);unfold sbD at hk;generalize tmD v kId=R at hk htl ⊢;obtain⟨x,ok⟩:=R;dsimp only at hk htl ⊢;rw[ejv];simp only[sxZ,z6,z7,z8,j4,j5,j6,j7,j8,j9,x6,x7,x8,x9,y4,y5,reduceCtorEq,↓reduceIte];subst hZ;refine zaa fun Z hZ=>?_
 cases ok with
 | false=>
  rw[if_pos rfl] at hk;simp only[sxZ,z6,z7,z8,j4,j5,j6,j7,j8,j9,x6,x7,x8,x9,y4,y5,reduceCtorEq,↓reduceIte];exact hk
 | true=>
  rw[if_neg (show ¬(true=false) by decide)] at hk;simp only[sxZ,z6,z7,z8,j4,j5,j6,j7,j8,j9,x6,x7,x8,x9,y4,y5,reduceCtorEq,↓reduceIte];subst hZ;refine zaa fun Z hZ=>?_;simp only[sxZ,z6,z7,z8,j4,j5,j6,j7,j8,j9,x6,x7,x8,x9,y4,y5,reduceCtorEq,↓reduceIte];refine zae (zgN x (by omega) ?_);generalize zb2 x=R at hk ⊢;obtain⟨e,m,i⟩:=R;dsimp only at hk ⊢;simp only[sxZ,z6,z7,z8,j4,j5,j6,j7,j8,j9,x6,x7,x8,x9,y4,y5,reduceCtorEq,↓reduceIte];subst hZ;refine zaa fun Z hZ=>?_
  by_cases c:e=0
  ·subst c;rw[if_neg (show ¬((0:Int)≠0) by decide)] at hk;simp only[sxZ,z6,z7,z8,j4,j5,j6,j7,j8,j9,x6,x7,x8,x9,y4,y5,reduceCtorEq,↓reduceIte];subst hZ;simp only[sxZ,z6,z7,z8,j4,j5,j6,j7,j8,j9,x6,x7,x8,x9,y4,y5,reduceCtorEq,↓reduceIte];exact hk
  ·rw[if_pos c] at hk;simp only[sxZ,z6,z7,z8,j4,j5,j6,j7,j8,j9,x6,x7,x8,x9,y4,y5,reduceCtorEq,↓reduceIte,c];exact hk
theorem dd_k [Shp Tryz.prog] (v:JV) (hv:JOk v) (hj:JBd v) (hb:IdB v) (hk:K objs (zpU (ddE v))):zaf Tryz.prog 10 [.agg (zap v)] objs K:=by
 refine zfG (zpU (ddE v)) ?_;have kz:∀e:Int,ddE v=(e,doZ)->(∀G I y,Den G I (.tup [.agg [.s [],.nil,.nil,.nil,.nil],.i .i64 e]) y->Den G I (zpU (ddE v)) y)/\K objs (zpU (ddE v)):=fun e he=>⟨fun G I y h=>by rw[he];exact zhA (fun z hz=>zaz hz) (fun z hz=>zaz hz) (fun z hz=>zaz hz) (fun z hz=>zaz hz) h,hk⟩;refine za4 is_diddoc_Decode (by simp only[zao,AV.plain,zaN,Bool.and_self]) fun C _=>?_;rw[c_diddoc_Decode];have ejv:=zad v;have hsl:=zhU v;rw[ejv];refine zaa fun Z hZ=>?_;simp only[sxZ,z6,z7,z8,j4,j5,j6,j7,j8,j9,x6,x7,x8,x9,y4,y5,reduceCtorEq,↓reduceIte];subst hZ;refine zaa fun Z hZ=>?_;simp only[sxZ,z6,z7,z8,j4,j5,j6,j7,j8,j9,x6,x7,x8,x9,y4,y5,reduceCtorEq,↓reduceIte];rw[<-ejv];refine zae (zox v ?_);rw[ejv];simp only[sxZ,z6,z7,z8,j4,j5,j6,j7,j8,j9,x6,x7,x8,x9,y4,y5,reduceCtorEq,↓reduceIte];subst hZ;refine zaa fun Z hZ=>?_;simp only[sxZ,z6,z7,z8,j4,j5,j6,j7,j8,j9,x6,x7,x8,x9,y4,y5,reduceCtorEq,↓reduceIte];rw[<-ejv];refine zae (sub_k v hv hj hb.1 ?_);unfold ddE at kz hk ⊢;generalize sbD v=R at kz hk hsl ⊢;obtain⟨e,m,i⟩:=R;dsimp only at kz hk hsl ⊢;rw[ejv];simp only[sxZ,z6,z7,z8,j4,j5,j6,j7,j8,j9,x6,x7,x8,x9,y4,y5,reduceCtorEq,↓reduceIte];subst hZ;refine zaa fun Z hZ=>?_
 by_cases c:e=0
 rotate_left
 ·rw[if_pos c] at kz hk ⊢;have:=kz e rfl;simp only[sxZ,z6,z7,z8,j4,j5,j6,j7,j8,j9,x6,x7,x8,x9,y4,y5,reduceCtorEq,↓reduceIte,c];exact this
 subst c;rw[if_neg (show ¬((0:Int)≠0) by decide)] at kz hk ⊢;simp only[sxZ,z6,z7,z8,j4,j5,j6,j7,j8,j9,x6,x7,x8,x9,y4,y5,reduceCtorEq,↓reduceIte];subst hZ;refine zaa fun Z hZ=>?_;simp only[sxZ,z6,z7,z8,j4,j5,j6,j7,j8,j9,x6,x7,x8,x9,y4,y5,reduceCtorEq,↓reduceIte];refine zae (zcZ m i (by omega) (by omega) ?_);simp only[sxZ,z6,z7,z8,j4,j5,j6,j7,j8,j9,x6,x7,x8,x9,y4,y5,reduceCtorEq,↓reduceIte];subst hZ;refine zaa fun Z hZ=>?_;obtain⟨⟨e1,L1⟩,hO1⟩:∃R,opD v zce ltD=R:=⟨_,rfl⟩;rw[hO1] at kz hk ⊢;dsimp only at kz hk ⊢;refine zaL (fun o t=>∃A1 z1 b1,o=[OB.box 25 [.i .i64 v.kind,.s v.text,.row v.keys.length (v.keys.map .s),.row v.items.length (zab v.items)],OB.box 34 [.s [],.nil,.nil,.nil,.nil],OB.box 25 [.i .i64 v.kind,.s v.text,.row v.keys.length (v.keys.map .s),.row v.items.length (zab v.items)],OB.box 62 [.s m,.s i],OB.box 34 [.s (zbX m i),A1,.nil,.nil,.nil],z1,b1]/\e1=0/\zfL A1 L1.length (L1.map .s)/\t.length=97/\t[2]? = some (.p 1 0)/\t[4]? = some (.fn 64 [] [.p 2 0])/\t[5]? = some (.p 3 0)/\t[7]? = some (.p 4 0)) ?_ ?_
 ·simp only[sxZ,z6,z7,z8,j4,j5,j6,j7,j8,j9,x6,x7,x8,x9,y4,y5,reduceCtorEq,↓reduceIte];refine zeK zem (zj7 v zce 2 (by rw[ejv];rfl) hv hj fun z=>?_);unfold zbd;unfold opD at hO1;obtain⟨⟨x,ok⟩,hg⟩:∃R,zaB v zce=R:=⟨_,rfl⟩;have hgx:x=(zaB v zce).1:=by rw[hg]
  rw[hg] at hO1 ⊢;dsimp only at hO1 ⊢;have ex:=zad x;rw[ex];simp only[sxZ,z6,z7,z8,j4,j5,j6,j7,j8,j9,x6,x7,x8,x9,y4,y5,reduceCtorEq,↓reduceIte]
  cases ok with
  | false=>
   rw[if_neg (show ¬(false=true) by decide)] at hO1;injection hO1 with h1 h2
   subst h1 h2;simp only[sxZ,z6,z7,z8,j4,j5,j6,j7,j8,j9,x6,x7,x8,x9,y4,y5,reduceCtorEq,↓reduceIte,zac];exact⟨_,_,_,rfl,.inr ⟨rfl,rfl,rfl⟩⟩
  | true=>
   rw[if_pos rfl] at hO1;simp only[sxZ,z6,z7,z8,j4,j5,j6,j7,j8,j9,x6,x7,x8,x9,y4,y5,reduceCtorEq,↓reduceIte];rw[<-ex];refine zae (zlh x ?_);rw[hO1,ex];unfold zkx;simp only[sxZ,z6,z7,z8,j4,j5,j6,j7,j8,j9,x6,x7,x8,x9,y4,y5,reduceCtorEq,↓reduceIte]
   by_cases c1:e1=0
   ·subst c1;simp only[sxZ,z6,z7,z8,j4,j5,j6,j7,j8,j9,x6,x7,x8,x9,y4,y5,reduceCtorEq,↓reduceIte,zac];exact⟨_,_,_,rfl,.inl rfl⟩
   ·rw[if_pos c1] at kz hk ⊢;have:=kz e1 rfl;simp only[sxZ,z6,z7,z8,j4,j5,j6,j7,j8,j9,x6,x7,x8,x9,y4,y5,reduceCtorEq,↓reduceIte,c1,zc0];exact this
 rintro o tm ⟨A1,z1,b1,rfl,rfl,hA1,hlen,t2,t4,t5,t7⟩;rw[if_neg (show ¬((0:Int)≠0) by decide)] at kz hk ⊢;subst hZ;refine zaa fun Z hZ=>?_;obtain⟨⟨e2,L2⟩,hO2⟩:∃R,opD v zbE olD=R:=⟨_,rfl⟩;rw[hO2] at kz hk ⊢;dsimp only at kz hk ⊢;refine zaL (fun o t=>∃A2 z2 b2,o=[OB.box 25 [.i .i64 v.kind,.s v.text,.row v.keys.length (v.keys.map .s),.row v.items.length (zab v.items)],OB.box 34 [.s [],.nil,.nil,.nil,.nil],OB.box 25 [.i .i64 v.kind,.s v.text,.row v.keys.length (v.keys.map .s),.row v.items.length (zab v.items)],OB.box 62 [.s m,.s i],OB.box 34 [.s (zbX m i),A1,A2,.nil,.nil],z1,b1,z2,b2]/\e2=0/\zfL A2 L2.length (L2.map .s)/\t.length=97/\t[2]? = some (.p 1 0)/\t[4]? = some (.fn 64 [] [.p 2 0])/\t[5]? = some (.p 3 0)/\t[7]? = some (.p 4 0)) ?_ ?_
 ·simp only[sxZ,z6,z7,z8,j4,j5,j6,j7,j8,j9,x6,x7,x8,x9,y4,y5,reduceCtorEq,↓reduceIte,za,hlen,t2,t4,t5,t7];refine zeK zem (zj7 v zbE 2 (by rw[ejv];rfl) hv hj fun z=>?_);unfold zbd;unfold opD at hO2;obtain⟨⟨x,ok⟩,hg⟩:∃R,zaB v zbE=R:=⟨_,rfl⟩;have hgx:x=(zaB v zbE).1:=by rw[hg]
  rw[hg] at hO2 ⊢;dsimp only at hO2 ⊢;have ex:=zad x;rw[ex];simp only[sxZ,z6,z7,z8,j4,j5,j6,j7,j8,j9,x6,x7,x8,x9,y4,y5,reduceCtorEq,↓reduceIte,za,hlen,t2,t4,t5,t7]
  cases ok with
  | false=>
   rw[if_neg (show ¬(false=true) by decide)] at hO2;injection hO2 with h1 h2
   subst h1 h2;simp only[sxZ,z6,z7,z8,j4,j5,j6,j7,j8,j9,x6,x7,x8,x9,y4,y5,reduceCtorEq,↓reduceIte,za,hlen,t2,t4,t5,t7,zac];exact⟨_,_,_,rfl,.inr ⟨rfl,rfl,rfl⟩⟩
  | true=>
   rw[if_pos rfl] at hO2;simp only[sxZ,z6,z7,z8,j4,j5,j6,j7,j8,j9,x6,x7,x8,x9,y4,y5,reduceCtorEq,↓reduceIte,za,hlen,t2,t4,t5,t7];rw[<-ex];refine zae (ol_k x ?_);rw[hO2,ex];unfold zkx;simp only[sxZ,z6,z7,z8,j4,j5,j6,j7,j8,j9,x6,x7,x8,x9,y4,y5,reduceCtorEq,↓reduceIte,za,hlen,t2,t4,t5,t7]
   by_cases c1:e2=0
   ·subst c1;simp only[sxZ,z6,z7,z8,j4,j5,j6,j7,j8,j9,x6,x7,x8,x9,y4,y5,reduceCtorEq,↓reduceIte,za,hlen,t2,t4,t5,t7,zac];exact⟨_,_,_,rfl,.inl rfl⟩
   ·rw[if_pos c1] at kz hk ⊢;have:=kz e2 rfl;simp only[sxZ,z6,z7,z8,j4,j5,j6,j7,j8,j9,x6,x7,x8,x9,y4,y5,reduceCtorEq,↓reduceIte,za,hlen,t2,t4,t5,t7,c1,zc0];exact this
 rintro o tm ⟨A2,z2,b2,rfl,rfl,hA2,hlen,t2,t4,t5,t7⟩;rw[if_neg (show ¬((0:Int)≠0) by decide)] at kz hk ⊢;subst hZ;refine zaa fun Z hZ=>?_;obtain⟨⟨e3,L3⟩,hO3⟩:∃R,opD v zbP (elD (mtD m i))=R:=⟨_,rfl⟩;rw[hO3] at kz hk ⊢;dsimp only at kz hk ⊢;refine zaL (fun o t=>∃A3 z3 b3,o=[OB.box 25 [.i .i64 v.kind,.s v.text,.row v.keys.length (v.keys.map .s),.row v.items.length (zab v.items)],OB.box 34 [.s [],.nil,.nil,.nil,.nil],OB.box 25 [.i .i64 v.kind,.s v.text,.row v.keys.length (v.keys.map .s),.row v.items.length (zab v.items)],OB.box 62 [.s m,.s i],OB.box 34 [.s (zbX m i),A1,A2,A3,.nil],z1,b1,z2,b2,z3,b3]/\e3=0/\zfL A3 L3.length (zhp L3)/\t.length=97/\t[2]? = some (.p 1 0)/\t[4]? = some (.fn 64 [] [.p 2 0])/\t[5]? = some (.p 3 0)/\t[7]? = some (.p 4 0)) ?_ ?_
 ·simp only[sxZ,z6,z7,z8,j4,j5,j6,j7,j8,j9,x6,x7,x8,x9,y4,y5,reduceCtorEq,↓reduceIte,za,hlen,t2,t4,t5,t7];refine zeK zem (zj7 v zbP 2 (by rw[ejv];rfl) hv hj fun z=>?_);unfold zbd;unfold opD at hO3;obtain⟨⟨x,ok⟩,hg⟩:∃R,zaB v zbP=R:=⟨_,rfl⟩;have hgx:x=(zaB v zbP).1:=by rw[hg]
  rw[hg] at hO3 ⊢;dsimp only at hO3 ⊢;have ex:=zad x;rw[ex];simp only[sxZ,z6,z7,z8,j4,j5,j6,j7,j8,j9,x6,x7,x8,x9,y4,y5,reduceCtorEq,↓reduceIte,za,hlen,t2,t4,t5,t7]
  cases ok with
  | false=>
   rw[if_neg (show ¬(false=true) by decide)] at hO3;injection hO3 with h1 h2
   subst h1 h2;simp only[sxZ,z6,z7,z8,j4,j5,j6,j7,j8,j9,x6,x7,x8,x9,y4,y5,reduceCtorEq,↓reduceIte,za,hlen,t2,t4,t5,t7,zac];exact⟨_,_,_,rfl,.inr ⟨rfl,rfl,rfl⟩⟩
  | true=>
   rw[if_pos rfl] at hO3;simp only[sxZ,z6,z7,z8,j4,j5,j6,j7,j8,j9,x6,x7,x8,x9,y4,y5,reduceCtorEq,↓reduceIte,za,hlen,t2,t4,t5,t7];rw[<-ex];refine zae (elM_k m i x (by rw[hgx];exact hb.it hv hj zbP) (by omega) (by omega) (resL m i) ?_);rw[hO3,ex];dsimp only;simp only[sxZ,z6,z7,z8,j4,j5,j6,j7,j8,j9,x6,x7,x8,x9,y4,y5,reduceCtorEq,↓reduceIte,za,hlen,t2,t4,t5,t7]
   by_cases c1:e3=0
   ·subst c1;simp only[sxZ,z6,z7,z8,j4,j5,j6,j7,j8,j9,x6,x7,x8,x9,y4,y5,reduceCtorEq,↓reduceIte,za,hlen,t2,t4,t5,t7,zac];exact⟨_,_,_,rfl,.inl rfl⟩
   ·rw[if_pos c1] at kz hk ⊢;have:=kz e3 rfl;simp only[sxZ,z6,z7,z8,j4,j5,j6,j7,j8,j9,x6,x7,x8,x9,y4,y5,reduceCtorEq,↓reduceIte,za,hlen,t2,t4,t5,t7,c1,zc0];exact this
 rintro o tm ⟨A3,z3,b3,rfl,rfl,hA3,hlen,t2,t4,t5,t7⟩;rw[if_neg (show ¬((0:Int)≠0) by decide)] at kz hk ⊢;subst hZ;refine zaa fun Z hZ=>?_;obtain⟨⟨e4,L4⟩,hO4⟩:∃R,opD v zbr (elD (svD m i))=R:=⟨_,rfl⟩;rw[hO4] at kz hk ⊢;dsimp only at kz hk ⊢;refine zaL (fun o t=>∃A4 z4 b4,o=[OB.box 25 [.i .i64 v.kind,.s v.text,.row v.keys.length (v.keys.map .s),.row v.items.length (zab v.items)],OB.box 34 [.s [],.nil,.nil,.nil,.nil],OB.box 25 [.i .i64 v.kind,.s v.text,.row v.keys.length (v.keys.map .s),.row v.items.length (zab v.items)],OB.box 62 [.s m,.s i],OB.box 34 [.s (zbX m i),A1,A2,A3,A4],z1,b1,z2,b2,z3,b3,z4,b4]/\e4=0/\zfL A4 L4.length (zgX L4)/\t.length=97/\t[2]? = some (.p 1 0)/\t[4]? = some (.fn 64 [] [.p 2 0])/\t[5]? = some (.p 3 0)/\t[7]? = some (.p 4 0)) ?_ ?_
 ·simp only[sxZ,z6,z7,z8,j4,j5,j6,j7,j8,j9,x6,x7,x8,x9,y4,y5,reduceCtorEq,↓reduceIte,za,hlen,t2,t4,t5,t7];refine zeK zem (zj7 v zbr 2 (by rw[ejv];rfl) hv hj fun z=>?_);unfold zbd;unfold opD at hO4;obtain⟨⟨x,ok⟩,hg⟩:∃R,zaB v zbr=R:=⟨_,rfl⟩;have hgx:x=(zaB v zbr).1:=by rw[hg]
  rw[hg] at hO4 ⊢;dsimp only at hO4 ⊢;have ex:=zad x;rw[ex];simp only[sxZ,z6,z7,z8,j4,j5,j6,j7,j8,j9,x6,x7,x8,x9,y4,y5,reduceCtorEq,↓reduceIte,za,hlen,t2,t4,t5,t7]
  cases ok with
  | false=>
   rw[if_neg (show ¬(false=true) by decide)] at hO4;injection hO4 with h1 h2
   subst h1 h2;simp only[sxZ,z6,z7,z8,j4,j5,j6,j7,j8,j9,x6,x7,x8,x9,y4,y5,reduceCtorEq,↓reduceIte,za,hlen,t2,t4,t5,t7,zac];exact⟨_,_,_,rfl,.inr ⟨rfl,rfl,rfl⟩⟩
  | true=>
   rw[if_pos rfl] at hO4;simp only[sxZ,z6,z7,z8,j4,j5,j6,j7,j8,j9,x6,x7,x8,x9,y4,y5,reduceCtorEq,↓reduceIte,za,hlen,t2,t4,t5,t7];rw[<-ex];refine zae (elV_k m i x (by rw[hgx];exact hb.it hv hj zbr) (by omega) (by omega) (resL m i) ?_);rw[hO4,ex];dsimp only;simp only[sxZ,z6,z7,z8,j4,j5,j6,j7,j8,j9,x6,x7,x8,x9,y4,y5,reduceCtorEq,↓reduceIte,za,hlen,t2,t4,t5,t7]
   by_cases c1:e4=0
   ·subst c1;simp only[sxZ,z6,z7,z8,j4,j5,j6,j7,j8,j9,x6,x7,x8,x9,y4,y5,reduceCtorEq,↓reduceIte,za,hlen,t2,t4,t5,t7,zac];exact⟨_,_,_,rfl,.inl rfl⟩
   ·rw[if_pos c1] at kz hk ⊢;have:=kz e4 rfl;simp only[sxZ,z6,z7,z8,j4,j5,j6,j7,j8,j9,x6,x7,x8,x9,y4,y5,reduceCtorEq,↓reduceIte,za,hlen,t2,t4,t5,t7,c1,zc0];exact this
 rintro o tm ⟨A4,z4,b4,rfl,rfl,hA4,hlen,t2,t4,t5,t7⟩;rw[if_neg (show ¬((0:Int)≠0) by decide)] at kz hk ⊢;subst hZ;refine zaa fun Z hZ=>?_;have p1:=hA1.pl (zbe L1);have p2:=hA2.pl (zbe L2);have p3:=hA3.pl (zgy L3);have p4:=hA4.pl (zf8 L4);simp only[sxZ,z6,z7,z8,j4,j5,j6,j7,j8,j9,x6,x7,x8,x9,y4,y5,reduceCtorEq,↓reduceIte,za,hlen,t2,t4,t5,t7];subst hZ;simp only[sxZ,z6,z7,z8,j4,j5,j6,j7,j8,j9,x6,x7,x8,x9,y4,y5,reduceCtorEq,↓reduceIte,za,hlen,t2,t4,t5,t7,zi6 p1,zi6 p2,zi6 p3,zi6 p4,jl];exact⟨fun G I y h=>zhA hA1.den hA2.den hA3.den hA4.den h,hk⟩
end
end
section
attribute [local irreducible] run
theorem jkp_z:JKp jvZ:=by rw[jvZ,JKp];exact⟨by simp,by simp,by simp,by simp,by rw[zkt];trivial⟩
theorem zik {v:JV} (hv:JKp v) (key:List UInt8):JKp (zaB v key).1:=by
 unfold zaB
 split
 ·split
  ·rename_i x hx;obtain⟨hi,rfl⟩:=zf.1 hx;exact hv.its hi
  ·exact jkp_z
 ·exact jkp_z
theorem JKp.idB {v:JV} (hv:JKp v):IdB v:=by
 refine⟨Nat.le_trans (zik hv kId).lens.2.2.1 (by decide),fun key y hy=>?_⟩;obtain⟨i,hi,rfl⟩:=y6.1 hy;exact Nat.le_trans (zik ((zik hv key).its hi) kId).lens.2.2.1 (by decide)
def ShV (x:SvP):Prop:=x.typ.length<=64/\x.eps.length<=64
def ShO (d:DoP):Prop:=d.also.length<=64/\d.ctl.length<=64/\d.mts.length<=64/\d.svs.length<=64/\∀x∈d.svs,ShV x
theorem znc (l:List JV):(txD l).2.length<=64:=by
 unfold txD
 split
 ·exact zd _
 split
 ·rw[qq];omega
 ·exact zd _
theorem ltD_len (v:JV):(ltD v).2.length<=64:=by
 unfold ltD;split
 ·exact znc _
 ·exact zd _
theorem zib (v:JV):(olD v).2.length<=64:=by
 unfold olD;split<;>exact znc _
theorem zia {α:Type} {v:JV} {key:List UInt8} {f:JV->Int×List α} (h:∀x,(f x).2.length<=64):(opD v key f).2.length<=64:=by
 unfold opD;split
 ·exact h _
 ·exact zd _
theorem zlO {α:Type} (f:JV->Int×α):∀l:List JV,(zfJ f l).2.length<=l.length
 | []=>ze _
 | y::l=>by
  have:=zlO f l;rw[zfJ]
  split
  ·exact zd _
  split
  ·exact zd _
  ·simp only[zu];omega
theorem zlN {α:Type} (f:JV->Int×α):∀l:List JV,∀x∈(zfJ f l).2,∃y∈l,x=(f y).2
 | [],x,hx=>by cases hx
 | y::l,x,hx=>by
  rw[zfJ] at hx
  split at hx
  ·cases hx
  split at hx
  ·cases hx
  ·rcases zv.1 hx with rfl|hx
   ·exact⟨y,by simp,rfl⟩
   ·obtain⟨z,hz,e⟩:=zlN f l x hx;exact⟨z,qm _ hz,e⟩
theorem zpr {α:Type} (f:JV->Int×α) (v:JV):(elD f v).2.length<=64:=by
 unfold elD
 split
 ·split
  ·exact zd _
  ·have:=zlO f v.items;omega
 ·exact zd _
theorem svD_sh (m i:List UInt8) (y:JV):ShV (svD m i y).2:=by
 unfold svD
 repeat' split
 all_goals first
  | exact⟨zd _,zd _⟩
  | exact⟨zib _,zd _⟩
  | exact⟨zib _,zib _⟩
theorem ddE_sh (v:JV):ShO (ddE v).2:=by
 have hz:ShO doZ:=⟨zd _,zd _,zd _,zd _,fun x hx=>by cases hx⟩;unfold ddE
 repeat' split
 all_goals first
  | exact hz
  | skip
 refine⟨zia ltD_len,zia zib,zia (zpr _),zia (zpr _),fun x hx=>?_⟩;dsimp only at hx;unfold opD elD at hx
 split at hx
 ·split at hx
  ·split at hx
   ·cases hx
   ·obtain⟨y,_,rfl⟩:=zlN _ _ x hx;exact svD_sh _ _ y
  ·cases hx
 ·cases hx
end
section
attribute [local irreducible] run
def RowJ (m:Nat) (l:List JV) (o:List OB) (X:AV):Prop:=(l=[]/\X=.nil)\/∃r g,X=.orow r g/\m<=r/\o[r]? = some (.orow 25 4 g l.length (zab l))
def ObR (m b:Nat) (ks:List (List UInt8)) (its:List JV) (o:List OB):Prop:=∃X Y,o[b]? = some (.box 93 [X,Y])/\zmX m ks o X/\RowJ m its o Y
theorem RowJ.mono {m:Nat} {l:List JV} {o:List OB} {X:AV} (h:RowJ m l o X) (z:OB):RowJ m l (o++[z]) X:=by
 rcases h with h|⟨r,g,h1,h0,h2⟩
 ·exact .inl h
 ·exact .inr ⟨r,g,h1,h0,by rw[qd (zf.1 h2).1];exact h2⟩
theorem RowJ.set {m:Nat} {l:List JV} {o:List OB} {X:AV} (h:RowJ m l o X) {r:Nat} {Z:OB} (hz:o[r]? = some Z) (hne:∀g n cs,Z≠.orow 25 4 g n cs) (W:OB):RowJ m l (o.set r W) X:=by
 rcases h with h|⟨r',g,h1,h0,h2⟩
 ·exact .inl h
 ·refine .inr ⟨r',g,h1,h0,?_⟩;rw[zi (fun e=>by rw[e,h2] at hz;injection hz with hz;exact hne _ _ _ hz.symm)];exact h2
theorem zmX.set {m:Nat} {l:List (List UInt8)} {o:List OB} {X:AV} (h:zmX m l o X) {r:Nat} {Z:OB} (hz:o[r]? = some Z) (hne:∀g n cs,Z≠.orow 9 1 g n cs) (W:OB):zmX m l (o.set r W) X:=by
 rcases h with h|⟨r',g,h1,h0,h2⟩
 ·exact .inl h
 ·refine .inr ⟨r',g,h1,h0,?_⟩;rw[zi (fun e=>by rw[e,h2] at hz;injection hz with hz;exact hne _ _ _ hz.symm)];exact h2
theorem zpR {k:Int} {t:List UInt8} {G:Gh} {I:Imm} {y:Value} (h:Den G I (.agg [.i .i64 k,.s t,.nil,.nil]) y):Den G I (.agg (zap (.mk k t [] []))) y:=by
 rw[zap,zaH];simp only[zaj,Den] at h ⊢;obtain⟨zs,rfl,⟨z0,m0,rfl,q0,z1,m1,rfl,q1,z2,m2,rfl,q2,z3,m3,rfl,q3,q4⟩,hz⟩:=h;refine⟨_,rfl,⟨_,_,rfl,q0,_,_,rfl,q1,_,_,rfl,?_,_,_,rfl,?_,q4⟩,hz⟩
 ·exact⟨none,0,[],q2,⟨ze _,fun ad h=>by cases h⟩,rfl,by simp,by simp⟩
 ·exact⟨none,0,[],q3,⟨ze _,fun ad h=>by cases h⟩,rfl,by simp,by simp⟩
section
variable [Tabs Tryz.prog] {objs:List OB} {K:List OB->AV->Prop}
end
end
instance tabs:Tabs Tryz.prog:=⟨fun w=>w.ShapedOpen Tryz.prog,fun _ _ h hk _=>zjP h hk⟩
instance tabs_shp:Shp Tryz.prog:=⟨fun _ h=>h⟩
end Go.Proofs.YtceenajkieomoaaGreatDoor
namespace Go.Proofs.YtceenajkieomoaaGreatDoor
open Lib renaming hasPrefix->qx
open List renaming all_cons->jj, all_eq_true->zt, append_assoc->zy, append_nil->jh, drop_eq_getElem_cons->jn, eq_nil_of_length_eq_zero->jd, flatMap_cons->ya, getElem?_append_left->qd, getElem?_eq_getElem->zm, getElem?_eq_some_iff->zf, getElem?_map->qo, getElem?_set->za, getElem?_set_ne->zi, getElem?_set_self->zl, getElem_mem->jc, isPrefixOf_iff_prefix->yh, length->je, length_append->zk, length_cons->zu, length_drop->zw, length_nil->qk, length_set->zh, length_take->qc, map_append->jg, map_cons->zo, mem_append->zq, mem_cons->zv, mem_cons_of_mem->qm, mem_map->jq, mem_singleton->jy, take_add_one->yb, take_of_length_le->ju, take_succ_eq_append_getElem->yc
open Nat renaming le_refl->ze, lt_or_ge->zj, zero_le->zd
def ppB (c:UInt8):Bool:=c==37||idB c
theorem znk {a b:UInt8} (r:List UInt8) (ha:a≠58) (hb:b≠58) {p:List UInt8} {ps:List (List UInt8)} (h:zaJ 58 r=p::ps):zaJ 58 (37::a::b::r)=(37::a::b::p)::ps:=by
 rw[zaQ,if_neg (by decide),zaQ,if_neg ha,zaQ,if_neg hb,h]
theorem addN_out (c:UInt8) (out:List UInt8) (h:zbS c za5=true):zb4 za5 out c false=(0,out++[c]):=zbc rfl h
theorem znn {c:UInt8} (t out:List UInt8) (hc:c≠37) (h:zbS c za5=true):rwS (zb4 za5) 0 (c::t) out=rwS (zb4 za5) 0 t (out++[c]):=by
 rw[rwS,if_neg hc,addN_out c out h,if_pos rfl]
theorem rwN_esc (a b:UInt8) (r out:List UInt8) (he:zbi (37::a::b::r)=true):rwS (zb4 za5) 0 (37::a::b::r) out=rwS (zb4 za5) 0 r (out++(if zaG (zcf (37::a::b::r))=true then [zcf (37::a::b::r)] else zdB (zcf (37::a::b::r)))):=by
 rw[rwS,if_pos rfl,if_pos he];rcases hu:zaG (zcf (37::a::b::r)) with _|_
 ·rw[zd7 hu,if_pos rfl,zbI,if_neg Bool.false_ne_true];rfl
 ·rw[zbc (by rw[hu];rfl) (zbR hu),if_pos rfl,zbI,if_pos rfl];rfl
theorem zmJ (v:UInt8):zcL (if zaG v=true then [v] else zdB v)=if idB v=true then [v] else zdB v:=by
 have hf:=zdt v;rcases hu:zaG v with _|_
 ·rw[if_neg Bool.false_ne_true,hf.2.2.1 hu,if_neg Bool.false_ne_true,zmp]
 ·rw[if_pos rfl]
  by_cases h:v=126
  ·subst h;decide
  ·rw[hf.2.1 hu h,if_pos rfl,zeY h]
theorem zmE:∀(n:Nat) (l p:List UInt8) (ps:List (List UInt8)),l.length<=n->zaJ 58 l=p::ps->((dcL l).1=0↔∀q∈p::ps,(dcL q).1=0) /\
  (l.all ibB=true->(dcL l).1=0->∀out,∃y,rwS (zb4 za5) 0 l out=(0,out++y)/\zcL y=zdh (dcL p).2++ps.flatMap fun q=>58::zdh (dcL q).2):=by
 intro n
 induction n with
 | zero=>
  intro l p ps hl hs;obtain rfl:l=[]:=jd (by omega);obtain⟨rfl,rfl⟩:p=[]/\ps=[]:=by
   have:zaJ 58 []=[[]]:=rfl;rw[this] at hs;injection hs with h1 h2;exact⟨h1.symm,h2.symm⟩
  exact⟨by simp,fun _ _ out=>⟨[],by rw[rwS,jh],rfl⟩⟩
 | succ n ih=>
  intro l p ps hl hs
  cases l with
  | nil=>
   obtain⟨rfl,rfl⟩:p=[]/\ps=[]:=by
    have:zaJ 58 []=[[]]:=rfl;rw[this] at hs;injection hs with h1 h2;exact⟨h1.symm,h2.symm⟩
   exact⟨by simp,fun _ _ out=>⟨[],by rw[rwS,jh],rfl⟩⟩
  | cons c t=>
   simp only[zu] at hl
   by_cases hc:c=37
   ·subst hc;rcases he:zbi (37::t) with _|_
    ·obtain⟨p',ps',e'⟩:=za7 58 t;rw[zaQ,if_neg (by decide),e'] at hs;injection hs with h1 h2
     have hb:=zfk he;have hp:zbi p=false:=by
      rw[<-h1];rcases hq:zbi (37::p') with _|_
      ·rfl
      ·obtain⟨a,b,r,rfl⟩:=zbF hq;have hx:(zaT a&&zaT b)=true:=hq;have ht:t=a::b::t.drop 2:=by
        have h3:zaJ 58 t=(a::b::r)::ps':=e';rw[zc7] at h3;rcases zco 58 t with ⟨_,h4,_⟩|⟨k,_,hk,h4,_⟩
        ·rw[h4] at h3;simp only[Bool.false_eq_true,if_false,List.cons.injEq] at h3;rw[h3.1];rfl
        ·rw[h4] at h3;simp only[if_true,List.cons.injEq] at h3;have h5:=h3.1
         match t,k,h5 with
         | [],k,h5=>simp at h5
         | [x],0,h5=>simp at h5
         | [x],k+1,h5=>simp at h5
         | x::y::t,0,h5=>simp at h5
         | x::y::t,1,h5=>simp at h5
         | x::y::t,k+2,h5=>simp at h5;rw[h5.1,h5.2.1];rfl
       rw[ht] at he;have:zbi (37::a::b::t.drop 2)=(zaT a&&zaT b):=rfl;rw[this,hx] at he;cases he
     have hpb:(dcL p).1=2:=by rw[<-h1] at hp ⊢;exact zfk hp
     exact⟨⟨(fun h=>by rw[hb] at h;cases h),(fun h=>by have:=h p (by simp);rw[hpb] at this;cases this)⟩,(fun _ h=>by rw[hb] at h;cases h)⟩
    ·obtain⟨a,b,r,rfl⟩:=zbF he;have hx:zaT a=true/\zaT b=true:=by
      have:(zaT a&&zaT b)=true:=he;simpa using this
     have ha:=((zdt a).2.2.2.2 hx.1).1;have hb:=((zdt b).2.2.2.2 hx.2).1;obtain⟨p',ps',e'⟩:=za7 58 r;rw[znk r ha hb e'] at hs;injection hs with h1 h2
     subst h1 h2;have hep:zbi (37::a::b::p')=true:=he;have hv:zcf (37::a::b::p')=zcf (37::a::b::r):=rfl;obtain⟨i1,i2⟩:=ih r p' ps' (by simp at hl;omega) e';have d1:=zer he;have d2:=zer hep;refine⟨?_,fun hall h0 out=>?_⟩
     ·rw[d1.1,i1];simp only[zv,forall_eq_or_imp,d2.1]
     ·rw[d1.1] at h0;have hall':r.all ibB=true:=by
       simp only[jj,Bool.and_eq_true] at hall;exact hall.2.2.2
      obtain⟨y,y1,y2⟩:=i2 hall' h0 (out++(if zaG (zcf (37::a::b::r))=true then [zcf (37::a::b::r)] else zdB (zcf (37::a::b::r))));have hp0:=(i1.1 h0) p' (by simp);refine⟨(if zaG (zcf (37::a::b::r))=true then [zcf (37::a::b::r)] else zdB (zcf (37::a::b::r)))++y,?_,?_⟩
      ·rw[rwN_esc a b r out he,y1,zy]
      ·rw[zdk,zmJ,y2,d2.2 hp0,hv,zcw,zy]
   ·by_cases h58:c=58
    ·subst h58;obtain⟨p',ps',e'⟩:=za7 58 t;rw[zaQ,if_pos rfl,e'] at hs;injection hs with h1 h2
     subst h1 h2;obtain⟨i1,i2⟩:=ih t p' ps' (by omega) e';have d1:=zdQ (c:=58) (t:=t) (by decide);refine⟨?_,fun hall h0 out=>?_⟩
     ·rw[d1.1,i1];simp only[zv,forall_eq_or_imp];exact⟨fun h=>⟨rfl,h⟩,fun h=>h.2⟩
     ·rw[d1.1] at h0;have hall':t.all ibB=true:=by
       simp only[jj,Bool.and_eq_true] at hall;exact hall.2
      obtain⟨y,y1,y2⟩:=i2 hall' h0 (out++[58]);refine⟨58::y,?_,?_⟩
      ·rw[znn t out (by decide) (by decide),y1,zy];rfl
      ·show zcL ([58]++y)=_;rw[zdk,zeY (by decide),y2];simp[zdh,dcL,rwS]
    ·obtain⟨p',ps',e'⟩:=za7 58 t;rw[zaQ,if_neg h58,e'] at hs;injection hs with h1 h2
     subst h1 h2;obtain⟨i1,i2⟩:=ih t p' ps' (by omega) e';have d1:=zdQ (c:=c) (t:=t) hc;have d2:=zdQ (c:=c) (t:=p') hc;refine⟨?_,fun hall h0 out=>?_⟩
     ·rw[d1.1,i1];simp only[zv,forall_eq_or_imp,d2.1]
     ·rw[d1.1] at h0;simp only[jj,Bool.and_eq_true] at hall;have hid:idB c=true:=by
       have:=hall.1;unfold ibB at this;simp only[Bool.or_eq_true,beq_iff_eq] at this;rcases this with (h|h)|h
       ·exact absurd h hc
       ·exact h
       ·exact absurd h h58
      have hf:=(zdt c).1 hid;obtain⟨y,y1,y2⟩:=i2 hall.2 h0 (out++[c]);have hp0:=(i1.1 h0) p' (by simp);refine⟨c::y,?_,?_⟩
      ·rw[znn t out hc hf.1,y1,zy];rfl
      ·show zcL ([c]++y)=_;rw[zdk,zeY hf.2.1,y2,d2.2 hp0,zcw,if_pos hid,zy]
theorem zeT:∀l:List UInt8,l.all ibB=(zaJ 58 l).all fun q=>q.all ppB
 | []=>rfl
 | c::t=>by
  have ih:=zeT t;obtain⟨p',ps',e'⟩:=za7 58 t;rw[zaQ]
  by_cases h:c=58
  ·subst h;rw[if_pos rfl,jj,ih,jj];rfl
  ·rw[if_neg h,e',jj,ih,e',jj,jj,jj,<-Bool.and_assoc]
   congr 2
   unfold ibB ppB;have:(c==58)=false:=by simpa using h
   rw[this,Bool.or_false]
theorem zjg:∀l:List UInt8,(zaJ 58 l).getLastD []=[]↔(l=[]\/l.getLast? = some 58)
 | []=>by simp[zaJ]
 | [c]=>by
  by_cases h:c=58
  ·subst h;simp[zaJ]
  ·rw[zaQ,if_neg h];simp[zaJ,h]
 | c::d::t=>by
  have ih:=zjg (d::t);obtain⟨p',ps',e'⟩:=za7 58 (d::t);rw[zaQ];simp only[reduceCtorEq,false_or,List.getLast?_cons_cons] at ih ⊢;rw[<-ih]
  by_cases h:c=58
  ·subst h;rw[if_pos rfl,e'];simp
  ·rw[if_neg h,e']
   cases ps' with
   | nil=>
    simp only[List.getLastD_cons,List.getLastD_nil];rw[e'] at ih;simp only[List.getLastD_cons,List.getLastD_nil] at ih
    constructor
    ·intro h2;cases h2
    ·intro h2;subst h2;exfalso;have hsp:=zc7 58 (d::t);rw[e'] at hsp
     split at hsp
     ·rename_i h3;injection hsp with _ h4
      have:=zeZ 58 (zaw 58 (d::t)).2.1;rw[<-h4] at this;simp at this
     ·injection hsp with h4 _;cases h4
   | cons q qs=>simp
theorem zgE (l p:List UInt8) (ps:List (List UInt8)) (hl:l.length<=16384) (hs:zaJ 58 l=p::ps) :
  idE l=if ¬(∀q∈p::ps,(zcF q).1=0) then (2,[]) else if (p::ps).all (fun q=>q.all ppB)=false then (1,[]) else if (p::ps).getLastD []=[] then (3,[]) else (0,zbj p++jnc ps):=by
 obtain⟨m1,m2⟩:=zmE l.length l p ps (ze _) hs;have hq:∀q∈p::ps,zcF q=dcL q:=fun q hq=>zd2 (by
  rw[<-hs] at hq;have:=zeF 58 l q hq;omega)
 have e1:(∀q∈p::ps,(zcF q).1=0)↔(dcL l).1=0:=by
  rw[m1];exact forall_congr' fun q=>forall_congr' fun h=>by rw[hq q h]
 unfold idE;rw[zd2 hl,<-hs,zeT,hs];have e2:=zjg l;rw[hs] at e2
 by_cases h0:(dcL l).1=0
 ·rw[if_neg (show ¬(dcL l).1≠0 from fun h=>h h0),if_neg (show ¬¬(∀q∈p::ps,(zcF q).1=0) from fun h=>h (e1.2 h0))]
  by_cases h1:((p::ps).all fun q=>q.all ppB)=false
  ·rw[if_pos h1,if_pos h1]
  ·rw[if_neg h1,if_neg h1]
   by_cases h2:(p::ps).getLastD []=[]
   ·rw[if_pos h2,if_pos (e2.1 h2)]
   ·rw[if_neg h2,if_neg (fun h=>h2 (e2.2 h))];obtain⟨y,y1,y2⟩:=m2 (by rw[zeT,hs];simpa using h1) h0 [];have hn:zat l za5=(0,y):=by
     unfold zat zgz;rw[if_neg (by omega),y1];rfl
    rw[hn,if_neg (by simp)];simp only;rw[y2];have e3:zbj p=zdh (dcL p).2:=by unfold zbj;rw[hq p (by simp)]
    have e4:jnc ps=ps.flatMap fun q=>58::zdh (dcL q).2:=by
     unfold jnc;have:∀qs:List (List UInt8),(∀q∈qs,zcF q=dcL q)->qs.flatMap (fun q=>58::zbj q)=qs.flatMap fun q=>58::zdh (dcL q).2:=by
      intro qs
      induction qs with
      | nil=>intro _;rfl
      | cons q qs ih=>
       intro h;rw[ya,ya,ih (fun q' h'=>h q' (by simp[h']))];unfold zbj;rw[h q (by simp)]
     exact this ps (fun q h=>hq q (by simp[h]))
    rw[e3,e4]
 ·have h2:(dcL l).1=2:=(dcL_err l.length l (ze _)).resolve_left h0;rw[if_pos h0,if_pos (by rw[e1];exact h0),h2]
theorem zl6:∀d:List UInt8,dcL (zdh d)=(0,d)
 | []=>rfl
 | c::d=>by
  have ih:=zl6 d;rw[zcw]
  by_cases h:idB c=true
  ·rw[if_pos h];have h37:=((zdt c).1 h).2.2.2;have d1:=zdQ (c:=c) (t:=zdh d) h37;show dcL (c::zdh d)=_;rw[ih] at d1;have e2:=d1.2 rfl;have:dcL (c::zdh d)=((dcL (c::zdh d)).1,(dcL (c::zdh d)).2):=rfl;rw[this,d1.1,e2]
  ·rw[if_neg h];have he:=zpp c (zdh d);have d1:=zer (a:=zeb (c.toNat / 16)) (b:=zeb (c.toNat % 16)) (r:=zdh d) he.1;have e:zdB c++zdh d=37::zeb (c.toNat / 16)::zeb (c.toNat % 16)::zdh d:=rfl;rw[e];rw[ih] at d1;have e2:=d1.2 rfl;have hv:zcf (37::zeb (c.toNat / 16)::zeb (c.toNat % 16)::zdh d)=c:=he.2;rw[hv] at e2;have:dcL (37::zeb (c.toNat / 16)::zeb (c.toNat % 16)::zdh d)=((dcL (37::zeb (c.toNat / 16)::zeb (c.toNat % 16)::zdh d)).1,(dcL (37::zeb (c.toNat / 16)::zeb (c.toNat % 16)::zdh d)).2):=rfl;rw[this,d1.1,e2]
theorem zpm:∀n:Fin 256,(zdB (UInt8.ofNat n.val)).all (fun c=>ppB c&&c != 58)=true:=by decide +kernel
theorem zkk:∀d:List UInt8,(zdh d).all (fun c=>ppB c&&c != 58)=true
 | []=>rfl
 | c::d=>by
  rw[zcw,List.all_append,zkk d,Bool.and_true]
  by_cases h:idB c=true
  ·rw[if_pos h];have hf:=(zdt c).1 h;simp[ppB,h,hf.2.2.1]
  ·rw[if_neg h];have:=zpm ⟨c.toNat,UInt8.toNat_lt c⟩;simpa using this
theorem zjp (d:List UInt8):(58:UInt8)∉zdh d:=by
 intro hm;have:=zt.1 (zkk d) 58 hm;simp at this
theorem escL_ppB (d:List UInt8):(zdh d).all ppB=true:=by
 rw[zt];intro x hx;have:=zt.1 (zkk d) x hx;simp only[Bool.and_eq_true] at this;exact this.1
theorem escL_nil (d:List UInt8):zdh d=[]↔d=[]:=by
 cases d with
 | nil=>exact⟨fun _=>rfl,fun _=>rfl⟩
 | cons c d=>
  rw[zcw]
  constructor
  ·intro h;exfalso;have:=congrArg je h;rw[zk] at this
   split at this<;>simp[zdB] at this
  ·intro h;cases h
def js (ps:List (List UInt8)):List UInt8:=ps.flatMap fun q=>58::q
theorem zkB:∀(s:List UInt8) (l:List (List UInt8)),58∉s->(∀x∈l,(58:UInt8)∉x)->zaJ 58 (s++js l)=s::l
 | s,[],hs,_=>by
  show zaJ 58 (s++[])=_;rw[jh,zc7,zdR 58 s hs];simp
 | s,x::l,hs,h=>by
  have:s++js (x::l)=s++58::(x++js l):=by simp[js]
  rw[this,zc7,zcI 58 s _ hs,if_pos rfl,zkB x l (h x (by simp)) (fun y hy=>h y (by simp[hy]))]
theorem zly (ps:List (List UInt8)):jnc ps=js (ps.map zbj):=by
 unfold jnc js;rw[List.flatMap_map]
theorem zel {q:List UInt8} (h1:(zbj q).length<=16384):(zcF (zbj q)).1=0/\zbj (zbj q)=zbj q:=by
 have e:zcF (zbj q)=(0,(zcF q).2):=by
  unfold zbj at h1 ⊢;rw[zd2 h1,zl6]
 refine⟨by rw[e],?_⟩;show zdh (zcF (zbj q)).2=zbj q;rw[e];rfl
theorem zht:∀(ps:List (List UInt8)) (q:List UInt8),q∈ps->q.length<=(js ps).length
 | [],q,h=>by cases h
 | p::ps,q,h=>by
  have:js (p::ps)=58::(p++js ps):=by simp[js]
  rw[this,zu,zk];rcases zv.1 h with rfl|h
  ·omega
  ·have:=zht ps q h;omega
theorem zfv (f:List UInt8->List UInt8):∀(p:List UInt8) (ps:List (List UInt8)),((p::ps).map f).getLastD []=f ((p::ps).getLastD [])
 | p,[]=>by simp
 | p,q::ps=>by
  have:=zfv f q ps;simpa using this
theorem zgF {l i:List UInt8} (hl:l.length<=16384) (hi:i.length<=16384) (h:idE l=(0,i)):idE i=(0,i)/\i.all ibB=true:=by
 obtain⟨p,ps,hs⟩:=za7 58 l;have hp:=zgE l p ps hl hs;rw[h] at hp
 split at hp
 ·cases hp
 ·rename_i g1
  split at hp
  ·cases hp
  ·rename_i g2
   split at hp
   ·cases hp
   ·rename_i g3;injection hp with _ hp
    simp only[Decidable.not_not] at g1;have hsi:zaJ 58 i=zbj p::ps.map zbj:=by
     rw[hp,zly];exact zkB _ _ (zjp _) (fun x hx=>by
      obtain⟨q,_,rfl⟩:=jq.1 hx;exact zjp _)
    have hlen:∀q∈p::ps,(zbj q).length<=16384:=by
     intro q hq;have hi2:=hi;rw[hp,zly,zk] at hi2;rcases zv.1 hq with rfl|hq
     ·omega
     ·have:=zht (ps.map zbj) (zbj q) (List.mem_map_of_mem hq);omega
    have hq:=zgE i (zbj p) (ps.map zbj) hi hsi;have c1:∀q∈zbj p::ps.map zbj,(zcF q).1=0:=by
     intro q hq;have:q∈(p::ps).map zbj:=hq;obtain⟨q',h1,rfl⟩:=jq.1 this;exact(zel (hlen q' h1)).1
    have c2:(zbj p::ps.map zbj).all (fun q=>q.all ppB)=true:=by
     rw[zt];intro q hq;have:q∈(p::ps).map zbj:=hq;obtain⟨q',h1,rfl⟩:=jq.1 this;exact escL_ppB _
    have c3:¬(zbj p::ps.map zbj).getLastD []=[]:=by
     have e:=zfv zbj p ps;show ¬((p::ps).map zbj).getLastD []=[];rw[e];intro e2;unfold zbj at e2;rw[escL_nil] at e2
     apply g3
     have hm:(p::ps).getLastD []∈p::ps:=by
      rw[List.getLastD_eq_getLast?,List.getLast?_eq_some_getLast (by simp)];exact List.getLast_mem _
     generalize (p::ps).getLastD []=q at *;have hql:q.length<=l.length:=zeF 58 l q (by rw[hs];exact hm);have h0:=g1 q hm
     cases q with
     | nil=>rfl
     | cons c t=>
      exfalso;rw[zd2 (by omega)] at h0 e2
      by_cases hc:c=37
      ·subst hc;rcases he:zbi (37::t) with _|_
       ·rw[zfk he] at h0;cases h0
       ·obtain⟨a,b,r,rfl⟩:=zbF he;have d1:=zer he;rw[d1.1] at h0;rw[d1.2 h0] at e2;cases e2
      ·have d1:=zdQ (c:=c) (t:=t) hc;rw[d1.1] at h0;rw[d1.2 h0] at e2;cases e2
    rw[if_neg (fun h=>h c1),if_neg (by rw[c2];simp),if_neg c3] at hq;refine⟨?_,?_⟩
    ·rw[hq,(zel (hlen p (by simp))).2,hp]
     congr 2
     rw[zly,zly,List.map_map]
     congr 1
     refine List.map_congr_left fun q hq=>?_;exact(zel (hlen q (by simp[hq]))).2
    ·rw[zeT,hsi];exact c2
structure CanD (u:DidU):Prop where
 meth:zcd u.meth=true
 id:idE u.id=(0,u.id)
 idb:u.id.all ibB=true
 path:zat u.path zax=(0,u.path)
 slash:u.path=[]\/∃r,u.path=47::r
 query:zat u.query zak=(0,u.query)
 frag:zat u.frag zak=(0,u.frag)
 noq:u.hq=false->u.query=[]
 nof:u.hf=false->u.frag=[]
 len:(zcv u).length<=4096
theorem me256:∀n:Fin 256,(meB (UInt8.ofNat n.val)=true->zbu (UInt8.ofNat n.val) [58,47,63,35]=false)/\(ibB (UInt8.ofNat n.val)=true->zbu (UInt8.ofNat n.val) [47,63,35]=false)/\(okB zax (UInt8.ofNat n.val)=true->zbu (UInt8.ofNat n.val) [63,35]=false)/\(okB zak (UInt8.ofNat n.val)=true->UInt8.ofNat n.val≠35):=by decide +kernel
theorem zeJ (c:UInt8):(meB c=true->zbu c [58,47,63,35]=false)/\(ibB c=true->zbu c [47,63,35]=false)/\(okB zax c=true->zbu c [63,35]=false)/\(okB zak c=true->c≠35):=by
 have:=me256 ⟨c.toNat,UInt8.toNat_lt c⟩;simpa using this
theorem zhn {l cs:List UInt8} {c:UInt8} (h:∀x∈l,zbu x cs=false) (hc:zbu c cs=true):c∉l:=fun hm=>by
 have:=h c hm;rw[hc] at this;cases this
theorem fmtD_no {m i:List UInt8} (hm:zcd m=true) (hi:i.all ibB=true):∀x∈zbX m i,zbu x [47,63,35]=false:=by
 intro x hx;unfold zbX at hx;simp only[zq,zv,List.not_mem_nil,or_false] at hx;rcases hx with ((hx|hx)|hx)|hx
 ·have:∀x∈zbq,zbu x [47,63,35]=false:=by decide
  exact this x hx
 ·unfold zcd at hm;simp only[Bool.and_eq_true] at hm;have:=(zeJ x).1 (zt.1 hm.1 x hx);unfold zbu at this ⊢;simp only[List.contains_cons,List.contains_nil,Bool.or_false,Bool.or_eq_false_iff] at this ⊢;exact this.2
 ·subst hx;decide
 ·exact(zeJ x).2.1 (zt.1 hi x hx)
theorem zpN {m i:List UInt8} (hm:zcd m=true) (hi:idE i=(0,i)) (hl:(zbX m i).length<=4096):zb2 (zbX m i)=(0,m,i):=by
 have h58:(58:UInt8)∉m:=by
  unfold zcd at hm;simp only[Bool.and_eq_true] at hm;exact zhn (fun x hx=>(zeJ x).1 (zt.1 hm.1 x hx)) (by decide)
 have hp:qx (zbX m i) zbq=true:=by
  unfold zbX;rw[zy,zy];exact yh.2 (List.prefix_append _ _)
 have hd:(zbX m i).drop 4=m++58::i:=by simp[zbX,zbq]
 unfold zb2;rw[if_neg (by omega),if_neg (by rw[hp];simp),hd,zcI 58 m i h58];simp only;rw[hm,hi];simp
theorem CanD.back {u:DidU} (h:CanD u):zdw (zcv u)=(0,u):=by
 obtain⟨m,i,pa,qu,fr,hq,hf⟩:=u;have hl:=h.len;have hno:=fmtD_no h.meth h.idb;have npa:∀x∈pa,zbu x [63,35]=false:=fun x hx=>(zeJ x).2.2.1 (zt.1 (zee h.path) x hx);have nqu:(35:UInt8)∉qu:=fun hx=>(zeJ 35).2.2.2 (zt.1 (zee h.query) 35 hx) rfl;have hs:=h.slash;have hqn:=h.noq;have hfn:=h.nof;simp only at hno hs hqn hfn hl;have f35:(35:UInt8)∉zbX m i:=zhn hno (by decide);have f63:(63:UInt8)∉zbX m i:=zhn hno (by decide);have f47:(47:UInt8)∉zbX m i:=zhn hno (by decide);have p35:(35:UInt8)∉pa:=zhn npa (by decide);have p63:(63:UInt8)∉pa:=zhn npa (by decide);have q35:(35:UInt8)∉(if hq=true then [63]++qu else []):=by
  split
  ·simp[nqu]
  ·simp
 have e35:zaw 35 (zcv ⟨m,i,pa,qu,fr,hq,hf⟩)=(zbX m i++pa++(if hq=true then [63]++qu else []),fr,hf):=by
  unfold zcv
  cases hf
  ·have:=hfn rfl;subst this;simp only[Bool.false_eq_true,if_false,jh];exact zdR 35 _ (by simp only[zq,not_or];exact⟨⟨f35,p35⟩,q35⟩)
  ·simp only[if_true];have:zbX m i++pa++(if hq=true then [63]++qu else [])++([35]++fr)=(zbX m i++pa++(if hq=true then [63]++qu else []))++35::fr:=by simp
   rw[this];exact zcI 35 _ fr (by simp only[zq,not_or];exact⟨⟨f35,p35⟩,q35⟩)
 have e63:zaw 63 (zbX m i++pa++(if hq=true then [63]++qu else []))=(zbX m i++pa,qu,hq):=by
  cases hq
  ·have:=hqn rfl;subst this;simp only[Bool.false_eq_true,if_false,jh];exact zdR 63 _ (by simp only[zq,not_or];exact⟨f63,p63⟩)
  ·simp only[if_true];have:zbX m i++pa++([63]++qu)=(zbX m i++pa)++63::qu:=by simp
   rw[this];exact zcI 63 _ qu (by simp only[zq,not_or];exact⟨f63,p63⟩)
 have eb:za6 (zcv ⟨m,i,pa,qu,fr,hq,hf⟩)=zbX m i++pa:=by
  unfold za6;rw[e35];simp only;rw[e63]
 have en:zbl (zcv ⟨m,i,pa,qu,fr,hq,hf⟩)=zbX m i:=by
  unfold zbl zbU;rw[eb];rcases hs with rfl|⟨r,rfl⟩
  ·rw[jh,zdR 47 _ f47]
  ·rw[zcI 47 _ r f47]
 have hdl:(zbX m i).length<=4096:=by
  unfold zcv at hl;simp only[zk] at hl;omega
 unfold zdw;rw[if_neg (by omega),en,zpN h.meth h.id hdl,eb,e35];simp only;rw[e63];simp only;have ed:(zbX m i++pa).drop (zbX m i).length=pa:=by simp
 rw[ed,h.path,h.query,h.frag];simp
theorem zpM {s m i:List UInt8} (h:zb2 s=(0,m,i)):zcd m=true/\∃l,s=zbX m l/\idE l=(0,i)/\s.length<=4096:=by
 unfold zb2 at h
 split at h
 ·cases h
 ·rename_i g0
  split at h
  ·cases h
  ·rename_i g1
   split at h
   ·cases h
   ·rename_i g2
    split at h
    ·cases h
    ·rename_i g3
     split at h
     ·rename_i g4;injection h with h1 _;exact absurd h1 g4
     ·rename_i g4;simp only[Decidable.not_not] at g4;injection h with _ h
      injection h with h1 h2
      subst h1 h2;simp only[Bool.not_eq_false] at g1 g2 g3;refine⟨g3,(zaw 58 (s.drop 4)).2.1,?_,by rw[<-g4],by omega⟩;obtain⟨t,ht⟩:=yh.1 (show List.isPrefixOf zbq s=true from g1);have hj:=zdx 58 (s.drop 4);rw[g2,if_pos rfl] at hj;unfold zbX;have hd:s.drop 4=t:=by rw[<-ht];simp[zbq]
      rw[zy,zy,<-zy _ [58],zy _ [58],<-hj,hd,ht]
theorem idE_le {l i:List UInt8} (h:idE l=(0,i)):i.length<=3*l.length:=by
 unfold idE at h
 split at h
 ·rename_i g;injection h with h1 _;exact absurd h1 g
 ·split at h
  ·cases h
  ·split at h
   ·cases h
   ·split at h
    ·rename_i g;injection h with h1 _;exact absurd h1 g
    ·injection h with _ h
     have h1:=zfc l za5;have h2:=zg2 (zat l za5).2;rw[<-h];omega
theorem CanD.of {s:List UInt8} {u:DidU} (hs:s.length<=1000) (h:zdw s=(0,u)):CanD u:=by
 unfold zdw at h
 split at h
 ·cases h
 ·split at h
  ·rename_i g;injection h with h1 _;exact absurd h1 g
  ·rename_i g1
   split at h
   ·rename_i g;injection h with h1 _;exact absurd h1 g
   ·rename_i g2
    split at h
    ·rename_i g;injection h with h1 _;exact absurd h1 g
    ·rename_i g3
     split at h
     ·rename_i g;injection h with h1 _;exact absurd h1 g
     ·rename_i g4;simp only[Decidable.not_not] at g1 g2 g3 g4;injection h with _ h
      have hd:zb2 (zbl s)=(0,(zb2 (zbl s)).2.1,(zb2 (zbl s)).2.2):=by rw[<-g1]
      obtain⟨k1,l,k2,k3,k4⟩:=zpM hd;have e2:zat ((za6 s).drop (zbl s).length) zax=(0,(zat ((za6 s).drop (zbl s).length) zax).2):=by rw[<-g2]
      have e3:zat (zaw 63 (zaw 35 s).1).2.1 zak=(0,(zat (zaw 63 (zaw 35 s).1).2.1 zak).2):=by rw[<-g3]
      have e4:zat (zaw 35 s).2.1 zak=(0,(zat (zaw 35 s).2.1 zak).2):=by rw[<-g4]
      have j1:=congrArg je (zdx 35 s);have j2:=congrArg je (zdx 63 (zaw 35 s).1);have c1:=zeQ 35 s;have c2:=zeQ 63 (zaw 35 s).1;have hnb:=(zhw (za6 s)).2;have hnl:(zbl s).length<=(za6 s).length:=hnb;have hbl:(za6 s).length<=(zaw 35 s).1.length:=ziw 63 _;have h35l:=ziw 35 s;have kl:(zbl s).length=(zb2 (zbl s)).2.1.length+l.length+5:=by
       have hk2:=congrArg je k2;simp only[zbX,zbq,zk,zu,qk] at hk2;omega
      have il:=idE_le k3;have pl:=(zbg _ _ _ e2).2.2;have ql:=(zbg _ _ _ e3).2.2;have fl:=(zbg _ _ _ e4).2.2;rw[zw] at pl;have ia:=zgF (l:=l) (by omega) (by omega) k3;have q0:(zaw 63 (zaw 35 s).1).2.1.length<=(zaw 35 s).1.length:=(zcx 63 _).2;have f0:(zaw 35 s).2.1.length<=s.length:=(zcx 35 _).2;have qs:(za6 s).length+(zaw 63 (zaw 35 s).1).2.1.length<=(zaw 35 s).1.length:=by
       show (zaw 63 (zaw 35 s).1).1.length+_<=_;rcases hb:(zaw 63 (zaw 35 s).1).2.2 with _|_
       ·rw[(c2.2.2 hb).1,(c2.2.2 hb).2];simp
       ·have:=c2.2.1 hb;omega
      have fs:(zaw 35 s).1.length+(zaw 35 s).2.1.length<=s.length:=by
       rcases hb:(zaw 35 s).2.2 with _|_
       ·rw[(c1.2.2 hb).1,(c1.2.2 hb).2];simp
       ·have:=c1.2.1 hb;omega
      have hslash:(zat ((za6 s).drop (zbl s).length) zax).2=[]\/∃r,(zat ((za6 s).drop (zbl s).length) zax).2=47::r:=by
       have hx:(za6 s).drop (zbl s).length=[]\/∃r,(za6 s).drop (zbl s).length=47::r:=by
        unfold zbl zbU;rcases zco 47 (za6 s) with ⟨_,h3,_⟩|⟨k,_,hk,h3,h4⟩
        ·rw[h3];left;simp
        ·rw[h3];right;have e:((za6 s).take k).length=k:=by rw[qc];omega
         simp only[e];rw[jn hk];rw[zm hk] at h4;injection h4 with h4
         exact⟨_,by rw[h4]⟩
       rcases hx with hx|⟨r,hx⟩
       ·left;rw[hx];decide
       ·right;rw[hx] at e2 ⊢;have hlen:=zeI e2;have hr:rwS (zb4 zax) 0 (47::r) []=(0,(zat (47::r) zax).2):=by
         have e5:=e2;unfold zat zgz at e5;rw[if_neg (by omega)] at e5;rw[e5];unfold zat zgz;rw[if_neg (by omega)]
        have hp1:rwS (zb4 zax) 0 (47::r) []=rwS (zb4 zax) 0 r [47]:=by
         rw[rwS,if_neg (by decide),zbc rfl (by decide),if_pos rfl];rfl
        rw[hp1] at hr;obtain⟨y,a,k5,_⟩:=zgv zax r.length r [47] _ (ze _) hr;exact⟨y,k5⟩
      rw[<-h];refine⟨k1,ia.1,ia.2,(zbg _ _ _ e2).1,hslash,(zbg _ _ _ e3).1,(zbg _ _ _ e4).1,?_,?_,?_⟩
      ·intro hq;show (zat (zaw 63 (zaw 35 s).1).2.1 zak).2=[];rw[(c2.2.2 hq).2];rfl
      ·intro hf;show (zat (zaw 35 s).2.1 zak).2=[];rw[(c1.2.2 hf).2];rfl
      ·unfold zcv;simp only[zk];have z1:((if (zaw 63 (zaw 35 s).1).2.2=true then [63]++(zat (zaw 63 (zaw 35 s).1).2.1 zak).2 else []):List UInt8).length<=(zat (zaw 63 (zaw 35 s).1).2.1 zak).2.length+1:=by
        split<;>simp
       have z2:((if (zaw 35 s).2.2=true then [35]++(zat (zaw 35 s).2.1 zak).2 else []):List UInt8).length<=(zat (zaw 35 s).2.1 zak).2.length+1:=by
        split<;>simp
       have z3:(zbX (zb2 (zbl s)).2.1 (zb2 (zbl s)).2.2).length=(zb2 (zbl s)).2.1.length+(zb2 (zbl s)).2.2.length+5:=by simp[zbX,zbq];omega
       omega
section
open Go.RowKit Sx
section
variable {objs:List OB} {K:List OB->AV->Prop}
end
theorem CanD.lens {u:DidU} (h:CanD u):u.meth.length<=4096/\u.id.length<=4096/\u.path.length<=4096/\u.query.length<=16384/\u.frag.length<=16384:=by
 have hl:=h.len;have h1:=zeI h.query;have h2:=zeI h.frag;have h3:=zcE u.meth u.id;unfold zcv at hl;simp only[zk] at hl;omega
end
open Nat renaming reduceAdd -> z6, reduceSub -> z7, reduceLeDiff -> z8, reduceLT -> j4, reduceMul -> j5, reduceEqDiff -> j6
open Int renaming reduceToNat -> j7, reduceAdd -> j8, reduceSub -> j9, reduceMul -> x6, reduceNeg -> x7, reduceLT -> x8, reduceLE -> x9, reduceEq -> y4, reduceNe -> y5
open Go.RowKit Sx
def jn2:List (List UInt8)->List UInt8
 | []=>[]
 | p::ps=>zbj p++jnc ps
theorem jn2_snoc (xs:List (List UInt8)) (q:List UInt8):jn2 (xs++[q])=(if xs=[] then [] else jn2 xs++[58])++zbj q:=by
 cases xs with
 | nil=>simp[jn2,jnc]
 | cons p ps=>simp[jn2,jnc]
theorem zlD (d:List UInt8) (hl:d.length<=16384):idE d=if ¬(∀q∈zaJ 58 d,(zcF q).1=0) then (2,[]) else if (zaJ 58 d).all (fun q=>q.all ppB)=false then (1,[]) else if (zaJ 58 d).getLastD []=[] then (3,[]) else (0,jn2 (zaJ 58 d)):=by
 obtain⟨p,ps,h⟩:=za7 58 d;rw[zgE d p ps hl h,h];rfl
theorem zlK (l:List UInt8):(zdh l).length<=3*l.length:=by
 induction l with
 | nil=>exact ze _
 | cons c l ih=>
  rw[zcw,zk,zu]
  split<;>simp only[zfW,zu,qk]<;>omega
theorem pp_iff (c:UInt8):ppB c=(c==37||idB c):=rfl
theorem zqe {xs:List (List UInt8)} {p:List UInt8->Prop} (h:∀j (hj:j<xs.length),p xs[j]):∀q∈xs,p q:=by
 intro x hx;obtain⟨j,hj,rfl⟩:=List.mem_iff_getElem.1 hx;exact h j hj
theorem zpo (l:List UInt8) (c:UInt8):zdh (l++[c])=zdh l++(if idB c=true then [c] else zdB c):=by simp[zdh]
theorem dcL_len (l:List UInt8) (h:(dcL l).1=0):(dcL l).2.length<=l.length:=by
 have key:∀(n:Nat) (l:List UInt8),l.length<=n->(dcL l).1=0->(dcL l).2.length<=l.length:=by
  intro n
  induction n with
  | zero=>
   intro l hl h;obtain rfl:l=[]:=jd (by omega);exact ze _
  | succ n ih=>
   intro l hl h
   cases l with
   | nil=>exact ze _
   | cons c t=>
    by_cases hc:c=37
    ·subst hc;rcases he:zbi (37::t) with _|_
     ·rw[zfk he] at h;cases h
     ·obtain⟨a,b,r,rfl⟩:=zbF he;have d:=zer he;rw[d.1] at h;have:=ih r (by simp at hl ⊢;omega) h;rw[d.2 h];simp;omega
    ·have d:=zdQ (c:=c) (t:=t) hc;rw[d.1] at h;have:=ih t (by simp at hl;omega) h;rw[d.2 h];simp;omega
 exact key l.length l (ze _) h
section
variable [Tabs Tryz.prog] {objs:List OB} {K:List OB->AV->Prop}
theorem zkZ (c:UInt8) (hk:K objs (.b (zaq c))):zaf Tryz.prog 90 [.i .u8 c.toNat] objs K :=
 conv (vs:=[.int .u8 c.toNat]) rfl rfl (fun w=>(zdH c w).mono (by rintro e w' ⟨rfl,rfl⟩;exact⟨rfl,Qb.refl _⟩)) hk
theorem rAlpha_k (c:UInt8) (hk:K objs (.b (zbB c))):zaf Tryz.prog 91 [.i .u8 c.toNat] objs K :=
 conv (vs:=[.int .u8 c.toNat]) rfl rfl (fun w=>(zdI c w).mono (by rintro e w' ⟨rfl,rfl⟩;exact⟨rfl,Qb.refl _⟩)) hk
theorem rIn_k (c:UInt8) (s:List UInt8) (hs:s.length<=maxLen) (hk:K objs (.b (zbu c s))):zaf Tryz.prog 82 [.i .u8 c.toNat,.s s] objs K :=
 conv (vs:=[.int .u8 c.toNat,.string (S s)]) rfl rfl (fun w=>(zdJ c (S s) w (by rw[zcb];exact hs)).mono (by rintro e w' ⟨rfl,rfl⟩;exact⟨rfl,Qb.refl _⟩)) hk
theorem znZ (c:UInt8) (hk:K objs (.s (zdB c))):zaf Tryz.prog 97 [.i .u8 c.toNat] objs K :=
 conv (vs:=[.int .u8 c.toNat]) rfl rfl (fun w=>zgt c w) hk
theorem zi1 (c:UInt8) (hk:K objs (.b (idB c))):zaf Tryz.prog 73 [.i .u8 c.toNat] objs K:=by
 refine za4 is_ref10_plain rfl fun C _=>?_;unfold idB at hk;simp only[c_ref10_plain,sxZ,z6,z7,z8,j4,j5,j6,j7,j8,j9,x6,x7,x8,x9,y4,y5,reduceCtorEq,↓reduceIte];refine zae (rAlpha_k c ?_)
 by_cases h1:zbB c=true
 ·simp only[h1,Bool.true_or] at hk;simp only[h1,sxZ,z6,z7,z8,j4,j5,j6,j7,j8,j9,x6,x7,x8,x9,y4,y5,reduceCtorEq,↓reduceIte];exact hk
 ·simp only[h1,sxZ,z6,z7,z8,j4,j5,j6,j7,j8,j9,x6,x7,x8,x9,y4,y5,reduceCtorEq,↓reduceIte];refine zae (zkZ c ?_)
  by_cases h2:zaq c=true
  ·simp only[h1,h2,Bool.true_or,Bool.or_true,Bool.false_or] at hk;simp only[h2,sxZ,z6,z7,z8,j4,j5,j6,j7,j8,j9,x6,x7,x8,x9,y4,y5,reduceCtorEq,↓reduceIte];exact hk
  ·simp only[h1,h2,Bool.false_or] at hk;simp only[h2,sxZ,z6,z7,z8,j4,j5,j6,j7,j8,j9,x6,x7,x8,x9,y4,y5,reduceCtorEq,↓reduceIte];refine zae (rIn_k c _ (by decide) ?_);simp only[sxZ,z6,z7,z8,j4,j5,j6,j7,j8,j9,x6,x7,x8,x9,y4,y5,reduceCtorEq,↓reduceIte];exact hk
set_option maxHeartbeats 4000000 in
theorem zmB (s:List UInt8) (hs:s.length<=1000000) (hk:K objs (.b (zcd s))):zaf Tryz.prog 70 [.s s] objs K:=by
 refine za4 is_ref10_method rfl fun C _=>?_;unfold zcd at hk;simp only[c_ref10_method,sxZ,z6,z7,z8,j4,j5,j6,j7,j8,j9,x6,x7,x8,x9,y4,y5,reduceCtorEq,↓reduceIte];refine zaK (fun n objs tm=>∃i:Nat,i<=s.length/\n=s.length - i/\objs=[]/\(∀j (h:j<s.length),j<i->meB s[j]=true)/\tm.length=29/\tm[0]? = some (.s s)/\tm[3]? = some (.i .i64 i)) s.length ⟨0,zd _,rfl,rfl,fun j h h0=>absurd h0 (by omega),rfl,rfl,rfl⟩ ?_;rintro n _ tm ⟨i,hi,rfl,rfl,hall,hlen,t0,t3⟩
 by_cases hlt:(i:Int)<s.length
 ·have hlt':i<s.length:=by omega
  have hg:=zaP hlt';have hfin:meB s[i]=false->K objs (.b false):=fun h=>by
   rw[ziB hlt' h] at hk;exact hk
  have hnext:meB s[i]=true->∀j (h:j<s.length),j<i+1->meB s[j]=true:=by
   intro h j hj hji;rcases zj j i with h1|h1
   ·exact hall j hj h1
   ·have:j=i:=by omega
    subst this;exact h
  simp only[sxZ,z6,z7,z8,j4,j5,j6,j7,j8,j9,x6,x7,x8,x9,y4,y5,reduceCtorEq,↓reduceIte,za,hlen,t0,t3,hlt];refine⟨by omega,?_⟩;rw[hg];generalize s[i]=c at *;refine zae (zkZ c ?_)
  by_cases hd:zaq c=true
  ·have hm:meB c=true:=by unfold meB;rw[hd];rfl
   simp only[hd,sxZ,z6,z7,z8,j4,j5,j6,j7,j8,j9,x6,x7,x8,x9,y4,y5,reduceCtorEq,↓reduceIte,za,hlen,t0,t3];exact⟨⟨by omega,by omega⟩,s.length - (i+1),by omega,i+1,by omega,rfl,hnext hm,rfl⟩
  ·simp only[Bool.not_eq_true] at hd;have hm:=zow c hd
   by_cases h97:((c.toNat:Nat):Int)<97
   ·have hm2:meB c=false:=by rw[hm,decide_eq_false (by omega)];rfl
    simp only[hd,hg,h97,sxZ,z6,z7,z8,j4,j5,j6,j7,j8,j9,x6,x7,x8,x9,y4,y5,reduceCtorEq,↓reduceIte,za,hlen,t0,t3];exact⟨⟨by omega,by omega⟩,hfin hm2⟩
   ·by_cases h122:(122:Int)<((c.toNat:Nat):Int)
    ·have hm2:meB c=false:=by rw[hm,decide_eq_false (p:=c.toNat<=122) (by omega),Bool.and_false]
     simp only[hd,hg,h97,h122,sxZ,z6,z7,z8,j4,j5,j6,j7,j8,j9,x6,x7,x8,x9,y4,y5,reduceCtorEq,↓reduceIte,za,hlen,t0,t3];exact⟨⟨by omega,by omega⟩,⟨by omega,by omega⟩,hfin hm2⟩
    ·have hm2:meB c=true:=by rw[hm,decide_eq_true (by omega),decide_eq_true (by omega)];rfl
     simp only[hd,hg,h97,h122,sxZ,z6,z7,z8,j4,j5,j6,j7,j8,j9,x6,x7,x8,x9,y4,y5,reduceCtorEq,↓reduceIte,za,hlen,t0,t3];exact⟨⟨by omega,by omega⟩,⟨by omega,by omega⟩,⟨by omega,by omega⟩,s.length - (i+1),by omega,i+1,by omega,rfl,hnext hm2,rfl⟩
 ·have hie:i=s.length:=by omega
  subst hie;have ha:s.all meB=true:=zmh fun j h=>hall j h h;rw[ha] at hk;simp only[sxZ,z6,z7,z8,j4,j5,j6,j7,j8,j9,x6,x7,x8,x9,y4,y5,reduceCtorEq,↓reduceIte,za,hlen,t0,t3,hlt];have e:decide (¬s=[])=(true&&!s.isEmpty):=by cases s<;>simp
  rw[e];exact hk
set_option maxHeartbeats 4000000 in
theorem zgq (s:List UInt8) (hs:s.length<=1000000) (hk:K objs (.s (zdh s))):zaf Tryz.prog 74 [.s s] objs K:=by
 refine za4 is_ref10_Escaped rfl fun C _=>?_;simp only[c_ref10_Escaped,sxZ,z6,z7,z8,j4,j5,j6,j7,j8,j9,x6,x7,x8,x9,y4,y5,reduceCtorEq,↓reduceIte];refine zaK (fun n objs tm=>∃i:Nat,i<=s.length/\n=s.length - i/\objs=[]/\tm.length=29/\tm[0]? = some (.s s)/\tm[3]? = some (.s (zdh (s.take i)))/\tm[4]? = some (.i .i64 i)) s.length ⟨0,zd _,rfl,rfl,rfl,rfl,rfl,rfl⟩ ?_;rintro n _ tm ⟨i,hi,rfl,rfl,hlen,t0,t3,t4⟩;have hacc:=zlK (s.take i);rw[qc] at hacc
 by_cases hlt:(i:Int)<s.length
 ·have hlt':i<s.length:=by omega
  have hg:=zaP hlt';have hsn:zdh (s.take (i+1))=zdh (s.take i)++(if idB s[i]=true then [s[i]] else zdB s[i]):=by
   rw[yc hlt',zpo]
  have hsl:(s.take (i+1)).drop i=[s[i]]:=by
   rw[yc hlt',List.drop_append_of_le_length (by rw[qc];omega)];simp
  generalize s[i]=c at *;simp only[sxZ,z6,z7,z8,j4,j5,j6,j7,j8,j9,x6,x7,x8,x9,y4,y5,reduceCtorEq,↓reduceIte,za,hlen,t0,t3,t4,hlt,hg];refine⟨by omega,?_⟩;refine zae (zi1 c ?_)
  by_cases h:idB c=true
  ·rw[if_pos h] at hsn;simp only[sxZ,z6,z7,z8,j4,j5,j6,j7,j8,j9,x6,x7,x8,x9,y4,y5,reduceCtorEq,↓reduceIte,za,hlen,t0,t3,t4,h,hg,hsl];exact⟨⟨by omega,by omega⟩,⟨by omega,by omega,by omega⟩,by omega,⟨by omega,by omega⟩,s.length - (i+1),by omega,i+1,by omega,rfl,by rw[hsn],rfl⟩
  ·rw[if_neg h] at hsn;simp only[sxZ,z6,z7,z8,j4,j5,j6,j7,j8,j9,x6,x7,x8,x9,y4,y5,reduceCtorEq,↓reduceIte,za,hlen,t0,t3,t4,h,hg];refine⟨by omega,?_⟩;refine zae (znZ c ?_);simp only[sxZ,z6,z7,z8,j4,j5,j6,j7,j8,j9,x6,x7,x8,x9,y4,y5,reduceCtorEq,↓reduceIte,za,hlen,t0,t3,t4,h,hg,zfW];exact⟨by omega,⟨by omega,by omega⟩,s.length - (i+1),by omega,i+1,by omega,rfl,by rw[hsn],rfl⟩
 ·have hie:i=s.length:=by omega
  subst hie;rw[List.take_length] at t3;simp only[sxZ,z6,z7,z8,j4,j5,j6,j7,j8,j9,x6,x7,x8,x9,y4,y5,reduceCtorEq,↓reduceIte,za,hlen,t0,t3,t4,hlt];exact hk
set_option maxHeartbeats 8000000 in
theorem zdG (s:List UInt8) (hs:s.length<=maxLen) (hk:K objs (.tup [.agg [.s (zb2 s).2.1,.s (zb2 s).2.2],.i .i64 (zb2 s).1])):zaf Tryz.prog 32 [.s s] objs K:=by
 have hm:maxLen=2 ^ 63 - 1:=rfl;refine za4 is_ref10_ParseDID rfl fun C _=>?_;unfold zb2 at hk
 by_cases c0:(4096:Int)<↑s.length
 ·have c0':4096<s.length:=by omega
  simp only[c0',if_true] at hk;simp only[c0,c_ref10_ParseDID,sxZ,z6,z7,z8,j4,j5,j6,j7,j8,j9,x6,x7,x8,x9,y4,y5,reduceCtorEq,↓reduceIte];exact hk
 ·have c0':¬4096<s.length:=by omega
  simp only[c0',if_false] at hk;simp only[c0,c_ref10_ParseDID,sxZ,z6,z7,z8,j4,j5,j6,j7,j8,j9,x6,x7,x8,x9,y4,y5,reduceCtorEq,↓reduceIte];refine zae (zi3 s zbq hs ?_)
  by_cases c1:qx s zbq=true
  ·have h4:4<=s.length:=pre_len c1;have hdl:(s.drop 4).length<=s.length:=by rw[zw];omega
   simp only[c1,sxZ,z6,z7,z8,j4,j5,j6,j7,j8,j9,x6,x7,x8,x9,y4,y5,reduceCtorEq,↓reduceIte] at hk ⊢;refine⟨by omega,?_⟩;generalize s.drop 4=r at *;refine zae (zdq r [58] (by omega) (by decide) ?_);have c58:=zgO 58 r;have hil:=zgC r [58]
   by_cases h58:zb8 r [58]<r.length
   ·have e58:=c58.1 h58;rw[e58] at hk;have hne:¬((zb8 r [58]:Nat):Int)=((r.length:Nat):Int):=by omega
    have htl:(r.take (zb8 r [58])).length<=r.length:=by rw[qc];omega
    have hdl2:(r.drop (zb8 r [58]+1)).length<=r.length:=by rw[zw];omega
    simp only[hne,sxZ,z6,z7,z8,j4,j5,j6,j7,j8,j9,x6,x7,x8,x9,y4,y5,reduceCtorEq,↓reduceIte] at hk ⊢;refine⟨⟨by omega,by omega⟩,?_⟩;refine zae (zmB _ (by omega) ?_)
    by_cases c2:zcd (r.take (zb8 r [58]))=true
    ·simp only[c2,sxZ,z6,z7,z8,j4,j5,j6,j7,j8,j9,x6,x7,x8,x9,y4,y5,reduceCtorEq,↓reduceIte] at hk ⊢;refine⟨⟨by omega,by omega⟩,⟨by omega,by omega⟩,?_⟩;refine zae (rSplit_k _ 58 (by omega) ?_);have hid:=zlD (r.drop (zb8 r [58]+1)) (by omega);have hxl:=zg6 58 (r.drop (zb8 r [58]+1));have hxp:=zeZ 58 (r.drop (zb8 r [58]+1));have hxs:∀q∈zaJ 58 (r.drop (zb8 r [58]+1)),q.length<=4096:=fun q hq=>by
      have:=zeF 58 _ q hq;omega
     generalize idE (r.drop (zb8 r [58]+1))=ie at hk hid;generalize zaJ 58 (r.drop (zb8 r [58]+1))=xs at hid hxl hxp hxs ⊢;have hb:zb8 r [58]<=r.length:=hil;clear c58 e58 hil hne;generalize zb8 r [58]=ix at *;simp only[sxZ,z6,z7,z8,j4,j5,j6,j7,j8,j9,x6,x7,x8,x9,y4,y5,reduceCtorEq,↓reduceIte];refine zaK (fun n objs tm=>∃i:Nat,i<=xs.length/\n=xs.length - i/\objs=[.box 62 [.s [],.s []]]/\(∀j (h:j<xs.length),j<i->(zcF xs[j]).1=0)/\tm.length=113/\tm[0]? = some (.s r)/\tm[2]? = some (.p 0 0)/\tm[4]? = some (.i .i64 ix)/\tm[5]? = some (.row xs.length (xs.map .s))/\tm[46]? = some (.row xs.length (xs.map .s))/\tm[47]? = some (.i .i64 xs.length)/\tm[48]? = some (.i .i64 i)) xs.length ⟨0,zd _,rfl,rfl,fun j h h0=>absurd h0 (by omega),rfl,rfl,rfl,rfl,rfl,rfl,rfl,rfl⟩ ?_;rintro n _ tm ⟨i,hi,rfl,rfl,hall,hlen,t0,t2,t4,t5,t46,t47,t48⟩
     by_cases hlt:(i:Int)<xs.length
     ·have hlt':i<xs.length:=by omega
      have hx:(xs.map AV.s)[i]? = some (.s xs[i]):=by simp
      have hni:(zcF xs[i]).1≠0->K objs (.tup [.agg [.s [],.s []],.i .i64 2]):=fun h=>by
       rw[if_pos (fun h2=>h (h2 _ (jc hlt')))] at hid;rw[hid] at hk;simp only[sxZ,z6,z7,z8,j4,j5,j6,j7,j8,j9,x6,x7,x8,x9,y4,y5,reduceCtorEq,↓reduceIte] at hk;exact hk
      have hnext:(zcF xs[i]).1=0->∀j (h:j<xs.length),j<i+1->(zcF xs[j]).1=0:=by
       intro h j hj hji;rcases zj j i with h1|h1
       ·exact hall j hj h1
       ·have:j=i:=by omega
        subst this;exact h
      clear hk;generalize xs[i]=q at *;simp only[sxZ,z6,z7,z8,j4,j5,j6,j7,j8,j9,x6,x7,x8,x9,y4,y5,reduceCtorEq,↓reduceIte,za,hlen,t0,t2,t4,t5,t46,t47,t48,hlt];refine⟨⟨by omega,by simp⟩,?_⟩;rw[Nat.mul_one,hx];simp only[sxZ,z6,z7,z8,j4,j5,j6,j7,j8,j9,x6,x7,x8,x9,y4,y5,reduceCtorEq,↓reduceIte,za,hlen,t0,t2,t4,t5,t46,t47,t48];refine zae (zhd q ?_)
      by_cases hd:(zcF q).1=0
      ·simp only[sxZ,z6,z7,z8,j4,j5,j6,j7,j8,j9,x6,x7,x8,x9,y4,y5,reduceCtorEq,↓reduceIte,za,hlen,t0,t2,t4,t5,t46,t47,t48,hd];exact⟨⟨by omega,by omega⟩,xs.length - (i+1),by omega,i+1,by omega,rfl,hnext hd,rfl⟩
      ·simp only[sxZ,z6,z7,z8,j4,j5,j6,j7,j8,j9,x6,x7,x8,x9,y4,y5,reduceCtorEq,↓reduceIte,za,hlen,t0,t2,t4,t5,t46,t47,t48,hd];exact hni hd
     ·have hie:i=xs.length:=by omega
      subst hie;have hdec:∀q∈xs,(zcF q).1=0:=zqe fun j h=>hall j h h;rw[if_neg (fun h=>h hdec)] at hid;simp only[sxZ,z6,z7,z8,j4,j5,j6,j7,j8,j9,x6,x7,x8,x9,y4,y5,reduceCtorEq,↓reduceIte,za,hlen,t0,t2,t4,t5,t46,t47,t48,hlt];refine zaK (fun n objs tm=>∃i:Nat,∃acc:List UInt8,i<=xs.length/\n=xs.length - i/\objs=[.box 62 [.s [],.s []]]/\(∀j (h:j<xs.length),j<i->xs[j].all ppB=true)/\acc=jn2 (xs.take i)/\acc.length<=i*20000/\tm.length=113/\tm[0]? = some (.s r)/\tm[2]? = some (.p 0 0)/\tm[4]? = some (.i .i64 ix)/\tm[5]? = some (.row xs.length (xs.map .s))/\tm[10]? = some (.s acc)/\tm[61]? = some (.row xs.length (xs.map .s))/\tm[62]? = some (.i .i64 xs.length)/\tm[63]? = some (.i .i64 i)) xs.length ⟨0,[],zd _,rfl,rfl,fun j h h0=>absurd h0 (by omega),rfl,by simp,(by simp only[sxZ,z6,z7,z8,j4,j5,j6,j7,j8,j9,x6,x7,x8,x9,y4,y5,reduceCtorEq,↓reduceIte,za,hlen];try rfl),(by simp only[sxZ,z6,z7,z8,j4,j5,j6,j7,j8,j9,x6,x7,x8,x9,y4,y5,reduceCtorEq,↓reduceIte,za,hlen,t0];try rfl),(by simp only[sxZ,z6,z7,z8,j4,j5,j6,j7,j8,j9,x6,x7,x8,x9,y4,y5,reduceCtorEq,↓reduceIte,za,hlen,t2];try rfl),(by simp only[sxZ,z6,z7,z8,j4,j5,j6,j7,j8,j9,x6,x7,x8,x9,y4,y5,reduceCtorEq,↓reduceIte,za,hlen,t4];try rfl),(by simp only[sxZ,z6,z7,z8,j4,j5,j6,j7,j8,j9,x6,x7,x8,x9,y4,y5,reduceCtorEq,↓reduceIte,za,hlen,t5];try rfl),(by simp only[sxZ,z6,z7,z8,j4,j5,j6,j7,j8,j9,x6,x7,x8,x9,y4,y5,reduceCtorEq,↓reduceIte,za,hlen];try rfl),(by simp only[sxZ,z6,z7,z8,j4,j5,j6,j7,j8,j9,x6,x7,x8,x9,y4,y5,reduceCtorEq,↓reduceIte,za,hlen];try rfl),(by simp only[sxZ,z6,z7,z8,j4,j5,j6,j7,j8,j9,x6,x7,x8,x9,y4,y5,reduceCtorEq,↓reduceIte,za,hlen];try rfl),(by simp only[sxZ,z6,z7,z8,j4,j5,j6,j7,j8,j9,x6,x7,x8,x9,y4,y5,reduceCtorEq,↓reduceIte,za,hlen];try rfl)⟩ ?_;clear hall hlt t0 t2 t4 t5 t46 t47 t48 hlen tm;rintro n _ tm ⟨i,acc,hi,rfl,rfl,hall,hacc,hal,hlen,t0,t2,t4,t5,t10,t61,t62,t63⟩
      by_cases hlt:(i:Int)<xs.length
      ·have hlt':i<xs.length:=by omega
       have hx:(xs.map AV.s)[i]? = some (.s xs[i]):=by simp
       have hql:xs[i].length<=4096:=hxs _ (jc hlt');have hni:xs[i].all ppB=false->K objs (.tup [.agg [.s [],.s []],.i .i64 1]):=fun h=>by
        have:(xs.all fun q=>q.all ppB)=false:=by
         rw[Bool.eq_false_iff];intro e;have:=zt.1 e _ (jc hlt');rw[h] at this;cases this
        rw[if_pos this] at hid;rw[hid] at hk;simp only[sxZ,z6,z7,z8,j4,j5,j6,j7,j8,j9,x6,x7,x8,x9,y4,y5,reduceCtorEq,↓reduceIte] at hk;exact hk
       have hnext:xs[i].all ppB=true->∀j (h:j<xs.length),j<i+1->xs[j].all ppB=true:=by
        intro h j hj hji;rcases zj j i with h1|h1
        ·exact hall j hj h1
        ·have:j=i:=by omega
         subst this;exact h
       have htk:jn2 (xs.take (i+1))=(if xs.take i=[] then [] else acc++[58])++zbj xs[i]:=by
        rw[yc hlt',jn2_snoc,hacc]
       have htn:xs.take i=[]↔i=0:=by
        rw[List.take_eq_nil_iff]
        constructor
        ·rintro(h|h)
         ·exact h
         ·rw[h] at hxp;simp at hxp
        ·exact fun h=>.inl h
       have hdq:=hdec _ (jc hlt');have hdl3:(zcF xs[i]).2.length<=4096:=by
        have h2:(zcF xs[i]).2.length<=xs[i].length:=by
         rw[zd2 (by omega)] at hdq ⊢;exact dcL_len _ hdq
        omega
       have hpl:(zdh (zcF xs[i]).2).length<=13000:=by
        have h1:=zlK (zcF xs[i]).2;omega
       clear hk hid hall hacc hxs hdec;have hpe:zbj xs[i]=zdh (zcF xs[i]).2:=rfl;generalize xs[i]=q at *;simp only[sxZ,z6,z7,z8,j4,j5,j6,j7,j8,j9,x6,x7,x8,x9,y4,y5,reduceCtorEq,↓reduceIte,za,hlen,t0,t2,t4,t5,t10,t61,t62,t63,hlt];refine⟨⟨by omega,by simp⟩,?_⟩;rw[Nat.mul_one,hx];simp only[sxZ,z6,z7,z8,j4,j5,j6,j7,j8,j9,x6,x7,x8,x9,y4,y5,reduceCtorEq,↓reduceIte,za,hlen,t0,t2,t4,t5,t10,t61,t62,t63];refine zaK (fun n objs tm=>∃k:Nat,k<=q.length/\n=q.length - k/\objs=[.box 62 [.s [],.s []]]/\(∀j (h:j<q.length),j<k->ppB q[j]=true)/\tm.length=113/\tm[0]? = some (.s r)/\tm[2]? = some (.p 0 0)/\tm[4]? = some (.i .i64 ix)/\tm[5]? = some (.row xs.length (xs.map .s))/\tm[10]? = some (.s acc)/\tm[11]? = some (.i .i64 i)/\tm[12]? = some (.s q)/\tm[13]? = some (.i .i64 k)/\tm[61]? = some (.row xs.length (xs.map .s))/\tm[62]? = some (.i .i64 xs.length)/\tm[63]? = some (.i .i64 i)) q.length ⟨0,zd _,rfl,rfl,fun j h h0=>absurd h0 (by omega),(by simp only[sxZ,z6,z7,z8,j4,j5,j6,j7,j8,j9,x6,x7,x8,x9,y4,y5,reduceCtorEq,↓reduceIte,za,hlen];try rfl),(by simp only[sxZ,z6,z7,z8,j4,j5,j6,j7,j8,j9,x6,x7,x8,x9,y4,y5,reduceCtorEq,↓reduceIte,za,hlen,t0];try rfl),(by simp only[sxZ,z6,z7,z8,j4,j5,j6,j7,j8,j9,x6,x7,x8,x9,y4,y5,reduceCtorEq,↓reduceIte,za,hlen,t2];try rfl),(by simp only[sxZ,z6,z7,z8,j4,j5,j6,j7,j8,j9,x6,x7,x8,x9,y4,y5,reduceCtorEq,↓reduceIte,za,hlen,t4];try rfl),(by simp only[sxZ,z6,z7,z8,j4,j5,j6,j7,j8,j9,x6,x7,x8,x9,y4,y5,reduceCtorEq,↓reduceIte,za,hlen,t5];try rfl),(by simp only[sxZ,z6,z7,z8,j4,j5,j6,j7,j8,j9,x6,x7,x8,x9,y4,y5,reduceCtorEq,↓reduceIte,za,hlen,t10];try rfl),(by simp only[sxZ,z6,z7,z8,j4,j5,j6,j7,j8,j9,x6,x7,x8,x9,y4,y5,reduceCtorEq,↓reduceIte,za,hlen];try rfl),(by simp only[sxZ,z6,z7,z8,j4,j5,j6,j7,j8,j9,x6,x7,x8,x9,y4,y5,reduceCtorEq,↓reduceIte,za,hlen];try rfl),(by simp only[sxZ,z6,z7,z8,j4,j5,j6,j7,j8,j9,x6,x7,x8,x9,y4,y5,reduceCtorEq,↓reduceIte,za,hlen];try rfl),(by simp only[sxZ,z6,z7,z8,j4,j5,j6,j7,j8,j9,x6,x7,x8,x9,y4,y5,reduceCtorEq,↓reduceIte,za,hlen,t61];try rfl),(by simp only[sxZ,z6,z7,z8,j4,j5,j6,j7,j8,j9,x6,x7,x8,x9,y4,y5,reduceCtorEq,↓reduceIte,za,hlen,t62];try rfl),(by simp only[sxZ,z6,z7,z8,j4,j5,j6,j7,j8,j9,x6,x7,x8,x9,y4,y5,reduceCtorEq,↓reduceIte,za,hlen,t63];try rfl)⟩ ?_;clear hx t0 t2 t4 t5 t10 t61 t62 t63 hlen tm;rintro n _ tm ⟨k,hk1,rfl,rfl,hall,hlen,t0,t2,t4,t5,t10,t11,t12,t13,t61,t62,t63⟩
       by_cases hkl:(k:Int)<q.length
       ·have hkl':k<q.length:=by omega
        have hg:=zaP hkl';have hbad:ppB q[k]=false->K objs (.tup [.agg [.s [],.s []],.i .i64 1]):=fun h=>hni (ziB hkl' h);have hgood:ppB q[k]=true->∀j (h:j<q.length),j<k+1->ppB q[j]=true:=by
         intro h j hj hji;rcases zj j k with h1|h1
         ·exact hall j hj h1
         ·have:j=k:=by omega
          subst this;exact h
        generalize q[k]=c at *;have hpp:=pp_iff c;simp only[sxZ,z6,z7,z8,j4,j5,j6,j7,j8,j9,x6,x7,x8,x9,y4,y5,reduceCtorEq,↓reduceIte,za,hlen,t0,t2,t4,t5,t10,t11,t12,t13,t61,t62,t63,hkl,hg];refine⟨by omega,?_⟩;refine zae (zi1 c ?_)
        by_cases hid:idB c=true
        ·simp only[sxZ,z6,z7,z8,j4,j5,j6,j7,j8,j9,x6,x7,x8,x9,y4,y5,reduceCtorEq,↓reduceIte,za,hlen,t0,t2,t4,t5,t10,t11,t12,t13,t61,t62,t63,hg,hid];have hpt:ppB c=true:=by rw[hpp,hid,Bool.or_true]
         exact⟨⟨by omega,by omega⟩,q.length - (k+1),by omega,k+1,by omega,rfl,hgood hpt,rfl⟩
        ·simp only[Bool.not_eq_true] at hid;rw[hid,Bool.or_false] at hpp
         by_cases h37:c=37
         ·have e37:((c.toNat:Nat):Int)=37:=by rw[h37];rfl
          have hpt:ppB c=true:=by rw[hpp,h37];rfl
          simp only[sxZ,z6,z7,z8,j4,j5,j6,j7,j8,j9,x6,x7,x8,x9,y4,y5,reduceCtorEq,↓reduceIte,za,hlen,t0,t2,t4,t5,t10,t11,t12,t13,t61,t62,t63,hg,hid,e37];exact⟨⟨by omega,by omega⟩,⟨by omega,by omega⟩,q.length - (k+1),by omega,k+1,by omega,rfl,hgood hpt,rfl⟩
         ·have e37:¬((c.toNat:Nat):Int)=37:=fun e=>h37 (UInt8.toNat_inj.1 (by have:(37:UInt8).toNat=37:=rfl;omega));have hpf:ppB c=false:=by rw[hpp];simpa using h37
          simp only[sxZ,z6,z7,z8,j4,j5,j6,j7,j8,j9,x6,x7,x8,x9,y4,y5,reduceCtorEq,↓reduceIte,za,hlen,t0,t2,t4,t5,t10,t11,t12,t13,t61,t62,t63,hg,hid,e37];exact⟨⟨by omega,by omega⟩,hbad hpf⟩
       ·have hqa:q.all ppB=true:=zmh fun j h=>hall j h (by omega);simp only[sxZ,z6,z7,z8,j4,j5,j6,j7,j8,j9,x6,x7,x8,x9,y4,y5,reduceCtorEq,↓reduceIte,za,hlen,t0,t2,t4,t5,t10,t11,t12,t13,t61,t62,t63,hkl];refine zae (zhd q ?_)
        by_cases hi0:i=0
        ·subst hi0;have hgt:¬(0:Int)<((0:Nat):Int):=by decide
         rw[if_pos (htn.2 rfl)] at htk;have hac:acc.length<=0:=by omega
         obtain rfl:acc=[]:=jd (by omega);simp only[sxZ,z6,z7,z8,j4,j5,j6,j7,j8,j9,x6,x7,x8,x9,y4,y5,reduceCtorEq,↓reduceIte,za,hlen,t0,t2,t4,t5,t10,t11,t12,t13,t61,t62,t63,hgt];refine zae (zgq _ (by omega) ?_);simp only[sxZ,z6,z7,z8,j4,j5,j6,j7,j8,j9,x6,x7,x8,x9,y4,y5,reduceCtorEq,↓reduceIte,za,hlen,t0,t2,t4,t5,t10,t11,t12,t13,t61,t62,t63];exact⟨by omega,⟨by omega,by omega⟩,xs.length - 1,by omega,1,_,by omega,rfl,hnext hqa,by rw[htk,hpe];rfl,by omega,rfl,rfl⟩
        ·have hgt:(0:Int)<((i:Nat):Int):=by omega
         rw[if_neg (fun h=>hi0 (htn.1 h))] at htk;simp only[sxZ,z6,z7,z8,j4,j5,j6,j7,j8,j9,x6,x7,x8,x9,y4,y5,reduceCtorEq,↓reduceIte,za,hlen,t0,t2,t4,t5,t10,t11,t12,t13,t61,t62,t63,hgt];have hib:i*20000<=100000000:=by omega
         refine⟨by omega,?_⟩;refine zae (zgq _ (by omega) ?_);simp only[sxZ,z6,z7,z8,j4,j5,j6,j7,j8,j9,x6,x7,x8,x9,y4,y5,reduceCtorEq,↓reduceIte,za,hlen,t0,t2,t4,t5,t10,t11,t12,t13,t61,t62,t63];exact⟨by omega,⟨by omega,by omega⟩,xs.length - (i+1),by omega,i+1,_,by omega,rfl,hnext hqa,by rw[htk,hpe],by simp only[zk,zu,qk];omega,rfl,rfl⟩
      ·have hie:i=xs.length:=by omega
       subst hie;have hal2:(xs.all fun q=>q.all ppB)=true:=zt.2 (zqe fun j h=>hall j h h);rw[if_neg (by rw[hal2];simp)] at hid;have hlast:xs.getLastD []=xs[xs.length - 1]:=zfI xs [] hxp;have hxn:(xs.map AV.s)[((xs.length:Int) - 1).toNat*1]? = some (.s xs[xs.length - 1]):=by
        rw[show ((xs.length:Int) - 1).toNat*1=xs.length - 1 by omega,qo,zm (by omega)];rfl
       rw[List.take_length] at hacc;simp only[sxZ,z6,z7,z8,j4,j5,j6,j7,j8,j9,x6,x7,x8,x9,y4,y5,reduceCtorEq,↓reduceIte,za,hlen,t0,t2,t4,t5,t10,t61,t62,t63,hlt];refine⟨⟨by omega,by omega⟩,⟨by omega,by omega,by simp⟩,?_⟩;rw[hxn];rw[hlast] at hid
       by_cases hz:xs[xs.length - 1]=[]
       ·rw[if_pos hz] at hid;rw[hid] at hk;simp only[sxZ,z6,z7,z8,j4,j5,j6,j7,j8,j9,x6,x7,x8,x9,y4,y5,reduceCtorEq,↓reduceIte,za,hlen,t0,t2,t4,t5,t10,t61,t62,t63,hz] at hk ⊢;exact hk
       ·rw[if_neg hz] at hid;rw[hid] at hk;simp only[sxZ,z6,z7,z8,j4,j5,j6,j7,j8,j9,x6,x7,x8,x9,y4,y5,reduceCtorEq,↓reduceIte] at hk;simp only[sxZ,z6,z7,z8,j4,j5,j6,j7,j8,j9,x6,x7,x8,x9,y4,y5,reduceCtorEq,↓reduceIte,za,hlen,t0,t2,t4,t5,t10,t61,t62,t63,hz];refine⟨⟨by omega,by omega⟩,?_⟩;rw[hacc];exact hk
    ·simp only[c2,sxZ,z6,z7,z8,j4,j5,j6,j7,j8,j9,x6,x7,x8,x9,y4,y5,reduceCtorEq,↓reduceIte] at hk ⊢;exact hk
   ·have e58:=c58.2 h58;rw[e58] at hk;have hne:((zb8 r [58]:Nat):Int)=((r.length:Nat):Int):=by omega
    simp only[hne,sxZ,z6,z7,z8,j4,j5,j6,j7,j8,j9,x6,x7,x8,x9,y4,y5,reduceCtorEq,↓reduceIte] at hk ⊢;exact hk
  ·simp only[c1,sxZ,z6,z7,z8,j4,j5,j6,j7,j8,j9,x6,x7,x8,x9,y4,y5,reduceCtorEq,↓reduceIte] at hk ⊢;exact hk
end
theorem zin:∀s:List UInt8,s.take (zb8 s [47,63,35])=zbl s/\zb8 s [47,63,35]=(zbl s).length
 | []=>⟨rfl,rfl⟩
 | c::t=>by
  have ih:=zin t;rw[zjj]
  by_cases h35:c=35
  ·subst h35;have:zbl (35::t)=[]:=by simp[zbl,za6,zaF,zbU,zaw]
   rw[this];simp[zbu]
  ·by_cases h63:c=63
   ·subst h63;have:zbl (63::t)=[]:=by simp[zbl,za6,zaF,zbU,zaw]
    rw[this];simp[zbu]
   ·by_cases h47:c=47
    ·subst h47;have:zbl (47::t)=[]:=by simp[zbl,za6,zaF,zbU]
     rw[this];simp[zbu]
    ·have hb:zbu c [47,63,35]=false:=by simp[zbu,h35,h63,h47]
     have:zbl (c::t)=c::zbl t:=by simp[zbl,za6,zaF,zbU,h35,h63,h47]
     rw[hb,if_neg Bool.false_ne_true,this,List.take_succ_cons,ih.1,ih.2];exact⟨rfl,rfl⟩
theorem zps (s:List UInt8):(zaw 35 (s.drop (zbl s).length)).1=(zaw 35 s).1.drop (zbl s).length/\(zaw 35 (s.drop (zbl s).length)).2=(zaw 35 s).2:=by
 induction s with
 | nil=>exact⟨rfl,rfl⟩
 | cons c t ih=>
  by_cases h35:c=35
  ·subst h35;have:zbl (35::t)=[]:=by simp[zbl,za6,zaF,zbU,zaw]
   rw[this];simp
  ·by_cases h63:c=63
   ·subst h63;have:zbl (63::t)=[]:=by simp[zbl,za6,zaF,zbU,zaw]
    rw[this];simp
   ·by_cases h47:c=47
    ·subst h47;have:zbl (47::t)=[]:=by simp[zbl,za6,zaF,zbU]
     rw[this];simp
    ·have:zbl (c::t)=c::zbl t:=by simp[zbl,za6,zaF,zbU,h35,h63,h47]
     rw[this,zu,List.drop_succ_cons,zaF,if_neg h35];exact⟨by rw[ih.1];rfl,ih.2⟩
theorem zmM (s:List UInt8):(zaw 63 ((zaw 35 s).1.drop (zbl s).length)).1=(za6 s).drop (zbl s).length/\(zaw 63 ((zaw 35 s).1.drop (zbl s).length)).2=(zaw 63 (zaw 35 s).1).2:=by
 induction s with
 | nil=>exact⟨rfl,rfl⟩
 | cons c t ih=>
  by_cases h35:c=35
  ·subst h35;have:zbl (35::t)=[]:=by simp[zbl,za6,zaF,zbU,zaw]
   rw[this];simp[za6]
  ·by_cases h63:c=63
   ·subst h63;have:zbl (63::t)=[]:=by simp[zbl,za6,zaF,zbU,zaw]
    rw[this];simp[za6]
   ·by_cases h47:c=47
    ·subst h47;have:zbl (47::t)=[]:=by simp[zbl,za6,zaF,zbU]
     rw[this];simp[za6]
    ·have hn:zbl (c::t)=c::zbl t:=by simp[zbl,za6,zaF,zbU,h35,h63,h47]
     have hb:za6 (c::t)=c::za6 t:=by simp[za6,zaF,h35,h63]
     rw[hn,hb,zu,zaF,if_neg h35];simp only[List.drop_succ_cons];rw[zaF,if_neg h63];exact ih
theorem didL_len (s:List UInt8):(zbl s).length<=s.length:=by
 have:=(zin s).2;have h:=zgC s [47,63,35];omega
section
variable [Tabs Tryz.prog] {objs:List OB} {K:List OB->AV->Prop}
set_option maxHeartbeats 8000000 in
theorem zgp (s:List UInt8) (hs:s.length<=maxLen) (hk:K objs (.tup [zbm (zdw s).2,.i .i64 (zdw s).1])):zaf Tryz.prog 81 [.s s] objs K:=by
 have hm:maxLen=2 ^ 63 - 1:=rfl;refine za4 is_ref10_Parse rfl fun C _=>?_;unfold zdw at hk
 by_cases c0:(4096:Int)<↑s.length
 ·have c0':4096<s.length:=by omega
  simp only[c0',if_true,zbm,zfj] at hk;simp only[c0,c_ref10_Parse,sxZ,z6,z7,z8,j4,j5,j6,j7,j8,j9,x6,x7,x8,x9,y4,y5,reduceCtorEq,↓reduceIte];exact hk
 ·have c0':¬4096<s.length:=by omega
  simp only[c0',if_false] at hk;simp only[c0,c_ref10_Parse,sxZ,z6,z7,z8,j4,j5,j6,j7,j8,j9,x6,x7,x8,x9,y4,y5,reduceCtorEq,↓reduceIte];refine zae (zdq s [47,63,35] (by omega) (by decide) ?_);obtain⟨x1,x2⟩:=zin s;have hnl:=didL_len s;have d1:=zps s;have d2:=zmM s;rw[x2] at x1;rw[x2];simp only[sxZ,z6,z7,z8,j4,j5,j6,j7,j8,j9,x6,x7,x8,x9,y4,y5,reduceCtorEq,↓reduceIte];refine⟨⟨by omega,by omega⟩,?_⟩;rw[x1];refine zae (zdG (zbl s) (by omega) ?_);rw[<-d2.1,<-d2.2] at hk;rw[<-d1.1] at hk d2;rw[<-d1.2] at hk;have hrl:(s.drop (zbl s).length).length<=s.length:=by rw[zw];omega
  generalize hrest:s.drop (zbl s).length=rest at *;generalize hnn:zbl s=nm at *;clear d1 d2 x1 x2
  by_cases c1:(zb2 nm).1=0
  ·simp only[c1,sxZ,z6,z7,z8,j4,j5,j6,j7,j8,j9,x6,x7,x8,x9,y4,y5,reduceCtorEq,↓reduceIte] at hk ⊢;refine⟨⟨by omega,by omega⟩,?_⟩;rw[hrest];refine zae (zdq rest [35] (by omega) (by decide) ?_);have c35:=zgO 35 rest;have hil:=zgC rest [35]
   by_cases h35:zb8 rest [35]<rest.length
   ·have e35:=c35.1 h35;rw[e35] at hk;have hne:((zb8 rest [35]:Nat):Int)<((rest.length:Nat):Int):=by omega
    have hr2:(rest.take (zb8 rest [35])).length<=rest.length:=by rw[qc];omega
    simp only[hne,sxZ,z6,z7,z8,j4,j5,j6,j7,j8,j9,x6,x7,x8,x9,y4,y5,reduceCtorEq,↓reduceIte] at hk ⊢;refine⟨⟨by omega,by omega⟩,⟨by omega,by omega⟩,⟨by omega,by omega⟩,?_⟩;generalize rest.take (zb8 rest [35])=r2 at *;generalize rest.drop (zb8 rest [35]+1)=fr at hk ⊢;refine zae (zdq r2 [63] (by omega) (by decide) ?_);have c63:=zgO 63 r2;have hil2:=zgC r2 [63]
    by_cases h63:zb8 r2 [63]<r2.length
    ·have e63:=c63.1 h63;rw[e63] at hk;have hne2:((zb8 r2 [63]:Nat):Int)<((r2.length:Nat):Int):=by omega
     simp only[hne2,sxZ,z6,z7,z8,j4,j5,j6,j7,j8,j9,x6,x7,x8,x9,y4,y5,reduceCtorEq,↓reduceIte] at hk ⊢;refine⟨⟨by omega,by omega⟩,⟨by omega,by omega⟩,⟨by omega,by omega⟩,?_⟩;have e63':((zb8 r2 [63]:Int)+1).toNat=zb8 r2 [63]+1:=by omega
     try rw[e63']
     generalize r2.take (zb8 r2 [63])=pa at hk ⊢;generalize r2.drop (zb8 r2 [63]+1)=qu at hk ⊢;refine zae (zbJ pa zax (by decide) ?_)
     by_cases c2:(zat pa zax).1=0
     ·simp only[c2,sxZ,z6,z7,z8,j4,j5,j6,j7,j8,j9,x6,x7,x8,x9,y4,y5,reduceCtorEq,↓reduceIte] at hk ⊢;refine zae (zbJ qu zak (by decide) ?_)
      by_cases c3:(zat qu zak).1=0
      ·simp only[c3,sxZ,z6,z7,z8,j4,j5,j6,j7,j8,j9,x6,x7,x8,x9,y4,y5,reduceCtorEq,↓reduceIte] at hk ⊢;refine zae (zbJ fr zak (by decide) ?_)
       by_cases c4:(zat fr zak).1=0
       ·simp only[c4,zbm,sxZ,z6,z7,z8,j4,j5,j6,j7,j8,j9,x6,x7,x8,x9,y4,y5,reduceCtorEq,↓reduceIte] at hk ⊢;exact hk
       ·simp only[c4,zbm,zfj,sxZ,z6,z7,z8,j4,j5,j6,j7,j8,j9,x6,x7,x8,x9,y4,y5,reduceCtorEq,↓reduceIte] at hk ⊢;exact hk
      ·simp only[c3,zbm,zfj,sxZ,z6,z7,z8,j4,j5,j6,j7,j8,j9,x6,x7,x8,x9,y4,y5,reduceCtorEq,↓reduceIte] at hk ⊢;exact hk
     ·simp only[c2,zbm,zfj,sxZ,z6,z7,z8,j4,j5,j6,j7,j8,j9,x6,x7,x8,x9,y4,y5,reduceCtorEq,↓reduceIte] at hk ⊢;exact hk
    ·have e63:=c63.2 h63;rw[e63] at hk;have hne2:¬((zb8 r2 [63]:Nat):Int)<((r2.length:Nat):Int):=by omega
     simp only[hne2,sxZ,z6,z7,z8,j4,j5,j6,j7,j8,j9,x6,x7,x8,x9,y4,y5,reduceCtorEq,↓reduceIte] at hk ⊢;refine zae (zbJ r2 zax (by decide) ?_)
     by_cases c2:(zat r2 zax).1=0
     ·simp only[c2,sxZ,z6,z7,z8,j4,j5,j6,j7,j8,j9,x6,x7,x8,x9,y4,y5,reduceCtorEq,↓reduceIte] at hk ⊢;refine zae (zbJ ([]:List UInt8) zak (by decide) ?_)
      by_cases c3:(zat ([]:List UInt8) zak).1=0
      ·simp only[c3,sxZ,z6,z7,z8,j4,j5,j6,j7,j8,j9,x6,x7,x8,x9,y4,y5,reduceCtorEq,↓reduceIte] at hk ⊢;refine zae (zbJ fr zak (by decide) ?_)
       by_cases c4:(zat fr zak).1=0
       ·simp only[c4,zbm,sxZ,z6,z7,z8,j4,j5,j6,j7,j8,j9,x6,x7,x8,x9,y4,y5,reduceCtorEq,↓reduceIte] at hk ⊢;exact hk
       ·simp only[c4,zbm,zfj,sxZ,z6,z7,z8,j4,j5,j6,j7,j8,j9,x6,x7,x8,x9,y4,y5,reduceCtorEq,↓reduceIte] at hk ⊢;exact hk
      ·simp only[c3,zbm,zfj,sxZ,z6,z7,z8,j4,j5,j6,j7,j8,j9,x6,x7,x8,x9,y4,y5,reduceCtorEq,↓reduceIte] at hk ⊢;exact hk
     ·simp only[c2,zbm,zfj,sxZ,z6,z7,z8,j4,j5,j6,j7,j8,j9,x6,x7,x8,x9,y4,y5,reduceCtorEq,↓reduceIte] at hk ⊢;exact hk
   ·have e35:=c35.2 h35;rw[e35] at hk;have hne:¬((zb8 rest [35]:Nat):Int)<((rest.length:Nat):Int):=by omega
    have hr2:rest.length<=rest.length:=ze _;simp only[hne,sxZ,z6,z7,z8,j4,j5,j6,j7,j8,j9,x6,x7,x8,x9,y4,y5,reduceCtorEq,↓reduceIte] at hk ⊢;refine zae (zdq rest [63] (by omega) (by decide) ?_);have c63:=zgO 63 rest;have hil2:=zgC rest [63]
    by_cases h63:zb8 rest [63]<rest.length
    ·have e63:=c63.1 h63;rw[e63] at hk;have hne2:((zb8 rest [63]:Nat):Int)<((rest.length:Nat):Int):=by omega
     simp only[hne2,sxZ,z6,z7,z8,j4,j5,j6,j7,j8,j9,x6,x7,x8,x9,y4,y5,reduceCtorEq,↓reduceIte] at hk ⊢;refine⟨⟨by omega,by omega⟩,⟨by omega,by omega⟩,⟨by omega,by omega⟩,?_⟩;have e63':((zb8 rest [63]:Int)+1).toNat=zb8 rest [63]+1:=by omega
     try rw[e63']
     generalize rest.take (zb8 rest [63])=pa at hk ⊢;generalize rest.drop (zb8 rest [63]+1)=qu at hk ⊢;refine zae (zbJ pa zax (by decide) ?_)
     by_cases c2:(zat pa zax).1=0
     ·simp only[c2,sxZ,z6,z7,z8,j4,j5,j6,j7,j8,j9,x6,x7,x8,x9,y4,y5,reduceCtorEq,↓reduceIte] at hk ⊢;refine zae (zbJ qu zak (by decide) ?_)
      by_cases c3:(zat qu zak).1=0
      ·simp only[c3,sxZ,z6,z7,z8,j4,j5,j6,j7,j8,j9,x6,x7,x8,x9,y4,y5,reduceCtorEq,↓reduceIte] at hk ⊢;refine zae (zbJ ([]:List UInt8) zak (by decide) ?_)
       by_cases c4:(zat ([]:List UInt8) zak).1=0
       ·simp only[c4,zbm,sxZ,z6,z7,z8,j4,j5,j6,j7,j8,j9,x6,x7,x8,x9,y4,y5,reduceCtorEq,↓reduceIte] at hk ⊢;exact hk
       ·simp only[c4,zbm,zfj,sxZ,z6,z7,z8,j4,j5,j6,j7,j8,j9,x6,x7,x8,x9,y4,y5,reduceCtorEq,↓reduceIte] at hk ⊢;exact hk
      ·simp only[c3,zbm,zfj,sxZ,z6,z7,z8,j4,j5,j6,j7,j8,j9,x6,x7,x8,x9,y4,y5,reduceCtorEq,↓reduceIte] at hk ⊢;exact hk
     ·simp only[c2,zbm,zfj,sxZ,z6,z7,z8,j4,j5,j6,j7,j8,j9,x6,x7,x8,x9,y4,y5,reduceCtorEq,↓reduceIte] at hk ⊢;exact hk
    ·have e63:=c63.2 h63;rw[e63] at hk;have hne2:¬((zb8 rest [63]:Nat):Int)<((rest.length:Nat):Int):=by omega
     simp only[hne2,sxZ,z6,z7,z8,j4,j5,j6,j7,j8,j9,x6,x7,x8,x9,y4,y5,reduceCtorEq,↓reduceIte] at hk ⊢;refine zae (zbJ rest zax (by decide) ?_)
     by_cases c2:(zat rest zax).1=0
     ·simp only[c2,sxZ,z6,z7,z8,j4,j5,j6,j7,j8,j9,x6,x7,x8,x9,y4,y5,reduceCtorEq,↓reduceIte] at hk ⊢;refine zae (zbJ ([]:List UInt8) zak (by decide) ?_)
      by_cases c3:(zat ([]:List UInt8) zak).1=0
      ·simp only[c3,sxZ,z6,z7,z8,j4,j5,j6,j7,j8,j9,x6,x7,x8,x9,y4,y5,reduceCtorEq,↓reduceIte] at hk ⊢;refine zae (zbJ ([]:List UInt8) zak (by decide) ?_)
       by_cases c4:(zat ([]:List UInt8) zak).1=0
       ·simp only[c4,zbm,sxZ,z6,z7,z8,j4,j5,j6,j7,j8,j9,x6,x7,x8,x9,y4,y5,reduceCtorEq,↓reduceIte] at hk ⊢;exact hk
       ·exact absurd c3 c4
      ·simp only[c3,zbm,zfj,sxZ,z6,z7,z8,j4,j5,j6,j7,j8,j9,x6,x7,x8,x9,y4,y5,reduceCtorEq,↓reduceIte] at hk ⊢;exact hk
     ·simp only[c2,zbm,zfj,sxZ,z6,z7,z8,j4,j5,j6,j7,j8,j9,x6,x7,x8,x9,y4,y5,reduceCtorEq,↓reduceIte] at hk ⊢;exact hk
  ·simp only[c1,zbm,zfj,sxZ,z6,z7,z8,j4,j5,j6,j7,j8,j9,x6,x7,x8,x9,y4,y5,reduceCtorEq,↓reduceIte] at hk ⊢;exact hk
set_option maxHeartbeats 4000000 in
theorem zgo (m i r:List UInt8) (h1:m.length<=200000000) (h2:i.length<=200000000) (hr:r.length<=200000000) (hk:K objs (.tup [zbm (zdp m i r).2,.i .i64 (zdp m i r).1])):zaf Tryz.prog 43 [.agg [.s m,.s i],.s r] objs K:=by
 have hm:maxLen=2 ^ 63 - 1:=rfl;have hl:=zcE m i;refine za4 is_ref10_Resolve rfl fun C _=>?_;unfold zdp at hk;simp only[c_ref10_Resolve,sxZ,z6,z7,z8,j4,j5,j6,j7,j8,j9,x6,x7,x8,x9,y4,y5,reduceCtorEq,↓reduceIte];refine zae (zi3 r zbq (by omega) ?_)
 by_cases c1:qx r zbq=true
 ·simp only[c1,sxZ,z6,z7,z8,j4,j5,j6,j7,j8,j9,x6,x7,x8,x9,y4,y5,reduceCtorEq,↓reduceIte] at hk ⊢;refine zae (zgp r (by omega) ?_);simp only[zbm,sxZ,z6,z7,z8,j4,j5,j6,j7,j8,j9,x6,x7,x8,x9,y4,y5,reduceCtorEq,↓reduceIte] at hk ⊢;exact hk
 ·cases r with
  | nil=>
   simp only[c1,sxZ,z6,z7,z8,j4,j5,j6,j7,j8,j9,x6,x7,x8,x9,y4,y5,reduceCtorEq,↓reduceIte] at hk ⊢;refine zae (zb1 m i (by omega) (by omega) ?_);simp only[sxZ,z6,z7,z8,j4,j5,j6,j7,j8,j9,x6,x7,x8,x9,y4,y5,reduceCtorEq,↓reduceIte];refine⟨by omega,?_⟩;refine zae (zgp _ (by omega) ?_);simp only[zbm,sxZ,z6,z7,z8,j4,j5,j6,j7,j8,j9,x6,x7,x8,x9,y4,y5,reduceCtorEq,↓reduceIte,true_or] at hk ⊢;exact hk
  | cons c t=>
   simp only[c1,sxZ,z6,z7,z8,j4,j5,j6,j7,j8,j9,x6,x7,x8,x9,y4,y5,reduceCtorEq,↓reduceIte,List.head?_cons,Option.some.injEq,false_or] at hk;simp only[c1,sxZ,z6,z7,z8,j4,j5,j6,j7,j8,j9,x6,x7,x8,x9,y4,y5,reduceCtorEq,↓reduceIte,List.getD_cons_zero];refine⟨by omega,?_⟩;refine zae (rIn_k c _ (by decide) ?_)
   by_cases c2:zbu c [47,63,35]=true
   ·simp only[c2,sxZ,z6,z7,z8,j4,j5,j6,j7,j8,j9,x6,x7,x8,x9,y4,y5,reduceCtorEq,↓reduceIte] at hk ⊢;refine zae (zb1 m i (by omega) (by omega) ?_);simp only[sxZ,z6,z7,z8,j4,j5,j6,j7,j8,j9,x6,x7,x8,x9,y4,y5,reduceCtorEq,↓reduceIte];simp only[zu] at hr;refine⟨by omega,?_⟩;refine zae (zgp _ (by simp only[zk,zu];omega) ?_);simp only[zbm,sxZ,z6,z7,z8,j4,j5,j6,j7,j8,j9,x6,x7,x8,x9,y4,y5,reduceCtorEq,↓reduceIte] at hk ⊢;exact hk
   ·simp only[c2,sxZ,z6,z7,z8,j4,j5,j6,j7,j8,j9,x6,x7,x8,x9,y4,y5,reduceCtorEq,↓reduceIte] at hk ⊢;simp only[zbm,zfj,sxZ,z6,z7,z8,j4,j5,j6,j7,j8,j9,x6,x7,x8,x9,y4,y5,reduceCtorEq,↓reduceIte] at hk;exact hk
end
section
attribute [local irreducible] run
def rqB (m i:List UInt8) (e:Int):OB:=.box 76 [.s m,.s i,.i .i64 e]
theorem rqB_pl (m i:List UInt8) (e:Int):PlO (rqB m i e):=rfl
theorem zfE (e:Int):orE e 0=e:=by unfold orE;split<;>simp_all
section
variable [Tabs Tryz.prog] {objs:List OB} {K:List OB->AV->Prop}
theorem zbD (m i:List UInt8) (e x:Int) (b:Nat) (hb:objs[b]? = some (rqB m i e)) (hk:K (objs.set b (rqB m i (orE e x))) (.tup [])):zaf Tryz.prog 75 [.p b 0,.i .i64 x] objs K:=by
 unfold rqB at hb hk;refine zcu is_ref17_reader_stop fun C _=>?_;rw[c_ref17_reader_stop];unfold orE at hk
 by_cases c:e=0
 ·rw[if_pos c] at hk;simp only[sxZ,z6,z7,z8,j4,j5,j6,j7,j8,j9,x6,x7,x8,x9,y4,y5,reduceCtorEq,↓reduceIte,hb,c];exact hk
 ·rw[if_neg c,set_same hb] at hk;simp only[sxZ,z6,z7,z8,j4,j5,j6,j7,j8,j9,x6,x7,x8,x9,y4,y5,reduceCtorEq,↓reduceIte,hb,c];exact hk
theorem zfP (m i:List UInt8) (v:JV) (e:Int) (key:List UInt8) (b:Nat) (hv:JOk v) (hb:objs[b]? = some (rqB m i e)) (hk:∀o,Ext objs o b (rqB m i (orE e (rtE v key)))->K o (.s (zaB v key).1.text)):zaf Tryz.prog 33 [.p b 0,.agg (zap v),.s key] objs K:=by
 have hbl:=(zf.1 hb).1;refine zcu is_ref17_reader_text fun C _=>?_;rw[c_ref17_reader_text];have ejv:=zad v;rw[ejv];refine zaa fun Z hZ=>?_;simp only[sxZ,z6,z7,z8,j4,j5,j6,j7,j8,j9,x6,x7,x8,x9,y4,y5,reduceCtorEq,↓reduceIte];have hE0:=(Ext.refl hb).app (.box 25 [.i .i64 v.kind,.s v.text,.row v.keys.length (v.keys.map .s),.row v.items.length (zab v.items)]);have eV:(objs++[OB.box 25 [.i .i64 v.kind,.s v.text,.row v.keys.length (v.keys.map .s),.row v.items.length (zab v.items)]])[objs.length]? = some (.box 25 [.i .i64 v.kind,.s v.text,.row v.keys.length (v.keys.map .s),.row v.items.length (zab v.items)]):=gn1 _ _;generalize objs++[OB.box 25 [.i .i64 v.kind,.s v.text,.row v.keys.length (v.keys.map .s),.row v.items.length (zab v.items)]]=o0 at hE0 eV ⊢;subst hZ;refine zaa fun Z hZ=>?_;simp only[sxZ,z6,z7,z8,j4,j5,j6,j7,j8,j9,x6,x7,x8,x9,y4,y5,reduceCtorEq,↓reduceIte,eV];rw[<-ejv];refine zae (zcc v key hv ?_);unfold rtE at hk;generalize zaB v key=R at hk ⊢;obtain⟨x,ok⟩:=R;unfold zbd;dsimp only at hk ⊢;rw[zad x];simp only[sxZ,z6,z7,z8,j4,j5,j6,j7,j8,j9,x6,x7,x8,x9,y4,y5,reduceCtorEq,↓reduceIte,gn1,sn1];have hE:=hE0.app (.box 25 [.i .i64 x.kind,.s x.text,.row x.keys.length (x.keys.map .s),.row x.items.length (zab x.items)]);have eX:(o0++[OB.box 25 [.i .i64 x.kind,.s x.text,.row x.keys.length (x.keys.map .s),.row x.items.length (zab x.items)]])[o0.length]? = some (.box 25 [.i .i64 x.kind,.s x.text,.row x.keys.length (x.keys.map .s),.row x.items.length (zab x.items)]):=gn1 _ _;have hol:=hE0.2.1;generalize o0.length=q at eX hol ⊢;generalize o0++[OB.box 25 [.i .i64 x.kind,.s x.text,.row x.keys.length (x.keys.map .s),.row x.items.length (zab x.items)]]=o1 at hE eX ⊢;subst hZ;refine zaa fun Z hZ=>?_
 by_cases c:x.kind=5
 ·rw[if_pos c,zfE] at hk;simp only[sxZ,z6,z7,z8,j4,j5,j6,j7,j8,j9,x6,x7,x8,x9,y4,y5,reduceCtorEq,↓reduceIte,eX,c];subst hZ;simp only[sxZ,z6,z7,z8,j4,j5,j6,j7,j8,j9,x6,x7,x8,x9,y4,y5,reduceCtorEq,↓reduceIte,eX];exact hk _ hE
 ·rw[if_neg c] at hk;simp only[sxZ,z6,z7,z8,j4,j5,j6,j7,j8,j9,x6,x7,x8,x9,y4,y5,reduceCtorEq,↓reduceIte,eX,c];refine zae (zbD m i e 160 b hE.1 ?_);have eX2:(o1.set b (rqB m i (orE e 160)))[q]? = some (.box 25 [.i .i64 x.kind,.s x.text,.row x.keys.length (x.keys.map .s),.row x.items.length (zab x.items)]):=by rw[zi (by omega)];exact eX
  have hE2:=hE.set (rqB m i (orE e 160));generalize o1.set b (rqB m i (orE e 160))=o2 at eX2 hE2 ⊢;simp only[sxZ,z6,z7,z8,j4,j5,j6,j7,j8,j9,x6,x7,x8,x9,y4,y5,reduceCtorEq,↓reduceIte];subst hZ;simp only[sxZ,z6,z7,z8,j4,j5,j6,j7,j8,j9,x6,x7,x8,x9,y4,y5,reduceCtorEq,↓reduceIte,eX2];exact hk _ hE2
theorem zns (m i:List UInt8) (v:JV) (e:Int) (key:List UInt8) (b:Nat) (hv:JOk v) (hb:objs[b]? = some (rqB m i e)) (hk:∀o,Ext objs o b (rqB m i (orE e (roD v key).1))->K o (.row (roD v key).2.length (zab (roD v key).2))):zaf Tryz.prog 36 [.p b 0,.agg (zap v),.s key] objs K:=by
 have hbl:=(zf.1 hb).1;refine zfG (.row (roD v key).2.length (zab (roD v key).2)) ?_;refine zcu is_ref17_reader_objects fun C _=>?_;rw[c_ref17_reader_objects];have ejv:=zad v;rw[ejv];refine zaa fun Z hZ=>?_;simp only[sxZ,z6,z7,z8,j4,j5,j6,j7,j8,j9,x6,x7,x8,x9,y4,y5,reduceCtorEq,↓reduceIte];have hE0:=(Ext.refl hb).app (.box 25 [.i .i64 v.kind,.s v.text,.row v.keys.length (v.keys.map .s),.row v.items.length (zab v.items)]);have eV:(objs++[OB.box 25 [.i .i64 v.kind,.s v.text,.row v.keys.length (v.keys.map .s),.row v.items.length (zab v.items)]])[objs.length]? = some (.box 25 [.i .i64 v.kind,.s v.text,.row v.keys.length (v.keys.map .s),.row v.items.length (zab v.items)]):=gn1 _ _;generalize objs++[OB.box 25 [.i .i64 v.kind,.s v.text,.row v.keys.length (v.keys.map .s),.row v.items.length (zab v.items)]]=o0 at hE0 eV ⊢;subst hZ;refine zaa fun Z hZ=>?_;simp only[sxZ,z6,z7,z8,j4,j5,j6,j7,j8,j9,x6,x7,x8,x9,y4,y5,reduceCtorEq,↓reduceIte,eV];rw[<-ejv];refine zae (zcc v key hv ?_);unfold roD at hk ⊢;generalize zaB v key=R at hk ⊢;obtain⟨x,ok⟩:=R;unfold zbd;dsimp only at hk ⊢;rw[zad x];simp only[sxZ,z6,z7,z8,j4,j5,j6,j7,j8,j9,x6,x7,x8,x9,y4,y5,reduceCtorEq,↓reduceIte,gn1,sn1];have hE:=hE0.app (.box 25 [.i .i64 x.kind,.s x.text,.row x.keys.length (x.keys.map .s),.row x.items.length (zab x.items)]);have eX:(o0++[OB.box 25 [.i .i64 x.kind,.s x.text,.row x.keys.length (x.keys.map .s),.row x.items.length (zab x.items)]])[o0.length]? = some (.box 25 [.i .i64 x.kind,.s x.text,.row x.keys.length (x.keys.map .s),.row x.items.length (zab x.items)]):=gn1 _ _;have hol:=hE0.2.1;generalize o0.length=q at eX hol ⊢;generalize o0++[OB.box 25 [.i .i64 x.kind,.s x.text,.row x.keys.length (x.keys.map .s),.row x.items.length (zab x.items)]]=o1 at hE eX ⊢;subst hZ;refine zaa fun Z hZ=>?_;have fin:∀z:Int,Ext objs (o1.set b (rqB m i (orE e z))) b (rqB m i (orE e z)):=fun z=>hE.set _
 cases ok with
 | false=>
  rw[if_pos rfl] at hk ⊢;rw[zfE] at hk;simp only[sxZ,z6,z7,z8,j4,j5,j6,j7,j8,j9,x6,x7,x8,x9,y4,y5,reduceCtorEq,↓reduceIte];exact⟨fun G I y hy=>zaz hy,hk _ hE⟩
 | true=>
  rw[if_neg (show ¬(true=false) by decide)] at hk ⊢
  by_cases c:x.kind=6
  rotate_left
  ·rw[if_pos c] at hk ⊢;simp only[sxZ,z6,z7,z8,j4,j5,j6,j7,j8,j9,x6,x7,x8,x9,y4,y5,reduceCtorEq,↓reduceIte,eX,c];refine zae (zbD m i e 160 b hE.1 ?_);simp only[sxZ,z6,z7,z8,j4,j5,j6,j7,j8,j9,x6,x7,x8,x9,y4,y5,reduceCtorEq,↓reduceIte];exact⟨fun G I y hy=>zaz hy,hk _ (fin 160)⟩
  have nc:¬x.kind≠6:=fun e=>e c;rw[if_neg nc] at hk ⊢
  by_cases c64:(64:Int)<(x.items.length:Int)
  ·have c64':64<x.items.length:=by omega
   rw[if_pos c64'] at hk ⊢;simp only[sxZ,z6,z7,z8,j4,j5,j6,j7,j8,j9,x6,x7,x8,x9,y4,y5,reduceCtorEq,↓reduceIte,eX,c,c64,decide_true];refine zae (zbD m i e 161 b hE.1 ?_);simp only[sxZ,z6,z7,z8,j4,j5,j6,j7,j8,j9,x6,x7,x8,x9,y4,y5,reduceCtorEq,↓reduceIte];exact⟨fun G I y hy=>zaz hy,hk _ (fin 161)⟩
  ·have c64':¬64<x.items.length:=by omega
   rw[if_neg c64'] at hk ⊢;rw[zfE] at hk;simp only[sxZ,z6,z7,z8,j4,j5,j6,j7,j8,j9,x6,x7,x8,x9,y4,y5,reduceCtorEq,↓reduceIte,eX,c,c64,decide_false];subst hZ;simp only[sxZ,z6,z7,z8,j4,j5,j6,j7,j8,j9,x6,x7,x8,x9,y4,y5,reduceCtorEq,↓reduceIte,eX];exact⟨fun G I y hy=>hy,hk _ hE⟩
end
end
section
attribute [local irreducible] run
def t5 (l:List JV):Int:=if l.all (fun y=>decide (y.kind=5))=true then 0 else 160
theorem t5_y (e:Int) (a:List JV) {y:JV} (c:y.kind=5):orE e (t5 (a++[y]))=orE e (t5 a):=by
 unfold t5;rw[List.all_append];simp[c]
theorem t5_n (e:Int) (a:List JV) {y:JV} (c:¬y.kind=5):orE e (t5 (a++[y]))=orE (orE e (t5 a)) 160:=by
 have:t5 (a++[y])=160:=by unfold t5;rw[List.all_append];simp[c]
 rw[this];unfold t5
 by_cases h:a.all (fun y=>decide (y.kind=5))=true
 ·rw[if_pos h,zfE]
 ·rw[if_neg h,zaE];rfl
theorem t5_0 (e:Int):orE e (t5 [])=e:=zfE e
theorem zmX.set5 {m:Nat} {l:List (List UInt8)} {o:List OB} {X:AV} (h:zmX m l o X) {r:Nat} {Z:OB} (hz:o[r]? = some Z) (hne:∀g n cs,Z≠.orow 9 1 g n cs) (W:OB):zmX m l (o.set r W) X:=by
 rcases h with h|⟨r',g,h1,h0,h2⟩
 ·exact .inl h
 ·refine .inr ⟨r',g,h1,h0,?_⟩;rw[zi (fun e=>by rw[e,h2] at hz;injection hz with hz;exact hne _ _ _ hz.symm)];exact h2
section
variable [Tabs Tryz.prog] {objs:List OB} {K:List OB->AV->Prop}
theorem ze8 (m i:List UInt8) (v:JV) (e:Int) (key:List UInt8) (single:Bool) (b:Nat) (hv:JOk v) (hb:objs[b]? = some (rqB m i e)) (hk:∀o,Ext objs o b (rqB m i (orE e (rsD v key single).1))->K o (.row (rsD v key single).2.length ((rsD v key single).2.map .s))):zaf Tryz.prog 35 [.p b 0,.agg (zap v),.s key,.b single] objs K:=by
 have hbl:=(zf.1 hb).1;refine zfG (.row (rsD v key single).2.length ((rsD v key single).2.map .s)) ?_;refine zes ?_;refine zcu is_ref17_reader_strings fun C _=>?_;rw[c_ref17_reader_strings];have ejv:=zad v;rw[ejv];refine zaa fun Z hZ=>?_;simp only[sxZ,z6,z7,z8,j4,j5,j6,j7,j8,j9,x6,x7,x8,x9,y4,y5,reduceCtorEq,↓reduceIte];have hE0:=(Ext.refl hb).app (OB.box 25 [.i .i64 v.kind,.s v.text,.row v.keys.length (v.keys.map .s),.row v.items.length (zab v.items)]);have eV:(objs++[OB.box 25 [.i .i64 v.kind,.s v.text,.row v.keys.length (v.keys.map .s),.row v.items.length (zab v.items)]])[objs.length]? = some (OB.box 25 [.i .i64 v.kind,.s v.text,.row v.keys.length (v.keys.map .s),.row v.items.length (zab v.items)]):=gn1 _ _;generalize objs++[OB.box 25 [.i .i64 v.kind,.s v.text,.row v.keys.length (v.keys.map .s),.row v.items.length (zab v.items)]]=o0 at hE0 eV ⊢;subst hZ;refine zaa fun Z hZ=>?_;simp only[sxZ,z6,z7,z8,j4,j5,j6,j7,j8,j9,x6,x7,x8,x9,y4,y5,reduceCtorEq,↓reduceIte,eV];rw[<-ejv];refine zae (zcc v key hv ?_);unfold rsD at hk ⊢;generalize zaB v key=R at hk ⊢;obtain⟨x,ok⟩:=R;unfold zbd;dsimp only at hk ⊢;rw[zad x];simp only[sxZ,z6,z7,z8,j4,j5,j6,j7,j8,j9,x6,x7,x8,x9,y4,y5,reduceCtorEq,↓reduceIte,gn1,sn1];have hE:=hE0.app (OB.box 25 [.i .i64 x.kind,.s x.text,.row x.keys.length (x.keys.map .s),.row x.items.length (zab x.items)]);have eX:(o0++[OB.box 25 [.i .i64 x.kind,.s x.text,.row x.keys.length (x.keys.map .s),.row x.items.length (zab x.items)]])[o0.length]? = some (OB.box 25 [.i .i64 x.kind,.s x.text,.row x.keys.length (x.keys.map .s),.row x.items.length (zab x.items)]):=gn1 _ _;have hol:=hE0.2.1;generalize o0.length=q at eX hol ⊢;generalize o0++[OB.box 25 [.i .i64 x.kind,.s x.text,.row x.keys.length (x.keys.map .s),.row x.items.length (zab x.items)]]=o1 at hE eX ⊢;have fin:∀z:Int,Ext objs (o1.set b (rqB m i (orE e z))) b (rqB m i (orE e z)):=fun z=>hE.set _;subst hZ;refine zaa fun Z hZ=>?_
 cases ok with
 | false=>
  rw[if_neg (show ¬(false=true) by decide)] at hk ⊢;rw[zfE] at hk;simp only[sxZ,z6,z7,z8,j4,j5,j6,j7,j8,j9,x6,x7,x8,x9,y4,y5,reduceCtorEq,↓reduceIte];exact .inl ⟨fun G I y hy=>zaz hy,hk _ hE⟩
 | true=>
 rw[if_pos rfl] at hk ⊢;unfold rsB at hk ⊢
 by_cases c1:single=true/\x.kind=5
 ·rw[if_pos c1] at hk ⊢;rw[zfE] at hk;obtain⟨rfl,c5⟩:=c1;simp only[sxZ,z6,z7,z8,j4,j5,j6,j7,j8,j9,x6,x7,x8,x9,y4,y5,reduceCtorEq,↓reduceIte,eX,c5];refine .inr ⟨o1.length,_,_,_,_,_,gn1 _ _,fun G I y hy=>by simpa[subD,zb5] using hy,hk _ ((hE.app _).pub (rqB_pl m i e) _ _ _ _ hE.2.1 hbl)⟩
 rw[if_neg c1] at hk ⊢;refine zaL (fun o t=>o=o1/\x.kind=6/\¬64<x.items.length/\t.length=65/\t[0]? = some (.p b 0)/\t[9]? = some (.p q 0)) ?_ ?_
 ·by_cases c6:x.kind=6
  rotate_left
  ·rw[if_pos c6] at hk ⊢
   cases single with
   | false=>
    simp only[sxZ,z6,z7,z8,j4,j5,j6,j7,j8,j9,x6,x7,x8,x9,y4,y5,reduceCtorEq,↓reduceIte,eX,c6];refine zae (zbD m i e 160 b hE.1 ?_);simp only[sxZ,z6,z7,z8,j4,j5,j6,j7,j8,j9,x6,x7,x8,x9,y4,y5,reduceCtorEq,↓reduceIte,zc0];exact .inl ⟨fun G I y hy=>zaz hy,hk _ (fin 160)⟩
   | true=>
    have c5:¬x.kind=5:=fun h=>c1 ⟨rfl,h⟩;simp only[sxZ,z6,z7,z8,j4,j5,j6,j7,j8,j9,x6,x7,x8,x9,y4,y5,reduceCtorEq,↓reduceIte,eX,c5,c6];refine zae (zbD m i e 160 b hE.1 ?_);simp only[sxZ,z6,z7,z8,j4,j5,j6,j7,j8,j9,x6,x7,x8,x9,y4,y5,reduceCtorEq,↓reduceIte,zc0];exact .inl ⟨fun G I y hy=>zaz hy,hk _ (fin 160)⟩
  have nc:¬x.kind≠6:=fun e=>e c6;rw[if_neg nc] at hk ⊢
  by_cases c64:(64:Int)<(x.items.length:Int)
  ·have c64':64<x.items.length:=by omega
   rw[if_pos c64'] at hk ⊢
   cases single with
   | false=>
    simp only[sxZ,z6,z7,z8,j4,j5,j6,j7,j8,j9,x6,x7,x8,x9,y4,y5,reduceCtorEq,↓reduceIte,eX,c6,c64,decide_true];refine zae (zbD m i e 161 b hE.1 ?_);simp only[sxZ,z6,z7,z8,j4,j5,j6,j7,j8,j9,x6,x7,x8,x9,y4,y5,reduceCtorEq,↓reduceIte,zc0];exact .inl ⟨fun G I y hy=>zaz hy,hk _ (fin 161)⟩
   | true=>
    simp only[sxZ,z6,z7,z8,j4,j5,j6,j7,j8,j9,x6,x7,x8,x9,y4,y5,reduceCtorEq,↓reduceIte,eX,c6,c64,decide_true];refine zae (zbD m i e 161 b hE.1 ?_);simp only[sxZ,z6,z7,z8,j4,j5,j6,j7,j8,j9,x6,x7,x8,x9,y4,y5,reduceCtorEq,↓reduceIte,zc0];exact .inl ⟨fun G I y hy=>zaz hy,hk _ (fin 161)⟩
  ·have c64':¬64<x.items.length:=by omega
   cases single with
   | false=>
    simp only[sxZ,z6,z7,z8,j4,j5,j6,j7,j8,j9,x6,x7,x8,x9,y4,y5,reduceCtorEq,↓reduceIte,eX,c6,c64,decide_false,zac,c64',not_false_eq_true]
   | true=>
    simp only[sxZ,z6,z7,z8,j4,j5,j6,j7,j8,j9,x6,x7,x8,x9,y4,y5,reduceCtorEq,↓reduceIte,eX,c6,c64,decide_false,zac,c64',not_false_eq_true]
 rintro o t ⟨rfl,c6,c64,hlen,t0,t9⟩;rw[if_neg (show ¬x.kind≠6 from fun e=>e c6),if_neg c64] at hk ⊢;have hit:x.items.length<=64:=by omega
 have hk:∀o,Ext objs o b (rqB m i (orE e (t5 x.items)))->K o (.row (x.items.map JV.text).length ((x.items.map JV.text).map .s)):=hk;show run _ _ _ _ _ _;subst hZ;refine zaa fun Z hZ=>?_;simp only[sxZ,z6,z7,z8,j4,j5,j6,j7,j8,j9,x6,x7,x8,x9,y4,y5,reduceCtorEq,↓reduceIte,za,hlen,t0,t9,eX];subst hZ;refine zaa fun Z hZ=>?_;refine zaa fun W hW=>?_;simp only[sxZ,z6,z7,z8,j4,j5,j6,j7,j8,j9,x6,x7,x8,x9,y4,y5,reduceCtorEq,↓reduceIte,za,hlen,t0,t9,eX];generalize x.items=its at hit hk ⊢;have hl4:=zaI its;subst hW;rw[za8];refine zaK (fun n o tm=>∃(j:Nat),j<=its.length/\n=its.length - j/\Ext objs o b (rqB m i (orE e (t5 (its.take j))))/\zmX objs.length ((its.take j).map JV.text) o (tm[11]?.getD .u)/\tm.length=65/\tm[0]? = some (.p b 0)/\tm[47]? = some (.row its.length (zab its))/\tm[48]? = some (.i .i64 (its.length:Int))/\tm[49]? = some (.i .i64 (j:Int))) its.length ⟨0,zd _,rfl,by rw[List.take_zero,t5_0];exact hE,.inl ⟨rfl,by simp only[sxZ,z6,z7,z8,j4,j5,j6,j7,j8,j9,x6,x7,x8,x9,y4,y5,reduceCtorEq,↓reduceIte,za,hlen]⟩,by simp only[zh,hlen],by simp only[sxZ,z6,z7,z8,j4,j5,j6,j7,j8,j9,x6,x7,x8,x9,y4,y5,reduceCtorEq,↓reduceIte,za,hlen,t0],by simp only[sxZ,z6,z7,z8,j4,j5,j6,j7,j8,j9,x6,x7,x8,x9,y4,y5,reduceCtorEq,↓reduceIte,za,hlen],by simp only[sxZ,z6,z7,z8,j4,j5,j6,j7,j8,j9,x6,x7,x8,x9,y4,y5,reduceCtorEq,↓reduceIte,za,hlen],by simp only[sxZ,z6,z7,z8,j4,j5,j6,j7,j8,j9,x6,x7,x8,x9,y4,y5,reduceCtorEq,↓reduceIte,za,hlen];rfl⟩ ?_;clear hlen t0 t9;rintro n o tm ⟨j,hj,rfl,ho,hA,hlen,t0,t47,t48,t49⟩;obtain⟨a11,t11⟩:∃a,tm[11]? = some a:=⟨_,zm (by omega)⟩;rw[t11,Option.getD_some] at hA;refine zaa fun W hW=>?_
 by_cases hlt:(j:Int)<(its.length:Int)
 ·have hi':j<its.length:=by omega
  have kv:=zea hi';have htk:its.take (j+1)=its.take j++[its[j]]:=by rw[yb,zm hi'];rfl
  have hfl:((its.take j).map JV.text).length=j:=by rw[List.length_map,qc];omega
  generalize its[j]=y at kv htk;rw[zad y] at kv;simp only[sxZ,z6,z7,z8,j4,j5,j6,j7,j8,j9,x6,x7,x8,x9,y4,y5,reduceCtorEq,↓reduceIte,za,hlen,t47,t48,t49,hlt];subst hW;refine zaa fun W hW=>?_;simp only[sxZ,z6,z7,z8,j4,j5,j6,j7,j8,j9,x6,x7,x8,x9,y4,y5,reduceCtorEq,↓reduceIte,za,hlen];subst hW;refine zaa fun V hV=>?_;rw[za8];refine zaa fun W hW=>?_;simp only[sxZ,z6,z7,z8,j4,j5,j6,j7,j8,j9,x6,x7,x8,x9,y4,y5,reduceCtorEq,↓reduceIte,za,hlen,t47,t49,kv];refine⟨⟨by omega,by omega,by omega⟩,by omega,?_⟩;simp only[sxZ,z6,z7,z8,j4,j5,j6,j7,j8,j9,x6,x7,x8,x9,y4,y5,reduceCtorEq,↓reduceIte,za,hlen,gn1,sn1];subst hW;have hE:=ho.app (OB.box 25 [.i .i64 y.kind,.s y.text,.row y.keys.length (y.keys.map .s),.row y.items.length (zab y.items)]);have hA2:=hA.mono (OB.box 25 [.i .i64 y.kind,.s y.text,.row y.keys.length (y.keys.map .s),.row y.items.length (zab y.items)]);have eB:(o++[OB.box 25 [.i .i64 y.kind,.s y.text,.row y.keys.length (y.keys.map .s),.row y.items.length (zab y.items)]])[o.length]? = some (OB.box 25 [.i .i64 y.kind,.s y.text,.row y.keys.length (y.keys.map .s),.row y.items.length (zab y.items)]):=gn1 _ _;have hol:=ho.2.1;generalize hpp:o.length=p at eB hol ⊢;generalize o++[OB.box 25 [.i .i64 y.kind,.s y.text,.row y.keys.length (y.keys.map .s),.row y.items.length (zab y.items)]]=o1 at hE hA2 eB ⊢;refine zaa fun W hW=>?_;refine zaL (fun o3 t3=>Ext objs o3 b (rqB m i (orE e (t5 (its.take (j+1)))))/\zmX objs.length ((its.take j).map JV.text) o3 a11/\o3[p]? = some (OB.box 25 [.i .i64 y.kind,.s y.text,.row y.keys.length (y.keys.map .s),.row y.items.length (zab y.items)])/\t3.length=65/\t3[0]? = some (.p b 0)/\t3[11]? = some a11/\t3[13]? = some (.p p 0)/\t3[47]? = some (.row its.length (zab its))/\t3[48]? = some (.i .i64 (its.length:Int))/\t3[49]? = some (.i .i64 (j:Int))) ?_ ?_
  ·rw[htk]
   by_cases c:y.kind=5
   ·rw[t5_y e _ c];simp only[sxZ,z6,z7,z8,j4,j5,j6,j7,j8,j9,x6,x7,x8,x9,y4,y5,reduceCtorEq,↓reduceIte,za,hlen,eB,c,t0,t11,t47,t48,t49,zac];exact⟨hE,hA2⟩
   ·rw[t5_n e _ c];simp only[sxZ,z6,z7,z8,j4,j5,j6,j7,j8,j9,x6,x7,x8,x9,y4,y5,reduceCtorEq,↓reduceIte,za,hlen,eB,c,t0];refine zae (zbD m i _ 160 b hE.1 ?_);simp only[sxZ,z6,z7,z8,j4,j5,j6,j7,j8,j9,x6,x7,x8,x9,y4,y5,reduceCtorEq,↓reduceIte,za,hlen,t0,t11,t47,t48,t49,zac];refine⟨hE.set _,hA2.set5 hE.1 (by intro _ _ _ h;cases h) _,?_⟩;rw[if_neg (by omega)];exact eB
  rintro o3 tm2 ⟨hE3,hA3,eB3,hlen2,k0,k11,k13,k47,k48,k49⟩;subst hW;generalize hacc:(its.take j).map JV.text=acc at hA3 hfl;have hol3:=hE3.2.1;rcases hA3 with ⟨rfl,rfl⟩|⟨r,g,rfl,hr0,hr⟩
  ·simp only[sxZ,z6,z7,z8,j4,j5,j6,j7,j8,j9,x6,x7,x8,x9,y4,y5,reduceCtorEq,↓reduceIte,za,hlen2,k0,k11,k13,eB3];subst hV;simp only[sxZ,z6,z7,z8,j4,j5,j6,j7,j8,j9,x6,x7,x8,x9,y4,y5,reduceCtorEq,↓reduceIte,za,hlen2,k0,k47,k48,k49];refine⟨by omega,its.length - (j+1),by omega,j+1,by omega,rfl,hE3.app _,?_,rfl⟩;rw[htk,jg,hacc];exact .inr ⟨o3.length,0,rfl,hol3,by rw[gn1];rfl⟩
  ·have hrl:=(zf.1 hr).1;simp only[sxZ,z6,z7,z8,j4,j5,j6,j7,j8,j9,x6,x7,x8,x9,y4,y5,reduceCtorEq,↓reduceIte,za,hlen2,k0,k11,k13,eB3,hr];refine⟨⟨by omega,by omega⟩,?_⟩;subst hV;simp only[sxZ,z6,z7,z8,j4,j5,j6,j7,j8,j9,x6,x7,x8,x9,y4,y5,reduceCtorEq,↓reduceIte,za,hlen2,k0,k47,k48,k49];refine⟨by omega,its.length - (j+1),by omega,j+1,by omega,rfl,hE3.own r _ hr0 hbl,?_,rfl⟩;rw[htk,jg,hacc];exact .inr ⟨r,g+1,rfl,hr0,by rw[zl hrl,zk,jg];rfl⟩
 have hn:j=its.length:=by omega
 rw[hn,ju (ze _)] at hA ho;simp only[sxZ,z6,z7,z8,j4,j5,j6,j7,j8,j9,x6,x7,x8,x9,y4,y5,reduceCtorEq,↓reduceIte,za,hlen,t47,t48,t49,hlt];subst hW;simp only[sxZ,z6,z7,z8,j4,j5,j6,j7,j8,j9,x6,x7,x8,x9,y4,y5,reduceCtorEq,↓reduceIte,za,hlen];subst hZ;rcases hA with ⟨h0,rfl⟩|⟨r,g,rfl,hr0,hr⟩
 ·simp only[sxZ,z6,z7,z8,j4,j5,j6,j7,j8,j9,x6,x7,x8,x9,y4,y5,reduceCtorEq,↓reduceIte,za,hlen,t11];rw[h0] at hk ⊢;exact .inl ⟨fun G I y hy=>zaz hy,hk _ ho⟩
 ·simp only[sxZ,z6,z7,z8,j4,j5,j6,j7,j8,j9,x6,x7,x8,x9,y4,y5,reduceCtorEq,↓reduceIte,za,hlen,t11];refine .inr ⟨r,_,_,_,_,_,hr,fun G I y hy=>?_,hk _ (ho.pub (rqB_pl _ _ _) r g _ _ hr0 hbl)⟩;simpa[subD,zb5] using hy
theorem rqid_k (m i:List UInt8) (v:JV) (e:Int) (b:Nat) (hv:JOk v) (h1:m.length<=100000) (h2:i.length<=100000) (ht:(zaB v kId).1.text.length<=100000000) (hb:objs[b]? = some (rqB m i e)) (hk:∀o,Ext objs o b (rqB m i (orE e (riD m i v).1))->K o (.s (riD m i v).2)):zaf Tryz.prog 76 [.p b 0,.agg (zap v)] objs K:=by
 have hbl:=(zf.1 hb).1;refine zcu is_ref17_reader_id fun C _=>?_;rw[c_ref17_reader_id];have ejv:=zad v;have hrl:=zeB m i (zaB v kId).1.text;rw[ejv];refine zaa fun Z hZ=>?_;simp only[sxZ,z6,z7,z8,j4,j5,j6,j7,j8,j9,x6,x7,x8,x9,y4,y5,reduceCtorEq,↓reduceIte];have hE0:=(Ext.refl hb).app (OB.box 25 [.i .i64 v.kind,.s v.text,.row v.keys.length (v.keys.map .s),.row v.items.length (zab v.items)]);have eV:(objs++[OB.box 25 [.i .i64 v.kind,.s v.text,.row v.keys.length (v.keys.map .s),.row v.items.length (zab v.items)]])[objs.length]? = some (OB.box 25 [.i .i64 v.kind,.s v.text,.row v.keys.length (v.keys.map .s),.row v.items.length (zab v.items)]):=gn1 _ _;generalize objs++[OB.box 25 [.i .i64 v.kind,.s v.text,.row v.keys.length (v.keys.map .s),.row v.items.length (zab v.items)]]=o0 at hE0 eV ⊢;subst hZ;refine zaa fun Z hZ=>?_;simp only[sxZ,z6,z7,z8,j4,j5,j6,j7,j8,j9,x6,x7,x8,x9,y4,y5,reduceCtorEq,↓reduceIte,eV];rw[<-ejv];refine zae (zfP m i v e kId b hv hE0.1 fun o hE1=>?_);have hE1:=hE0.trans hE1;have eb1:=hE1.1;simp only[sxZ,z6,z7,z8,j4,j5,j6,j7,j8,j9,x6,x7,x8,x9,y4,y5,reduceCtorEq,↓reduceIte];subst hZ;refine zaa fun Z hZ=>?_;unfold riD at hk;have eb1':=eb1;unfold rqB at eb1';generalize (zaB v kId).1.text=x at ht hk hrl ⊢;generalize rtE v kId=er at hk hE1 eb1 eb1';simp only[sxZ,z6,z7,z8,j4,j5,j6,j7,j8,j9,x6,x7,x8,x9,y4,y5,reduceCtorEq,↓reduceIte,eb1'];refine zae (zgo m i x (by omega) (by omega) (by omega) ?_);generalize zdp m i x=R at hk hrl ⊢;obtain⟨e2,u⟩:=R;dsimp only at hk hrl ⊢;obtain⟨q1,q2,q3,q4,q5⟩:=hrl;unfold zbm;simp only[sxZ,z6,z7,z8,j4,j5,j6,j7,j8,j9,x6,x7,x8,x9,y4,y5,reduceCtorEq,↓reduceIte,gn1,sn1];have hE2:=hE1.app (.box 87 [.s u.meth,.s u.id,.s u.path,.s u.query,.s u.frag,.b u.hq,.b u.hf]);have eU:(o++[OB.box 87 [.s u.meth,.s u.id,.s u.path,.s u.query,.s u.frag,.b u.hq,.b u.hf]])[o.length]? = some (.box 87 [.s u.meth,.s u.id,.s u.path,.s u.query,.s u.frag,.b u.hq,.b u.hf]):=gn1 _ _;generalize o.length=q at eU ⊢;generalize o++[OB.box 87 [.s u.meth,.s u.id,.s u.path,.s u.query,.s u.frag,.b u.hq,.b u.hf]]=o2 at hE2 eU ⊢;subst hZ;refine zaa fun Z hZ=>?_
 by_cases c:e2=0
 ·subst c;rw[if_neg (show ¬((0:Int)≠0) by decide)] at hk;simp only[sxZ,z6,z7,z8,j4,j5,j6,j7,j8,j9,x6,x7,x8,x9,y4,y5,reduceCtorEq,↓reduceIte];subst hZ;refine zaa fun Z hZ=>?_;simp only[sxZ,z6,z7,z8,j4,j5,j6,j7,j8,j9,x6,x7,x8,x9,y4,y5,reduceCtorEq,↓reduceIte,eU];refine zae (zhh u (by omega) (by omega) (by omega) (by omega) (by omega) ?_);simp only[sxZ,z6,z7,z8,j4,j5,j6,j7,j8,j9,x6,x7,x8,x9,y4,y5,reduceCtorEq,↓reduceIte];subst hZ;simp only[sxZ,z6,z7,z8,j4,j5,j6,j7,j8,j9,x6,x7,x8,x9,y4,y5,reduceCtorEq,↓reduceIte];exact hk _ hE2
 ·rw[if_pos c] at hk;simp only[sxZ,z6,z7,z8,j4,j5,j6,j7,j8,j9,x6,x7,x8,x9,y4,y5,reduceCtorEq,↓reduceIte,c];refine zae (zbD m i _ 160 b hE2.1 ?_);simp only[sxZ,z6,z7,z8,j4,j5,j6,j7,j8,j9,x6,x7,x8,x9,y4,y5,reduceCtorEq,↓reduceIte];exact hk _ (by dsimp only;rw[<-zaE];exact hE2.set _)
end
end
section
attribute [local irreducible] run
theorem Ext.keep {o o':List OB} {b:Nat} {X:OB} (h:Ext o o' b X) {j:Nat} {Y:OB} (hi:o[j]? = some Y) (hn:j≠b) (hp:PlO Y):o'[j]? = some Y:=h.2.2 j Y hn hi (hp.m _)
theorem zar {o:List OB} {j:Nat} {Y:OB} (h:o[j]? = some Y) (z:OB):(o++[z])[j]? = some Y:=by rw[qd (zf.1 h).1];exact h
theorem zaW {o:List OB} {j r:Nat} {Y:OB} (h:o[j]? = some Y) (hn:r≠j) (z:OB):(o.set r z)[j]? = some Y:=by rw[zi hn];exact h
theorem den_ag {G:Gh} {I:Imm} {a a' b b':AV} {t:List UInt8} {y:Value} (h1:∀z,Den G I a z->Den G I a' z) (h2:∀z,Den G I b z->Den G I b' z) (hd:Den G I (.agg [.s t,a,b]) y):Den G I (.agg [.s t,a',b']) y:=by
 simp only[zaj,Den] at hd ⊢;obtain⟨zs,rfl,⟨z0,m0,rfl,q0,z1,m1,rfl,q1,z2,m2,rfl,q2,q3⟩,hz⟩:=hd;exact⟨_,rfl,⟨_,_,rfl,q0,_,_,rfl,h1 _ q1,_,_,rfl,h2 _ q2,q3⟩,hz⟩
section
variable [Tabs Tryz.prog] {objs:List OB} {K:List OB->AV->Prop}
theorem rqm_k (m i:List UInt8) (v:JV) (e:Int) (b:Nat) (hv:JOk v) (h1:m.length<=100000) (h2:i.length<=100000) (ht:(zaB v kId).1.text.length<=100000000) (hb:objs[b]? = some (rqB m i e)) (hk:∀o,Ext objs o b (rqB m i (orE e (rmD m i v).1))->K o (.agg (mtc (rmD m i v).2))):zaf Tryz.prog 37 [.p b 0,.agg (zap v)] objs K:=by
 have hbl:=(zf.1 hb).1;have ejv:=zad v;have hpv:PlO (OB.box 25 [.i .i64 v.kind,.s v.text,.row v.keys.length (v.keys.map .s),.row v.items.length (zab v.items)]):=by
  show zao _=true;rw[<-ejv];exact zaN v
 refine zcu is_ref17_reader_method fun C _=>?_;rw[c_ref17_reader_method,ejv];refine zaa fun Z hZ=>?_;simp only[sxZ,z6,z7,z8,j4,j5,j6,j7,j8,j9,x6,x7,x8,x9,y4,y5,reduceCtorEq,↓reduceIte];have hE0:=((Ext.refl hb).app (OB.box 25 [.i .i64 v.kind,.s v.text,.row v.keys.length (v.keys.map .s),.row v.items.length (zab v.items)])).app (OB.box 48 [.s [],.s [],.s []]);have eV:(objs++[OB.box 25 [.i .i64 v.kind,.s v.text,.row v.keys.length (v.keys.map .s),.row v.items.length (zab v.items)]]++[OB.box 48 [.s [],.s [],.s []]])[objs.length]? = some (OB.box 25 [.i .i64 v.kind,.s v.text,.row v.keys.length (v.keys.map .s),.row v.items.length (zab v.items)]):=gn20 _ _ _;have eM:(objs++[OB.box 25 [.i .i64 v.kind,.s v.text,.row v.keys.length (v.keys.map .s),.row v.items.length (zab v.items)]]++[OB.box 48 [.s [],.s [],.s []]])[objs.length+1]? = some (OB.box 48 [.s [],.s [],.s []]):=gn21 _ _ _;generalize objs++[OB.box 25 [.i .i64 v.kind,.s v.text,.row v.keys.length (v.keys.map .s),.row v.items.length (zab v.items)]]++[OB.box 48 [.s [],.s [],.s []]]=o0 at hE0 eV eM ⊢;subst hZ;refine zaa fun Z hZ=>?_;unfold rmD at hk
 by_cases c7:v.kind=7
 rotate_left
 ·rw[if_pos c7] at hk;simp only[sxZ,z6,z7,z8,j4,j5,j6,j7,j8,j9,x6,x7,x8,x9,y4,y5,reduceCtorEq,↓reduceIte,eV,c7];refine zae (zbD m i e 160 b hE0.1 ?_);have hE1:=hE0.set (rqB m i (orE e 160));have eM1:=zaW eM (r:=b) (by omega) (rqB m i (orE e 160));generalize o0.set b (rqB m i (orE e 160))=o1 at hE1 eM1 ⊢;have hl1:=(zf.1 eM1).1;have hk2:=hk _ (hE1.own (objs.length+1) (OB.box 48 [.s [],.s [],.s []]) (by omega) hbl);simp only[sxZ,z6,z7,z8,j4,j5,j6,j7,j8,j9,x6,x7,x8,x9,y4,y5,reduceCtorEq,↓reduceIte,eM1,hl1,za];exact hk2
 rw[if_neg (show ¬v.kind≠7 from fun e=>e c7)] at hk;simp only[sxZ,z6,z7,z8,j4,j5,j6,j7,j8,j9,x6,x7,x8,x9,y4,y5,reduceCtorEq,↓reduceIte,eV,c7];subst hZ;refine zaa fun Z hZ=>?_;simp only[sxZ,z6,z7,z8,j4,j5,j6,j7,j8,j9,x6,x7,x8,x9,y4,y5,reduceCtorEq,↓reduceIte,eV];rw[<-ejv];refine zae (rqid_k m i v e b hv h1 h2 ht hE0.1 fun o1 hX=>?_);have eV1:=hX.keep eV (by omega) hpv;have eM1:=hX.keep eM (by omega) rfl;have hE1:=hE0.trans hX;clear hX hE0 eV eM;generalize riD m i v=R at hk hE1 ⊢;obtain⟨er,id⟩:=R;dsimp only at hk hE1 ⊢;simp only[sxZ,z6,z7,z8,j4,j5,j6,j7,j8,j9,x6,x7,x8,x9,y4,y5,reduceCtorEq,↓reduceIte,gn1,sn1];have hol:=hE1.2.1;have hE2:=hE1.app (OB.box 48 [.s id,.s [],.s []]);have eV2:=zar eV1 (OB.box 48 [.s id,.s [],.s []]);have eM2:=zar eM1 (OB.box 48 [.s id,.s [],.s []]);have eN2:(o1++[OB.box 48 [.s id,.s [],.s []]])[o1.length]? = some (OB.box 48 [.s id,.s [],.s []]):=gn1 _ _;have hq:objs.length+1<o1.length:=(zf.1 eM1).1;generalize o1.length=q at eN2 hq hol ⊢;generalize o1++[OB.box 48 [.s id,.s [],.s []]]=o2 at hE2 eV2 eM2 eN2 ⊢;subst hZ;refine zaa fun Z hZ=>?_;simp only[sxZ,z6,z7,z8,j4,j5,j6,j7,j8,j9,x6,x7,x8,x9,y4,y5,reduceCtorEq,↓reduceIte,eV2];rw[<-ejv];refine zae (zfP m i v _ zbh b hv hE2.1 fun o3 hX=>?_);have eV3:=hX.keep eV2 (by omega) hpv;have eM3:=hX.keep eM2 (by omega) rfl;have eN3:=hX.keep eN2 (by omega) rfl;have hE3:=hE2.trans hX;clear hX hE2 eV2 eM2 eN2;generalize (zaB v zbh).1.text=ty at hk ⊢;generalize rtE v zbh=e2 at hk hE3 ⊢;simp only[sxZ,z6,z7,z8,j4,j5,j6,j7,j8,j9,x6,x7,x8,x9,y4,y5,reduceCtorEq,↓reduceIte,eN3];have hE4:=hE3.own q (OB.box 48 [.s id,.s ty,.s []]) (by omega) hbl;have eV4:=zaW eV3 (r:=q) (by omega) (OB.box 48 [.s id,.s ty,.s []]);have eM4:=zaW eM3 (r:=q) (by omega) (OB.box 48 [.s id,.s ty,.s []]);have eN4:(o3.set q (OB.box 48 [.s id,.s ty,.s []]))[q]? = some (OB.box 48 [.s id,.s ty,.s []]):=zl (zf.1 eN3).1;generalize o3.set q (OB.box 48 [.s id,.s ty,.s []])=o4 at hE4 eV4 eM4 eN4 ⊢;subst hZ;refine zaa fun Z hZ=>?_;simp only[sxZ,z6,z7,z8,j4,j5,j6,j7,j8,j9,x6,x7,x8,x9,y4,y5,reduceCtorEq,↓reduceIte,eV4];rw[<-ejv];refine zae (zfP m i v _ zbE b hv hE4.1 fun o5 hX=>?_);have eM5:=hX.keep eM4 (by omega) rfl;have eN5:=hX.keep eN4 (by omega) rfl;have hE5:=hE4.trans hX;clear hX hE4 eV4 eM4 eN4;generalize (zaB v zbE).1.text=co at hk ⊢;generalize rtE v zbE=e3 at hk hE5 ⊢;simp only[sxZ,z6,z7,z8,j4,j5,j6,j7,j8,j9,x6,x7,x8,x9,y4,y5,reduceCtorEq,↓reduceIte,eN5];have hE6:=hE5.own q (OB.box 48 [.s id,.s ty,.s co]) (by omega) hbl;have eM6:=zaW eM5 (r:=q) (by omega) (OB.box 48 [.s id,.s ty,.s co]);have eN6:(o5.set q (OB.box 48 [.s id,.s ty,.s co]))[q]? = some (OB.box 48 [.s id,.s ty,.s co]):=zl (zf.1 eN5).1;generalize o5.set q (OB.box 48 [.s id,.s ty,.s co])=o6 at hE6 eM6 eN6 ⊢;subst hZ;have hl6:=(zf.1 eM6).1;have hE7:=hE6.own (objs.length+1) (OB.box 48 [.s id,.s ty,.s co]) (by omega) hbl;rw[zaE,zaE,<-zaE er] at hE7;simp only[sxZ,z6,z7,z8,j4,j5,j6,j7,j8,j9,x6,x7,x8,x9,y4,y5,reduceCtorEq,↓reduceIte,eM6,eN6,hl6,za];exact hk _ hE7
theorem rqv_k (m i:List UInt8) (v:JV) (e:Int) (b:Nat) (hv:JOk v) (h1:m.length<=100000) (h2:i.length<=100000) (ht:(zaB v kId).1.text.length<=100000000) (hb:objs[b]? = some (rqB m i e)) (hk:∀o,Ext objs o b (rqB m i (orE e (rvD m i v).1))->K o (.agg (svc (rvD m i v).2))):zaf Tryz.prog 38 [.p b 0,.agg (zap v)] objs K:=by
 refine zfG (.agg (svc (rvD m i v).2)) ?_;have hbl:=(zf.1 hb).1;have ejv:=zad v;have hpv:PlO (OB.box 25 [.i .i64 v.kind,.s v.text,.row v.keys.length (v.keys.map .s),.row v.items.length (zab v.items)]):=by
  show zao _=true;rw[<-ejv];exact zaN v
 refine zcu is_ref17_reader_service fun C _=>?_;rw[c_ref17_reader_service,ejv];refine zaa fun Z hZ=>?_;simp only[sxZ,z6,z7,z8,j4,j5,j6,j7,j8,j9,x6,x7,x8,x9,y4,y5,reduceCtorEq,↓reduceIte];have hE0:=((Ext.refl hb).app (OB.box 25 [.i .i64 v.kind,.s v.text,.row v.keys.length (v.keys.map .s),.row v.items.length (zab v.items)])).app (OB.box 46 [.s [],.nil,.nil]);have eV:(objs++[OB.box 25 [.i .i64 v.kind,.s v.text,.row v.keys.length (v.keys.map .s),.row v.items.length (zab v.items)]]++[OB.box 46 [.s [],.nil,.nil]])[objs.length]? = some (OB.box 25 [.i .i64 v.kind,.s v.text,.row v.keys.length (v.keys.map .s),.row v.items.length (zab v.items)]):=gn20 _ _ _;have eM:(objs++[OB.box 25 [.i .i64 v.kind,.s v.text,.row v.keys.length (v.keys.map .s),.row v.items.length (zab v.items)]]++[OB.box 46 [.s [],.nil,.nil]])[objs.length+1]? = some (OB.box 46 [.s [],.nil,.nil]):=gn21 _ _ _;generalize objs++[OB.box 25 [.i .i64 v.kind,.s v.text,.row v.keys.length (v.keys.map .s),.row v.items.length (zab v.items)]]++[OB.box 46 [.s [],.nil,.nil]]=o0 at hE0 eV eM ⊢;subst hZ;refine zaa fun Z hZ=>?_;unfold rvD at hk ⊢
 by_cases c7:v.kind=7
 rotate_left
 ·rw[if_pos c7] at hk ⊢;simp only[sxZ,z6,z7,z8,j4,j5,j6,j7,j8,j9,x6,x7,x8,x9,y4,y5,reduceCtorEq,↓reduceIte,eV,c7];refine zae (zbD m i e 160 b hE0.1 ?_);have hE1:=hE0.set (rqB m i (orE e 160));have eM1:=zaW eM (r:=b) (by omega) (rqB m i (orE e 160));generalize o0.set b (rqB m i (orE e 160))=o1 at hE1 eM1 ⊢;have hl1:=(zf.1 eM1).1;have hk2:=hk _ (hE1.own (objs.length+1) (OB.box 46 [.s [],.nil,.nil]) (by omega) hbl);simp only[sxZ,z6,z7,z8,j4,j5,j6,j7,j8,j9,x6,x7,x8,x9,y4,y5,reduceCtorEq,↓reduceIte,eM1,hl1,za];exact⟨fun G I y h=>den_ag (fun z hz=>zaz hz) (fun z hz=>zaz hz) h,hk2⟩
 rw[if_neg (show ¬v.kind≠7 from fun e=>e c7)] at hk ⊢;simp only[sxZ,z6,z7,z8,j4,j5,j6,j7,j8,j9,x6,x7,x8,x9,y4,y5,reduceCtorEq,↓reduceIte,eV,c7];subst hZ;refine zaa fun Z hZ=>?_;simp only[sxZ,z6,z7,z8,j4,j5,j6,j7,j8,j9,x6,x7,x8,x9,y4,y5,reduceCtorEq,↓reduceIte,eV];rw[<-ejv];refine zae (rqid_k m i v e b hv h1 h2 ht hE0.1 fun o1 hX=>?_);have eV1:=hX.keep eV (by omega) hpv;have eM1:=hX.keep eM (by omega) rfl;have hE1:=hE0.trans hX;clear hX hE0 eV eM;generalize riD m i v=R at hk hE1 ⊢;obtain⟨er,id⟩:=R;dsimp only at hk hE1 ⊢;simp only[sxZ,z6,z7,z8,j4,j5,j6,j7,j8,j9,x6,x7,x8,x9,y4,y5,reduceCtorEq,↓reduceIte,gn1,sn1];have hol:=hE1.2.1;have hE2:=hE1.app (OB.box 46 [.s id,.nil,.nil]);have eV2:=zar eV1 (OB.box 46 [.s id,.nil,.nil]);have eM2:=zar eM1 (OB.box 46 [.s id,.nil,.nil]);have eN2:(o1++[OB.box 46 [.s id,.nil,.nil]])[o1.length]? = some (OB.box 46 [.s id,.nil,.nil]):=gn1 _ _;have hq:objs.length+1<o1.length:=(zf.1 eM1).1;generalize o1.length=q at eN2 hq hol ⊢;generalize o1++[OB.box 46 [.s id,.nil,.nil]]=o2 at hE2 eV2 eM2 eN2 ⊢;subst hZ;refine zaa fun Z hZ=>?_;refine zaL (fun o t=>Ext objs o b (rqB m i (orE (orE e er) (thE v zbh)))/\o[objs.length]? = some (OB.box 25 [.i .i64 v.kind,.s v.text,.row v.keys.length (v.keys.map .s),.row v.items.length (zab v.items)])/\o[objs.length+1]? = some (OB.box 46 [.s [],.nil,.nil])/\o[q]? = some (OB.box 46 [.s id,.nil,.nil])/\t.length=50/\t[0]? = some (.p b 0)/\t[3]? = some (.p objs.length 0)/\t[4]? = some (.p (objs.length+1) 0)/\t[5]? = some (.p q 0)) ?_ ?_
 ·simp only[sxZ,z6,z7,z8,j4,j5,j6,j7,j8,j9,x6,x7,x8,x9,y4,y5,reduceCtorEq,↓reduceIte,eV2];rw[<-ejv];refine zae (zcc v zbh hv ?_);unfold thE;generalize zaB v zbh=R;obtain⟨x,ok⟩:=R;unfold zbd;dsimp only;rw[zad x,ejv];simp only[sxZ,z6,z7,z8,j4,j5,j6,j7,j8,j9,x6,x7,x8,x9,y4,y5,reduceCtorEq,↓reduceIte,gn1,sn1];have hE3:=hE2.app (OB.box 25 [.i .i64 x.kind,.s x.text,.row x.keys.length (x.keys.map .s),.row x.items.length (zab x.items)]);have eV3:=zar eV2 (OB.box 25 [.i .i64 x.kind,.s x.text,.row x.keys.length (x.keys.map .s),.row x.items.length (zab x.items)]);have eM3:=zar eM2 (OB.box 25 [.i .i64 x.kind,.s x.text,.row x.keys.length (x.keys.map .s),.row x.items.length (zab x.items)]);have eN3:=zar eN2 (OB.box 25 [.i .i64 x.kind,.s x.text,.row x.keys.length (x.keys.map .s),.row x.items.length (zab x.items)]);generalize o2++[OB.box 25 [.i .i64 x.kind,.s x.text,.row x.keys.length (x.keys.map .s),.row x.items.length (zab x.items)]]=o3 at hE3 eV3 eM3 eN3 ⊢
  cases ok with
  | true=>
   simp only[sxZ,z6,z7,z8,j4,j5,j6,j7,j8,j9,x6,x7,x8,x9,y4,y5,reduceCtorEq,↓reduceIte,zac];rw[zfE];exact⟨hE3,eV3,eM3,eN3⟩
  | false=>
   simp only[sxZ,z6,z7,z8,j4,j5,j6,j7,j8,j9,x6,x7,x8,x9,y4,y5,reduceCtorEq,↓reduceIte];refine zae (zbD m i _ 160 b hE3.1 ?_);simp only[sxZ,z6,z7,z8,j4,j5,j6,j7,j8,j9,x6,x7,x8,x9,y4,y5,reduceCtorEq,↓reduceIte,zac];exact⟨hE3.set _,zaW eV3 (by omega) _,zaW eM3 (by omega) _,zaW eN3 (by omega) _⟩
 clear hE1 hE2 eV2 eM2 eN2 eV1 eM1;rintro o4 t ⟨hE4,eV4,eM4,eN4,hlen,t0,t3,t4,t5⟩;subst hZ;refine zaa fun Z hZ=>?_;simp only[sxZ,z6,z7,z8,j4,j5,j6,j7,j8,j9,x6,x7,x8,x9,y4,y5,reduceCtorEq,↓reduceIte,za,hlen,t0,t3,t4,t5,eV4];rw[<-ejv];refine zae (ze8 m i v _ zbh true b hv hE4.1 fun o5 hX=>?_);have eV5:=hX.keep eV4 (by omega) hpv;have eM5:=hX.keep eM4 (by omega) rfl;have eN5:=hX.keep eN4 (by omega) rfl;have hE5:=hE4.trans hX;clear hX hE4 eV4 eM4 eN4;generalize rsD v zbh true=R at hk hE5 ⊢;obtain⟨e2,l1⟩:=R;dsimp only at hk hE5 ⊢;simp only[sxZ,z6,z7,z8,j4,j5,j6,j7,j8,j9,x6,x7,x8,x9,y4,y5,reduceCtorEq,↓reduceIte,za,hlen,t0,t3,t4,t5,eN5];have hp1:=zbe l1;have hpN:PlO (OB.box 46 [.s id,.row l1.length (l1.map .s),.nil]):=by
  show zao _=true;simp only[zao,AV.plain,hp1,Bool.and_self]
 have hE6:=hE5.own q (OB.box 46 [.s id,.row l1.length (l1.map .s),.nil]) (by omega) hbl;have eV6:=zaW eV5 (r:=q) (by omega) (OB.box 46 [.s id,.row l1.length (l1.map .s),.nil]);have eM6:=zaW eM5 (r:=q) (by omega) (OB.box 46 [.s id,.row l1.length (l1.map .s),.nil]);have eN6:(o5.set q (OB.box 46 [.s id,.row l1.length (l1.map .s),.nil]))[q]? = some (OB.box 46 [.s id,.row l1.length (l1.map .s),.nil]):=zl (zf.1 eN5).1;generalize o5.set q (OB.box 46 [.s id,.row l1.length (l1.map .s),.nil])=o6 at hE6 eV6 eM6 eN6 ⊢;clear hE5 eV5 eM5 eN5;subst hZ;refine zaa fun Z hZ=>?_;simp only[sxZ,z6,z7,z8,j4,j5,j6,j7,j8,j9,x6,x7,x8,x9,y4,y5,reduceCtorEq,↓reduceIte,za,hlen,t0,t3,t4,t5,eV6];rw[<-ejv];refine zae (zcc v zbH hv ?_);have hth:thE v zbH=if (zaB v zbH).2=true then 0 else 160:=rfl
 rw[hth] at hk ⊢;clear hth;generalize zaB v zbH=R at hk ⊢;obtain⟨x,ok⟩:=R;unfold zbd;dsimp only at hk ⊢;rw[zad x,ejv];have hpx:PlO (OB.box 25 [.i .i64 x.kind,.s x.text,.row x.keys.length (x.keys.map .s),.row x.items.length (zab x.items)]):=by
  show zao _=true;rw[<-zad x];exact zaN x
 simp only[sxZ,z6,z7,z8,j4,j5,j6,j7,j8,j9,x6,x7,x8,x9,y4,y5,reduceCtorEq,↓reduceIte,za,hlen,t0,t3,t4,t5,gn1,sn1];have hol6:=hE6.2.1;have hE7:=hE6.app (OB.box 25 [.i .i64 x.kind,.s x.text,.row x.keys.length (x.keys.map .s),.row x.items.length (zab x.items)]);have eV7:=zar eV6 (OB.box 25 [.i .i64 x.kind,.s x.text,.row x.keys.length (x.keys.map .s),.row x.items.length (zab x.items)]);have eM7:=zar eM6 (OB.box 25 [.i .i64 x.kind,.s x.text,.row x.keys.length (x.keys.map .s),.row x.items.length (zab x.items)]);have eN7:=zar eN6 (OB.box 25 [.i .i64 x.kind,.s x.text,.row x.keys.length (x.keys.map .s),.row x.items.length (zab x.items)]);have eX7:(o6++[OB.box 25 [.i .i64 x.kind,.s x.text,.row x.keys.length (x.keys.map .s),.row x.items.length (zab x.items)]])[o6.length]? = some (OB.box 25 [.i .i64 x.kind,.s x.text,.row x.keys.length (x.keys.map .s),.row x.items.length (zab x.items)]):=gn1 _ _;have hq6:=(zf.1 eN6).1;clear hE6 eV6 eM6 eN6;generalize o6.length=r at eX7 hol6 hq6 ⊢;generalize o6++[OB.box 25 [.i .i64 x.kind,.s x.text,.row x.keys.length (x.keys.map .s),.row x.items.length (zab x.items)]]=o7 at hE7 eV7 eM7 eN7 eX7 ⊢;subst hZ;refine zaa fun Z hZ=>?_;refine zaL (fun o t=>Ext objs o b (rqB m i (orE (orE (orE (orE e er) (thE v zbh)) e2) (if ok=true then 0 else 160)))/\o[objs.length]? = some (OB.box 25 [.i .i64 v.kind,.s v.text,.row v.keys.length (v.keys.map .s),.row v.items.length (zab v.items)])/\o[objs.length+1]? = some (OB.box 46 [.s [],.nil,.nil])/\o[q]? = some (OB.box 46 [.s id,.row l1.length (l1.map .s),.nil])/\o[r]? = some (OB.box 25 [.i .i64 x.kind,.s x.text,.row x.keys.length (x.keys.map .s),.row x.items.length (zab x.items)])/\t.length=50/\t[0]? = some (.p b 0)/\t[3]? = some (.p objs.length 0)/\t[4]? = some (.p (objs.length+1) 0)/\t[5]? = some (.p q 0)/\t[8]? = some (.p r 0)) ?_ ?_
 ·cases ok with
  | true=>
   simp only[sxZ,z6,z7,z8,j4,j5,j6,j7,j8,j9,x6,x7,x8,x9,y4,y5,reduceCtorEq,↓reduceIte,za,hlen,t0,t3,t4,t5,zac,zfE];exact⟨hE7,eV7,eM7,eN7,eX7⟩
  | false=>
   simp only[sxZ,z6,z7,z8,j4,j5,j6,j7,j8,j9,x6,x7,x8,x9,y4,y5,reduceCtorEq,↓reduceIte,za,hlen,t0,t3,t4,t5];refine zae (zbD m i _ 160 b hE7.1 ?_);simp only[sxZ,z6,z7,z8,j4,j5,j6,j7,j8,j9,x6,x7,x8,x9,y4,y5,reduceCtorEq,↓reduceIte,za,hlen,t0,t3,t4,t5,zac];have g1:=zaW eV7 (r:=b) (by omega) (rqB m i (orE (orE (orE (orE e er) (thE v zbh)) e2) 160));have g2:=zaW eM7 (r:=b) (by omega) (rqB m i (orE (orE (orE (orE e er) (thE v zbh)) e2) 160));have g3:=zaW eN7 (r:=b) (by omega) (rqB m i (orE (orE (orE (orE e er) (thE v zbh)) e2) 160));have g4:=zaW eX7 (r:=b) (by omega) (rqB m i (orE (orE (orE (orE e er) (thE v zbh)) e2) 160));simp only[za] at g1 g2 g3 g4;exact⟨hE7.set _,g1,g2,g3,g4⟩
 clear hE7 eV7 eM7 eN7 eX7 hlen t0 t3 t4 t5;rintro o8 t ⟨hE8,eV8,eM8,eN8,eX8,hlen,t0,t3,t4,t5,t8⟩;subst hZ;refine zaa fun Z hZ=>?_
 by_cases c:x.kind=7
 ·rw[if_pos c] at hk ⊢;simp only[sxZ,z6,z7,z8,j4,j5,j6,j7,j8,j9,x6,x7,x8,x9,y4,y5,reduceCtorEq,↓reduceIte,za,hlen,t0,t3,t4,t5,t8,eX8,c];subst hZ;have hl8:=(zf.1 eM8).1;have hE9:=hE8.own (objs.length+1) (OB.box 46 [.s id,.row l1.length (l1.map .s),.nil]) (by omega) hbl;simp only[zaE] at hE9 hk;have hk2:=hk _ hE9;simp only[sxZ,z6,z7,z8,j4,j5,j6,j7,j8,j9,x6,x7,x8,x9,y4,y5,reduceCtorEq,↓reduceIte,za,hlen,t0,t3,t4,t5,t8,eM8,eN8,hl8];exact⟨fun G I y h=>den_ag (fun z hz=>hz) (fun z hz=>zaz hz) h,hk2⟩
 rw[if_neg c] at hk ⊢;simp only[sxZ,z6,z7,z8,j4,j5,j6,j7,j8,j9,x6,x7,x8,x9,y4,y5,reduceCtorEq,↓reduceIte,za,hlen,t0,t3,t4,t5,t8,eX8,eV8,c];rw[<-ejv];refine zae (ze8 m i v _ zbH true b hv hE8.1 fun o9 hX=>?_);have eM9:=hX.keep eM8 (by omega) rfl;have eN9:=hX.keep eN8 (by omega) hpN;have hE9:=hE8.trans hX;clear hX hE8 eV8 eM8 eN8 eX8;generalize rsD v zbH true=R at hk hE9 ⊢;obtain⟨e4,l2⟩:=R;dsimp only at hk hE9 ⊢;simp only[sxZ,z6,z7,z8,j4,j5,j6,j7,j8,j9,x6,x7,x8,x9,y4,y5,reduceCtorEq,↓reduceIte,za,hlen,t0,t3,t4,t5,t8,eN9];have hEa:=hE9.own q (OB.box 46 [.s id,.row l1.length (l1.map .s),.row l2.length (l2.map .s)]) (by omega) hbl;have eMa:=zaW eM9 (r:=q) (by omega) (OB.box 46 [.s id,.row l1.length (l1.map .s),.row l2.length (l2.map .s)]);have eNa:(o9.set q (OB.box 46 [.s id,.row l1.length (l1.map .s),.row l2.length (l2.map .s)]))[q]? = some (OB.box 46 [.s id,.row l1.length (l1.map .s),.row l2.length (l2.map .s)]):=zl (zf.1 eN9).1;generalize o9.set q (OB.box 46 [.s id,.row l1.length (l1.map .s),.row l2.length (l2.map .s)])=oa at hEa eMa eNa ⊢;subst hZ;have hla:=(zf.1 eMa).1;have hEb:=hEa.own (objs.length+1) (OB.box 46 [.s id,.row l1.length (l1.map .s),.row l2.length (l2.map .s)]) (by omega) hbl;simp only[zaE] at hEb hk;have hk2:=hk _ hEb;simp only[sxZ,z6,z7,z8,j4,j5,j6,j7,j8,j9,x6,x7,x8,x9,y4,y5,reduceCtorEq,↓reduceIte,za,hlen,t0,t3,t4,t5,t8,eMa,eNa,hla];exact⟨fun G I y h=>h,hk2⟩
end
end
section
attribute [local irreducible] run
def hitB (m i id:List UInt8) (y:JV):Bool:=decide ((zdg m i y).1=0)&&decide ((zdg m i y).2=id)
def zk5 (v:JV):List JV:=(zaB v zbP).1.items++(zaB v zbr).1.items
def zfN (v:JV) (id:List UInt8):JV×Bool :=
 if (ddE v).1≠0 then (jvZ,false)
 else match (zk5 v).find? (hitB (sbD v).2.1 (sbD v).2.2 id) with
  | some y=>(y,true)
  | none=>(jvZ,false)
theorem ddE_sb {v:JV} (h:(ddE v).1=0):(sbD v).1=0:=by
 unfold ddE at h
 by_cases c:(sbD v).1=0
 ·exact c
 ·rw[if_pos c] at h;exact absurd h c
def zfD (v:JV) (k:Nat):List JV:=if k=0 then [] else if k=1 then (zaB v zbP).1.items else zk5 v
theorem zlH {p:JV->Bool} {a b:List JV} {y:JV} (ha:∀x∈a,p x=false) (hy:p y=true):(a++y::b).find? p=some y:=by
 rw[List.find?_append,List.find?_eq_none.2 (fun x hx=>by rw[ha x hx];decide),List.find?_cons_of_pos hy];rfl
section
variable [Tabs Tryz.prog] {objs:List OB} {K:List OB->AV->Prop}
theorem sel_k [Shp Tryz.prog] (v:JV) (id:List UInt8) (hv:JOk v) (hj:JBd v) (hb:IdB v) (hk:K objs (zbd (zfN v id))):zaf Tryz.prog 13 [.agg (zap v),.s id] objs K:=by
 refine zfG (zbd (zfN v id)) ?_;have kz:zfN v id=(jvZ,false)->(∀G I y,Den G I (.tup [.agg [.i .i64 0,.s [],.nil,.nil],.b false]) y->Den G I (zbd (zfN v id)) y)/\K objs (zbd (zfN v id)):=fun he=>⟨fun G I y h=>by rw[he];exact zcs (fun z hz=>zpR (k:=0) (t:=[]) hz) h,hk⟩;have ky:∀y:JV,zfN v id=(y,true)->(∀G I z,Den G I (.tup [.agg [.i .i64 y.kind,.s y.text,.row y.keys.length (y.keys.map .s),.row y.items.length (zab y.items)],.b true]) z->Den G I (zbd (zfN v id)) z)/\K objs (zbd (zfN v id)):=fun y he=>⟨fun G I z h=>by rw[he];unfold zbd;rw[zad y];exact h,hk⟩;refine za4 is_diddoc_Select (by simp only[zao,AV.plain,zaN,Bool.and_self]) fun C _=>?_;rw[c_diddoc_Select];have ejv:=zad v;have hsl:=zhU v;have hsb:=@ddE_sb v;rw[ejv];refine zaa fun Z hZ=>?_;simp only[sxZ,z6,z7,z8,j4,j5,j6,j7,j8,j9,x6,x7,x8,x9,y4,y5,reduceCtorEq,↓reduceIte];subst hZ;refine zaa fun Z hZ=>?_;simp only[sxZ,z6,z7,z8,j4,j5,j6,j7,j8,j9,x6,x7,x8,x9,y4,y5,reduceCtorEq,↓reduceIte];rw[<-ejv];refine zae (dd_k v hv hj hb ?_);unfold zfN at kz ky hk ⊢;generalize ddE v=R at kz ky hk hsb ⊢;obtain⟨e,d⟩:=R;dsimp only at kz ky hk hsb ⊢;unfold zpU doc;rw[ejv];dsimp only;simp only[sxZ,z6,z7,z8,j4,j5,j6,j7,j8,j9,x6,x7,x8,x9,y4,y5,reduceCtorEq,↓reduceIte]
 by_cases c:e=0
 rotate_left
 ·rw[if_pos c] at kz hk ⊢;have:=kz rfl;simp only[sxZ,z6,z7,z8,j4,j5,j6,j7,j8,j9,x6,x7,x8,x9,y4,y5,reduceCtorEq,↓reduceIte,c];exact this
 subst c;rw[if_neg (show ¬((0:Int)≠0) by decide)] at kz ky hk ⊢;have hsb:=hsb rfl;simp only[sxZ,z6,z7,z8,j4,j5,j6,j7,j8,j9,x6,x7,x8,x9,y4,y5,reduceCtorEq,↓reduceIte];subst hZ;refine zaa fun Z hZ=>?_;simp only[sxZ,z6,z7,z8,j4,j5,j6,j7,j8,j9,x6,x7,x8,x9,y4,y5,reduceCtorEq,↓reduceIte];rw[<-ejv];refine zae (sub_k v hv hj hb.1 ?_);generalize sbD v=R at kz ky hk hsl hsb ⊢;obtain⟨e,m,i⟩:=R;dsimp only at kz ky hk hsl hsb ⊢;subst hsb;rw[ejv];simp only[sxZ,z6,z7,z8,j4,j5,j6,j7,j8,j9,x6,x7,x8,x9,y4,y5,reduceCtorEq,↓reduceIte];subst hZ;refine zaa fun Z hZ=>?_;simp only[sxZ,z6,z7,z8,j4,j5,j6,j7,j8,j9,x6,x7,x8,x9,y4,y5,reduceCtorEq,↓reduceIte];subst hZ;refine zaa fun Z hZ=>?_;refine zaa fun W hW=>?_;simp only[sxZ,z6,z7,z8,j4,j5,j6,j7,j8,j9,x6,x7,x8,x9,y4,y5,reduceCtorEq,↓reduceIte];subst hW;rw[za8];refine zaK (fun n o tm=>∃k:Nat,k<=2/\n=2 - k/\(∀y∈zfD v k,hitB m i id y=false)/\o[0]? = some (OB.box 25 [.i .i64 v.kind,.s v.text,.row v.keys.length (v.keys.map .s),.row v.items.length (zab v.items)])/\o[1]? = some (OB.box 25 [.i .i64 0,.s [],.nil,.nil])/\o[3]? = some (.box 62 [.s m,.s i])/\tm.length=70/\tm[1]? = some (.s id)/\tm[2]? = some (.p 0 0)/\tm[4]? = some (.p 1 0)/\tm[8]? = some (.p 3 0)/\tm[34]? = some (.row 2 [.s [118,101,114,105,102,105,99,97,116,105,111,110,77,101,116,104,111,100],.s [115,101,114,118,105,99,101]])/\tm[35]? = some (.i .i64 2)/\tm[36]? = some (.i .i64 (k:Int))) 2 ⟨0,zd _,rfl,(fun y hy=>by cases hy),rfl,rfl,rfl,rfl,rfl,rfl,rfl,rfl,rfl,rfl,rfl⟩ ?_;rintro n o tm ⟨k,hk2,rfl,hno,o0,o1,o3,hlen,t1,t2,t4,t8,t34,t35,t36⟩;refine zaa fun W hW=>?_
 by_cases hlt:(k:Int)<2
 ·obtain⟨key,hkey,hpart,hrest⟩:∃key,([AV.s [118,101,114,105,102,105,99,97,116,105,111,110,77,101,116,104,111,100],.s [115,101,114,118,105,99,101]]:List AV)[k*1]? = some (.s key)/\zfD v (k+1)=zfD v k++(zaB v key).1.items/\∃post,zk5 v=zfD v (k+1)++post:=by
   rcases(show k=0\/k=1 by omega) with rfl|rfl
   ·exact⟨zbP,rfl,rfl,(zaB v zbr).1.items,rfl⟩
   ·exact⟨zbr,rfl,rfl,[],(jh _).symm⟩
  simp only[sxZ,z6,z7,z8,j4,j5,j6,j7,j8,j9,x6,x7,x8,x9,y4,y5,reduceCtorEq,↓reduceIte,za,hlen,t35,t36,hlt];subst hW;refine zaa fun W hW=>?_;simp only[sxZ,z6,z7,z8,j4,j5,j6,j7,j8,j9,x6,x7,x8,x9,y4,y5,reduceCtorEq,↓reduceIte,za,hlen];subst hW;refine zaa fun Y hY=>?_;rw[za8];refine zaa fun W hW=>?_;simp only[sxZ,z6,z7,z8,j4,j5,j6,j7,j8,j9,x6,x7,x8,x9,y4,y5,reduceCtorEq,↓reduceIte,za,hlen,t34,t36,hkey]
  (and_intros<;>try omega)
  subst hW;refine zaa fun W hW=>?_;simp only[sxZ,z6,z7,z8,j4,j5,j6,j7,j8,j9,x6,x7,x8,x9,y4,y5,reduceCtorEq,↓reduceIte,za,hlen,t2,o0];rw[<-ejv];refine zae (zlz v key hv hj ?_);have hits:=hb.it hv hj key;have hbd:=(zil hj key).lens.2;generalize zaB v key=R at hpart hits hbd ⊢;obtain⟨x,ok⟩:=R;unfold zbd;dsimp only at hpart hits hbd ⊢;rw[zad x];simp only[sxZ,z6,z7,z8,j4,j5,j6,j7,j8,j9,x6,x7,x8,x9,y4,y5,reduceCtorEq,↓reduceIte,za,hlen,gn1,sn1];have a0:=zar o0 (OB.box 25 [.i .i64 x.kind,.s x.text,.row x.keys.length (x.keys.map .s),.row x.items.length (zab x.items)]);have a1:=zar o1 (OB.box 25 [.i .i64 x.kind,.s x.text,.row x.keys.length (x.keys.map .s),.row x.items.length (zab x.items)]);have a3:=zar o3 (OB.box 25 [.i .i64 x.kind,.s x.text,.row x.keys.length (x.keys.map .s),.row x.items.length (zab x.items)]);have aX:(o++[OB.box 25 [.i .i64 x.kind,.s x.text,.row x.keys.length (x.keys.map .s),.row x.items.length (zab x.items)]])[o.length]? = some (OB.box 25 [.i .i64 x.kind,.s x.text,.row x.keys.length (x.keys.map .s),.row x.items.length (zab x.items)]):=gn1 _ _;generalize o.length=p at aX ⊢;generalize o++[OB.box 25 [.i .i64 x.kind,.s x.text,.row x.keys.length (x.keys.map .s),.row x.items.length (zab x.items)]]=oa at a0 a1 a3 aX ⊢;clear o0 o1 o3;subst hW;refine zaa fun W hW=>?_;simp only[sxZ,z6,z7,z8,j4,j5,j6,j7,j8,j9,x6,x7,x8,x9,y4,y5,reduceCtorEq,↓reduceIte,za,hlen,aX];subst hW;clear aX;generalize x.items=its at hpart hits hbd ⊢;have hl4:=zaI its;rw[za8];refine zaK (fun n o tm=>∃j:Nat,j<=its.length/\n=its.length - j/\(∀y∈its.take j,hitB m i id y=false)/\o[0]? = some (OB.box 25 [.i .i64 v.kind,.s v.text,.row v.keys.length (v.keys.map .s),.row v.items.length (zab v.items)])/\o[1]? = some (OB.box 25 [.i .i64 0,.s [],.nil,.nil])/\o[3]? = some (.box 62 [.s m,.s i])/\tm.length=70/\tm[1]? = some (.s id)/\tm[2]? = some (.p 0 0)/\tm[4]? = some (.p 1 0)/\tm[8]? = some (.p 3 0)/\tm[34]? = some (.row 2 [.s [118,101,114,105,102,105,99,97,116,105,111,110,77,101,116,104,111,100],.s [115,101,114,118,105,99,101]])/\tm[35]? = some (.i .i64 2)/\tm[36]? = some (.i .i64 (k:Int))/\tm[47]? = some (.row its.length (zab its))/\tm[48]? = some (.i .i64 (its.length:Int))/\tm[49]? = some (.i .i64 (j:Int))) its.length ⟨0,zd _,rfl,(fun y hy=>by cases hy),a0,a1,a3,?_⟩ ?_
  ·simp only[sxZ,z6,z7,z8,j4,j5,j6,j7,j8,j9,x6,x7,x8,x9,y4,y5,reduceCtorEq,↓reduceIte,zh,za,hlen,t1,t2,t4,t8,t34,t35,t36,Int.cast_ofNat_Int,and_self]
  clear hlen t1 t2 t4 t8 t34 t35 t36 a0 a1 a3 tm;rintro n o tm ⟨j,hjl,rfl,hnj,o0,o1,o3,hlen,t1,t2,t4,t8,t34,t35,t36,t47,t48,t49⟩;refine zaa fun W hW=>?_
  by_cases hlt2:(j:Int)<(its.length:Int)
  ·have hi':j<its.length:=by omega
   have kv:=zea hi';obtain⟨y1,y2,y3⟩:=hits its[j] (jc hi');have htk:its.take (j+1)=its.take j++[its[j]]:=by rw[yb,zm hi'];rfl
   have hsp:its=its.take j++its[j]::its.drop (j+1):=by rw[<-jn hi',List.take_append_drop]
   generalize its[j]=y at kv htk hsp y1 y2 y3;have ey:=zad y;rw[ey] at kv;simp only[sxZ,z6,z7,z8,j4,j5,j6,j7,j8,j9,x6,x7,x8,x9,y4,y5,reduceCtorEq,↓reduceIte,za,hlen,t48,t49,hlt2];subst hW;refine zaa fun W hW=>?_;simp only[sxZ,z6,z7,z8,j4,j5,j6,j7,j8,j9,x6,x7,x8,x9,y4,y5,reduceCtorEq,↓reduceIte,za,hlen];subst hW;refine zaa fun U hU=>?_;rw[za8];refine zaa fun W hW=>?_;simp only[sxZ,z6,z7,z8,j4,j5,j6,j7,j8,j9,x6,x7,x8,x9,y4,y5,reduceCtorEq,↓reduceIte,za,hlen,t47,t49,kv]
   (and_intros<;>try omega)
   simp only[sxZ,z6,z7,z8,j4,j5,j6,j7,j8,j9,x6,x7,x8,x9,y4,y5,reduceCtorEq,↓reduceIte,za,hlen,gn1,sn1];have b0:=zar o0 (OB.box 25 [.i .i64 y.kind,.s y.text,.row y.keys.length (y.keys.map .s),.row y.items.length (zab y.items)]);have b1:=zar o1 (OB.box 25 [.i .i64 y.kind,.s y.text,.row y.keys.length (y.keys.map .s),.row y.items.length (zab y.items)]);have b3:=zar o3 (OB.box 25 [.i .i64 y.kind,.s y.text,.row y.keys.length (y.keys.map .s),.row y.items.length (zab y.items)]);have bY:(o++[OB.box 25 [.i .i64 y.kind,.s y.text,.row y.keys.length (y.keys.map .s),.row y.items.length (zab y.items)]])[o.length]? = some (OB.box 25 [.i .i64 y.kind,.s y.text,.row y.keys.length (y.keys.map .s),.row y.items.length (zab y.items)]):=gn1 _ _;generalize o.length=p at bY ⊢;generalize o++[OB.box 25 [.i .i64 y.kind,.s y.text,.row y.keys.length (y.keys.map .s),.row y.items.length (zab y.items)]]=ob at b0 b1 b3 bY ⊢;clear o0 o1 o3;subst hW;refine zaa fun W hW=>?_;simp only[sxZ,z6,z7,z8,j4,j5,j6,j7,j8,j9,x6,x7,x8,x9,y4,y5,reduceCtorEq,↓reduceIte,za,hlen,t8,bY,b3];rw[<-ey];refine zae (mid_k m i y y1 y2 (by omega) (by omega) y3 (resL m i) ?_);have hh:hitB m i id y=(decide ((zdg m i y).1=0)&&decide ((zdg m i y).2=id)):=rfl;generalize zdg m i y=R at hh ⊢;obtain⟨e2,s⟩:=R;dsimp only at hh ⊢;simp only[sxZ,z6,z7,z8,j4,j5,j6,j7,j8,j9,x6,x7,x8,x9,y4,y5,reduceCtorEq,↓reduceIte,za,hlen];subst hW;have hl1:=(zf.1 b1).1
   by_cases c:e2=0
   ·subst c
    by_cases cs:s=id
    ·subst cs;have:=ky y (by
      obtain⟨post,hpost⟩:=hrest;have e9:∀(a b:List JV),its=a++y::b->zfD v k++its++post=(zfD v k++a)++y::(b++post):=fun a b h=>by rw[h];simp
      rw[hpost,hpart,e9 _ _ hsp,zlH (fun z hz=>?_) (by rw[hh];simp)];rcases zq.1 hz with h|h
      ·exact hno z h
      ·exact hnj z h)
     simp only[sxZ,z6,z7,z8,j4,j5,j6,j7,j8,j9,x6,x7,x8,x9,y4,y5,reduceCtorEq,↓reduceIte,za,hlen,t1,t2,t4,t8,bY,b1,hl1,zaS,zbA];exact this
    ·simp only[sxZ,z6,z7,z8,j4,j5,j6,j7,j8,j9,x6,x7,x8,x9,y4,y5,reduceCtorEq,↓reduceIte,za,hlen,t1,cs];subst hU;simp only[sxZ,z6,z7,z8,j4,j5,j6,j7,j8,j9,x6,x7,x8,x9,y4,y5,reduceCtorEq,↓reduceIte,za,hlen,t1,t2,t4,t8,t34,t35,t36,t47,t48,t49];refine⟨by omega,its.length - (j+1),by omega,j+1,by omega,rfl,?_,b0,b1,b3,rfl⟩;intro z hz;rw[htk] at hz;rcases zq.1 hz with h|h
     ·exact hnj z h
     ·rw[jy] at h;subst h;rw[hh];simp[cs]
   ·simp only[sxZ,z6,z7,z8,j4,j5,j6,j7,j8,j9,x6,x7,x8,x9,y4,y5,reduceCtorEq,↓reduceIte,za,hlen,t1,c];subst hU;simp only[sxZ,z6,z7,z8,j4,j5,j6,j7,j8,j9,x6,x7,x8,x9,y4,y5,reduceCtorEq,↓reduceIte,za,hlen,t1,t2,t4,t8,t34,t35,t36,t47,t48,t49];refine⟨by omega,its.length - (j+1),by omega,j+1,by omega,rfl,?_,b0,b1,b3,rfl⟩;intro z hz;rw[htk] at hz;rcases zq.1 hz with h|h
    ·exact hnj z h
    ·rw[jy] at h;subst h;rw[hh];simp[c]
  have hn:j=its.length:=by omega
  rw[hn,ju (ze _)] at hnj;simp only[sxZ,z6,z7,z8,j4,j5,j6,j7,j8,j9,x6,x7,x8,x9,y4,y5,reduceCtorEq,↓reduceIte,za,hlen,t48,t49,hlt2];subst hW;simp only[sxZ,z6,z7,z8,j4,j5,j6,j7,j8,j9,x6,x7,x8,x9,y4,y5,reduceCtorEq,↓reduceIte,za,hlen];subst hY;simp only[sxZ,z6,z7,z8,j4,j5,j6,j7,j8,j9,x6,x7,x8,x9,y4,y5,reduceCtorEq,↓reduceIte,za,hlen,t1,t2,t4,t8,t34,t35,t36];refine⟨by omega,2 - (k+1),by omega,k+1,by omega,rfl,?_,by rw[ejv];exact o0,o1,o3,rfl⟩;rw[hpart];intro z hz;rcases zq.1 hz with h|h
  ·exact hno z h
  ·exact hnj z h
 have hn:k=2:=by omega
 subst hn;have:=kz (by
  rw[List.find?_eq_none.2 fun z hz=>by rw[hno z hz];decide])
 have hl1:=(zf.1 o1).1;simp only[sxZ,z6,z7,z8,j4,j5,j6,j7,j8,j9,x6,x7,x8,x9,y4,y5,reduceCtorEq,↓reduceIte,za,hlen,t35,t36,hlt];subst hW;simp only[sxZ,z6,z7,z8,j4,j5,j6,j7,j8,j9,x6,x7,x8,x9,y4,y5,reduceCtorEq,↓reduceIte,za,hlen];subst hZ;simp only[sxZ,z6,z7,z8,j4,j5,j6,j7,j8,j9,x6,x7,x8,x9,y4,y5,reduceCtorEq,↓reduceIte,za,hlen,t4,o1,hl1];exact this
end
end
theorem zoA {x:Nat}:∀{l:List Nat},x∈l->x<=l.sum
 | a::l,h=>by
  rw[List.sum_cons];rcases zv.1 h with rfl|h
  ·omega
  ·have:=zoA h;omega
theorem zg5 (c:UInt8):∀l:List UInt8,((zaJ c l).map (fun q=>q.length+1)).sum=l.length+1
 | []=>by simp[zaJ]
 | x::t=>by
  have ih:=zg5 c t;obtain⟨p,ps,e⟩:=za7 c t;rw[e] at ih;rw[zaQ]
  by_cases h:x=c
  ·rw[if_pos h,e];simp at ih ⊢;omega
  ·rw[if_neg h,e];simp at ih ⊢;omega
theorem zfh:∀(n:Nat) (l:List UInt8),l.length<=n->l.all ppB=true->(dcL l).1=0->(zdh (dcL l).2).length<=l.length
 | 0,l,hl,_,_=>by
  obtain rfl:l=[]:=jd (by omega);exact ze _
 | n+1,[],_,_,_=>ze _
 | n+1,c::t,hl,hp,h=>by
  rw[jj,Bool.and_eq_true] at hp
  by_cases hc:c=37
  ·subst hc;rcases he:zbi (37::t) with _|_
   ·rw[zfk he] at h;cases h
   ·obtain⟨a,b,r,rfl⟩:=zbF he;have d:=zer he;rw[d.1] at h;have hr:=hp.2;rw[jj,jj,Bool.and_eq_true,Bool.and_eq_true] at hr;have:=zfh n r (by simp at hl ⊢;omega) hr.2.2 h;rw[d.2 h,zcw,zk];have h3:(if idB (zcf (37::a::b::r))=true then [zcf (37::a::b::r)] else zdB (zcf (37::a::b::r))).length<=3:=by
     split
     ·simp
     ·rw[zfW];exact ze _
    simp only[zu];omega
  ·have d:=zdQ (c:=c) (t:=t) hc;rw[d.1] at h;have:=zfh n t (by simp at hl;omega) hp.2 h;have hid:idB c=true:=by
    have:=hp.1;rw[pp_iff,Bool.or_eq_true] at this;rcases this with e|e
    ·exact absurd (by simpa using e) hc
    ·exact e
   rw[d.2 h,zcw,zk,if_pos hid];simp only[zu,qk];omega
theorem jnc_le:∀xs:List (List UInt8),(∀q∈xs,(zbj q).length<=q.length)->(jnc xs).length<=(xs.map (fun q=>q.length+1)).sum
 | [],_=>ze _
 | p::ps,h=>by
  have ih:=jnc_le ps fun q hq=>h q (qm _ hq);have:=h p (by simp);have e:jnc (p::ps)=58::zbj p++jnc ps:=rfl;rw[e,zk,zo,List.sum_cons,zu];omega
theorem zjk {d i:List UInt8} (hl:d.length<=16384) (h:idE d=(0,i)):i.length<=d.length:=by
 rw[zlD d hl] at h
 split at h
 ·cases h
 rename_i h1
 split at h
 ·cases h
 rename_i h2
 split at h
 ·cases h
 injection h with _ h
 have h1:∀q∈zaJ 58 d,(zcF q).1=0:=Decidable.not_not.1 h1;have hs:=zg5 58 d;obtain⟨p,ps,e⟩:=za7 58 d;rw[e] at h h1 h2 hs;have h2:∀q∈p::ps,q.all ppB=true:=by simpa only[Bool.not_eq_false,zt (l:=p::ps)] using h2
 have hq:∀q∈p::ps,(zbj q).length<=q.length:=fun q hm=>by
  have hql:q.length+1<=((p::ps).map (fun q=>q.length+1)).sum:=zoA (jq.2 ⟨q,hm,rfl⟩);have hd:=zd2 (l:=q) (by omega);have:=h1 q hm;unfold zbj;rw[hd] at this ⊢;exact zfh _ q (ze _) (h2 q hm) this
 have:=jnc_le ps fun q hm=>hq q (qm _ hm);have hp:=hq p (by simp);rw[<-h];show (zbj p++jnc ps).length<=_;rw[zk];rw[zo,List.sum_cons] at hs;omega
theorem did_can {s m i:List UInt8} (h:zb2 s=(0,m,i)):zb2 (zbX m i)=(0,m,i):=by
 obtain⟨h1,l,rfl,h3,h4⟩:=zpM h;have hl:l.length<=4096:=by rw[zcE] at h4;omega
 have hi:=zjk (by omega) h3;exact zpN h1 (zgF (by omega) (by omega) h3).1 (by rw[zcE] at h4 ⊢;omega)
theorem CanD.of4 {s:List UInt8} {u:DidU} (h:zdw s=(0,u)):CanD u:=by
 have hs:s.length<=4096:=by
  by_cases c:4096<s.length
  ·unfold zdw at h;rw[if_pos c] at h;cases h
  ·omega
 unfold zdw at h
 split at h
 ·cases h
 ·split at h
  ·rename_i g;injection h with h1 _;exact absurd h1 g
  ·rename_i g1
   split at h
   ·rename_i g;injection h with h1 _;exact absurd h1 g
   ·rename_i g2
    split at h
    ·rename_i g;injection h with h1 _;exact absurd h1 g
    ·rename_i g3
     split at h
     ·rename_i g;injection h with h1 _;exact absurd h1 g
     ·rename_i g4;simp only[Decidable.not_not] at g1 g2 g3 g4;injection h with _ h
      have hd:zb2 (zbl s)=(0,(zb2 (zbl s)).2.1,(zb2 (zbl s)).2.2):=by rw[<-g1]
      obtain⟨k1,l,k2,k3,k4⟩:=zpM hd;have e2:zat ((za6 s).drop (zbl s).length) zax=(0,(zat ((za6 s).drop (zbl s).length) zax).2):=by rw[<-g2]
      have e3:zat (zaw 63 (zaw 35 s).1).2.1 zak=(0,(zat (zaw 63 (zaw 35 s).1).2.1 zak).2):=by rw[<-g3]
      have e4:zat (zaw 35 s).2.1 zak=(0,(zat (zaw 35 s).2.1 zak).2):=by rw[<-g4]
      have j1:=congrArg je (zdx 35 s);have j2:=congrArg je (zdx 63 (zaw 35 s).1);have c1:=zeQ 35 s;have c2:=zeQ 63 (zaw 35 s).1;have hnb:=(zhw (za6 s)).2;have hnl:(zbl s).length<=(za6 s).length:=hnb;have hbl:(za6 s).length<=(zaw 35 s).1.length:=ziw 63 _;have h35l:=ziw 35 s;have kl:(zbl s).length=(zb2 (zbl s)).2.1.length+l.length+5:=by
       have hk2:=congrArg je k2;simp only[zbX,zbq,zk,zu,qk] at hk2;omega
      have il:=zjk (by omega) k3;have pl:=(zbg _ _ _ e2).2.2;have ql:=(zbg _ _ _ e3).2.2;have fl:=(zbg _ _ _ e4).2.2;rw[zw] at pl;have ia:=zgF (l:=l) (by omega) (by omega) k3;have q0:(zaw 63 (zaw 35 s).1).2.1.length<=(zaw 35 s).1.length:=(zcx 63 _).2;have f0:(zaw 35 s).2.1.length<=s.length:=(zcx 35 _).2;have qs:(za6 s).length+(zaw 63 (zaw 35 s).1).2.1.length+(if (zaw 63 (zaw 35 s).1).2.2=true then 1 else 0)<=(zaw 35 s).1.length:=by
       show (zaw 63 (zaw 35 s).1).1.length+_+_<=_;rcases hb:(zaw 63 (zaw 35 s).1).2.2 with _|_
       ·rw[(c2.2.2 hb).1,(c2.2.2 hb).2];simp
       ·have:=c2.2.1 hb;rw[if_pos rfl];omega
      have fs:(zaw 35 s).1.length+(zaw 35 s).2.1.length+(if (zaw 35 s).2.2=true then 1 else 0)<=s.length:=by
       rcases hb:(zaw 35 s).2.2 with _|_
       ·rw[(c1.2.2 hb).1,(c1.2.2 hb).2];simp
       ·have:=c1.2.1 hb;rw[if_pos rfl];omega
      have hslash:(zat ((za6 s).drop (zbl s).length) zax).2=[]\/∃r,(zat ((za6 s).drop (zbl s).length) zax).2=47::r:=by
       have hx:(za6 s).drop (zbl s).length=[]\/∃r,(za6 s).drop (zbl s).length=47::r:=by
        unfold zbl zbU;rcases zco 47 (za6 s) with ⟨_,h3,_⟩|⟨k,_,hk,h3,h4⟩
        ·rw[h3];left;simp
        ·rw[h3];right;have e:((za6 s).take k).length=k:=by rw[qc];omega
         simp only[e];rw[jn hk];rw[zm hk] at h4;injection h4 with h4
         exact⟨_,by rw[h4]⟩
       rcases hx with hx|⟨r,hx⟩
       ·left;rw[hx];decide
       ·right;rw[hx] at e2 ⊢;have hlen:=zeI e2;have hr:rwS (zb4 zax) 0 (47::r) []=(0,(zat (47::r) zax).2):=by
         have e5:=e2;unfold zat zgz at e5;rw[if_neg (by omega)] at e5;rw[e5];unfold zat zgz;rw[if_neg (by omega)]
        have hp1:rwS (zb4 zax) 0 (47::r) []=rwS (zb4 zax) 0 r [47]:=by
         rw[rwS,if_neg (by decide),zbc rfl (by decide),if_pos rfl];rfl
        rw[hp1] at hr;obtain⟨y,a,k5,_⟩:=zgv zax r.length r [47] _ (ze _) hr;exact⟨y,k5⟩
      rw[<-h];refine⟨k1,ia.1,ia.2,(zbg _ _ _ e2).1,hslash,(zbg _ _ _ e3).1,(zbg _ _ _ e4).1,?_,?_,?_⟩
      ·intro hq;show (zat (zaw 63 (zaw 35 s).1).2.1 zak).2=[];rw[(c2.2.2 hq).2];rfl
      ·intro hf;show (zat (zaw 35 s).2.1 zak).2=[];rw[(c1.2.2 hf).2];rfl
      ·unfold zcv;simp only[zk];have z1:((if (zaw 63 (zaw 35 s).1).2.2=true then [63]++(zat (zaw 63 (zaw 35 s).1).2.1 zak).2 else []):List UInt8).length<=(zat (zaw 63 (zaw 35 s).1).2.1 zak).2.length+(if (zaw 63 (zaw 35 s).1).2.2=true then 1 else 0):=by
        split<;>simp
       have z2:((if (zaw 35 s).2.2=true then [35]++(zat (zaw 35 s).2.1 zak).2 else []):List UInt8).length<=(zat (zaw 35 s).2.1 zak).2.length+(if (zaw 35 s).2.2=true then 1 else 0):=by
        split<;>simp
       have z3:(zbX (zb2 (zbl s)).2.1 (zb2 (zbl s)).2.2).length=(zb2 (zbl s)).2.1.length+(zb2 (zbl s)).2.2.length+5:=by simp[zbX,zbq];omega
       omega
section
attribute [local irreducible] run
def fillB (v:JV):Bool:=!decide (v.text=[])||decide (0<v.items.length)
def addK (ks:List (List UInt8)) (key:List UInt8) (v:JV):List (List UInt8):=if fillB v=true then ks++[key] else ks
def addI (its:List JV) (v:JV):List JV:=if fillB v=true then its++[v] else its
def job (ks:List (List UInt8)) (its:List JV):JV:=.mk 7 [] ks its
theorem ObR.app {m b:Nat} {ks:List (List UInt8)} {its:List JV} {o:List OB} (h:ObR m b ks its o) (z:OB):ObR m b ks its (o++[z]):=by
 obtain⟨X,Y,h1,h2,h3⟩:=h;exact⟨X,Y,by rw[qd (zf.1 h1).1];exact h1,h2.mono z,h3.mono z⟩
section
variable [Tabs Tryz.prog] {objs:List OB} {K:List OB->AV->Prop}
end
theorem zi7 {o:List OB} {r r' g n E sz g' n':Nat} {xs xs':List AV} (h:o[r']? = some (.orow E sz g' n' xs')) (hn:r'≠r):(zk0 o r g n xs)[r']? = some (.orow E sz g' n' xs'):=by
 unfold zk0;rw[zi (fun e=>hn e.symm),qo,h];rfl
section
variable [Tabs Tryz.prog] {objs:List OB} {K:List OB->AV->Prop}
end
end
section
attribute [local irreducible] run
section
variable [Tabs Tryz.prog] {objs:List OB} {K:List OB->AV->Prop}
end
end
section
attribute [local irreducible] run
section
variable [Tabs Tryz.prog] {objs:List OB} {K:List OB->AV->Prop}
end
section
variable [Tabs Tryz.prog] {objs:List OB} {K:List OB->AV->Prop}
end
end
section
attribute [local irreducible] run
end
section
attribute [local irreducible] run
section
variable [Tabs Tryz.prog] {objs:List OB} {K:List OB->AV->Prop}
end
end
section
attribute [local irreducible] run
section
variable [Tabs Tryz.prog] {objs:List OB} {K:List OB->AV->Prop}
end
end
section
attribute [local irreducible] run
section
variable [Tabs Tryz.prog] {objs:List OB} {K:List OB->AV->Prop}
end
end
section
attribute [local irreducible] run
section
variable [Tabs Tryz.prog] {objs:List OB} {K:List OB->AV->Prop}
end
end
section
attribute [local irreducible] run
section
variable [Tabs Tryz.prog] {objs:List OB} {K:List OB->AV->Prop}
end
end
section
attribute [local irreducible] run
section
variable [Tabs Tryz.prog] {objs:List OB} {K:List OB->AV->Prop}
end
end
section
attribute [local irreducible] run
section
variable [Tabs Tryz.prog] {objs:List OB} {K:List OB->AV->Prop}
end
end
section
attribute [local irreducible] run
section
variable [Tabs Tryz.prog] {objs:List OB} {K:List OB->AV->Prop}
end
end
section
attribute [local irreducible] run
theorem ObR.pub {m b:Nat} {ks:List (List UInt8)} {its:List JV} {oS o:List OB} (h:ObR m b ks its oS) (hfr:∀i,i<oS.length->o[i]? = oS[i]?) (r g n:Nat) (xs:List AV) (hr:oS.length<=r):ObR m b ks its (zk0 o r g n xs):=by
 obtain⟨X,Y,h1,h2,h3⟩:=h;have hb:=(zf.1 h1).1;have eX:zb5 r g n xs X=X:=by
  rcases h2 with ⟨_,rfl⟩|⟨r1,g1,rfl,_,hr1⟩
  ·rfl
  ·have:=(zf.1 hr1).1;simp only[zb5];rw[if_neg (by omega)]
 have eY:zb5 r g n xs Y=Y:=by
  rcases h3 with ⟨_,rfl⟩|⟨r1,g1,rfl,_,hr1⟩
  ·rfl
  ·have:=(zf.1 hr1).1;simp only[zb5];rw[if_neg (by omega)]
 refine⟨X,Y,?_,?_,?_⟩
 ·unfold zk0;rw[zi (by omega),qo,hfr b hb,h1];simp only[Option.map_some,ziL,zo,List.map_nil,eX,eY]
 ·rcases h2 with h|⟨r1,g1,e,h0,hr1⟩
  ·exact .inl h
  ·have:=(zf.1 hr1).1;exact .inr ⟨r1,g1,e,h0,zi7 (by rw[hfr r1 this];exact hr1) (by omega)⟩
 ·rcases h3 with h|⟨r1,g1,e,h0,hr1⟩
  ·exact .inl h
  ·have:=(zf.1 hr1).1;exact .inr ⟨r1,g1,e,h0,zi7 (by rw[hfr r1 this];exact hr1) (by omega)⟩
section
variable [Tabs Tryz.prog] {objs:List OB} {K:List OB->AV->Prop}
end
end
section
attribute [local irreducible] run
end
section
attribute [local irreducible] run
def PrOk (null:Bool) (p:PrP):Prop:=p.nul=true->null=true/\p.val=[]
end
end Go.Proofs.YtceenajkieomoaaGreatDoor
