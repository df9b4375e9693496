/- The texts that the proofs of these statements reach, in their order, as few files. -/
import Derived.Test.YtbeoijfmfkifeaaGreatDoorCq1
set_option linter.unusedVariables false
set_option linter.unusedSimpArgs false
set_option maxRecDepth 100000
namespace Go.Proofs.YtbeoijfmfkifeaaGreatDoor.Sx
open Go.RowKit
open List renaming all_cons->je, all_eq_true->zl, cons_append->qt, contains_iff_mem->jb, drop_eq_getElem_cons->jv, eq_nil_of_length_eq_zero->qd, getD_eq_getElem?_getD->jx, getElem?_append_left->qq, getElem?_drop->jt, getElem?_eq_getElem->zv, getElem?_eq_none->qi, getElem?_eq_some_iff->ja, getElem?_map->jy, getElem?_set->zb, getElem?_set_ne->zp, getElem?_set_self->qc, getElem?_take_of_lt->xn, getElem_mem->zy, length_map->qn, length_set->zh, length_take->zg, map_congr_left->xp, map_cons->zu, mem_append_left->xf, mem_append_right->xw, mem_cons->zt, mem_cons_of_mem->qw, mem_cons_self->jg, mem_filter->jh, mem_map->jd, mem_map_of_mem->xv, mem_range->qh, nil_append->qm, not_mem_nil->jk, range->zi, replicate->qr, size_toArray->xm, take_append_drop->jp, take_zero->xg
open Nat renaming add_zero->jf, le_refl->zd, lt_or_ge->zo, zero_add->zz, zero_le->ze
open Option renaming getD_some->jc, map_eq_some_iff->jz, map_some->jo, some->zw
structure SO where
 dst:Option Nat
 op:SOp
 gd:Option (Nat×Bool)
@[reducible] def SO.o (d:Nat) (op:SOp):SO:=⟨some d,op,none⟩
@[reducible] def SO.m (d x:Nat):SO:=⟨some d,.mv (.t x),none⟩
@[reducible] def SO.n (d:Nat) (z:Int):SO:=⟨some d,.mv (.c (.i .i64 z)),none⟩
@[reducible] def SO.z (d:Nat):SO:=⟨some d,.mv (.c (.s [])),none⟩
@[reducible] def SO.e (d x k:Nat):SO:=⟨some d,.ext (.t x) k,none⟩
@[reducible] def SO.l (d x:Nat):SO:=⟨some d,.load1 (.t x),none⟩
@[reducible] def SO.w (d sz x:Nat):SO:=⟨some d,.loadn sz (.t x),none⟩
@[reducible] def SO.s (sz x y:Nat):SO:=⟨none,.store sz (.t x) (.t y),none⟩
@[reducible] def SO.f (d off x:Nat):SO:=⟨some d,.fad off (.t x),none⟩
@[reducible] def SO.c (d f:Nat) (l:List SV):SO:=⟨some d,.call f l,none⟩
@[reducible] def SO.b (d:Nat) (op:BinOp) (x y:Nat):SO:=⟨some d,.bin op (.t x) (.t y),none⟩
@[reducible] def SO.k (d:Nat) (op:BinOp) (x:Nat) (z:Int):SO:=⟨some d,.bin op (.t x) (.c (.i .i64 z)),none⟩
@[reducible] def SO.h (d x:Nat):SO:=⟨some d,.lens (.t x),none⟩
@[reducible] def SO.p (d x y:Nat):SO:=⟨some d,.pick (.t x) (.c (.b true)) (.t y),none⟩
def AJ (tm:List AV):Option Nat->AV->List AV
 | none,_=>tm
 | some d,v=>tm.set d v
theorem GH {G:Gh} {I:Ak} {tm:List AV} {a:Act} {v:AV} {y:Value} (h:Ac G I tm a.tmps.toList) (hv:Ab G I v y) (dst:Option Nat):Ac G I (AJ tm dst v) (a.put dst y).tmps.toList:=by
 cases dst with
 | none=>exact h
 | some d=>simp only[AJ,Act.put,Array.toList_setIfInBounds];exact Ac.set d h hv
theorem GK (a:Act) (dst:Option Nat) (y:Value):(a.put dst y).defers=a.defers:=by cases dst<;>rfl
def Aq (P:Program) [Tabs P]:List SO->List OB->List AV->(List OB->List AV->Prop)->Prop
 | [],objs,tm,K=>K objs tm
 | ⟨dst,op,none⟩::r,objs,tm,K=>Ah P op objs tm fun objs' v=>Aq P r objs' (AJ tm dst v) K
 | ⟨dst,op,some (t,want)⟩::r,objs,tm,K=>
  match (tm[t]?).getD .u with
  | .b x=>(x=want->Ah P op objs (tm.set t (.b want)) fun objs' v=>Aq P r objs' (AJ (tm.set t (.b want)) dst v) K)/\(x=!want->Aq P r objs (AJ (tm.set t (.b (!want))) dst (.o undef)) K)
  | .o (.tuple vs)=>Aq P r objs (AJ tm dst (.o undef)) K
  | _=>False
def P9 (ops:List Oper):Option Nat->Bool
 | none=>false
 | some d=>ops.any fun o=>match o.op with
  | .assign (.tmp t)=>t==d
  | _=>false
def nT (ops:List Oper) (p:Nat):Bool:=ops.any fun o=>o.dst==some p&&match o.op with
 | .slice _ _ _ _ (some _)=>true
 | _=>false
def nN (ops:List Oper):Option Nat->Bool
 | none=>false
 | some d=>ops.any fun o=>match o.op with
  | .call c=>(match c.callee with
   | .builtin .append=>true
   | _=>false)&&match (c.args.toList.head?:Option Operand) with
    | some (.tmp t)=>t==d
    | _=>false
  | _=>false
def mM (ops:List Oper) (p:Nat):Bool:=ops.any fun o=>o.dst==some p&&match o.op with
 | .buildSlice _ len _=>decide (0<len)
 | _=>false
def Xo (ops:List Oper):Bool:=decide ((ops.filter fun o=>P9 ops o.dst&&match o.op with
 | .buildSlice ..=>true
 | _=>false).length<=1)
def Xn (ops:List Oper) (e:TypeId):Option Nat->Bool
 | none=>false
 | some d=>(ops.any fun o=>match o.op with
  | .build t parts=>t==e&&parts.any fun p=>match p.2 with
   | .tmp x=>x==d
   | _=>false
  | _=>false)&&ops.any fun o=>match o.op with
   | .alloc t=>t==e
   | _=>false
def J6 (P:Program) (ops:List Oper) (o:Oper) (so:SOp):SOp :=
 match so,o.op with
 | .bslice len z ps,.buildSlice t _ _=>match P.underlying t with
  | some (.slice e)=>match P.info? e with
   | some ie=>if (nN ops o.dst&&decide (0<len))=true then .pu (.lit len z (ps.map fun p=>(p.1,p.2.1))) (ps.map fun p=>p.2.2)
    else if (P9 ops o.dst&&Xo ops||Xn ops e o.dst)=true then .bslo e ie.size len z ps else .bslice len z ps
   | none=>.bslice len z ps
  | _=>.bslice len z ps
 | .app E sz by' x y,.call c=>match c.callee with
  | .builtin .append=>match x with
   | .t p=>if nT ops p=true then .capp sz by' (.t p) y else if mM ops p=true then .cappo E sz by' (.t p) y else .app E sz by' (.t p) y
   | x=>.app E sz by' x y
  | _=>.app E sz by' x y
 | so,_=>so
def Db (P:Program) (ops:List Oper) (o:Oper):Option SO :=
 match H4 P o.op with
 | none=>none
 | some so=>match o.guard with
  | none=>some ⟨o.dst,J6 P ops o so,none⟩
  | some (j,want)=>match (ops[j]?).bind (·.dst) with
   | some t=>some ⟨o.dst,J6 P ops o so,some (t,want)⟩
   | none=>none
section
variable {P:Program} [Tabs P] {C:Cx} [On P C] {type:TypeId} {objs:List OB} {tm:List AV} {K:List OB->AV->Prop}
omit [On P C] in
theorem Vh {args:Array Operand} {ats:Array TypeId} {E sz by':Nat} {x y:SV} (ht:H4 P (.call ⟨.builtin .append,args,ats⟩)=some (.app E sz by' x y)) (h:Ah P (.capp sz by' x y) objs tm K):AA P C (.call ⟨.builtin .append,args,ats⟩) type objs tm K:=by
 have ht0:Fb P (.call ⟨.builtin .append,args,ats⟩)=some (.app E sz by' x y):=ht;clear ht;simp only[Fb] at ht0
 split at ht0
 ·rename_i X Y T U hargs hats;have ea:args=#[X,Y]:=by apply Array.ext';simpa using hargs
  have et:ats=#[T,U]:=by apply Array.ext';simpa using hats
  subst ea et
  split at ht0
  ·rename_i e hu
   split at ht0
   ·rename_i i hi
    split at ht0
    ·rename_i z hz
     split at ht0
     ·rename_i hTU;subst hTU
      split at ht0
      ·rename_i hzs;injection ht0 with ht0
       injection ht0 with e1 e2 e3 e4 e5
       subst e1 e2 e3 e4 e5;simp only[Ah] at h
       split at h
       ·rename_i n xs m ys hx hy;obtain⟨⟨⟨h1,h2⟩,h3,h4,h5⟩,h⟩:=h;have hy':C6 objs ((Ad Y).ev tm)=some (m,ys):=cH hy;exact V3 T _ X Y _ i z hu hi hz hzs.2 n m xs ys hx hy' h2 h1 h3 h4 h5 h
       ·exact h.elim
      ·cases ht0
     ·split at ht0
      ·split at ht0<;>cases ht0
      ·cases ht0
    ·cases ht0
   ·cases ht0
  ·cases ht0
 ·cases ht0
omit [On P C] in
theorem XF {args:Array Operand} {ats:Array TypeId} {E sz by':Nat} {x y:SV} (ht:H4 P (.call ⟨.builtin .append,args,ats⟩)=some (.app E sz by' x y)) (h:Ah P (.cappo E sz by' x y) objs tm K):AA P C (.call ⟨.builtin .append,args,ats⟩) type objs tm K:=by
 have ht0:Fb P (.call ⟨.builtin .append,args,ats⟩)=some (.app E sz by' x y):=ht;clear ht;simp only[Fb] at ht0
 split at ht0
 ·rename_i X Y T U hargs hats;have ea:args=#[X,Y]:=by apply Array.ext';simpa using hargs
  have et:ats=#[T,U]:=by apply Array.ext';simpa using hats
  subst ea et
  split at ht0
  ·rename_i e hu
   split at ht0
   ·rename_i i hi
    split at ht0
    ·rename_i z hz
     split at ht0
     ·rename_i hTU;subst hTU
      split at ht0
      ·rename_i hzs;injection ht0 with ht0
       injection ht0 with e1 e2 e3 e4 e5
       subst e1 e2 e3 e4 e5;simp only[Ah] at h
       split at h
       ·rename_i n xs m ys hx hy;obtain⟨⟨⟨h1,h2⟩,h3,h4,h5⟩,h⟩:=h;have hy':C6 objs ((Ad Y).ev tm)=some (m,ys):=hy;exact Ze T _ X Y _ i z hu hi hz hzs.1 hzs.2 n m xs ys hx hy' h2 h1 h3 h4 h5 h
       ·exact h.elim
      ·cases ht0
     ·split at ht0
      ·split at ht0<;>cases ht0
      ·cases ht0
    ·cases ht0
   ·cases ht0
  ·cases ht0
 ·cases ht0
theorem Qo (tm:List AV):∀ps:List (Nat×Nat×SV),Gl (ps.map fun p=>(p.1,p.2.1)) ((ps.map fun p=>p.2.2).map fun x=>x.ev tm)=ps.map fun p=>(p.1,p.2.1,p.2.2.ev tm)
 | []=>rfl
 | (a,b,c)::ps=>by simp only[zu,Gl,Qo tm ps]
theorem KH (ops:List Oper) (o:Oper) (so:SOp) (ht:H4 P o.op=some so) (h:Ah P (J6 P ops o so) objs tm K):AA P C o.op type objs tm K:=by
 unfold J6 at h
 split at h
 ·rename_i len z ps t ln parts ho
  split at h
  ·rename_i e hu
   split at h
   ·rename_i ie hie
    split at h
    ·rw[ho] at ht ⊢;have ht0:Fb P (.buildSlice t ln parts)=some (.bslice len z ps):=ht;simp only[Fb,hu,hie] at ht0
     split at ht0
     ·rename_i z' ps' hz hps
      split at ht0
      ·rename_i h1;injection ht0 with ht0
       injection ht0 with e1 e2 e3
       subst e1 e2 e3;simp only[Ah,pq,Qo] at h
       split at h
       ·rename_i v hv;obtain⟨cs,hf,rfl⟩:=jz.1 hv;exact V0 _ e _ _ ie z' hu hie hz h1.1.1 h1.1.2 _ rfl h1.2 ps' hps cs hf h
       ·exact h.elim
      ·split at ht0<;>cases ht0
     ·cases ht0
    split at h
    ·rw[ho] at ht ⊢;have ht0:Fb P (.buildSlice t ln parts)=some (.bslice len z ps):=ht;simp only[Fb,hu,hie] at ht0
     split at ht0
     ·rename_i z' ps' hz hps
      split at ht0
      ·rename_i h1;injection ht0 with ht0
       injection ht0 with e1 e2 e3
       subst e1 e2 e3;simp only[Ah] at h
       split at h
       ·rename_i cs hf;exact V2 _ e _ _ ie z' hu hie hz h1.1.1 h1.1.2 _ rfl h1.2 ps' hps cs hf h.1 h.2
       ·exact h.elim
      ·split at ht0<;>cases ht0
     ·cases ht0
    ·exact G9 o.op _ ht h
   ·exact G9 o.op _ ht h
  ·exact G9 o.op _ ht h
 ·rename_i E sz by' x y c ho;rw[ho] at ht ⊢
  split at h
  ·rename_i hc;obtain⟨callee,args,ats⟩:=c;dsimp only at hc;subst hc
   split at h
   ·split at h
    ·exact Vh ht h
    ·split at h
     ·exact XF ht h
     ·exact G9 _ _ ht h
   ·exact G9 _ _ ht h
  ·exact G9 _ _ ht h
 ·exact G9 o.op _ ht h
end
theorem Ac.set_same {G:Gh} {I:Ak} {tm:List AV} {ys:List Value} (t:Nat) (x:AV) (h:Ac G I tm ys) (hx:∀y,ys[t]? = some y->Ab G I x y):Ac G I (tm.set t x) ys:=by
 rcases zo t tm.length with hl|hl
 ·have hl2:t<ys.length:=by rw[<-h.length];exact hl
  have hy:ys[t]? = some ys[t]:=zv hl2;have:=Ac.set t h (hx _ hy)
  rwa [List.set_getElem_self] at this
 ·rw[List.set_eq_of_length_le hl];exact h
section
variable {P:Program} [Tabs P] {C:Cx} [On P C] {K:Bg}
theorem Q8 (ops:Array Oper) (o:Oper) (so0 so:SO) (hd0:so.dst=so0.dst) (hg0:so.gd=so0.gd) (hcv:∀objs tm K,Ah P so.op objs tm K->Ah P so0.op objs tm K) (rest:List SO) (objs:List OB) (tm:List AV) (K':List OB->List AV->Prop) (N:Act->World->Prop) (Q:Exit->Act->World->Prop) (h1:Db P ops.toList o=some so0) (h:Aq P (so::rest) objs tm K') (a:Act) (w:World) (hr:CU C objs tm a w)
  (hN:∀objs tm a w,Aq P rest objs tm K'->CU C objs tm a w->N a w):if Region.wanted o (yielded ops a.tmps) then o.wp P a w N Q else N (a.put o.dst undef) w:=by
 obtain⟨d1,op1,g1⟩:=so;dsimp only at hd0 hg0 hcv;subst hd0 hg0;unfold Db at h1
 split at h1
 ·cases h1
 ·rename_i op hop;obtain⟨G,I,hin,hm,hd,hdef⟩:=hr
  split at h1
  ·rename_i hg;injection h1 with h1;subst h1
   dsimp only at h hcv ⊢;simp only[Aq] at h;rw[if_pos (by simp[Region.wanted,hg])];refine KH (C:=C) (type:=o.type) ops.toList o op hop (hcv _ _ _ h) G I a w hin hm hd o _ _ rfl rfl ?_;intro objs' v y G' I' w' hk l1 l2 l3 l4 l5;exact hN objs' _ _ _ hk ⟨G',I',l3,l4,GH (Ac.mono l1 l2 _ _ hd) l5 o.dst,by rw[GK];exact hdef⟩
  ·rename_i j want hg
   split at h1
   ·rename_i t hj;injection h1 with h1;subst h1
    dsimp only at h hcv ⊢;have hj':(ops[j]?).bind (·.dst)=some t:=by simpa using hj
    simp only[Aq] at h;have hval:∀v,tm[t]? = some v->∃y,a.tmps[t]? = some y/\Ab G I v y:=by
     intro v hv;obtain⟨y,h3,h4⟩:=Ac.get t hd hv;exact⟨y,by simpa using h3,h4⟩
    cases htm:tm[t]? with
    | none=>rw[htm] at h;exact h.elim
    | some v=>
     rw[htm] at h;obtain⟨y,hy,hyd⟩:=hval v htm;have hyl:a.tmps.toList[t]? = some y:=by simpa using hy
     simp only[jc] at h
     split at h
     ·rename_i x;simp only[Ab] at hyd;subst hyd;have hyi:yielded ops a.tmps j=some x:=by simp[yielded,hj',hy]
      have hset:∀b,x=b->Ac G I (tm.set t (.b b)) a.tmps.toList:=by
       rintro b rfl;exact Ac.set_same t _ hd (fun y' hy'=>by rw[hyl] at hy';injection hy' with hy';subst hy';simp[Ab])
      by_cases hx:x=want
      ·rw[if_pos (by simp[Region.wanted,hg,hyi,hx])];refine KH (C:=C) (type:=o.type) ops.toList o op hop (hcv _ _ _ (h.1 hx)) G I a w hin hm (hset _ hx) o _ _ rfl rfl ?_;intro objs' v y G' I' w' hk l1 l2 l3 l4 l5;exact hN objs' _ _ _ hk ⟨G',I',l3,l4,GH (Ac.mono l1 l2 _ _ (hset _ hx)) l5 o.dst,by rw[GK];exact hdef⟩
      ·have hx':x=!want:=by cases x<;>cases want<;>first|rfl|exact absurd rfl hx
       rw[if_neg (by simp[Region.wanted,hg,hyi,hx])];exact hN objs _ _ _ (h.2 hx') ⟨G,I,hin,hm,GH (hset _ hx') (by simp[Ab]) o.dst,by rw[GK];exact hdef⟩
     ·rename_i vs;simp only[Ab] at hyd;subst hyd;have hyi:yielded ops a.tmps j=none:=by simp[yielded,hj',hy]
      rw[if_neg (by simp[Region.wanted,hg,hyi])];exact hN objs _ _ _ h ⟨G,I,hin,hm,GH hd (by simp[Ab]) o.dst,by rw[GK];exact hdef⟩
     ·exact h.elim
   ·cases h1
theorem OX (ops:Array Oper):∀(l:List Oper) (sos:List SO) (objs:List OB) (tm:List AV),l.mapM (Db P ops.toList)=some sos->Aq P sos objs tm (fun o t=>K .normal o t)->∀a w,CU C objs tm a w->wpList P ops (CV C K) l a w
 | [],sos,objs,tm,ht,h,a,w,hr=>by
  simp at ht;subst ht;exact⟨objs,tm,h,hr⟩
 | o::l,sos,objs,tm,ht,h,a,w,hr=>by
  simp only[List.mapM_cons,Option.bind_eq_bind,Option.pure_def] at ht
  cases h1:Db P ops.toList o with
  | none=>simp[h1] at ht
  | some so=>
   cases h2:l.mapM (Db P ops.toList) with
   | none=>simp[h1,h2] at ht
   | some rest=>
    simp[h1,h2] at ht;subst ht;have:=Q8 ops o so so rfl rfl (fun _ _ _ h=>h) rest objs tm _ (wpList P ops (CV C K) l) (CV C K) h1 h a w hr (fun objs tm a w hk hr=>OX ops l rest objs tm h2 hk a w hr);unfold wpList
    split
    ·rename_i hw;rw[if_pos hw] at this;exact .inl this
    ·rename_i hw;rw[if_neg hw] at this;exact this
end
def SOp.svs:SOp->List SV
 | .mv x=>[x]
 | .pick c x y=>[c,x,y]
 | .alloc _ _=>[]
 | .mkm0=>[]
 | .mkm1 x=>[x]
 | .lk _ _ x y=>[x,y]
 | .mup x y v=>[x,y,v]
 | .mph _ _ x y v=>[x,y,v]
 | .box _ x=>[x]
 | .build _ ps=>ps.map (·.2.2)
 | .bslice _ _ ps=>ps.map (·.2.2)
 | .bslo _ _ _ _ ps=>ps.map (·.2.2)
 | .load1 x | .loadn _ x | .nck x | .not x | .neg x | .cvi _ x | .cvs x | .cvbs x | .fad _ x | .fld1 _ x | .fldn _ _ x | .ext x _ | .lens x | .lenr x=>[x]
 | .store _ x y | .bin _ x y | .beq _ x y | .eqs _ _ x y | .iad _ x y | .iada _ _ x y | .iadr _ x y | .idx x y | .app _ _ _ x y | .apps _ x y | .mks _ _ _ x y | .trn _ x y | .capp _ _ x y | .cappo _ _ _ x y=>[x,y]
 | .mkz _ _ _ _ x=>[x]
 | .slcs x lo hi=>x::lo.toList++hi.toList
 | .call _ args=>args
 | .pcall _ args=>args
 | .callv x args=>x::args
 | .inv _ x args=>x::args
 | .mkf _ fs cs=>fs++cs
 | .pu _ xs=>xs
theorem LC {tm tm':List AV} {l:List SV} (h:∀x∈l,x.ev tm=x.ev tm'):l.map (fun x=>x.ev tm)=l.map (fun x=>x.ev tm'):=xp h
theorem YR {tm tm':List AV} {l:List (Nat×Nat×SV)} (h:∀x∈l.map (·.2.2),x.ev tm=x.ev tm'):l.map (fun p=>(p.1,p.2.1,p.2.2.ev tm))=l.map (fun p=>(p.1,p.2.1,p.2.2.ev tm')) :=
 xp fun p hp=>by rw[h p.2.2 (xv hp)]
theorem Sc {tm tm':List AV} (d:Int) (o:Option SV) (h:∀x∈o.toList,x.ev tm=x.ev tm'):Gj tm d o=Gj tm' d o:=by
 cases o with
 | none=>rfl
 | some x=>simp only[Gj,h x (by simp)]
theorem Ht {P:Program} [Tabs P] {so:SOp} {objs:List OB} {tm tm':List AV} {K:List OB->AV->Prop} (h:∀x∈so.svs,x.ev tm=x.ev tm'):Ah P so objs tm K=Ah P so objs tm' K:=by
 cases so<;>simp only[SOp.svs,zt,jk,or_false,forall_eq_or_imp,forall_eq,qt,qm] at h<;>first
  | (simp only[Ah,h];done)
  | (simp only[Ah];rw[YR h];done)
  | (simp only[Ah];rw[LC h];done)
  | (simp only[Ah,h.1];rw[LC h.2];done)
  | (simp only[Ah];rw[LC (fun x hx=>h x (xf _ hx)),LC (fun x hx=>h x (xw _ hx))];done)
  | (have e1:=fun d=>Sc (tm:=tm) (tm':=tm') d _ (fun x hx=>h.2 x (xf _ hx));have e2:=fun d=>Sc (tm:=tm) (tm':=tm') d _ (fun x hx=>h.2 x (xw _ hx));simp only[Ah,h.1,e1,e2];done)
  | rfl
  | skip
def SOp.calm:SOp->Bool
 | .alloc .. | .box .. | .bslo .. | .store .. | .app .. | .cappo .. | .apps .. | .mks .. | .mkz .. | .trn .. | .mkm0 | .mkm1 .. | .mup .. | .mph ..=>false
 | _=>true
def SOp.isCall:SOp->Bool
 | .call .. | .pcall .. | .callv .. | .inv ..=>true
 | _=>false
theorem GF {P:Program} [Tabs P] {so:SOp} {objs:List OB} {tm:List AV} {W:List OB->AV->Prop} (hc:so.calm=true) (hn:so.isCall=false) (h:Ah P so objs tm W):∃v,(∀K:List OB->AV->Prop,K objs v->Ah P so objs tm K)/\W objs v:=by
 cases so<;>simp only[SOp.calm,SOp.isCall,reduceCtorEq] at hc hn<;>simp only[Ah] at h ⊢
 case pick c x y=>
  split at h
  ·rename_i t _
   cases t
   ·exact⟨_,fun K hk=>⟨fun e=>absurd e Bool.false_ne_true,fun _=>hk⟩,h.2 rfl⟩
   ·exact⟨_,fun K hk=>⟨fun _=>hk,fun e=>absurd e.symm Bool.false_ne_true⟩,h.1 rfl⟩
  ·exact h.elim
 case load1 x=>
  split at h
  ·split at h
   ·split at h
    ·exact⟨_,fun K hk=>hk,h⟩
    ·exact h.elim
   ·exact h.elim
  ·obtain⟨v,h1,h2⟩:=h;exact⟨v,fun K hk=>⟨v,h1,hk⟩,h2⟩
  ·split at h
   ·obtain⟨h0,v,h1,h2⟩:=h;exact⟨v,fun K hk=>⟨h0,v,h1,hk⟩,h2⟩
   ·exact h.elim
  ·exact h.elim
 case cvbs x=>
  split at h
  ·split at h
   ·obtain⟨h0,l,h1,h2⟩:=h;exact⟨_,fun K hk=>⟨h0,l,h1,hk⟩,h2⟩
   ·exact h.elim
  ·obtain⟨l,h1,h2⟩:=h;exact⟨_,fun K hk=>⟨l,h1,hk⟩,h2⟩
  ·exact⟨_,fun K hk=>hk,h⟩
  ·split at h
   ·obtain⟨l,h1,h2⟩:=h;exact⟨_,fun K hk=>⟨l,h1,hk⟩,h2⟩
   ·exact h.elim
  ·exact h.elim
 case bin op x y=>
  unfold Fq at h;unfold Fq
  split at h
  ·obtain⟨hk,h⟩:=h;subst hk;have key:∀(k:IntKind) (r:Int),Es k r (fun r=>W objs (.i k r))->∃v,(∀K:List OB->AV->Prop,K objs v->Es k r fun r=>K objs (.i k r))/\W objs v:=by
    intro k r h
    cases k<;>simp only[Es] at h ⊢<;>first|exact⟨_,fun K hk=>⟨h.1,hk⟩,h.2⟩|exact⟨_,fun K hk=>hk,h⟩
   split at h
   ·obtain⟨v,h1,h2⟩:=key _ _ h;exact⟨v,fun K hk=>⟨rfl,h1 K hk⟩,h2⟩
   ·obtain⟨v,h1,h2⟩:=key _ _ h;exact⟨v,fun K hk=>⟨rfl,h1 K hk⟩,h2⟩
   ·obtain⟨v,h1,h2⟩:=key _ _ h;exact⟨v,fun K hk=>⟨rfl,h1 K hk⟩,h2⟩
   ·obtain⟨v,h1,h2⟩:=key _ _ h.2;exact⟨v,fun K hk=>⟨rfl,h.1,h1 K hk⟩,h2⟩
   ·exact⟨_,fun K hk=>⟨rfl,h.1,hk⟩,h.2⟩
   all_goals first|exact⟨_,fun K hk=>⟨rfl,hk⟩,h⟩|exact h.elim
  ·split at h
   ·exact⟨_,fun K hk=>⟨h.1,hk⟩,h.2⟩
   all_goals first|exact⟨_,fun K hk=>hk,h⟩|exact h.elim
  ·exact h.elim
 case neg x=>
  split at h
  ·rename_i k n _
   cases k<;>simp only[Es] at h ⊢<;>first|exact⟨_,fun K hk=>⟨h.1,hk⟩,h.2⟩|exact⟨_,fun K hk=>hk,h⟩
  ·exact h.elim
 all_goals first
  | exact⟨_,fun K hk=>hk,h⟩
  | (split at h<;>first|exact⟨_,fun K hk=>hk,h⟩|exact⟨_,fun K hk=>⟨h.1,hk⟩,h.2⟩|exact h.elim|(split at h<;>first|exact⟨_,fun K hk=>hk,h⟩|exact⟨_,fun K hk=>⟨h.1,hk⟩,h.2⟩|exact h.elim))
theorem Qm {P:Program} [Tabs P] {so:SOp} {objs:List OB} {tm:List AV} {W:List OB->AV->Prop} (hc:so.calm=true) (hn:so.isCall=false) (h:Ah P so objs tm W):∃v,Ah P so objs tm (fun o x=>o=objs/\x=v)/\W objs v:=by
 obtain⟨v,h1,h2⟩:=GF hc hn h;exact⟨v,h1 _ ⟨rfl,rfl⟩,h2⟩
def SOp.touch:SOp->Bool
 | .alloc .. | .box .. | .bslo .. | .store .. | .app .. | .cappo .. | .apps .. | .mks .. | .mkz .. | .trn .. | .mkm0 | .mkm1 .. | .mup .. | .mph .. | .lk .. | .load1 .. | .loadn .. | .cvbs .. | .call .. | .callv .. | .inv .. | .lenr .. | .iad ..=>true
 | _=>false
theorem Sz {so:SOp} (h:so.calm=false):so.touch=true/\so.isCall=false:=by
 cases so<;>simp[SOp.calm,SOp.touch,SOp.isCall] at h ⊢
theorem Ql {P:Program} [Tabs P] {so:SOp} {objs cur:List OB} {tm:List AV} {v:AV} (ht:so.touch=false) (h:Ah P so objs tm (fun o x=>o=objs/\x=v)):Ah P so cur tm (fun o x=>o=cur/\x=v):=by
 by_cases hn:so.isCall=true
 ·cases so<;>simp only[SOp.isCall,SOp.touch,reduceCtorEq,Bool.true_eq_false,Bool.false_eq_true] at hn ht
  case pcall f args=>
   simp only[Ah] at h ⊢;exact⟨h.1,h.2.mono fun o r h2=>⟨h2.1,by trivial,h2.2.2⟩⟩
 ·simp only[Bool.not_eq_true] at hn;have hc:so.calm=true:=by cases so<;>simp[SOp.touch,SOp.calm] at ht ⊢
  have key:∀K:List OB->AV->Prop,Ah P so objs tm K->Ah P so cur tm (fun _ x=>K objs x):=by
   intro K h
   cases so<;>simp only[SOp.touch,SOp.isCall,reduceCtorEq] at ht hn<;>exact h
  have h1:=key _ h;obtain⟨x,h2,h3⟩:=GF hc hn h1;obtain⟨_,rfl⟩:=h3;exact h2 _ ⟨rfl,rfl⟩
theorem RO {P:Program} [Tabs P] {so:SOp} {objs:List OB} {tm:List AV} {W:List OB->AV->Prop} (hc:so.calm=false) (h:Ah P so objs tm W):∃o' v,(∀K:List OB->AV->Prop,K o' v->Ah P so objs tm K)/\W o' v:=by
 cases so<;>simp only[SOp.calm,reduceCtorEq] at hc<;>simp only[Ah] at h ⊢
 case alloc T z=>exact⟨_,_,fun K hk=>hk,h⟩
 case mkm0=>exact⟨_,_,fun K hk=>hk,h⟩
 case mkm1 x=>
  split at h
  ·exact⟨_,_,fun K hk=>hk,h⟩
  ·exact h.elim
 case mup x y v=>
  split at h
  ·split at h
   ·exact⟨_,_,fun K hk=>⟨h.1,hk⟩,h.2⟩
   ·exact h.elim
  ·exact h.elim
 case mph q z x y v=>
  split at h
  ·exact⟨_,_,fun K hk=>hk,h⟩
  ·split at h
   ·split at h
    ·exact⟨_,_,fun K hk=>⟨h.1,hk⟩,h.2⟩
    ·exact h.elim
   ·exact h.elim
  ·split at h
   ·split at h
    ·exact⟨_,_,fun K hk=>hk,h⟩
    ·exact h.elim
   ·exact h.elim
 case box T x=>exact⟨_,_,fun K hk=>⟨h.1,hk⟩,h.2⟩
 case bslo E sz len z ps=>
  split at h
  ·exact⟨_,_,fun K hk=>⟨h.1,hk⟩,h.2⟩
  ·exact h.elim
 case store sz x y=>
  split at h
  ·split at h
   ·exact⟨_,_,fun K hk=>⟨h.1,hk⟩,h.2⟩
   ·exact h.elim
  ·split at h
   ·exact⟨_,_,fun K hk=>⟨h.1,hk⟩,h.2⟩
   ·exact h.elim
  ·exact h.elim
 case trn sz x y=>
  split at h
  ·exact⟨_,_,fun K hk=>⟨h.1,hk⟩,h.2⟩
  ·exact⟨_,_,fun K hk=>⟨h.1,hk⟩,h.2⟩
  ·split at h
   ·exact⟨_,_,fun K hk=>⟨h.1,hk⟩,h.2⟩
   ·exact h.elim
  ·exact h.elim
 case app E sz by' x y=>
  split at h
  ·split at h
   ·split at h
    ·exact⟨_,_,fun K hk=>⟨h.1,hk⟩,h.2⟩
    ·exact h.elim
   ·exact⟨_,_,fun K hk=>⟨h.1,hk⟩,h.2⟩
   ·exact h.elim
  ·exact h.elim
 case cappo E sz by' x y=>
  split at h
  ·exact⟨_,_,fun K hk=>⟨h.1,hk⟩,h.2⟩
  ·exact h.elim
 case apps E x y=>
  split at h
  ·split at h
   ·split at h
    ·exact⟨_,_,fun K hk=>⟨h.1,hk⟩,h.2⟩
    ·exact h.elim
   ·exact⟨_,_,fun K hk=>⟨h.1,hk⟩,h.2⟩
   ·exact h.elim
  ·exact h.elim
 case mks E sz by' x y=>
  split at h
  ·exact⟨_,_,fun K hk=>⟨h.1,hk⟩,h.2⟩
  ·exact h.elim
 case mkz E by' kd z x=>
  split at h
  ·exact⟨_,_,fun K hk=>⟨h.1,hk⟩,h.2⟩
  ·exact h.elim
def HG (P:Program) [Tabs P] (objs:List OB) (o:SO) (v:AV) (o':List OB) (tm:List AV):Prop :=
 (o.op.calm=true->o'=objs) /\
 match o.gd with
 | none=>Ah P o.op objs tm fun y x=>y=o'/\x=v
 | some (t,want)=>(tm[t]? = some (.b want)/\Ah P o.op objs tm fun y x=>y=o'/\x=v)\/((tm[t]? = some (.b (!want))\/∃vs,tm[t]? = some (.o (.tuple vs)))/\v=.o undef/\o'=objs)
def IW (P:Program) [Tabs P]:List OB->List SO->List AV->List (List OB)->List AV->Prop
 | _,[],[],[],_=>True
 | objs,o::r,v::vs,o'::os,tm=>HG P objs o v o' tm/\IW P o' r vs os (AJ tm o.dst v)
 | _,_,_,_,_=>False
def AU (p:Nat->Bool):Nat->List SO->List AV->List AV->List AV
 | k,o::r,v::vs,tm=>AU p (k+1) r vs (if p k=true then AJ tm o.dst v else tm)
 | _,_,_,tm=>tm
def Bw (p:Nat->Bool):Nat->List SO->List (List OB)->List OB->List OB
 | k,o::r,o'::os,cur=>Bw p (k+1) r os (if (p k&&!o.op.calm)=true then o' else cur)
 | _,_,_,cur=>cur
def Br (P:Program) [Tabs P]:List SO->List OB->List AV->(List OB->List AV->Prop)->Prop
 | [],objs,tm,K=>K objs tm
 | ⟨dst,op,none⟩::r,objs,tm,K=>
  if op.isCall=true then ∃v,Ah P op objs tm (fun o x=>o=objs/\x=v)/\Br P r objs (AJ tm dst v) K
  else Ah P op objs tm fun o v=>Br P r o (AJ tm dst v) K
 | ⟨dst,op,some (t,want)⟩::r,objs,tm,K=>
  match (tm[t]?).getD .u with
  | .b x=>(x=want->if op.isCall=true then ∃v,Ah P op objs (tm.set t (.b want)) (fun o x=>o=objs/\x=v)/\Br P r objs (AJ (tm.set t (.b want)) dst v) K
    else Ah P op objs (tm.set t (.b want)) fun o v=>Br P r o (AJ (tm.set t (.b want)) dst v) K) /\
   (x=!want->Br P r objs (AJ (tm.set t (.b (!want))) dst (.o undef)) K)
  | .o (.tuple _)=>Br P r objs (AJ tm dst (.o undef)) K
  | _=>False
theorem set_same {tm:List AV} {t:Nat} {x:AV} (h:tm[t]? = some x):tm.set t x=tm:=by
 obtain⟨hl,he⟩:=ja.1 h;rw[<-he,List.set_getElem_self]
theorem Qk {P:Program} [Tabs P] {op:SOp} {objs:List OB} {tm:List AV} {W:List OB->AV->Prop} (h:if op.isCall=true then ∃v,Ah P op objs tm (fun o x=>o=objs/\x=v)/\W objs v else Ah P op objs tm W):∃v o',(op.calm=true->o'=objs)/\Ah P op objs tm (fun o x=>o=o'/\x=v)/\W o' v:=by
 by_cases hi:op.isCall=true
 ·rw[if_pos hi] at h;obtain⟨v,h1,h2⟩:=h;exact⟨v,objs,fun _=>rfl,h1,h2⟩
 ·rw[if_neg hi] at h
  cases hc:op.calm with
  | true=>
   obtain⟨v,h1,h2⟩:=Qm hc (by simpa using hi) h;exact⟨v,objs,fun _=>rfl,h1,h2⟩
  | false=>
   obtain⟨o',v,h1,h2⟩:=RO hc h;exact⟨v,o',(fun e=>by cases e),h1 _ ⟨rfl,rfl⟩,h2⟩
theorem JA {P:Program} [Tabs P]:∀(l:List SO) (objs:List OB) (tm:List AV) (K:List OB->List AV->Prop),Br P l objs tm K->∃vs os,IW P objs l vs os tm/\K (Bw (fun _=>true) 0 l os objs) (AU (fun _=>true) 0 l vs tm)
 | [],objs,tm,K,h=>⟨[],[],trivial,h⟩
 | ⟨dst,op,gd⟩::r,objs,tm,K,h=>by
  have shift:∀(l:List SO) (vs tm:List AV) (k j:Nat),AU (fun _=>true) k l vs tm=AU (fun _=>true) j l vs tm:=by
   intro l
   induction l with
   | nil=>intro vs tm k j;rfl
   | cons o l ih=>
    intro vs tm k j
    cases vs with
    | nil=>rfl
    | cons v vs=>simp only[AU];exact ih vs _ _ _
  have shiftO:∀(l:List SO) (os:List (List OB)) (cur:List OB) (k j:Nat),Bw (fun _=>true) k l os cur=Bw (fun _=>true) j l os cur:=by
   intro l
   induction l with
   | nil=>intro os cur k j;rfl
   | cons o l ih=>
    intro os cur k j
    cases os with
    | nil=>rfl
    | cons v os=>simp only[Bw];exact ih os _ _ _
  have nxt:∀(o':List OB),(op.calm=true->o'=objs)->(if (true&&!op.calm)=true then o' else objs)=o':=by
   intro o' h
   cases hc:op.calm with
   | true=>simp[h hc]
   | false=>simp
  cases gd with
  | none=>
   simp only[Br] at h;obtain⟨v,o',hco,h1,h2⟩:=Qk (W:=fun o v=>Br P r o (AJ tm dst v) K) h;obtain⟨vs,os,k1,k2⟩:=JA r _ _ K h2;refine⟨v::vs,o'::os,⟨⟨hco,h1⟩,k1⟩,?_⟩;simp only[AU,Bw,if_true];rw[nxt o' hco,shift r vs _ _ 0,shiftO r os _ _ 0];exact k2
  | some g=>
   obtain⟨t,want⟩:=g;simp only[Br] at h
   cases ht:tm[t]? with
   | none=>rw[ht] at h;exact h.elim
   | some y=>
    rw[ht] at h;simp only[jc] at h
    split at h
    ·rename_i x
     by_cases hx:x=want
     ·subst hx;have h':=h.1 rfl;rw[set_same ht] at h';obtain⟨v,o',hco,h1,h2⟩:=Qk (W:=fun o v=>Br P r o (AJ tm dst v) K) h';obtain⟨vs,os,k1,k2⟩:=JA r _ _ K h2;refine⟨v::vs,o'::os,⟨⟨hco,.inl ⟨ht,h1⟩⟩,k1⟩,?_⟩;simp only[AU,Bw,if_true];rw[nxt o' hco,shift r vs _ _ 0,shiftO r os _ _ 0];exact k2
     ·have hx':x=!want:=by cases x<;>cases want<;>first|rfl|exact absurd rfl hx
      subst hx';have h':=h.2 rfl;rw[set_same ht] at h';obtain⟨vs,os,k1,k2⟩:=JA r _ _ K h';refine⟨_::vs,objs::os,⟨⟨fun _=>rfl,.inr ⟨.inl ht,rfl,rfl⟩⟩,k1⟩,?_⟩;simp only[AU,Bw,if_true];rw[nxt objs (fun _=>rfl),shift r vs _ _ 0,shiftO r os _ _ 0];exact k2
    ·obtain⟨vs,os,k1,k2⟩:=JA r _ _ K h;refine⟨_::vs,objs::os,⟨⟨fun _=>rfl,.inr ⟨.inr ⟨_,ht⟩,rfl,rfl⟩⟩,k1⟩,?_⟩;simp only[AU,Bw,if_true];rw[nxt objs (fun _=>rfl),shift r vs _ _ 0,shiftO r os _ _ 0];exact k2
    ·exact h.elim
theorem Is (p q:Nat->Bool):∀(l:List SO) (os:List (List OB)) (cur:List OB) (k:Nat),(∀j o,l[j]? = some o->o.op.calm=false->p (k+j)=q (k+j))->Bw p k l os cur=Bw q k l os cur
 | [],os,cur,k,h=>by cases os<;>rfl
 | o::r,[],cur,k,h=>rfl
 | o::r,o'::os,cur,k,h=>by
  simp only[Bw];have e:(p k&&!o.op.calm)=(q k&&!o.op.calm):=by
   cases hc:o.op.calm with
   | true=>simp
   | false=>have:=h 0 o rfl hc;simp only[jf] at this;rw[this]
  rw[e];exact Is p q r os _ (k+1) (fun j o2 hj hc=>by
   have:=h (j+1) o2 (by simpa using hj) hc
   rwa [show k+1+j=k+(j+1) by omega])
theorem Jp (p:Nat->Bool) (l:List SO) (os:List (List OB)) (cur:List OB) (k:Nat) (h:∀j o,l[j]? = some o->o.op.calm=false->p (k+j)=false):Bw p k l os cur=cur:=by
 induction l generalizing os k with
 | nil=>cases os<;>rfl
 | cons o r ih=>
  cases os with
  | nil=>rfl
  | cons o' os=>
   simp only[Bw];have e:(p k&&!o.op.calm)=false:=by
    cases hc:o.op.calm with
    | true=>simp
    | false=>have:=h 0 o rfl hc;simp only[jf] at this;simp[this]
   rw[e,if_neg Bool.false_ne_true];exact ih os (k+1) (fun j o2 hj hc=>by
    have:=h (j+1) o2 (by simpa using hj) hc
    rwa [show k+1+j=k+(j+1) by omega])
theorem Rf (p:Nat->Bool):∀(l:List SO) (os:List (List OB)) (cur:List OB) (k i:Nat) (o:SO) (o':List OB),l[i]? = some o->os[i]? = some o'->o.op.calm=false->(∀j o2,l[j]? = some o2->i<j->o2.op.calm=false->p (k+j)=false)->Bw (fun x=>p x||x==k+i) k l os cur=o'
 | [],os,cur,k,i,o,o',ho,hv,hc,hl=>by simp at ho
 | o0::r,[],cur,k,i,o,o',ho,hv,hc,hl=>by simp at hv
 | o0::r,v0::os,cur,k,0,o,o',ho,hv,hc,hl=>by
  simp at ho hv;subst ho hv;simp only[Bw,hc,jf,beq_self_eq_true,Bool.or_true,Bool.not_false,Bool.and_self,if_true];refine Jp _ r os _ (k+1) (fun j o2 hj hc2=>?_);have:=hl (j+1) o2 (by simpa using hj) (by omega) hc2;rw[show k+1+j=k+(j+1) by omega,this];simp
 | o0::r,v0::os,cur,k,i+1,o,o',ho,hv,hc,hl=>by
  simp only[List.getElem?_cons_succ] at ho hv;simp only[Bw];have e2:(fun x=>p x||x==k+(i+1))=(fun x=>p x||x==k+1+i):=by
   funext x;rw[show k+(i+1)=k+1+i by omega]
  generalize (if ((p k||k==k+(i+1))&&!o0.op.calm)=true then v0 else cur)=cur';rw[e2];exact Rf p r os _ (k+1) i o o' ho hv hc (fun j o2 hj hij hc2=>by
   have:=hl (j+1) o2 (by simpa using hj) (by omega) hc2
   rwa [show k+1+j=k+(j+1) by omega])
theorem Nh (p q:Nat->Bool) (t:Nat):∀(l:List SO) (vs tm tm':List AV) (k:Nat),tm[t]? = tm'[t]?->tm.length=tm'.length->(∀j o,l[j]? = some o->o.dst=some t->p (k+j)=q (k+j))->(AU p k l vs tm)[t]? = (AU q k l vs tm')[t]?
 | [],vs,tm,tm',k,h,hl,hp=>by cases vs<;>simpa[AU] using h
 | o::r,[],tm,tm',k,h,hl,hp=>by simpa[AU] using h
 | o::r,v::vs,tm,tm',k,h,hl,hp=>by
  simp only[AU];have hstep:∀(b:Bool) (x:List AV),(if b=true then AJ x o.dst v else x).length=x.length:=by
   intro b x;cases b<;>cases hd:o.dst<;>simp[AJ]
  refine Nh p q t r vs _ _ (k+1) ?_ (by rw[hstep,hstep,hl]) (fun j o' hj ho'=>by
   have:=hp (j+1) o' (by simpa using hj) ho'
   rwa [show k+1+j=k+(j+1) by omega])
  cases hd:o.dst with
  | none=>cases p k<;>cases q k<;>simpa[AJ] using h
  | some d=>
   by_cases e:d=t
   ·subst e;have:=hp 0 o rfl hd;simp only[jf] at this;rw[this]
    cases q k
    ·simpa using h
    ·simp only[if_true,AJ,List.getElem?_set_self',h]
   ·cases p k<;>cases q k<;>simp[AJ,zp e,h]
theorem PX (p:Nat->Bool) (d:Nat) (v:AV):∀(l:List SO) (vs tm:List AV) (k:Nat),(∀o∈l,o.dst≠some d)->AU p k l vs (tm.set d v)=(AU p k l vs tm).set d v
 | [],vs,tm,k,h=>by cases vs<;>rfl
 | o::r,[],tm,k,h=>rfl
 | o::r,z::vs,tm,k,h=>by
  simp only[AU];rw[<-PX p d v r vs _ (k+1) (fun o' ho'=>h o' (qw _ ho'))]
  congr 1
  cases p k
  ·rfl
  ·simp only[if_true]
   cases hd:o.dst with
   | none=>rfl
   | some e=>
    have:e≠d:=fun e'=>h o (jg ..) (by rw[hd,e']);simp only[AJ];rw[List.set_comm _ _ this]
theorem KR (p q:Nat->Bool):∀(l:List SO) (vs tm:List AV) (k:Nat),(∀j,j<l.length->p (k+j)=q (k+j))->AU p k l vs tm=AU q k l vs tm
 | [],vs,tm,k,h=>by cases vs<;>rfl
 | o::r,[],tm,k,h=>rfl
 | o::r,z::vs,tm,k,h=>by
  simp only[AU];have:=h 0 (by simp);simp only[jf] at this;rw[this];exact KR p q r vs _ (k+1) (fun j hj=>by
   have:=h (j+1) (by simp;omega)
   rwa [show k+1+j=k+(j+1) by omega])
theorem KS (p:Nat->Bool):∀(l:List SO) (vs tm:List AV) (k i:Nat) (o:SO) (v:AV),l[i]? = some o->vs[i]? = some v->p (k+i)=false->(∀j o',l[j]? = some o'->j≠i->o'.dst≠o.dst\/o.dst=none) ->
  AJ (AU p k l vs tm) o.dst v=AU (fun x=>p x||x==k+i) k l vs tm
 | [],vs,tm,k,i,o,v,ho,hv,hp,hd=>by simp at ho
 | o0::r,[],tm,k,i,o,v,ho,hv,hp,hd=>by simp at hv
 | o0::r,v0::vs,tm,k,0,o,v,ho,hv,hp,hd=>by
  simp at ho hv hp;subst ho hv;simp only[AU,hp,Bool.false_eq_true,if_false,jf,beq_self_eq_true,Bool.or_true,if_true];have e1:AU (fun x=>p x||x==k) (k+1) r vs (AJ tm o0.dst v0)=AU p (k+1) r vs (AJ tm o0.dst v0) :=
   KR _ _ r vs _ (k+1) (fun j hj=>by
    have:(k+1+j==k)=false:=by simp;omega
    rw[this,Bool.or_false])
  rw[e1]
  cases h0:o0.dst with
  | none=>rfl
  | some d=>
   simp only[AJ];rw[PX p d v0 r vs tm (k+1)];intro o' ho' hd';obtain⟨j,hj⟩:=List.mem_iff_getElem?.1 ho';rcases hd (j+1) o' (by simpa using hj) (by omega) with h1|h1
   ·exact h1 (by rw[hd',h0])
   ·rw[h0] at h1;cases h1
 | o0::r,v0::vs,tm,k,i+1,o,v,ho,hv,hp,hd=>by
  simp only[List.getElem?_cons_succ] at ho hv;simp only[AU];have e0:(p k||k==k+(i+1))=p k:=by
   have:(k==k+(i+1))=false:=by simp
   rw[this,Bool.or_false]
  have e2:(fun x=>p x||x==k+(i+1))=(fun x=>p x||x==k+1+i):=by
   funext x;rw[show k+(i+1)=k+1+i by omega]
  simp only[e0];rw[KS p r vs _ (k+1) i o v ho hv (by rwa [show k+1+i=k+(i+1) by omega]) (fun j o' hj hji=>hd (j+1) o' (by simpa using hj) (by omega)),e2]
theorem Qv {P:Program} [Tabs P]:∀(l:List SO) (objs:List OB) (vs:List AV) (os:List (List OB)) (tm:List AV) (k i:Nat) (o:SO),IW P objs l vs os tm->l[i]? = some o->∃v o',vs[i]? = some v/\os[i]? = some o'/\HG P (Bw (fun x=>decide (x<k+i)) k l os objs) o v o' (AU (fun x=>decide (x<k+i)) k l vs tm)
 | [],objs,vs,os,tm,k,i,o,h,ho=>by simp at ho
 | o0::r,objs,[],os,tm,k,i,o,h,ho=>by cases os<;>exact h.elim
 | o0::r,objs,v::vs,[],tm,k,i,o,h,ho=>h.elim
 | o0::r,objs,v0::vs,p0::os,tm,k,0,o,h,ho=>by
  simp at ho;subst ho;refine⟨v0,p0,rfl,rfl,?_⟩;have e1:AU (fun x=>decide (x<k+0)) k (o0::r) (v0::vs) tm=tm:=by
   have nil:∀(l:List SO) (vs tm:List AV) (j:Nat),k<=j->AU (fun x=>decide (x<k+0)) j l vs tm=tm:=by
    intro l
    induction l with
    | nil=>intro vs tm j hj;cases vs<;>rfl
    | cons o l ih=>
     intro vs tm j hj
     cases vs with
     | nil=>rfl
     | cons v vs=>
      simp only[AU];rw[if_neg (by simp;omega)];exact ih vs tm (j+1) (by omega)
   exact nil _ _ _ k (zd _)
  rw[e1,Jp _ _ _ _ _ (fun j o hj hc=>by simp)];exact h.1
 | o0::r,objs,v0::vs,p0::os,tm,k,i+1,o,h,ho=>by
  obtain⟨v,o',h1,h2,h3⟩:=Qv r p0 vs os _ (k+1) i o h.2 (by simpa using ho);refine⟨v,o',by simpa using h1,by simpa using h2,?_⟩;simp only[AU,Bw];have e:(if (decide (k<k+(i+1))&&!o0.op.calm)=true then p0 else objs)=p0:=by
   cases hc:o0.op.calm with
   | true=>simp[h.1.1 hc]
   | false=>simp
  have e9:(if decide (k<k+(i+1))=true then AJ tm o0.dst v0 else tm)=AJ tm o0.dst v0:=if_pos (by simp);rw[e,e9,show k+(i+1)=k+1+i by omega];exact h3
def AG (o:Oper):List Nat:=(o.after.toList.filter (Region.binds .any)).map (·.on)
def Bc (deps:List (List Nat)):List (List Nat):=deps.foldl (fun acc d=>acc++[(d++d.flatMap fun e=>acc.getD e []).eraseDups]) []
def SV.tmp?:SV->Option Nat
 | .t n=>some n
 | _=>none
def SO.looks (o:SO):List Nat:=o.op.svs.filterMap SV.tmp?++(match o.gd with|some (t,_)=>[t] | none=>[])
def OT (l:List SO):Nat:=l.findIdx fun o=>!o.op.calm||o.dst.isNone
def Az (l:List SO) (j:Nat):Option Nat:=(l[j]?).bind (·.dst)
def Hc (l:List SO) (j:Nat):Bool:=((l[j]?).map (·.op.touch)).getD false
def He (l:List SO) (j:Nat):Bool:=((l[j]?).map (fun o=>!o.op.calm)).getD false
def JY (l:List SO) (i:Nat):Option Nat :=
 match l[i]? with
 | some ⟨_,.load1 (.t s),_⟩=>some s
 | some ⟨_,.loadn _ (.t s),_⟩=>some s
 | _=>none
def U1 (l:List SO) (d:Nat):Bool:=l.any fun q=>match q.op with
 | .app _ _ _ (.t x) _=>x==d
 | _=>false
def GV (l:List SO) (j:Nat):Option Nat :=
 match l[j]? with
 | some ⟨_,.store _ (.t s) _,none⟩=>some s
 | some ⟨some d,.alloc _ _,none⟩=>some d
 | some ⟨some d,.app _ _ _ _ _,none⟩=>some d
 | some ⟨some d,.apps _ _ _,none⟩=>some d
 | some ⟨some d,.bslo _ _ _ _ _,none⟩=>some d
 | some ⟨some d,.trn _ _ _,none⟩=>if U1 l d=true then some d else none
 | _=>none
def G5 (l:List SO) (j:Nat):Nat :=
 match l[j]? with
 | some ⟨some _,.alloc _ _,none⟩=>j+1
 | some ⟨some _,.app _ _ _ _ _,none⟩=>j+1
 | some ⟨some _,.apps _ _ _,none⟩=>j+1
 | some ⟨some _,.bslo _ _ _ _ _,none⟩=>j+1
 | some ⟨some _,.trn _ _ _,none⟩=>j+1
 | _=>j
def JV (l:List SO) (i:Nat):Option (Nat×Bool):=(l[i]?).bind (·.gd)
def Mf (l:List SO) (k i:Nat):Bool:=match JV l i with
 | some (g,_)=>(zi k).all fun m=>decide (m<i)||Az l m != some g
 | none=>true
def FX (l:List SO) (k i j:Nat):Bool :=
 match JY l i,GV l j with
 | some s,some s'=>(zi k).all (fun m=>decide (m<i)||Az l m != some s)&&(zi k).all (fun m=>decide (m<G5 l j)||Az l m != some s')&&Mf l k i
 | _,_=>false
def OL (l:List SO) (anc:List (List Nat)) (i j:Nat):Option (Nat×Nat×Option (Nat×Bool)) :=
 if (Hc l i&&He l j&&!(j==i)&&!(if j<i then (anc.getD i []).contains j else (anc.getD j []).contains i))=true then
  match JY l i,GV l j with
  | some s,some s'=>some (s,s',JV l i)
  | _,_=>none
 else none
def Dh (l:List SO) (anc:List (List Nat)) (k:Nat):List (Nat×Nat×Option (Nat×Bool)):=(zi k).flatMap fun i=>(zi k).filterMap fun j=>OL l anc i j
def Fa:Option AV->Option AV->Prop
 | some (.p b _),some (.p b' _)=>¬b=b'
 | some (.p b _),some (.orow b' _)=>¬b=b'
 | some (.p b _),some (.porow b' _ _)=>¬b=b'
 | some (.prow _ _),some (.p _ _)=>True
 | some (.prow _ _),some (.orow _ _)=>True
 | some (.prow _ _),some (.porow _ _ _)=>True
 | _,_=>False
def Fo:Option AV->Option AV->Prop
 | some (.porow b _ _),some (.porow b' _ _)=>¬b=b'
 | some (.porow b _ _),some (.p b' _)=>¬b=b'
 | _,_=>False
def J4:Option AV->Bool->Prop->Prop
 | some (.b true),true,p=>p
 | some (.b false),false,p=>p
 | some (.b true),false,_=>True
 | some (.b false),true,_=>True
 | _,_,p=>p
def IS:Option (Nat×Bool)->List AV->Prop->Prop
 | none,_,p=>p
 | some (g,want),tm,p=>J4 tm[g]? want p
theorem XC {g:Option (Nat×Bool)} {tm:List AV} {p:Prop} (h:IS g tm p) (hg:∀t want,g=some (t,want)->tm[t]? = some (.b want)):p:=by
 cases g with
 | none=>exact h
 | some x=>
  obtain⟨t,want⟩:=x;have h2:=hg t want rfl;simp only[IS,h2] at h
  cases want<;>exact h
def CD:List (Nat×Nat×Option (Nat×Bool))->List AV->Prop
 | [],_=>True
 | (s,s',g)::r,tm=>(if s'<1000000 then IS g tm (Fa tm[s]? tm[s']?) else Fo tm[s]? tm[s' - 1000000]?)/\CD r tm
theorem QI:∀(r:List (Nat×Nat×Option (Nat×Bool))) (tm:List AV) (s s':Nat) (g:Option (Nat×Bool)),CD r tm->(s,s',g)∈r->s'<1000000->IS g tm (Fa tm[s]? tm[s']?)
 | [],tm,s,s',g,h,hm,hs=>by cases hm
 | (x,y,z)::r,tm,s,s',g,h,hm,hs=>by
  rcases zt.1 hm with e|hm
  ·cases e
   have:=h.1
   rwa [if_pos hs] at this
  ·exact QI r tm s s' g h.2 hm hs
def Hb (l:List SO) (k:Nat):Bool:=(zi k).all fun j=>match GV l j with
 | some s=>decide (s<1000000)
 | none=>true
theorem cC {l:List SO} {k j s:Nat} (h:Hb l k=true) (hj:j<k) (hs:GV l j=some s):s<1000000:=by
 have:=zl.1 h j (qh.2 hj);rw[hs] at this;exact of_decide_eq_true this
def Kl (l:List SO) (deps anc:List (List Nat)) (k:Nat):Bool :=
 decide (k<=l.length) &&
 (zi l.length).all (fun i=>(deps.getD i []).all (fun e=>decide (e<i))&&(anc.getD i []).all fun j=>(deps.getD i []).contains j||(deps.getD i []).any fun e=>(anc.getD e []).contains j) &&
 (zi k).all (fun i=>Az l i==none||(zi k).all fun j=>i==j||Az l j != Az l i) &&
 (zi k).all (fun i=>(((l[i]?).map (·.looks)).getD []).all fun t=>(zi k).all fun j=>j==i||Az l j != some t||(anc.getD i []).contains j||(anc.getD j []).contains i) &&
 (zi k).all (fun i=>!Hc l i||(zi k).all fun j=>!He l j||j==i||(if j<i then (anc.getD i []).contains j else (anc.getD j []).contains i)||FX l k i j) &&
 ((zi l.length).all fun j=>decide (j<k)||(zi j).all fun i=>(anc.getD j []).contains i)&&Hb l k
def D1 (l:List SO) (deps anc:List (List Nat)) (k:Nat):Bool :=
 decide (k<=l.length) &&
 (zi l.length).all (fun i=>(deps.getD i []).all (fun e=>decide (e<i))&&(anc.getD i []).all fun j=>(deps.getD i []).contains j||(deps.getD i []).any fun e=>(anc.getD e []).contains j) &&
 (zi k).all (fun i=>Az l i==none||(zi k).all fun j=>i==j||Az l j != Az l i) &&
 (zi k).all (fun i=>(((l[i]?).map (·.looks)).getD []).all fun t=>(zi k).all fun j=>j==i||Az l j != some t||(anc.getD i []).contains j||(anc.getD j []).contains i) &&
 (zi k).all (fun i=>!Hc l i||(zi k).all fun j=>!He l j||j==i||(if j<i then (anc.getD i []).contains j else (anc.getD j []).contains i)||FX l k i j) &&
 ((zi l.length).all fun j=>decide (j<k)||(zi k).all fun i=>(anc.getD j []).contains i)&&Hb l k
section
variable {P:Program} [Tabs P] {C:Cx} [On P C] {K:Bg}
theorem Ll (deps anc:List (List Nat)) (n:Nat) (h1:∀i,i<n->(∀e∈deps.getD i [],e<i)/\∀j∈anc.getD i [],j∈deps.getD i []\/∃e∈deps.getD i [],j∈anc.getD e []) (p:Nat->Bool) (hc:∀i,i<n->p i=true->∀e∈deps.getD i [],p e=true) :
  ∀i,i<n->(∀e∈deps.getD i [],p e=true)->∀j∈anc.getD i [],p j=true:=by
 intro i
 induction i using Nat.strongRecOn with
 | _ i ih=>
  intro hi hd j hj;rcases(h1 i hi).2 j hj with h2|⟨e,he,h2⟩
  ·exact hd j h2
  ·have hlt:=(h1 i hi).1 e he;exact ih e hlt (by omega) (hc e (by omega) (hd e he)) j h2
theorem Mh (deps anc:List (List Nat)) (n:Nat) (h1:∀i,i<n->(∀e∈deps.getD i [],e<i)/\∀j∈anc.getD i [],j∈deps.getD i []\/∃e∈deps.getD i [],j∈anc.getD e []):∀i,i<n->∀j∈anc.getD i [],j<i:=by
 intro i
 induction i using Nat.strongRecOn with
 | _ i ih=>
  intro hi j hj;rcases(h1 i hi).2 j hj with h2|⟨e,he,h2⟩
  ·exact(h1 i hi).1 j h2
  ·have hlt:=(h1 i hi).1 e he;have:=ih e hlt (by omega) j h2;omega
theorem Re {P:Program} [Tabs P] (b:Nat) (q:Nat->Bool):∀(l:List SO) (objs:List OB) (vs:List AV) (os:List (List OB)) (tm:List AV) (k:Nat),IW P objs l vs os tm ->
  (∀j m o o2,l[j]? = some o->l[m]? = some o2->j<m->o.op.calm=false->o2.op.calm=false->q (k+m)=true->q (k+j)=true) ->
  (∀j o v o' t ob,l[j]? = some o->o.op.calm=false->q (k+j)=true->os[j]? = some o'->vs[j]? = some v->HG P ob o v o' t->t=AU (fun x=>decide (x<k+j)) k l vs tm->o'[b]? = ob[b]?) ->
  (Bw q k l os objs)[b]? = objs[b]?
 | [],objs,vs,os,tm,k,h,hc,hk=>by cases os<;>rfl
 | o::r,objs,[],os,tm,k,h,hc,hk=>by cases os<;>exact h.elim
 | o::r,objs,v::vs,[],tm,k,h,hc,hk=>h.elim
 | o::r,objs,v::vs,o'::os,tm,k,h,hc,hk=>by
  simp only[Bw];have e0:AU (fun x=>decide (x<k+0)) k (o::r) (v::vs) tm=tm:=by
   have nil:∀(l:List SO) (vs tm:List AV) (j:Nat),k<=j->AU (fun x=>decide (x<k+0)) j l vs tm=tm:=by
    intro l
    induction l with
    | nil=>intro vs tm j hj;cases vs<;>rfl
    | cons o l ih=>
     intro vs tm j hj
     cases vs with
     | nil=>rfl
     | cons v vs=>
      simp only[AU];rw[if_neg (by simp;omega)];exact ih vs tm (j+1) (by omega)
   exact nil _ _ _ k (zd _)
  have next:(Bw q (k+1) r os o')[b]? = o'[b]?:=by
   refine Re b q r o' vs os _ (k+1) h.2 (fun j m o1 o2 h1 h2 h3 h4 h5 h6=>?_) (fun j o1 v1 o1' t ob h1 h2 h3 h4 h5 h6 h7=>?_)
   ·have:=hc (j+1) (m+1) o1 o2 (by simpa using h1) (by simpa using h2) (by omega) h4 h5 (by rwa [show k+(m+1)=k+1+m by omega])
    rwa [show k+1+j=k+(j+1) by omega]
   ·refine hk (j+1) o1 v1 o1' t ob (by simpa using h1) h2 (by rwa [show k+(j+1)=k+1+j by omega]) (by simpa using h4) (by simpa using h5) h6 ?_;rw[h7];simp only[AU];rw[if_pos (by simp),show k+(j+1)=k+1+j by omega]
  cases hcm:o.op.calm with
  | true=>
   simp only[Bool.not_true,Bool.and_false,Bool.false_eq_true,if_false];have:=h.1.1 hcm;subst this;exact next
  | false=>
   cases hq:q k with
   | true=>
    simp only[Bool.not_false,Bool.and_self,if_true];rw[next];exact hk 0 o v o' tm objs rfl hcm (by simpa using hq) rfl rfl h.1 e0.symm
   | false=>
    simp only[Bool.false_and,Bool.false_eq_true,if_false];rw[Jp];intro j o2 hj h2
    cases hx:q (k+1+j) with
    | false=>rfl
    | true=>
     have:=hc 0 (j+1) o o2 rfl (by simpa using hj) (by omega) hcm h2 (by rwa [show k+(j+1)=k+1+j by omega]);rw[jf,hq] at this;cases this
theorem MI {P:Program} [Tabs P] (b:Nat) (p q:Nat->Bool):∀(l:List SO) (objs:List OB) (vs:List AV) (os:List (List OB)) (tm:List AV) (k:Nat),IW P objs l vs os tm ->
  (∀j m o o2,l[j]? = some o->l[m]? = some o2->j<m->o.op.calm=false->o2.op.calm=false->q (k+m)=true->q (k+j)=true) ->
  (∀j m o o2,l[j]? = some o->l[m]? = some o2->j<m->o.op.calm=false->o2.op.calm=false->p (k+m)=true->p (k+j)=true) ->
  (∀j o,l[j]? = some o->o.op.calm=false->p (k+j)=true->q (k+j)=true) ->
  (∀j o v o' t ob,l[j]? = some o->o.op.calm=false->p (k+j)=false->q (k+j)=true->os[j]? = some o'->vs[j]? = some v->HG P ob o v o' t->t=AU (fun x=>decide (x<k+j)) k l vs tm->o'[b]? = ob[b]?) ->
  (Bw p k l os objs)[b]? = (Bw q k l os objs)[b]?
 | [],objs,vs,os,tm,k,h,hq,hp,hs,hk=>by cases os<;>rfl
 | o::r,objs,[],os,tm,k,h,hq,hp,hs,hk=>by cases os<;>exact h.elim
 | o::r,objs,v::vs,[],tm,k,h,hq,hp,hs,hk=>h.elim
 | o::r,objs,v::vs,o'::os,tm,k,h,hq,hp,hs,hk=>by
  have CV:∀(z:Nat->Bool),(∀j m o1 o2,(o::r)[j]? = some o1->(o::r)[m]? = some o2->j<m->o1.op.calm=false->o2.op.calm=false->z (k+m)=true->z (k+j)=true)->∀j m o1 o2,r[j]? = some o1->r[m]? = some o2->j<m->o1.op.calm=false->o2.op.calm=false->z (k+1+m)=true->z (k+1+j)=true:=by
   intro z hz j m o1 o2 h1 h2 h3 h4 h5 h6;have:=hz (j+1) (m+1) o1 o2 (by simpa using h1) (by simpa using h2) (by omega) h4 h5 (by rwa [show k+(m+1)=k+1+m by omega])
   rwa [show k+1+j=k+(j+1) by omega]
  have next:(Bw p (k+1) r os o')[b]? = (Bw q (k+1) r os o')[b]?:=by
   refine MI b p q r o' vs os _ (k+1) h.2 (CV q hq) (CV p hp) (fun j o1 h1 h2 h3=>?_) (fun j o1 v1 o1' t ob h1 h2 h3 h3' h4 h5 h6 h7=>?_)
   ·have:=hs (j+1) o1 (by simpa using h1) h2 (by rwa [show k+(j+1)=k+1+j by omega])
    rwa [show k+1+j=k+(j+1) by omega]
   ·refine hk (j+1) o1 v1 o1' t ob (by simpa using h1) h2 (by rwa [show k+(j+1)=k+1+j by omega]) (by rwa [show k+(j+1)=k+1+j by omega]) (by simpa using h4) (by simpa using h5) h6 ?_;rw[h7];simp only[AU];rw[if_pos (by simp),show k+(j+1)=k+1+j by omega]
  cases hcm:o.op.calm with
  | true=>
   have e:=h.1.1 hcm;subst e;simp only[Bw,hcm,Bool.not_true,Bool.and_false,Bool.false_eq_true,if_false];exact next
  | false=>
   cases hpk:p k with
   | true=>
    have hqk:q k=true:=hs 0 o rfl hcm (by simpa using hpk);simp only[Bw,hcm,hpk,hqk,Bool.not_false,Bool.and_self,if_true];exact next
   | false=>
    have hpn:∀j o2,(o::r)[j]? = some o2->o2.op.calm=false->p (k+j)=false:=by
     intro j o2 hj h2
     cases j with
     | zero=>simpa using hpk
     | succ j=>
      cases hx:p (k+(j+1)) with
      | false=>rfl
      | true=>
       have:=hp 0 (j+1) o o2 rfl hj (by omega) hcm h2 hx;rw[jf,hpk] at this;cases this
    rw[Jp p (o::r) (o'::os) objs k hpn]
    symm
    exact Re b q (o::r) objs (v::vs) (o'::os) tm k h hq (fun j o1 v1 o1' t ob h1 h2 h3 h4 h5 h6 h7=>hk j o1 v1 o1' t ob h1 h2 (hpn j o1 h1 h2) h3 h4 h5 h6 h7)
theorem XP {P:Program} [Tabs P] {op:SOp} {s:Nat} {obi cur:List OB} {tm:List AV} {v:AV} (hop:op=.load1 (.t s)\/∃sz,op=.loadn sz (.t s)) (hb:∀b off,tm[s]? = some (.p b off)->cur[b]? = obi[b]?) (hp:∃b off,tm[s]? = some (.p b off))
  (h:Ah P op obi tm (fun y x=>y=obi/\x=v)):Ah P op cur tm (fun y x=>y=cur/\x=v):=by
 obtain⟨b,off,hp⟩:=hp;have hb:=hb b off hp;rcases hop with rfl|⟨sz,rfl⟩
 ·simp only[Ah,SV.ev,hp,jc,hb] at h ⊢
  split at h
  ·split at h
   ·exact⟨trivial,h.2⟩
   ·exact h
  ·exact h
 ·simp only[Ah,SV.ev,hp,jc,hb] at h ⊢
  split at h
  ·exact⟨h.1,trivial,h.2.2⟩
  ·exact h
theorem aP {P:Program} [Tabs P] {op:SOp} {s:Nat} {obi cur:List OB} {tm:List AV} {v:AV} (hop:op=.load1 (.t s)\/∃sz,op=.loadn sz (.t s)) (hp:∃xs q,tm[s]? = some (.prow xs q))
  (h:Ah P op obi tm (fun y x=>y=obi/\x=v)):Ah P op cur tm (fun y x=>y=cur/\x=v):=by
 obtain⟨xs,q,hp⟩:=hp;rcases hop with rfl|⟨sz,rfl⟩
 ·simp only[Ah,SV.ev,hp,jc] at h ⊢;obtain⟨v',h1,_,h2⟩:=h;exact⟨v',h1,trivial,h2⟩
 ·simp only[Ah,SV.ev,hp,jc] at h ⊢;exact⟨h.1,trivial,h.2.2⟩
theorem cI {P:Program} [Tabs P] {sz s:Nat} {y:SV} {ob o':List OB} {tm:List AV} {v:AV} {b:Nat} (hb:∀b' off,tm[s]? = some (.p b' off)->¬b=b') (hq:∀b' g j,tm[s]? = some (.porow b' g j)->¬b=b') (h:Ah P (.store sz (.t s) y) ob tm (fun z x=>z=o'/\x=v)):o'[b]? = ob[b]?:=by
 simp only[Ah,SV.ev] at h
 cases ht:tm[s]? with
 | none=>rw[ht] at h;exact h.elim
 | some a=>
  rw[ht] at h;simp only[jc] at h
  split at h
  ·rename_i b' off
   split at h
   ·obtain⟨_,rfl,_⟩:=h;have:=hb b' off ht;rw[zp (fun e=>this e.symm)]
   ·exact h.elim
  ·rename_i b' g j
   split at h
   ·obtain⟨_,rfl,_⟩:=h;have:=hq b' g j ht;rw[zp (fun e=>this e.symm)]
   ·exact h.elim
  ·exact h.elim
theorem Y4 {P:Program} [Tabs P] {op:SOp} {ob o':List OB} {tm:List AV} {v:AV} (hop:(∃E sz by' x y,op=.app E sz by' x y)\/(∃E x y,op=.apps E x y)\/(∃E sz n z ps,op=.bslo E sz n z ps)\/(∃sz x y,op=.trn sz x y)) (h:Ah P op ob tm (fun z x=>z=o'/\x=v)) :
  (∃b g,v=.orow b g/\∀c,¬c=b->o'[c]? = ob[c]?)\/(∃n xs,v=.row n xs)\/v=.nil:=by
 have new:∀x:OB,∀c,¬c=ob.length->(ob++[x])[c]? = ob[c]?:=by
  intro x c hc;rcases zo c ob.length with h6|h6
  ·exact qq h6
  ·rw[qi (by simp;omega),qi h6]
 rcases hop with ⟨E,sz,by',x,y,rfl⟩|⟨E,x,y,rfl⟩|⟨E,sz,n,z,ps,rfl⟩|⟨sz,x,y,rfl⟩
 ·simp only[Ah] at h
  split at h
  ·split at h
   ·split at h
    ·obtain⟨_,rfl,rfl⟩:=h;exact .inl ⟨_,_,rfl,fun c hc=>zp (fun e=>hc e.symm)⟩
    ·exact h.elim
   ·obtain⟨_,rfl,rfl⟩:=h;exact .inl ⟨_,_,rfl,new _⟩
   ·exact h.elim
  ·exact h.elim
 ·simp only[Ah] at h
  split at h
  ·split at h
   ·split at h
    ·obtain⟨_,rfl,rfl⟩:=h;exact .inl ⟨_,_,rfl,fun c hc=>zp (fun e=>hc e.symm)⟩
    ·exact h.elim
   ·obtain⟨_,rfl,rfl⟩:=h;exact .inl ⟨_,_,rfl,new _⟩
   ·exact h.elim
  ·exact h.elim
 ·simp only[Ah] at h
  split at h
  ·obtain⟨_,rfl,rfl⟩:=h;exact .inl ⟨_,_,rfl,new _⟩
  ·exact h.elim
 ·simp only[Ah] at h
  split at h
  ·obtain⟨_,rfl,rfl⟩:=h;exact .inr (.inl ⟨_,_,rfl⟩)
  ·obtain⟨_,rfl,rfl⟩:=h;exact .inr (.inr rfl)
  ·split at h
   ·obtain⟨_,rfl,rfl⟩:=h;exact .inl ⟨_,_,rfl,fun c hc=>zp (fun e=>hc e.symm)⟩
   ·exact h.elim
  ·exact h.elim
theorem ZJ (ops:Array Oper) (o:Oper) (so0 so:SO) (hd0:so.dst=so0.dst) (hg0:so.gd=so0.gd) (hcv:∀objs tm K,Ah P so.op objs tm K->Ah P so0.op objs tm K) (obi cur o':List OB) (tm tmi:List AV) (v:AV) (N:Act->World->Prop) (Q:Exit->Act->World->Prop) (h1:Db P ops.toList o=some so0) (h:HG P obi so v o' tmi)
  (hstep:(∀t want,so.gd=some (t,want)->tm[t]? = some (.b want))->Ah P so.op obi tm (fun y x=>y=o'/\x=v)->Ah P so.op cur tm (fun y x=>y=(if so.op.calm=true then cur else o')/\x=v)) (hskip:o'=obi->(if so.op.calm=true then cur else o')=cur) (hag:∀t∈so.looks,tm[t]? = tmi[t]?) (a:Act) (w:World) (hr:CU C cur tm a w)
  (hN:∀a w,CU C (if so.op.calm=true then cur else o') (AJ tm so.dst v) a w->N a w):if Region.wanted o (yielded ops a.tmps) then o.wp P a w N Q else N (a.put o.dst undef) w:=by
 obtain⟨d1,op1,g1⟩:=so;dsimp only at hd0 hg0 hcv;subst hd0 hg0;obtain⟨hco,h⟩:=h;have hev:∀x∈op1.svs,x.ev tm=x.ev tmi:=by
  intro x hx
  cases x with
  | c v=>rfl
  | t n=>
   simp only[SV.ev];rw[hag n (xf _ (List.mem_filterMap.2 ⟨_,hx,rfl⟩))]
 unfold Db at h1
 split at h1
 ·cases h1
 ·rename_i op hop;obtain⟨G,I,hin,hm,hd,hdef⟩:=hr
  split at h1
  ·rename_i hg;injection h1 with h1;subst h1
   dsimp only at h hstep hskip hev hN hcv ⊢;rw[if_pos (by simp[Region.wanted,hg])];rw[<-Ht hev] at h;have h:=hstep (fun _ _ e=>by cases e) h;refine KH (C:=C) (type:=o.type) ops.toList o op hop (hcv _ _ _ h) G I a w hin hm hd o _ _ rfl rfl ?_;rintro objs' v' y G' I' w' ⟨rfl,rfl⟩ l1 l2 l3 l4 l5;exact hN _ _ ⟨G',I',l3,l4,GH (Ac.mono l1 l2 _ _ hd) l5 o.dst,by rw[GK];exact hdef⟩
  ·rename_i j want hg
   split at h1
   ·rename_i t hj;injection h1 with h1;subst h1
    have hj':(ops[j]?).bind (·.dst)=some t:=by simpa using hj
    dsimp only at h hstep hskip hev hN hcv ⊢;have hat:=hag t (xw _ (List.mem_singleton_self t));have hval:∀v,tm[t]? = some v->∃y,a.tmps[t]? = some y/\Ab G I v y:=by
     intro v hv;obtain⟨y,h3,h4⟩:=Ac.get t hd hv;exact⟨y,by simpa using h3,h4⟩
    rcases h with ⟨h2,h3⟩|⟨h2|⟨vs,h2⟩,rfl,he⟩
    ·obtain⟨y,hy,hyd⟩:=hval _ (hat.trans h2);simp only[Ab] at hyd;subst hyd;have hyi:yielded ops a.tmps j=some want:=by simp[yielded,hj',hy]
     rw[if_pos (by simp[Region.wanted,hg,hyi])];rw[<-Ht hev] at h3;have h3:=hstep (fun _ _ e=>by cases e;exact hat.trans h2) h3;refine KH (C:=C) (type:=o.type) ops.toList o op hop (hcv _ _ _ h3) G I a w hin hm hd o _ _ rfl rfl ?_;rintro objs' v' y G' I' w' ⟨rfl,rfl⟩ l1 l2 l3 l4 l5;exact hN _ _ ⟨G',I',l3,l4,GH (Ac.mono l1 l2 _ _ hd) l5 o.dst,by rw[GK];exact hdef⟩
    ·obtain⟨y,hy,hyd⟩:=hval _ (hat.trans h2);simp only[Ab] at hyd;subst hyd;have hyi:yielded ops a.tmps j=some (!want):=by simp[yielded,hj',hy]
     rw[if_neg (by cases want<;>simp[Region.wanted,hg,hyi])]
     rw[hskip he] at hN;exact hN _ _ ⟨G,I,hin,hm,GH hd (by simp[Ab]) o.dst,by rw[GK];exact hdef⟩
    ·obtain⟨y,hy,hyd⟩:=hval _ (hat.trans h2);simp only[Ab] at hyd;subst hyd;have hyi:yielded ops a.tmps j=none:=by simp[yielded,hj',hy]
     rw[if_neg (by simp[Region.wanted,hg,hyi])];rw[hskip he] at hN;exact hN _ _ ⟨G,I,hin,hm,GH hd (by simp[Ab]) o.dst,by rw[GK];exact hdef⟩
   ·cases h1
theorem Ld {ops:Array Oper} {listed:Array Bool} {i:Nat} (hs:listed.size=ops.size):i∈Region.ready .any ops listed↔i<ops.size/\listed.getD i true=false/\∀e∈(ops.toList.map AG).getD i [],listed.getD e false=true:=by
 unfold Region.ready;rw[jh,qh]
 constructor
 ·rintro⟨h1,h2⟩;simp only[Bool.and_eq_true,Bool.not_eq_true'] at h2;refine⟨h1,h2.1,fun e he=>?_⟩;rw[Array.getElem?_eq_getElem h1] at h2;simp only[jo,jc,Array.all_eq_true'] at h2;have hg:(ops.toList.map AG).getD i []=AG ops[i]:=by
   rw[jx,jy,zv (by simpa using h1)];rfl
  rw[hg] at he;unfold AG at he;obtain⟨ed,hed,rfl⟩:=jd.1 he;obtain⟨hm,hb⟩:=jh.1 hed;have:=h2.2 ed (by simpa using hm);simpa[hb] using this
 ·rintro⟨h1,h2,h3⟩;refine⟨h1,?_⟩;simp only[Bool.and_eq_true,Bool.not_eq_true'];refine⟨h2,?_⟩;rw[Array.getElem?_eq_getElem h1];simp only[jo,jc,Array.all_eq_true'];intro ed hed;have hg:(ops.toList.map AG).getD i []=AG ops[i]:=by
   rw[jx,jy,zv (by simpa using h1)];rfl
  cases hb:Region.binds .any ed with
  | false=>simp
  | true=>
   simp only[Bool.not_true,Bool.false_or];refine h3 ed.on ?_;rw[hg];exact jd.2 ⟨ed,jh.2 ⟨by simpa using hed,hb⟩,rfl⟩
theorem GC {α β:Type} (f:α->Option β):∀(l:List α) (r:List β),l.mapM f=some r->l.length=r.length/\∀(i:Nat) (x:α),l[i]? = some x->∃y,r[i]? = some y/\f x=some y
 | [],r,h=>by simp at h;subst h;simp
 | x::l,r,h=>by
  simp only[List.mapM_cons,Option.bind_eq_bind,Option.pure_def] at h
  cases h1:f x with
  | none=>simp[h1] at h
  | some y=>
   cases h2:l.mapM f with
   | none=>simp[h1,h2] at h
   | some r'=>
    simp[h1,h2] at h;subst h;obtain⟨h3,h4⟩:=GC f l r' h2;refine⟨by simp[h3],fun i z hz=>?_⟩
    cases i with
    | zero=>simp at hz;subst hz;exact⟨y,rfl,h1⟩
    | succ i=>simpa using h4 i z (by simpa using hz)
theorem F3 (listed:Array Bool) (i j:Nat) (d:Bool) (hi:i<listed.size):(listed.setIfInBounds i true).getD j d=if j=i then true else listed.getD j d:=by
 simp only[Array.getD_eq_getD_getElem?,Array.getElem?_setIfInBounds]
 by_cases e:j=i
 ·subst e;simp[hi]
 ·rw[if_neg (fun e'=>e e'.symm),if_neg e]
def SO.toP:SO->SO
 | ⟨d,.call f args,g⟩=>⟨d,.pcall f args,g⟩
 | ⟨d,.iad sz x y,g⟩=>⟨d,.iadr sz x y,g⟩
 | ⟨d,.trn sz x y,g⟩=>⟨d,.pu (.rslh sz) [x,y],g⟩
 | o=>o
def SO.toR:SO->SO
 | ⟨d,.call f args,g⟩=>⟨d,.pcall f args,g⟩
 | ⟨d,.iad sz x y,g⟩=>⟨d,.iadr sz x y,g⟩
 | o=>o
def SO.toQ:SO->SO
 | ⟨d,.iad sz x y,g⟩=>⟨d,.iadr sz x y,g⟩
 | o=>o
theorem Mx {sz:Nat} {x y:SV} {objs:List OB} {tm:List AV} {K:List OB->AV->Prop} (h:Ah P (.iadr sz x y) objs tm K):Ah P (.iad sz x y) objs tm K:=by
 simp only[Ah] at h ⊢
 revert h
 cases x.ev tm<;>try exact fun h=>h.elim
 cases y.ev tm<;>first|exact fun h=>h|exact fun h=>h.elim
theorem Xh {sz:Nat} {x y:SV} {objs:List OB} {tm:List AV} {K:List OB->AV->Prop} (h:Ah P (.pu (.rslh sz) [x,y]) objs tm K):Ah P (.trn sz x y) objs tm K:=by
 simp only[Ah,zu,List.map_nil] at h ⊢
 revert h
 cases x.ev tm<;>try (intro h;simp[pq] at h;done)
 ·cases y.ev tm<;>try (intro h;simp[pq] at h;done)
  intro h;simp only[pq] at h
  split at h
  ·rename_i v hv
   split at hv
   ·rename_i hc;injection hv with hv;subst hv
    exact⟨hc,h⟩
   ·cases hv
  ·exact h.elim
 ·cases y.ev tm<;>try (intro h;simp[pq] at h;done)
  intro h;simp only[pq] at h
  split at h
  ·rename_i v hv
   split at hv
   ·rename_i hc;injection hv with hv;subst hv
    exact⟨hc,h⟩
   ·cases hv
  ·exact h.elim
theorem WQ (o:SO):o.toQ.dst=o.dst:=by obtain⟨d,op,g⟩:=o;cases op<;>rfl
theorem Vs (o:SO):o.toQ.gd=o.gd:=by obtain⟨d,op,g⟩:=o;cases op<;>rfl
theorem Vt (o:SO) (objs:List OB) (tm:List AV) (K:List OB->AV->Prop) (h:Ah P o.toQ.op objs tm K):Ah P o.op objs tm K:=by
 obtain⟨d,op,g⟩:=o
 cases op<;>first|exact h|exact Mx h
theorem WO (o:SO):o.toP.dst=o.dst:=by obtain⟨d,op,g⟩:=o;cases op<;>rfl
theorem VO (o:SO):o.toP.gd=o.gd:=by obtain⟨d,op,g⟩:=o;cases op<;>rfl
theorem VP (o:SO) (objs:List OB) (tm:List AV) (K:List OB->AV->Prop) (h:Ah P o.toP.op objs tm K):Ah P o.op objs tm K:=by
 obtain⟨d,op,g⟩:=o
 cases op<;>try exact h
 case call f args=>
  simp only[SO.toP,Ah] at h ⊢;exact Rj h.1 h.2
 case iad sz x y=>exact Mx h
 case trn sz x y=>exact Xh h
theorem WR (o:SO):o.toR.dst=o.dst:=by obtain⟨d,op,g⟩:=o;cases op<;>rfl
theorem Vu (o:SO):o.toR.gd=o.gd:=by obtain⟨d,op,g⟩:=o;cases op<;>rfl
theorem Vv (o:SO) (objs:List OB) (tm:List AV) (K:List OB->AV->Prop) (h:Ah P o.toR.op objs tm K):Ah P o.op objs tm K:=by
 obtain⟨d,op,g⟩:=o
 cases op<;>try exact h
 case call f args=>
  simp only[SO.toR,Ah] at h ⊢;exact Rj h.1 h.2
 case iad sz x y=>exact Mx h
end
section
variable {P:Program} [Tabs P] {C:Cx} [On P C] {K:Bg}
theorem IA (id:Nat) (ops:Array Oper) (l0 l:List SO) (hl:ops.toList.mapM (Db P ops.toList)=some l0) (hlp:l=l0\/l=l0.map SO.toP\/l=l0.map SO.toQ\/l=l0.map SO.toR) (k:Nat) (hok:D1 l (ops.toList.map AG) (Bc (ops.toList.map AG)) k=true) (hm:P.follows .mixedOrders=true) {objs:List OB} {tm:List AV} (T:Array Bool->List OB->List AV->Prop) (H:List OB->List AV->Prop)
  (hT0:∀(listed:Array Bool) (o:List OB) (t:List AV),listed.size=ops.size->(∀j,j<k->listed.getD j false=true)->(∀j,k<=j->j<ops.size->listed.getD j false=false)->H o t->T listed o t)
  (hTs:∀(listed:Array Bool) (o:List OB) (t:List AV) (i:Nat) (so:SO),listed.size=ops.size->l[i]? = some so->k<=i->i<ops.size->listed.getD i false=false->(∀j∈(Bc (ops.toList.map AG)).getD i [],listed.getD j false=true)->T listed o t->Aq P [so] o t (fun o2 t2=>T (listed.setIfInBounds i true) o2 t2))
  (hTf:∀(listed:Array Bool) (o:List OB) (t:List AV),listed.size=ops.size->(∀j,j<ops.size->listed.getD j false=true)->T listed o t->K .normal o t)
  (h:Br P (l.take k) objs tm (fun o t=>CD (Dh l (Bc (ops.toList.map AG)) k) t/\H o t)):∀a w,CU C objs tm a w->(Code.region id ops true).wp P (CV C K) a w:=by
 intro a w hr;obtain⟨hlen0,hget0⟩:=GC _ _ _ hl;have hlen:ops.toList.length=l.length:=by
  rcases hlp with rfl|rfl|rfl|rfl
  ·exact hlen0
  ·rw[qn];exact hlen0
  ·rw[qn];exact hlen0
  ·rw[qn];exact hlen0
 have hget:∀(i:Nat) (x:Oper),ops.toList[i]? = some x->∃y,l[i]? = some y/\∃y0,Db P ops.toList x=some y0/\y.dst=y0.dst/\y.gd=y0.gd/\∀objs tm K,Ah P y.op objs tm K->Ah P y0.op objs tm K:=by
  intro i x hx;obtain⟨y0,h1,h2⟩:=hget0 i x hx;rcases hlp with rfl|rfl|rfl|rfl
  ·exact⟨y0,h1,y0,h2,rfl,rfl,fun _ _ _ h=>h⟩
  ·exact⟨y0.toP,by rw[jy,h1];rfl,y0,h2,WO y0,VO y0,fun objs tm K h=>VP y0 objs tm K h⟩
  ·exact⟨y0.toQ,by rw[jy,h1];rfl,y0,h2,WQ y0,Vs y0,fun objs tm K h=>Vt y0 objs tm K h⟩
  ·exact⟨y0.toR,by rw[jy,h1];rfl,y0,h2,WR y0,Vu y0,fun objs tm K h=>Vv y0 objs tm K h⟩
 have hnl:ops.size=l.length:=by simpa using hlen
 generalize hdeps:ops.toList.map AG=deps at hok h hTs;generalize Bc deps=anc at hok h hTs;simp only[D1,Bool.and_eq_true,decide_eq_true_eq,zl,qh,Bool.or_eq_true,bne_iff_ne,ne_eq,beq_iff_eq,List.any_eq_true,jb] at hok;obtain⟨⟨⟨⟨⟨⟨hk,hd1⟩,hd2⟩,hd3⟩,hm1⟩,hd4⟩,hsm⟩:=hok;obtain⟨vs,os,hfacts,hAp,hK⟩:=JA _ _ _ _ h;have hdep:∀i,i<ops.size->(∀e∈deps.getD i [],e<i)/\∀j∈anc.getD i [],j∈deps.getD i []\/∃e∈deps.getD i [],j∈anc.getD e []:=fun i hi=>hd1 i (by omega);have halt:=Mh deps anc ops.size hdep;have htk:(l.take k).length=k:=by rw[zg];omega
 let Inv:Array Bool->Act->World->Prop:=fun listed a w=>
  listed.size=ops.size/\(∀i,i<ops.size->listed.getD i false=true->∀e∈deps.getD i [],listed.getD e false=true) /\
  (((∀j,k<=j->j<ops.size->listed.getD j false=false)/\CU C (Bw (fun x=>listed.getD x false) 0 (l.take k) os objs) (AU (fun x=>listed.getD x false) 0 (l.take k) vs tm) a w) \/
   ((∀j,j<k->listed.getD j false=true)/\∃objs' tm',CU C objs' tm' a w/\T listed objs' tm'))
 have hgd:∀(listed:Array Bool) (i:Nat),i<listed.size->listed.getD i true=listed.getD i false:=by
  intro listed i hi;simp[Array.getD_eq_getD_getElem?,hi]
 have fin:∀listed a w,Inv listed a w->(∀i,i<ops.size->listed.getD i false=true)->CV C K .normal a w:=by
  rintro listed a w ⟨hs,hc,hA|⟨hm1,objs',tm',hr',hw⟩⟩ hall
  ·have hT:=hT0 listed (Bw (fun x=>listed.getD x false) 0 (l.take k) os objs) (AU (fun x=>listed.getD x false) 0 (l.take k) vs tm) hs (fun j hj=>hall j (by omega)) hA.1 (by
    rw[Is (fun x=>listed.getD x false) (fun _=>true) (l.take k) os objs 0 (fun j o hj _=>by
     rw[zz];exact(hall j (by have:=(ja.1 hj).1;rw[htk] at this;omega))),KR (fun x=>listed.getD x false) (fun _=>true) _ vs tm 0 (fun j hj=>by
     rw[zz];exact(hall j (by rw[htk] at hj;omega)))]
    exact hK)
   exact⟨_,_,hTf listed _ _ hs hall hT,hA.2⟩
  ·exact⟨objs',tm',hTf listed _ _ hs hall hw,hr'⟩
 have step:∀listed a w i,Inv listed a w->i∈Region.ready .any ops listed->wpOp P ops (CV C K) i (fun a w=>Inv (listed.setIfInBounds i true) a w) a w:=by
  intro listed a w i hinv hi;obtain⟨hs,hc,hAB⟩:=hinv;obtain⟨hin,hun,hrd⟩:=(Ld hs).1 hi;rw[hdeps] at hrd;rw[hgd listed i (by omega)] at hun;have hanc:=Ll deps anc ops.size hdep (fun x=>listed.getD x false) hc i hin hrd;have ho:ops[i]? = some ops[i]:=Array.getElem?_eq_getElem hin;obtain⟨so,hso,so0,htr,hd0,hg0,hcv⟩:=hget i ops[i] (by rw[zv (by simpa using hin)];simp);have hs':(listed.setIfInBounds i true).size=ops.size:=by rw[Array.size_setIfInBounds];exact hs
  have hset:∀j,(listed.setIfInBounds i true).getD j false=if j=i then true else listed.getD j false:=fun j=>F3 listed i j false (by omega)
  have hc':∀x,x<ops.size->(listed.setIfInBounds i true).getD x false=true->∀e∈deps.getD x [],(listed.setIfInBounds i true).getD e false=true:=by
   intro x hx hlx e he;rw[hset] at hlx ⊢
   split
   ·rfl
   ·split at hlx
    ·rename_i e1;subst e1;exact hrd e he
    ·exact hc x hx hlx e he
  suffices hsuf:if Region.wanted ops[i] (yielded ops a.tmps) then ops[i].wp P a w (fun a w=>Inv (listed.setIfInBounds i true) a w) (CV C K) else Inv (listed.setIfInBounds i true) (a.put ops[i].dst undef) w by
   unfold wpOp;rw[ho];show if Region.wanted ops[i] (yielded ops a.tmps)=true then _ else _
   split
   ·rename_i hw;rw[if_pos hw] at hsuf;exact .inl hsuf
   ·rename_i hw;rw[if_neg hw] at hsuf;exact hsuf
  have tail:∀objs' tm',k<=i->(∀j,j<k->listed.getD j false=true)->CU C objs' tm' a w->T listed objs' tm' ->
    if Region.wanted ops[i] (yielded ops a.tmps) then ops[i].wp P a w (fun a w=>Inv (listed.setIfInBounds i true) a w) (CV C K) else Inv (listed.setIfInBounds i true) (a.put ops[i].dst undef) w:=by
   intro objs' tm' hki hlo hr' hw;refine Q8 ops ops[i] so0 so hd0 hg0 hcv [] objs' tm' _ _ _ htr (hTs listed objs' tm' i so hs hso hki hin hun hanc hw) a w hr' ?_;intro o2 t2 a2 w2 hw2 hr2;refine⟨hs',hc',.inr ⟨fun j hj=>?_,o2,t2,hr2,hw2⟩⟩;rw[hset]
   split
   ·rfl
   ·exact hlo j hj
  rcases zo i k with hik|hik
  ·-- a step of the part whose order is open
   rcases hAB with ⟨hA1,hA2⟩|⟨hm3,_⟩
   ·have hti:(l.take k)[i]? = some so:=by rw[xn hik];exact hso
    obtain⟨v,o',hv,hov,hf⟩:=Qv (l.take k) objs vs os tm 0 i so hfacts hti;have hlook:=hd3 i hik;rw[hso] at hlook;simp only[jo,jc] at hlook;have hag:∀t∈so.looks,(AU (fun x=>listed.getD x false) 0 (l.take k) vs tm)[t]? = (AU (fun x=>decide (x<0+i)) 0 (l.take k) vs tm)[t]?:=by
     intro t ht;refine Nh _ _ t _ vs tm tm 0 rfl rfl ?_;intro j o' hj ho';simp only[zz];have hjk:j<k:=by
      rcases zo j k with h0|h0
      ·exact h0
      ·rw[qi (by rw[htk];exact h0)] at hj;cases hj
     have hdst:Az l j=some t:=by
      unfold Az;rw[xn hjk] at hj;rw[hj];exact ho'
     rcases hlook t ht j hjk with ((h1|h1)|h1)|h1
     ·subst h1;rw[hun];simp
     ·exact absurd hdst h1
     ·have h2:=hanc j h1;have h3:=halt i hin j h1;rw[h2];simp[h3]
     ·have h3:=halt j (by omega) i h1;have h2:listed.getD j false=false:=by
       cases hq:listed.getD j false with
       | false=>rfl
       | true=>
        have:=Ll deps anc ops.size hdep (fun x=>listed.getD x false) hc j (by omega) (hc j (by omega) hq) i h1;rw[hun] at this;cases this
      rw[h2];symm;simp;omega
    have hord:∀i2 j o2 o3,l[i2]? = some o3->o3.op.touch=true->i2<k->l[j]? = some o2->o2.op.calm=false->j<k->j≠i2->(if j<i2 then j∈anc.getD i2 [] else i2∈anc.getD j [])\/(FX l k i2 j=true/\¬(if j<i2 then j∈anc.getD i2 [] else i2∈anc.getD j [])):=by
     intro i2 j o2 o3 hi2 ht2 hik2 hj hcj hjk hji;have wj:He l j=true:=by simp[He,hj,hcj]
     have ti:Hc l i2=true:=by simp[Hc,hi2,ht2]
     by_cases hc0:(if j<i2 then j∈anc.getD i2 [] else i2∈anc.getD j [])
     ·exact .inl hc0
     ·right;refine⟨?_,hc0⟩;rcases hm1 i2 hik2 with h0|h0
      ·rw[ti] at h0;cases h0
      ·rcases h0 j hjk with ((h0|h0)|h0)|h0
       ·rw[wj] at h0;cases h0
       ·exact absurd h0 hji
       ·exfalso;apply hc0
        split at h0<;>rename_i hlt
        ·rw[if_pos hlt];simpa using h0
        ·rw[if_neg hlt];simpa using h0
       ·exact h0
    have hdone:∀i2 j,i2<ops.size->j<ops.size->listed.getD i2 false=false->(∀x∈anc.getD i2 [],listed.getD x false=true)->(if j<i2 then j∈anc.getD i2 [] else i2∈anc.getD j [])->listed.getD j false=decide (j<i2):=by
     intro i2 j hi2 hj hu2 ha2 hcond
     split at hcond
     ·rename_i hlt;rw[ha2 j hcond];simp[hlt]
     ·rename_i hlt;have h2:listed.getD j false=false:=by
       cases hq:listed.getD j false with
       | false=>rfl
       | true=>
        have:=Ll deps anc ops.size hdep (fun x=>listed.getD x false) hc j hj (hc j hj hq) i2 hcond;rw[hu2] at this;cases this
      rw[h2];simp[hlt]
    have hlk:∀{j:Nat} {o2:SO},(l.take k)[j]? = some o2->j<k/\l[j]? = some o2:=by
     intro j o2 hj;have hjk:j<k:=by
      rcases zo j k with h0|h0
      ·exact h0
      ·rw[qi (by rw[htk];exact h0)] at hj;cases hj
     rw[xn hjk] at hj;exact⟨hjk,hj⟩
    have hww:∀j m o1 o2,l[j]? = some o1->l[m]? = some o2->j<m->m<k->o1.op.calm=false->o2.op.calm=false->j∈anc.getD m []:=by
     intro j m o1 o2 h1 h2 hjm hmk hc1 hc2;rcases hord m j o1 o2 h2 (Sz hc2).1 hmk h1 hc1 (by omega) (by omega) with h0|⟨h0,_⟩
     ·rw[if_pos hjm] at h0;exact h0
     ·exfalso;unfold FX JY at h0;rw[h2] at h0;obtain⟨d2,op2,g2⟩:=o2
      cases op2<;>first|(exact absurd hc2 (fun e=>Bool.noConfusion e))|(simp at h0;done)|(cases h0;done)
    have hmem:∀j o2,(l.take k)[j]? = some o2->o2.op.calm=false->so.op.calm=false->j≠i->listed.getD j false=decide (j<i):=by
     intro j o2 hj hcj hci hji;obtain⟨hjk,hj⟩:=hlk hj;refine hdone i j hin (by omega) hun hanc ?_;rcases zo j i with h0|h0
     ·rw[if_pos h0];exact hww j i o2 so hj hso h0 hik hcj hci
     ·rw[if_neg (by omega)];exact hww i j so o2 hso hj (by omega) hjk hci hcj
    have hclosed:∀j m o1 o2,(l.take k)[j]? = some o1->(l.take k)[m]? = some o2->j<m->o1.op.calm=false->o2.op.calm=false->listed.getD (0+m) false=true->listed.getD (0+j) false=true:=by
     intro j m o1 o2 h1 h2 hjm hc1 hc2 hlm;rw[zz] at hlm ⊢;obtain⟨hjk,h1⟩:=hlk h1;obtain⟨hmk,h2⟩:=hlk h2;exact Ll deps anc ops.size hdep (fun x=>listed.getD x false) hc m (by omega) (hc m (by omega) hlm) j (hww j m o1 o2 h1 h2 hjm hmk hc1 hc2)
    have hclosed2:∀j m o1 o2,(l.take k)[j]? = some o1->(l.take k)[m]? = some o2->j<m->o1.op.calm=false->o2.op.calm=false->decide (0+m<0+i)=true->decide (0+j<0+i)=true:=by
     intro j m o1 o2 _ _ hjm _ _ h;simp at h ⊢;omega
    have hskip:o'=Bw (fun x=>decide (x<0+i)) 0 (l.take k) os objs->(if so.op.calm=true then Bw (fun x=>listed.getD x false) 0 (l.take k) os objs else o')=Bw (fun x=>listed.getD x false) 0 (l.take k) os objs:=by
     intro e
     cases hci:so.op.calm with
     | true=>rw[if_pos rfl]
     | false=>
      rw[if_neg Bool.false_ne_true,e];refine Is _ _ _ _ _ 0 (fun j o2 hj hcj=>?_);rw[zz,zz]
      by_cases hji:j=i
      ·subst hji;rw[hun];simp
      ·exact(hmem j o2 hj hcj hci hji).symm
    have hstep:(∀g want,so.gd=some (g,want)->(AU (fun x=>listed.getD x false) 0 (l.take k) vs tm)[g]? = some (.b want))->Ah P so.op (Bw (fun x=>decide (x<0+i)) 0 (l.take k) os objs) (AU (fun x=>listed.getD x false) 0 (l.take k) vs tm) (fun y x=>y=o'/\x=v)->Ah P so.op (Bw (fun x=>listed.getD x false) 0 (l.take k) os objs) (AU (fun x=>listed.getD x false) 0 (l.take k) vs tm) (fun y x=>y=(if so.op.calm=true then Bw (fun x=>listed.getD x false) 0 (l.take k) os objs else o')/\x=v):=by
     intro hG h
     cases ht:so.op.touch with
     | false=>
      have hci:so.op.calm=true:=by
       cases hq:so.op.calm with
       | true=>rfl
       | false=>rw[(Sz hq).1] at ht;cases ht
      rw[if_pos hci];rw[hf.1 hci] at h;exact Ql ht h
     | true=>
      by_cases hall:∀j o2,(l.take k)[j]? = some o2->o2.op.calm=false->j≠i->(if j<i then j∈anc.getD i [] else i∈anc.getD j [])
      ·have ecur:Bw (fun x=>listed.getD x false) 0 (l.take k) os objs=Bw (fun x=>decide (x<0+i)) 0 (l.take k) os objs:=by
        refine Is _ _ _ _ _ 0 (fun j o2 hj hcj=>?_);rw[zz,zz]
        by_cases hji:j=i
        ·subst hji;rw[hun];simp
        ·exact hdone i j hin (by have:=(hlk hj).1;omega) hun hanc (hall j o2 hj hcj hji)
       rw[ecur]
       cases hci:so.op.calm with
       | true=>rw[if_pos rfl];rw[hf.1 hci] at h;exact h
       | false=>rw[if_neg Bool.false_ne_true];exact h
      ·-- some store is apart
       simp only[Classical.not_forall] at hall;obtain⟨j0,o0,hj0,hc0,hji0,hno0⟩:=hall;have hl0:=hlk hj0;have hap0:FX l k i j0=true:=by
        rcases hord i j0 o0 so hso ht hik hl0.2 hc0 hl0.1 hji0 with h0|h0
        ·exact absurd h0 hno0
        ·exact h0.1
       obtain⟨s,hs0,hop,hci⟩:∃s,JY l i=some s/\(so.op=.load1 (.t s)\/∃sz,so.op=.loadn sz (.t s))/\so.op.calm=true:=by
        unfold FX at hap0
        split at hap0
        ·rename_i s s' h1 h2;refine⟨s,h1,?_⟩;unfold JY at h1;rw[hso] at h1
         split at h1
         ·rename_i e;cases e;cases h1;exact⟨.inl rfl,rfl⟩
         ·rename_i e;cases e;cases h1;exact⟨.inr ⟨_,rfl⟩,rfl⟩
         ·cases h1
        ·cases hap0
       have hfin:∀{m s1:Nat},((zi k).all (fun x=>decide (x<m)||Az l x != some s1))=true->∀p:Nat->Bool,(∀x,x<m->(∃o2,(l.take k)[x]? = some o2/\o2.dst=some s1)->p x=true)->(AU p 0 (l.take k) vs tm)[s1]? = (AU (fun _=>true) 0 (l.take k) vs tm)[s1]?:=by
        intro m s1 hst p hp;refine Nh _ _ s1 _ vs tm tm 0 rfl rfl ?_;intro x o2 hx hd;rw[zz];have hx2:=hlk hx;have:=zl.1 hst x (qh.2 hx2.1);simp only[Bool.or_eq_true,decide_eq_true_eq,bne_iff_ne,ne_eq] at this;rcases this with h1|h1
        ·exact hp x h1 ⟨o2,hx,hd⟩
        ·exfalso;apply h1;unfold Az;rw[hx2.2];exact hd
       have hapst:∀j,FX l k i j=true->∃s',GV l j=some s'/\((zi k).all (fun x=>decide (x<i)||Az l x != some s))=true/\((zi k).all (fun x=>decide (x<G5 l j)||Az l x != some s'))=true/\Mf l k i=true:=by
        intro j hj;unfold FX at hj;rw[hs0] at hj
        split at hj
        ·rename_i s1 s' h1 h2
         cases h1
         simp only[Bool.and_eq_true] at hj;exact⟨s',h2,hj.1.1,hj.1.2,hj.2⟩
        ·cases hj
       have hsL:(AU (fun x=>listed.getD x false) 0 (l.take k) vs tm)[s]? = (AU (fun _=>true) 0 (l.take k) vs tm)[s]?:=by
        obtain⟨s',_,hst,_,_⟩:=hapst j0 hap0;refine hfin hst _ (fun x hx ⟨o2,ho2,hd2⟩=>?_);have hx2:=hlk ho2;have hsl:s∈so.looks:=by
         unfold SO.looks;refine xf _ ?_;rcases hop with e|⟨sz,e⟩<;>rw[e]<;>simp[SOp.svs,SV.tmp?]
        have hdst:Az l x=some s:=by unfold Az;rw[hx2.2];exact hd2
        rcases hlook s hsl x hx2.1 with ((h1|h1)|h1)|h1
        ·omega
        ·exact absurd hdst h1
        ·exact hanc x h1
        ·have:=halt x (by omega) i h1;omega
       have hgL:∀g want,so.gd=some (g,want)->(AU (fun _=>true) 0 (l.take k) vs tm)[g]? = some (.b want):=by
        intro g want hg;obtain⟨s',_,_,_,hgs⟩:=hapst j0 hap0;unfold Mf JV at hgs;rw[hso] at hgs;simp only[Option.bind_some,hg] at hgs;rw[<-hfin hgs (fun x=>listed.getD x false) (fun x hx ⟨o2,ho2,hd2⟩=>?_)]
        ·exact hG g want hg
        have hx2:=hlk ho2;have hsl:g∈so.looks:=by
         unfold SO.looks;rw[hg];exact xw _ (List.mem_singleton_self g)
        have hdst:Az l x=some g:=by unfold Az;rw[hx2.2];exact hd2
        rcases hlook g hsl x hx2.1 with ((h1|h1)|h1)|h1
        ·omega
        ·exact absurd hdst h1
        ·exact hanc x h1
        ·have:=halt x (by omega) i h1;omega
       have hApP:∀j o2,(l.take k)[j]? = some o2->o2.op.calm=false->j≠i->¬(if j<i then j∈anc.getD i [] else i∈anc.getD j [])->∃s',GV l j=some s'/\((zi k).all (fun x=>decide (x<G5 l j)||Az l x != some s'))=true/\Fa (AU (fun _=>true) 0 (l.take k) vs tm)[s]? (AU (fun _=>true) 0 (l.take k) vs tm)[s']?:=by
        intro j o2 hj hcj hji hno;have hl2:=hlk hj;have hap:FX l k i j=true:=by
         rcases hord i j o2 so hso ht hik hl2.2 hcj hl2.1 hji with h0|h0
         ·exact absurd h0 hno
         ·exact h0.1
        obtain⟨s',h1,_,h2,_⟩:=hapst j hap;refine⟨s',h1,h2,XC (QI _ _ s s' (JV l i) hAp ?_ (cC hsm hl2.1 h1)) (fun g want e=>hgL g want (by unfold JV at e;rw[hso] at e;exact e))⟩;unfold Dh;refine List.mem_flatMap.2 ⟨i,qh.2 hik,List.mem_filterMap.2 ⟨j,qh.2 hl2.1,?_⟩⟩;unfold OL;have wj:He l j=true:=by simp[He,hl2.2,hcj]
        have ti:Hc l i=true:=by simp[Hc,hso,ht]
        have hcond:(if j<i then (anc.getD i []).contains j else (anc.getD j []).contains i)=false:=by
         split<;>rename_i hlt
         ·rw[if_pos hlt] at hno;simpa using hno
         ·rw[if_neg hlt] at hno;simpa using hno
        have hji':(j==i)=false:=by simpa using hji
        rw[wj,ti,hcond,hji',hs0,h1];simp
       have hpp:(∃b off,(AU (fun x=>listed.getD x false) 0 (l.take k) vs tm)[s]? = some (.p b off))\/∃xs q,(AU (fun x=>listed.getD x false) 0 (l.take k) vs tm)[s]? = some (.prow xs q):=by
        obtain⟨s',_,_,h1⟩:=hApP j0 o0 hj0 hc0 hji0 hno0;rw[hsL];unfold Fa at h1
        split at h1
        all_goals first
         | exact h1.elim
         | (rename_i e1 e2;exact .inl ⟨_,_,e1⟩)
         | (rename_i e1 e2;exact .inr ⟨_,_,e1⟩)
       rw[if_pos hci];rw[hf.1 hci] at h;rcases hpp with hpp|hpp
       case inr=>exact aP hop hpp h
       refine XP hop (fun b off hbo=>?_) hpp h;rw[hsL] at hbo;have keepb:∀j o2 v2 o2' t ob,(l.take k)[j]? = some o2->o2.op.calm=false->j≠i->¬(if j<i then j∈anc.getD i [] else i∈anc.getD j [])->vs[j]? = some v2->HG P ob o2 v2 o2' t->t=AU (fun x=>decide (x<0+j)) 0 (l.take k) vs tm->o2'[b]? = ob[b]?:=by
        intro j o2 v2 o2' t ob hj hcj hji hno hv2 hfj ht2;obtain⟨s',h1,h2,h3⟩:=hApP j o2 hj hcj hji hno;have hl2:=hlk hj;have hkind:(∃sz y,o2.op=.store sz (.t s') y/\o2.gd=none/\G5 l j=j)\/(∃T z,o2.op=.alloc T z/\o2.gd=none/\o2.dst=some s'/\G5 l j=j+1)\/(((∃E sz by' x y,o2.op=.app E sz by' x y)\/(∃E x y,o2.op=.apps E x y)\/(∃E sz n z ps,o2.op=.bslo E sz n z ps)\/(∃sz x y,o2.op=.trn sz x y))/\o2.gd=none/\o2.dst=some s'/\G5 l j=j+1):=by
         unfold GV at h1;unfold G5;rw[hl2.2] at h1 ⊢
         split at h1
         ·rename_i e;cases e;cases h1;refine .inl ⟨_,_,rfl,rfl,?_⟩
          split
          ·rename_i q;cases q
          ·rename_i q;cases q
          ·rename_i q;cases q
          ·rename_i q;cases q
          ·rename_i q;cases q
          ·rfl
         ·rename_i e;cases e;cases h1;exact .inr (.inl ⟨_,_,rfl,rfl,rfl,rfl⟩)
         ·rename_i e;cases e;cases h1;exact .inr (.inr ⟨.inl ⟨_,_,_,_,_,rfl⟩,rfl,rfl,rfl⟩)
         ·rename_i e;cases e;cases h1;exact .inr (.inr ⟨.inr (.inl ⟨_,_,_,rfl⟩),rfl,rfl,rfl⟩)
         ·rename_i e;cases e;cases h1;exact .inr (.inr ⟨.inr (.inr (.inl ⟨_,_,_,_,_,rfl⟩)),rfl,rfl,rfl⟩)
         ·rename_i e;cases e
          split at h1
          ·cases h1;exact .inr (.inr ⟨.inr (.inr (.inr ⟨_,_,_,rfl⟩)),rfl,rfl,rfl⟩)
          ·cases h1
         ·cases h1
        have hfj2:=hfj.2;rcases hkind with ⟨sz,y,e2,hg2,hat⟩|⟨T,z,e2,hg2,hds,hat⟩|⟨hrk,hg2,hds,hat⟩
        ·rw[hg2,e2] at hfj2;rw[hat] at h2;refine cI (fun b' off' hb'=>?_) (fun b' g' j' hb'=>?_) hfj2
         ·rw[ht2] at hb';rw[hfin h2 (fun x=>decide (x<0+j)) (fun x hx _=>by simpa using hx)] at hb';rw[hbo,hb'] at h3;exact h3
         ·rw[ht2] at hb';rw[hfin h2 (fun x=>decide (x<0+j)) (fun x hx _=>by simpa using hx)] at hb';rw[hbo,hb'] at h3;exact h3
        ·rw[hg2,e2] at hfj2;rw[hat] at h2;simp only[Ah] at hfj2;obtain⟨g1,g2⟩:=hfj2;have hdj:=hd2 j hl2.1;have hst:=KS (fun x=>decide (x<0+j)) (l.take k) vs tm 0 j o2 v2 hj hv2 (by simp) (by
          intro j' o' hj' hjj;have hl3:=hlk hj';rcases hdj with hdj|hdj
          ·right;unfold Az at hdj;rw[hl2.2] at hdj;exact hdj
          ·rcases hdj j' hl3.1 with h5|h5
           ·exact absurd h5.symm hjj
           ·left;intro e
            apply h5
            unfold Az;rw[hl3.2,hl2.2];exact e)
         have hfs:=hfin h2 (fun x=>decide (x<0+j)||x==0+j) (fun x hx _=>by
          simp only[zz,Bool.or_eq_true,decide_eq_true_eq,beq_iff_eq];omega)
         rw[<-hst,hds] at hfs;have hne:¬b=ob.length:=by
          intro eb;simp only[AJ] at hfs;have hlt2:s'<(AU (fun x=>decide (x<0+j)) 0 (l.take k) vs tm).length:=by
           rcases zo s' (AU (fun x=>decide (x<0+j)) 0 (l.take k) vs tm).length with h6|h6
           ·exact h6
           ·exfalso;have hn:(AU (fun _=>true) 0 (l.take k) vs tm)[s']? = none:=by
             rw[<-hfs];exact qi (by simp only[zh];exact h6)
            rw[hn,hbo] at h3;exact h3
          rw[qc hlt2,<-g2] at hfs;rw[hbo,<-hfs] at h3;exact h3 eb
         rw[<-g1];rcases zo b ob.length with h6|h6
         ·rw[qq h6]
         ·rw[qi (by simp;omega),qi h6]
        ·rw[hg2] at hfj2;rw[hat] at h2;have hdj:=hd2 j hl2.1;have hst:=KS (fun x=>decide (x<0+j)) (l.take k) vs tm 0 j o2 v2 hj hv2 (by simp) (by
          intro j' o' hj' hjj;have hl3:=hlk hj';rcases hdj with hdj|hdj
          ·right;unfold Az at hdj;rw[hl2.2] at hdj;exact hdj
          ·rcases hdj j' hl3.1 with h5|h5
           ·exact absurd h5.symm hjj
           ·left;intro e
            apply h5
            unfold Az;rw[hl3.2,hl2.2];exact e)
         have hfs:=hfin h2 (fun x=>decide (x<0+j)||x==0+j) (fun x hx _=>by
          simp only[zz,Bool.or_eq_true,decide_eq_true_eq,beq_iff_eq];omega)
         rw[<-hst,hds] at hfs;have hlt2:s'<(AU (fun x=>decide (x<0+j)) 0 (l.take k) vs tm).length:=by
          unfold Fa at h3;rcases zo s' (AU (fun x=>decide (x<0+j)) 0 (l.take k) vs tm).length with h6|h6
          ·exact h6
          ·exfalso;have hn:(AU (fun _=>true) 0 (l.take k) vs tm)[s']? = none:=by
            rw[<-hfs];exact qi (by simp only[AJ,zh];exact h6)
           rw[hn] at h3;rw[hbo] at h3;exact h3
         obtain⟨b',g',hv',hkeep⟩:∃b' g',v2=.orow b' g'/\∀c,¬c=b'->o2'[c]? = ob[c]?:=by
          rcases Y4 hrk hfj2 with h7|h7
          ·exact h7
          ·exfalso;simp only[AJ] at hfs;rw[qc hlt2] at hfs;rw[hbo,<-hfs] at h3;rcases h7 with ⟨n,xs,rfl⟩|rfl<;>exact h3
         have hne:¬b=b':=by
          simp only[AJ] at hfs;rw[qc hlt2,hv'] at hfs;rw[hbo,<-hfs] at h3;exact h3
         exact hkeep b hne
       by_cases hmore:∃j o2,(l.take k)[j]? = some o2/\o2.op.calm=false/\i<=j/\listed.getD j false=true
       ·obtain⟨j1,o1,hj1,hc1,hij1,hl1⟩:=hmore
        symm
        refine MI b (fun x=>decide (x<0+i)) (fun x=>listed.getD x false) (l.take k) objs vs os tm 0 hfacts hclosed hclosed2 (fun j o2 hj hcj hlt=>?_) (fun j o2 v2 o2' t ob hj hcj hp hq _ hv2 hfj ht2=>?_)
        ·simp at hlt;exact hclosed j j1 o2 o1 hj hj1 (by omega) hcj hc1 (by simpa using hl1)
        ·have hji:j≠i:=by rintro rfl;rw[zz,hun] at hq;cases hq
         refine keepb j o2 v2 o2' t ob hj hcj hji (fun hcd=>?_) hv2 hfj ht2;have:=hdone i j hin (by have:=(hlk hj).1;omega) hun hanc hcd;simp only[zz] at hq hp;rw[hq] at this;rw[<-this] at hp;cases hp
       ·refine MI b (fun x=>listed.getD x false) (fun x=>decide (x<0+i)) (l.take k) objs vs os tm 0 hfacts hclosed2 hclosed (fun j o2 hj hcj hlt=>?_) (fun j o2 v2 o2' t ob hj hcj hp hq _ hv2 hfj ht2=>?_)
        ·simp only[zz] at hlt ⊢;rcases zo j i with h0|h0
         ·simpa using h0
         ·exact absurd ⟨j,o2,hj,hcj,h0,hlt⟩ hmore
        ·simp at hq;refine keepb j o2 v2 o2' t ob hj hcj (by omega) (fun hcd=>?_) hv2 hfj ht2;have:=hdone i j hin (by have:=(hlk hj).1;omega) hun hanc hcd;simp only[zz] at hp;rw[hp] at this;simp at this;omega
    refine ZJ ops ops[i] so0 so hd0 hg0 hcv _ _ o' _ _ v _ _ htr hf hstep hskip hag a w hA2 ?_;intro a2 w2 hr2;refine⟨hs',hc',.inl ⟨fun j hj hjn=>by rw[hset,if_neg (by omega)];exact hA1 j hj hjn,?_⟩⟩;have hdi:=hd2 i hik;rw[KS (fun x=>listed.getD x false) (l.take k) vs tm 0 i so v hti hv (by simpa using hun) (by
     intro j o' hj hji;have hjk:j<k:=by
      rcases zo j k with h0|h0
      ·exact h0
      ·rw[qi (by rw[htk];exact h0)] at hj;cases hj
     rw[xn hjk] at hj;rcases hdi with hdi|hdi
     ·right;unfold Az at hdi;rw[hso] at hdi;exact hdi
     ·rcases hdi j hjk with h1|h1
      ·exact absurd h1.symm hji
      ·left;intro e
       apply h1
       unfold Az;rw[hj,hso];exact e)] at hr2
    have e2:(fun x=>listed.getD x false||x==0+i)=fun x=>(listed.setIfInBounds i true).getD x false:=by
     funext x
     rw[hset,zz]
     by_cases e:x=i
     ·simp[e]
     ·have:(x==i)=false:=by simp[e]
      rw[if_neg e,this,Bool.or_false]
    rw[e2] at hr2;have e3:(if so.op.calm=true then Bw (fun x=>listed.getD x false) 0 (l.take k) os objs else o')=Bw (fun x=>(listed.setIfInBounds i true).getD x false) 0 (l.take k) os objs:=by
     rw[<-e2]
     cases hc2:so.op.calm with
     | true=>
      rw[if_pos rfl];refine Is _ _ _ _ _ 0 (fun j o2 hj hcj=>?_);rw[zz];have:j≠i:=by
       rintro rfl;rw[hti] at hj;cases hj;rw[hc2] at hcj;cases hcj
      have:(j==0+i)=false:=by simp;omega
      rw[this,Bool.or_false]
     | false=>
      rw[if_neg Bool.false_ne_true];refine(Rf (fun x=>listed.getD x false) (l.take k) os objs 0 i so o' hti hov hc2 (fun j o2 hj hij hcj=>?_)).symm;rw[zz,hmem j o2 hj hcj hc2 (by omega)];simp;omega
    rw[e3] at hr2;exact hr2
   ·exfalso;have:=hm3 i hik;rw[hun] at this
    cases this
  ·-- a step of the tail
   have hall:∀j,j<k->listed.getD j false=true:=by
    intro j hj;rcases hd4 i (by omega) with h0|h0
    ·omega
    ·exact hanc j (h0 j hj)
   rcases hAB with ⟨hA1,hA2⟩|⟨hm3,objs',tm',hr',hw⟩
   ·refine tail _ _ hik hall hA2 (hT0 listed _ _ hs hall hA1 ?_);rw[Is (fun x=>listed.getD x false) (fun _=>true) (l.take k) os objs 0 (fun j o hj _=>by
     rw[zz];exact hall j (by have:=(ja.1 hj).1;rw[htk] at this;omega)),KR (fun x=>listed.getD x false) (fun _=>true) _ vs tm 0 (fun j hj=>by
     rw[zz];exact hall j (by rw[htk] at hj;omega))]
    exact hK
   ·exact tail objs' tm' hik hall hr' hw
 have main:∀(fuel:Nat) (S:List Nat) (listed:Array Bool) (a:Act) (w:World),S.length=fuel->(∀i,i<ops.size->listed.getD i false=false->i∈S)->Inv listed a w->wpAny P .any ops (CV C K) fuel listed a w:=by
  intro fuel
  induction fuel with
  | zero=>
   intro S listed a w hS hcov hinv;have hS0:S=[]:=qd hS;have hall:∀i,i<ops.size->listed.getD i false=true:=by
    intro i hi
    cases hq:listed.getD i false with
    | true=>rfl
    | false=>have:=hcov i hi hq;rw[hS0] at this;cases this
   refine⟨?_,fin listed a w hinv hall⟩
   apply List.eq_nil_iff_forall_not_mem.2
   intro i hi;obtain⟨hin,hun,_⟩:=(Ld hinv.1).1 hi;rw[hgd listed i (by rw[hinv.1];exact hin),hall i hin] at hun;cases hun
  | succ fuel ih=>
   intro S listed a w hS hcov hinv;refine⟨fun hnil=>?_,fun i hi=>?_⟩
   ·refine fin listed a w hinv ?_;intro i
    induction i using Nat.strongRecOn with
    | _ i ih2=>
     intro hi
     cases hq:listed.getD i false with
     | true=>rfl
     | false=>
      have:i∈Region.ready .any ops listed:=(Ld hinv.1).2 ⟨hi,by rw[hgd listed i (by rw[hinv.1];exact hi)];exact hq,fun e he=>by
       rw[hdeps] at he;have:=(hdep i hi).1 e he;exact ih2 e this (by omega)⟩
      rw[hnil] at this;cases this
   ·refine wpOp_mono (fun a' w' hI=>?_) (step listed a w i hinv hi);obtain⟨hin,hun,_⟩:=(Ld hinv.1).1 hi;rw[hgd listed i (by rw[hinv.1];exact hin)] at hun;have hiS:=hcov i hin hun;refine ih (S.erase i) _ a' w' (by rw[List.length_erase_of_mem hiS,hS];rfl) ?_ hI;intro j hj hjn;rw[F3 listed i j false (by rw[hinv.1];exact hin)] at hjn
    split at hjn
    ·cases hjn
    ·rename_i e;exact(List.mem_erase_of_ne e).2 (hcov j hj hjn)
 refine wp_region_any hm (main ops.size (zi ops.size) _ a _ (by simp) (fun i hi _=>qh.2 hi) ?_);have hrep:∀(j:Nat),(Array.replicate ops.size false).getD j false=false:=by
  intro j;simp only[Array.getD_eq_getD_getElem?,Array.getElem?_replicate]
  split<;>rfl
 refine⟨by simp,⟨fun i _ hi=>absurd hi (by rw[hrep];exact Bool.false_ne_true),.inl ⟨fun j _ _=>hrep j,?_⟩⟩⟩;have e0:AU (fun x=>(Array.replicate ops.size false).getD x false) 0 (l.take k) vs tm=tm:=by
  have:∀(l:List SO) (vs tm:List AV) (j:Nat),AU (fun x=>(Array.replicate ops.size false).getD x false) j l vs tm=tm:=by
   intro l
   induction l with
   | nil=>intro vs tm j;cases vs<;>rfl
   | cons o l ih=>
    intro vs tm j
    cases vs with
    | nil=>rfl
    | cons v vs=>
     simp only[AU];rw[if_neg (by rw[hrep];exact Bool.false_ne_true)];exact ih vs tm (j+1)
  exact this _ _ _ _
 rw[e0,Jp _ _ _ _ _ (fun j _ _ _=>hrep _)];obtain⟨G,I,h1,h2,h3,h4⟩:=hr;exact⟨G,I,⟨h1.os,h1.tape,h1.output,h1.size,h1.block,h1.imm,h1.news,h1.blk,h1.gh⟩,⟨h2.imm,h2.box,h2.row,h2.map,h2.inj,h2.lt,h2.apart,h2.fresh⟩,h3,h4⟩
theorem KG:∀(l x:List SO) (o:List OB) (t:List AV) (F:List OB->List AV->Prop),Aq P (l++x) o t F=Aq P l o t fun o t=>Aq P x o t F
 | [],x,o,t,F=>rfl
 | ⟨d,op,none⟩::l,x,o,t,F=>by simp only[qt,Aq,KG l x]
 | ⟨d,op,some (g,w)⟩::l,x,o,t,F=>by simp only[qt,Aq,KG l x]
theorem Vp (id:Nat) (ops:Array Oper) (l0 l:List SO) (hl:ops.toList.mapM (Db P ops.toList)=some l0) (hlp:l=l0\/l=l0.map SO.toP\/l=l0.map SO.toQ\/l=l0.map SO.toR) (k:Nat) (hok:Kl l (ops.toList.map AG) (Bc (ops.toList.map AG)) k=true) (hm:P.follows .mixedOrders=true) {objs:List OB} {tm:List AV}
  (h:Br P (l.take k) objs tm (fun o t=>CD (Dh l (Bc (ops.toList.map AG)) k) t/\Aq P (l.drop k) o t (fun o t=>K .normal o t))):∀a w,CU C objs tm a w->(Code.region id ops true).wp P (CV C K) a w:=by
 obtain⟨hlen0,hget0⟩:=GC _ _ _ hl;have hlen:ops.size=l.length:=by
  rw[<-Array.length_toList];rcases hlp with rfl|rfl|rfl|rfl
  ·exact hlen0
  ·rw[qn];exact hlen0
  ·rw[qn];exact hlen0
  ·rw[qn];exact hlen0
 unfold Kl at hok;simp only[Bool.and_eq_true] at hok;obtain⟨⟨⟨⟨⟨⟨q1,q2⟩,q3⟩,q4⟩,q5⟩,q6⟩,q7⟩:=hok;have hk:k<=l.length:=of_decide_eq_true q1;have q6':=q6;simp only[zl,qh,Bool.or_eq_true,decide_eq_true_eq,jb] at q6';have hpre:D1 l (ops.toList.map AG) (Bc (ops.toList.map AG)) k=true:=by
  unfold D1;simp only[Bool.and_eq_true];refine⟨⟨⟨⟨⟨⟨q1,q2⟩,q3⟩,q4⟩,q5⟩,?_⟩,q7⟩;simp only[zl,qh,Bool.or_eq_true,decide_eq_true_eq,jb];intro j hj;rcases q6' j hj with h0|h0
  ·exact .inl h0
  ·by_cases hjk:j<k
   ·exact .inl hjk
   ·exact .inr fun i hi=>h0 i (by omega)
 refine IA id ops l0 l hl hlp k hpre hm (fun listed o t=>∃i,k<=i/\i<=l.length/\(∀j,j<i->listed.getD j false=true)/\(∀j,i<=j->j<l.length->listed.getD j false=false)/\Aq P (l.drop i) o t fun o t=>K .normal o t) (fun o t=>Aq P (l.drop k) o t fun o t=>K .normal o t) ?_ ?_ ?_ h
 ·exact fun listed o t hs h1 h2 hw=>⟨k,zd _,hk,h1,fun j hj hjl=>h2 j hj (by omega),hw⟩
 ·rintro listed o t i so hs hso hki hi hun hanc ⟨i',h1,h2,h3,h4,hw⟩;have hil:i<l.length:=by omega
  obtain rfl:i'=i:=by
   rcases Nat.lt_trichotomy i' i with c|c|c
   ·rcases q6' i hil with h0|h0
    ·omega
    ·have:=hanc i' (h0 i' c);rw[h4 i' (zd _) (by omega)] at this
     cases this
   ·exact c
   ·rw[h3 i c] at hun;cases hun
  have hset:∀j,(listed.setIfInBounds i' true).getD j false=if j=i' then true else listed.getD j false:=fun j=>F3 listed i' j false (by omega)
  have e:(fun (o2:List OB) (t2:List AV)=>∃i,k<=i/\i<=l.length/\(∀j,j<i->(listed.setIfInBounds i' true).getD j false=true)/\(∀j,i<=j->j<l.length->(listed.setIfInBounds i' true).getD j false=false)/\Aq P (l.drop i) o2 t2 fun o t=>K .normal o t)=fun o2 t2=>Aq P (l.drop (i'+1)) o2 t2 fun o t=>K .normal o t:=by
   funext o2 t2
   refine propext ⟨?_,fun hw=>⟨i'+1,by omega,by omega,fun j hj=>?_,fun j hj hjl=>?_,hw⟩⟩
   ·rintro⟨a,a1,a2,a3,a4,a5⟩;obtain rfl:a=i'+1:=by
     rcases Nat.lt_trichotomy a (i'+1) with c|c|c
     ·have:=a4 i' (by omega) hil;rw[hset,if_pos rfl] at this
      cases this
     ·exact c
     ·have:=a3 (i'+1) c;rw[hset,if_neg (by omega),h4 (i'+1) (by omega) (by omega)] at this
      cases this
    exact a5
   ·rw[hset]
    split
    ·rfl
    ·exact h3 j (by omega)
   ·rw[hset,if_neg (by omega)];exact h4 j (by omega) hjl
  rw[e];obtain⟨hlt,rfl⟩:=ja.1 hso;rw[jv hlt] at hw;have hw2:Aq P ([l[i']]++l.drop (i'+1)) o t fun o t=>K .normal o t:=hw;rw[KG] at hw2;exact hw2
 ·rintro listed o t hs hall ⟨i,h1,h2,h3,h4,hw⟩;obtain rfl:i=l.length:=by
   rcases Nat.eq_or_lt_of_le h2 with c|c
   ·exact c
   ·have:=h4 i (zd _) c;rw[hall i (by omega)] at this
    cases this
  rw[List.drop_length] at hw;exact hw
theorem X6 (id:Nat) (ops:Array Oper) (l0 l:List SO) (hl:ops.toList.mapM (Db P ops.toList)=some l0) (hlp:l=l0\/l=l0.map SO.toP\/l=l0.map SO.toQ\/l=l0.map SO.toR) (k:Nat) (hok:D1 l (ops.toList.map AG) (Bc (ops.toList.map AG)) k=true) (hm:P.follows .mixedOrders=true) {objs:List OB} {tm:List AV} (T:Array Bool->List OB->List AV->Prop) (Kf:List OB->List AV->Prop)
  (hT0:∀(listed:Array Bool) (o:List OB) (t:List AV),listed.size=ops.size->(∀j,j<k->listed.getD j false=true)->(∀j,k<=j->j<ops.size->listed.getD j false=false)->Aq P (l.drop k) o t Kf->T listed o t)
  (hTs:∀(listed:Array Bool) (o:List OB) (t:List AV) (i:Nat) (so:SO),listed.size=ops.size->l[i]? = some so->k<=i->i<ops.size->listed.getD i false=false->(∀j∈(Bc (ops.toList.map AG)).getD i [],listed.getD j false=true)->T listed o t->Aq P [so] o t (fun o2 t2=>T (listed.setIfInBounds i true) o2 t2))
  (hTf:∀(listed:Array Bool) (o:List OB) (t:List AV),listed.size=ops.size->(∀j,j<ops.size->listed.getD j false=true)->T listed o t->K .normal o t)
  (h:Br P (l.take k) objs tm (fun o t=>CD (Dh l (Bc (ops.toList.map AG)) k) t/\Aq P (l.drop k) o t Kf)):∀a w,CU C objs tm a w->(Code.region id ops true).wp P (CV C K) a w :=
 IA id ops l0 l hl hlp k hok hm T (fun o t=>Aq P (l.drop k) o t Kf) hT0 hTs hTf h
def GQ (d x y v:Nat) (so:SO):Bool:=match so with
 | ⟨some q,.nck (.t a),none⟩=>(decide (q≠d)&&decide (q≠x)&&decide (q≠y)&&decide (q≠v))&&decide (a≠d)
 | ⟨some q,.fad _ (.t a),none⟩=>(decide (q≠d)&&decide (q≠x)&&decide (q≠y)&&decide (q≠v))&&decide (a≠d)
 | _=>false
def IY (l:List SO) (k:Nat):Option (Nat×Nat):=match l.drop k with
 | ⟨some d,.iad _ (.t x) (.t y),none⟩::⟨none,.store _ (.t d') (.t v),none⟩::rest=>match rest.reverse with
  | ⟨none,.store _ (.t e) (.t u),none⟩::rB=>if (d=d'/\e≠d/\u≠d/\v≠d/\x≠d/\y≠d)/\rB.all (GQ d x y v)=true then some (d,e) else none
  | _=>none
 | _=>none
def Px (anc:List (List Nat)) (k n:Nat):Bool :=
 (anc.getD (k+1) []).contains k&&(zi n).all fun j=>decide (j<k+2)||(zi j).all fun i=>decide (i<k+2)||(anc.getD j []).contains i
def Ko (l:List SO) (deps anc:List (List Nat)) (k:Nat):Bool :=
 D1 l deps anc k&&(Dh l anc k).isEmpty&&Px anc k l.length&&(l.drop k).all (fun o=>!o.op.isCall)
theorem Yf {l:List SO} {k d e:Nat} (h:IY l k=some (d,e)):∃(sz x y sz' v s1 u:Nat) (Bs:List SO),
  l=l.take k++⟨some d,.iad sz (.t x) (.t y),none⟩::⟨none,.store sz' (.t d) (.t v),none⟩::(Bs++[⟨none,.store s1 (.t e) (.t u),none⟩])/\e≠d/\u≠d/\v≠d/\x≠d/\y≠d/\∀so∈Bs,GQ d x y v so=true:=by
 unfold IY at h
 split at h
 ·rename_i d0 sz x y sz' d' v rest hl
  split at h
  ·rename_i s1 e0 u rB hr
   split at h
   ·rename_i hc;injection h with h;injection h with h1 h2
    subst h1 h2;obtain⟨⟨rfl,c2,c3,c4,c5,c6⟩,c7⟩:=hc;refine⟨sz,x,y,sz',v,s1,u,rB.reverse,?_,c2,c3,c4,c5,c6,fun so hso=>zl.1 c7 so (List.mem_reverse.1 hso)⟩;have hrest:rest=rB.reverse++[⟨none,.store s1 (.t e0) (.t u),none⟩]:=by
     have:=congrArg List.reverse hr;simpa using this
    rw[<-hrest,<-hl,jp]
   ·cases h
  ·cases h
 ·cases h
section
variable (P)
def rF (l:List SO) (d e:Nat) (Kf:List OB->List AV->Prop) (b:Nat) (o:List OB) (t:List AV):Prop:=Aq P (l.drop b) o t fun o t=>Fo t[d]? t[e]?/\Kf o t
end
def pQ (P:Program) [Tabs P] (l:List SO) (d e x y v sz sz':Nat) (Kf:List OB->List AV->Prop) (dn:Bool) (b:Nat) (o:List OB) (t:List AV):Prop :=
 ∃(bi g E n:Nat) (xs:List AV) (ik:IntKind) (m:Int) (yv:AV),o[bi]? = some (.orow E sz g n xs)/\t[v]? = some yv/\(yv.flat=true/\yv.cells.length=sz'/\m.toNat*sz+sz'<=xs.length)/\d<t.length /\
  (dn=true->t[d]? = some (.porow bi g (m.toNat*sz)))/\(dn=false->t[x]? = some (.orow bi g)/\t[y]? = some (.i ik m)/\0<=m/\m<n) /\
  rF P l d e Kf b (o.set bi (.orow E sz g n (CA xs (m.toNat*sz) yv.cells))) (t.set d (.porow bi g (m.toNat*sz)))
theorem RH {α:Type} (l:List α) (i j:Nat) (a b:α) (h:i≠j):(l.set i a).set j b=(l.set j b).set i a:=List.set_comm a b h
theorem getD_some {o:Option AV} {x:AV} (h:o.getD .u=x) (hx:x≠.u):o=some x:=by
 cases o with
 | none=>exact absurd h.symm hx
 | some z=>exact congrArg some h
theorem kT {l:List SO} {d e x y v sz sz':Nat} {Kf:List OB->List AV->Prop} {dn:Bool} {b:Nat} {o:List OB} {t:List AV} {so:SO} (hl:l.drop b=so::l.drop (b+1)) (hso:GQ d x y v so=true) (h:pQ P l d e x y v sz sz' Kf dn b o t) :
  Aq P [so] o t fun o2 t2=>pQ P l d e x y v sz sz' Kf dn (b+1) o2 t2:=by
 obtain⟨bi,g,E,n,xs,ik,m,yv,h1,h2,h3,h4,h5,h6,h7⟩:=h;unfold rF at h7;rw[hl] at h7;have fin:∀(q:Nat) (w:AV),q≠d->q≠x->q≠y->q≠v->rF P l d e Kf (b+1) (o.set bi (.orow E sz g n (CA xs (m.toNat*sz) yv.cells))) ((t.set d (.porow bi g (m.toNat*sz))).set q w)->pQ P l d e x y v sz sz' Kf dn (b+1) o (t.set q w):=by
  intro q w q1 q2 q3 q4 hr;refine⟨bi,g,E,n,xs,ik,m,yv,h1,by rw[zp q4];exact h2,h3,by rw[zh];exact h4,fun hd=>by rw[zp q1];exact h5 hd,fun hd=>by rw[zp q2,zp q3];exact h6 hd,?_⟩;rw[RH _ _ _ _ _ q1];exact hr
 unfold GQ at hso
 split at hso
 ·rename_i q a;simp only[Bool.and_eq_true,decide_eq_true_eq] at hso;obtain⟨⟨⟨⟨q1,q2⟩,q3⟩,q4⟩,qa⟩:=hso;simp only[Aq,Ah,SV.ev,zp (Ne.symm qa)] at h7 ⊢
  revert h7
  split
  all_goals first|exact fun h=>h.elim|exact fun h=>fin q _ q1 q2 q3 q4 h
 ·rename_i q off a;simp only[Bool.and_eq_true,decide_eq_true_eq] at hso;obtain⟨⟨⟨⟨q1,q2⟩,q3⟩,q4⟩,qa⟩:=hso;simp only[Aq,Ah,SV.ev,zp (Ne.symm qa)] at h7 ⊢
  revert h7
  split
  all_goals first|exact fun h=>h.elim|exact fun h=>fin q _ q1 q2 q3 q4 h
 ·cases hso
theorem kU {l:List SO} {d e x y v sz sz' s1 u:Nat} {Kf:List OB->List AV->Prop} {dn:Bool} {b:Nat} {o:List OB} {t:List AV} (he:e≠d) (hu:u≠d) (hl:l.drop b=[⟨none,.store s1 (.t e) (.t u),none⟩]) (hl2:l.drop (b+1)=[]) (h:pQ P l d e x y v sz sz' Kf dn b o t) :
  Aq P [⟨none,.store s1 (.t e) (.t u),none⟩] o t fun o2 t2=>pQ P l d e x y v sz sz' Kf dn (b+1) o2 t2:=by
 obtain⟨bi,g,E,n,xs,ik,m,yv,h1,h2,h3,h4,h5,h6,h7⟩:=h;unfold rF at h7;rw[hl] at h7;have fin:∀(b0:Nat) (Y:OB),¬bi=b0->(Fo (t.set d (.porow bi g (m.toNat*sz)))[d]? (t.set d (.porow bi g (m.toNat*sz)))[e]?/\Kf ((o.set bi (.orow E sz g n (CA xs (m.toNat*sz) yv.cells))).set b0 Y) (t.set d (.porow bi g (m.toNat*sz))))->pQ P l d e x y v sz sz' Kf dn (b+1) (o.set b0 Y) t:=by
  intro b0 Y hb hr;refine⟨bi,g,E,n,xs,ik,m,yv,by rw[zp (fun h=>hb h.symm)];exact h1,h2,h3,h4,h5,h6,?_⟩;unfold rF;rw[hl2,RH _ _ _ _ _ (fun h=>hb h.symm)];exact hr
 have hd:(t.set d (.porow bi g (m.toNat*sz)))[d]? = some (.porow bi g (m.toNat*sz)):=qc h4;have hte:(t.set d (.porow bi g (m.toNat*sz)))[e]? = t[e]?:=zp (Ne.symm he);simp only[Aq,Ah,SV.ev,AJ,zp (Ne.symm he),zp (Ne.symm hu)] at h7 ⊢
 revert h7
 split
 ·rename_i b0 off hp;have hp':=getD_some hp (by intro h;cases h);have key:∀{q:Prop},(Fo (t.set d (.porow bi g (m.toNat*sz)))[d]? t[e]?/\q)->¬bi=b0:=by
   intro q hq;rw[hd,hp'] at hq;exact hq.1
  split
  ·rename_i T cs hb;rintro⟨c1,c2⟩;have hne:=key c2;rw[zp hne] at hb;rw[hb];exact⟨c1,fin b0 _ hne (by rw[hte];exact c2)⟩
  ·exact fun h=>h.elim
 ·rename_i b0 g0 j0 hp;have hp':=getD_some hp (by intro h;cases h);have key:∀{q:Prop},(Fo (t.set d (.porow bi g (m.toNat*sz)))[d]? t[e]?/\q)->¬bi=b0:=by
   intro q hq;rw[hd,hp'] at hq;exact hq.1
  split
  ·rename_i E0 s0 g1 n0 xs0 hb;rintro⟨c1,c2⟩;have hne:=key c2;rw[zp hne] at hb;rw[hb];exact⟨c1,fin b0 _ hne (by rw[hte];exact c2)⟩
  ·exact fun h=>h.elim
 ·exact fun h=>h.elim
theorem JB {d x y v:Nat} {so:SO} {o:List OB} {t:List AV} {F F':List OB->List AV->Prop} (hk:∀o t,F o t->F' o t) (hso:GQ d x y v so=true\/∃s1 e u,so=⟨none,.store s1 (.t e) (.t u),none⟩) (h:Aq P [so] o t F):Aq P [so] o t F':=by
 rcases hso with hso|⟨s1,e,u,rfl⟩
 ·unfold GQ at hso
  split at hso
  ·simp only[Aq,Ah] at h ⊢
   revert h
   split
   all_goals first|exact fun h=>h.elim|exact fun h=>hk _ _ h
  ·simp only[Aq,Ah] at h ⊢
   revert h
   split
   all_goals first|exact fun h=>h.elim|exact fun h=>hk _ _ h
  ·cases hso
 ·simp only[Aq,Ah] at h ⊢
  revert h
  split
  ·split
   ·exact fun h=>⟨h.1,hk _ _ h.2⟩
   ·exact fun h=>h.elim
  ·split
   ·exact fun h=>⟨h.1,hk _ _ h.2⟩
   ·exact fun h=>h.elim
  ·exact fun h=>h.elim
theorem ME:∀(a b:List SO) (objs:List OB) (tm:List AV) (F:List OB->List AV->Prop),Br P (a++b) objs tm F=Br P a objs tm (fun o t=>Br P b o t F)
 | [],b,objs,tm,F=>rfl
 | ⟨dst,op,none⟩::a,b,objs,tm,F=>by
  simp only[qt,Br,ME a b]
 | ⟨dst,op,some (t,want)⟩::a,b,objs,tm,F=>by
  simp only[qt,Br,ME a b]
theorem Mb:∀(b:List SO) (objs:List OB) (tm:List AV) (F:List OB->List AV->Prop),b.all (fun o=>!o.op.isCall)=true->Br P b objs tm F=Aq P b objs tm F
 | [],objs,tm,F,h=>rfl
 | ⟨dst,op,none⟩::a,objs,tm,F,h=>by
  rw[je,Bool.and_eq_true,Bool.not_eq_true'] at h;have h1:¬op.isCall=true:=by rw[show op.isCall=false from h.1];exact Bool.false_ne_true
  simp only[Br,Aq,if_neg h1,fun o t=>Mb a o t F h.2]
 | ⟨dst,op,some (t,want)⟩::a,objs,tm,F,h=>by
  rw[je,Bool.and_eq_true,Bool.not_eq_true'] at h;have h1:¬op.isCall=true:=by rw[show op.isCall=false from h.1];exact Bool.false_ne_true
  simp only[Br,Aq,if_neg h1,fun o t=>Mb a o t F h.2]
  all_goals (cases (tm[t]?).getD .u<;>first|rfl|(rename_i v;cases v<;>rfl))
theorem WI (id:Nat) (ops:Array Oper) (l:List SO) (hl:ops.toList.mapM (Db P ops.toList)=some l) (k d e:Nat) (hok:Ko l (ops.toList.map AG) (Bc (ops.toList.map AG)) k=true) (hf:IY l k=some (d,e)) (hm:P.follows .mixedOrders=true) {objs:List OB} {tm:List AV}
  (h:Br P (l.take l.length) objs tm (fun o t=>CD [(d,e+1000000,none)] t/\Aq P (l.drop l.length) o t fun o t=>K .normal o t)):∀a w,CU C objs tm a w->(Code.region id ops true).wp P (CV C K) a w:=by
 obtain⟨sz,x,y,sz',v,s1,u,Bs,hdec,he,hu,hv,hx,hy,hB⟩:=Yf hf;have hnl:ops.size=l.length:=by
  have:=(GC _ _ _ hl).1;simpa using this
 unfold Ko at hok;simp only[Bool.and_eq_true] at hok;obtain⟨⟨⟨hpre,hap⟩,hanc⟩,hcalls⟩:=hok;have hk:k<=l.length:=by
  unfold D1 at hpre;simp only[Bool.and_eq_true,decide_eq_true_eq] at hpre;exact hpre.1.1.1.1.1.1
 have hap:Dh l (Bc (ops.toList.map AG)) k=[]:=List.isEmpty_iff.1 hap;have htk:(l.take k).length=k:=by rw[zg];omega
 have hdk:l.drop k=⟨some d,.iad sz (.t x) (.t y),none⟩::⟨none,.store sz' (.t d) (.t v),none⟩::(Bs++[⟨none,.store s1 (.t e) (.t u),none⟩]):=by
  have:=jp k l;rw[hdec] at this;rw[List.take_append_of_le_length (by rw[htk];exact zd _),List.take_take,Nat.min_self] at this;have h2:=List.append_cancel_left this;rw[<-hdec] at h2;exact h2
 have hlen:l.length=k+2+Bs.length+1:=by
  have:=congrArg List.length hdk;rw[List.length_drop] at this;simp only[List.length_cons,List.length_append,List.length_nil] at this;omega
 have hd2:l.drop (k+2)=Bs++[⟨none,.store s1 (.t e) (.t u),none⟩]:=by
  rw[<-List.drop_drop,hdk];rfl
 have hat:∀i so,l[i]? = some so->l.drop i=so::l.drop (i+1):=fun i so hi=>by
  obtain⟨h1,h2⟩:=ja.1 hi;rw[jv h1,h2]
 have hBat:∀i so,l[i]? = some so->k+2<=i->(so∈Bs)\/(so=⟨none,.store s1 (.t e) (.t u),none⟩/\i+1=l.length):=by
  intro i so hi hki;have h1:(l.drop (k+2))[i - (k+2)]? = some so:=by rw[jt,show k+2+(i - (k+2))=i by omega];exact hi
  rw[hd2] at h1;rcases zo (i - (k+2)) Bs.length with h2|h2
  ·rw[qq h2] at h1;exact .inl (List.mem_of_getElem? h1)
  ·rw[List.getElem?_append_right h2] at h1;have hlt:=(ja.1 hi).1;rw[show i - (k+2) - Bs.length=0 by omega] at h1;simp only[List.getElem?_cons_zero,zw.injEq] at h1;exact .inr ⟨h1.symm,by omega⟩
 rw[List.take_length,List.drop_length] at h
 let Kf:List OB->List AV->Prop:=fun o t=>K .normal o t
 have h':Br P (l.take k) objs tm (fun o t=>CD (Dh l (Bc (ops.toList.map AG)) k) t/\Aq P (l.drop k) o t (fun o t=>Fo t[d]? t[e]?/\Kf o t)):=by
  have h0:=h;rw[<-jp k l,ME] at h0;have hR:∀o t,Br P (l.drop k) o t (fun o t=>CD [(d,e+1000000,none)] t/\Aq P [] o t fun o t=>K .normal o t)=(CD (Dh l (Bc (ops.toList.map AG)) k) t/\Aq P (l.drop k) o t (fun o t=>Fo t[d]? t[e]?/\Kf o t)):=by
   intro o t;rw[Mb _ _ _ _ hcalls,hap];have hz:∀o t,(CD [(d,e+1000000,none)] t/\Aq P [] o t fun o t=>K .normal o t)=(Fo t[d]? t[e]?/\Kf o t):=by
    intro o t;simp only[CD,Aq,if_neg (show ¬e+1000000<1000000 by omega),Nat.add_sub_cancel,and_true]
    rfl
   rw[show (fun o t=>CD [(d,e+1000000,none)] t/\Aq P [] o t fun o t=>K .normal o t)=(fun o t=>Fo t[d]? t[e]?/\Kf o t) from funext fun o=>funext fun t=>hz o t];simp only[CD,true_and]
  simpa only[hR] using h0
 refine X6 id ops l l hl (.inl rfl) k hpre hm (fun listed o t=>∃st b,st<=2/\k+2<=b/\b<=l.length/\(∀j,k<=j->j<l.length->listed.getD j false=decide (j<k+st\/(k+2<=j/\j<b)))/\(st=0->pQ P l d e x y v sz sz' Kf false b o t)/\(st=1->pQ P l d e x y v sz sz' Kf true b o t)/\(st=2->rF P l d e Kf b o t)) _ ?_ ?_ ?_ h'
 ·intro listed o t hs h1 h2 hw;refine⟨0,k+2,by omega,zd _,by omega,fun j hj hjn=>?_,fun _=>?_,(fun h=>by cases h),(fun h=>by cases h)⟩
  ·rw[h2 j hj (by omega)]
   symm
   exact decide_eq_false (by omega)
  ·rw[hdk] at hw;simp only[Aq] at hw;rw[show Ah P (.iad sz (.t x) (.t y)) o t=fun K=>match (SV.t x).ev t,(SV.t y).ev t with
    | .row n xs,.i _ i=>(0<=i/\i<n/\n*sz<=xs.length)/\K o (.prow xs (i.toNat*sz))
    | .orow b gen,.i _ i=>match o[b]? with
     | some (.orow _ s gen' n _)=>(gen'=gen/\s=sz/\0<=i/\i<n)/\K o (.porow b gen (i.toNat*sz))
     | _=>False
    | _,_=>False from rfl] at hw
   have noset:∀p:AV,(∀b g j,p≠.porow b g j)->(∀b j,p≠.p b j)->∀F,¬Ah P (.store sz' (.t d) (.t v)) o (t.set d p) F:=by
    intro p hp hp2 F hF;simp only[Ah,SV.ev] at hF;rcases zo d t.length with hlt|hge
    ·rw[qc hlt,jc] at hF
     cases p<;>first|exact hF|exact hp _ _ _ rfl|exact hp2 _ _ rfl
    ·rw[qi (by rw[zh];exact hge)] at hF;exact hF
   split at hw
   ·exact absurd hw.2 (noset _ (by intro _ _ _ h;cases h) (by intro _ _ h;cases h) _)
   ·rename_i bi g ik m hxv hyv
    split at hw
    ·rename_i E s g' n xs hb;obtain⟨⟨rfl,rfl,c3,c4⟩,hw⟩:=hw;simp only[Ah,SV.ev,AJ] at hw;have hdl:d<t.length:=by
      rcases zo d t.length with hlt|hge
      ·exact hlt
      ·exfalso;rw[qi (by rw[zh];exact hge)] at hw;exact hw
     rw[qc hdl,jc] at hw;simp only[hb,zp (Ne.symm hv)] at hw;obtain⟨⟨_,q1,q2,q3⟩,hw⟩:=hw;have hxs:t[x]? = some (.orow bi g'):=getD_some hxv (by intro h;cases h);have hys:t[y]? = some (.i ik m):=getD_some hyv (by intro h;cases h);obtain⟨yv,hyv2⟩:∃yv,t[v]? = some yv:=by
      cases hq:t[v]? with
      | none=>rw[hq] at q1;cases q1
      | some z=>exact⟨z,rfl⟩
     rw[hyv2,jc] at q1 q2 hw;refine⟨bi,g',E,n,xs,ik,m,yv,hb,hyv2,⟨q1,q2,q3⟩,hdl,(fun h=>by cases h),fun _=>⟨hxs,hys,c3,c4⟩,?_⟩;unfold rF;rw[hd2];exact hw
    ·exact hw.elim
   ·exact hw.elim
 ·intro listed o t i so hs hi hki hin hun hanci hT;obtain⟨st,b,hst,hb1,hb2,hlist,t0,t1,t2⟩:=hT;have hset:∀j,(listed.setIfInBounds i true).getD j false=if j=i then true else listed.getD j false:=fun j=>F3 listed i j false (by omega)
  have hui:=hlist i hki (by omega);rw[hun] at hui;have hui:¬(i<k+st\/(k+2<=i/\i<b)):=of_decide_eq_false hui.symm;unfold Px at hanc;rw[Bool.and_eq_true] at hanc;obtain⟨ha1,ha2⟩:=hanc
  by_cases ck:i=k
  ·subst ck;have hst0:st=0:=by omega
   subst hst0;obtain⟨bi,g,E,n,xs,ik,m,yv,h1,h2,h3,h4,h5,h6,h7⟩:=t0 rfl;obtain⟨hx1,hy1,hm1,hm2⟩:=h6 rfl;have hso:so=⟨some d,.iad sz (.t x) (.t y),none⟩:=by
    have:=hat i so hi;rw[hdk] at this;exact(List.cons.inj this).1.symm
   subst hso;simp only[Aq,Ah,SV.ev,hx1,hy1,jc,h1,AJ];refine⟨⟨trivial,trivial,hm1,hm2⟩,1,b,by omega,hb1,hb2,fun j hj hjn=>?_,(fun h=>by cases h),fun _=>?_,(fun h=>by cases h)⟩
   ·rw[hset]
    split
    ·rename_i e1;symm;exact decide_eq_true (by omega)
    ·rw[hlist j hj hjn];congr 1;apply propext;omega
   ·refine⟨bi,g,E,n,xs,ik,m,yv,h1,by rw[zp (Ne.symm hv)];exact h2,h3,by rw[zh];exact h4,fun _=>qc h4,(fun h=>by cases h),?_⟩;rw[List.set_set];exact h7
  by_cases ck1:i=k+1
  ·subst ck1;have hk1:listed.getD k false=true:=hanci k (jb.1 ha1);rw[hlist k (zd _) (by omega)] at hk1;have hk1:=of_decide_eq_true hk1;have hst1:st=1:=by omega
   subst hst1;obtain⟨bi,g,E,n,xs,ik,m,yv,h1,h2,h3,h4,h5,h6,h7⟩:=t1 rfl;have hd1:=h5 rfl;have hso:so=⟨none,.store sz' (.t d) (.t v),none⟩:=by
    have:=hat (k+1) so hi;rw[<-List.drop_drop,hdk] at this;exact(List.cons.inj this).1.symm
   subst hso;simp only[Aq,Ah,SV.ev,hd1,h2,jc,h1,AJ];refine⟨⟨trivial,h3⟩,2,b,by omega,hb1,hb2,fun j hj hjn=>?_,(fun h=>by cases h),(fun h=>by cases h),fun _=>?_⟩
   ·rw[hset]
    split
    ·rename_i e1;symm;exact decide_eq_true (by omega)
    ·rw[hlist j hj hjn];congr 1;apply propext;omega
   ·rw[set_same hd1] at h7;exact h7
  have hi2:k+2<=i:=by omega
  have hib:i=b:=by
   rcases zo b i with h0|h0
   ·exfalso;have h1:=zl.1 ha2 i (qh.2 (by omega));simp only[Bool.or_eq_true,decide_eq_true_eq,zl,qh,jb] at h1;rcases h1 with h1|h1
    ·omega
    ·rcases h1 b h0 with h2|h2
     ·omega
     ·have h3:=hanci b h2;rw[hlist b (by omega) (by omega)] at h3;have:=of_decide_eq_true h3;omega
   ·omega
  subst hib;have hdi:=hat i so hi;have hlist':∀j,k<=j->j<l.length->(listed.setIfInBounds i true).getD j false=decide (j<k+st\/(k+2<=j/\j<i+1)):=by
   intro j hj hjn;rw[hset]
   split
   ·rename_i e1;symm;exact decide_eq_true (by omega)
   ·rw[hlist j hj hjn];congr 1;apply propext;omega
  have goPQ:∀dn,pQ P l d e x y v sz sz' Kf dn i o t->Aq P [so] o t fun o2 t2=>pQ P l d e x y v sz sz' Kf dn (i+1) o2 t2:=by
   intro dn hq;rcases hBat i so hi hi2 with hmem|⟨rfl,hlast⟩
   ·exact kT hdi (hB so hmem) hq
   ·have hnil:l.drop (i+1)=[]:=List.drop_eq_nil_of_le (by omega);rw[hnil] at hdi;exact kU he hu hdi hnil hq
  have hnone:GQ d x y v so=true\/∃s1 e u,so=⟨none,.store s1 (.t e) (.t u),none⟩:=by
   rcases hBat i so hi hi2 with hmem|⟨rfl,_⟩
   ·exact .inl (hB so hmem)
   ·exact .inr ⟨_,_,_,rfl⟩
  have hst3:st=0\/st=1\/st=2:=by omega
  rcases hst3 with rfl|rfl|rfl
  ·refine JB (fun o2 t2 hq=>⟨0,i+1,by omega,by omega,by omega,hlist',fun _=>hq,(fun h=>by cases h),(fun h=>by cases h)⟩) hnone (goPQ false (t0 rfl))
  ·refine JB (fun o2 t2 hq=>⟨1,i+1,by omega,by omega,by omega,hlist',(fun h=>by cases h),fun _=>hq,(fun h=>by cases h)⟩) hnone (goPQ true (t1 rfl))
  ·refine JB (fun o2 t2 hq=>⟨2,i+1,by omega,by omega,by omega,hlist',(fun h=>by cases h),(fun h=>by cases h),fun _=>hq⟩) hnone ?_;have h2:=t2 rfl;unfold rF at h2;rw[hdi] at h2;rcases hnone with hso|⟨s2,e2,u2,rfl⟩
   ·unfold GQ at hso
    split at hso
    ·exact h2
    ·exact h2
    ·cases hso
   ·exact h2
 ·intro listed o t hs hall hT;obtain⟨st,b,hst,hb1,hb2,hlist,t0,t1,t2⟩:=hT;have e1:=hlist (k+1) (by omega) (by omega);rw[hall (k+1) (by omega)] at e1;have e1:=of_decide_eq_true e1.symm;have hst2:st=2:=by omega
  subst hst2;have hbn:b=l.length:=by
   rcases zo b l.length with h0|h0
   ·have e2:=hlist b (by omega) h0;rw[hall b (by omega)] at e2;have e2:=of_decide_eq_true e2.symm;omega
   ·omega
  subst hbn;have h2:=t2 rfl;unfold rF at h2;rw[List.drop_length] at h2;exact h2.2
end
def Ev (o:SO):Bool:=o.op.calm&&!o.op.isCall&&o.gd.isNone&&o.dst.isSome
def L1 (o:SO):Bool:=o.op.isCall&&o.gd.isNone&&o.dst.isSome
def SOp.grows:SOp->Bool
 | .bslo .. | .app .. | .cappo ..=>true
 | _=>false
def CO (o:SO):Bool:=(o.op.isCall||o.op.grows)&&o.gd.isNone&&o.dst.isSome
def Av (l:List SO) (i:Nat):SO:=(l[i]?).getD ⟨none,.mv (.c .nil),none⟩
def B9 (anc:List (List Nat)) (i j:Nat):Bool:=(anc.getD i []).contains j
def BH (anc:List (List Nat)) (c i:Nat):Bool:=B9 anc i c
def Cm (anc:List (List Nat)) (c i:Nat):Bool:=!(i==c)&&!B9 anc i c
def BQ (n:Nat) (p:Nat->Bool) (l:List SO):List SO:=((zi n).filter p).map (Av l)
def Kb (l:List SO) (deps anc:List (List Nat)) (c:Nat):Bool :=
 (zi l.length).all (fun i=>(deps.getD i []).all (fun e=>decide (e<i))&&(anc.getD i []).all fun j=>(deps.getD i []).contains j||(deps.getD i []).any fun e=>(anc.getD e []).contains j) &&
 (zi l.length).all (fun i=>Az l i==none||(zi l.length).all fun j=>i==j||Az l j != Az l i) &&
 (zi l.length).all (fun i=>(Av l i).looks.all fun t=>(zi l.length).all fun j=>j==i||Az l j != some t||(anc.getD i []).contains j||(anc.getD j []).contains i) &&
 decide (c<l.length)&&L1 (Av l c) &&
 (zi l.length).all (fun i=>i==c||(if BH anc c i=true then
   !(Av l i).op.isCall&&(Av l i).gd.isNone&&(zi i).all (fun j=>!BH anc c j||B9 anc i j)&&((Av l i).op.calm||(zi l.length).all fun j=>!Cm anc c j||!(Av l j).op.touch||B9 anc i j)
  else Ev (Av l i))) &&
 (zi l.length).all (fun j=>(zi l.length).all fun i=>!B9 anc j i||!BH anc c i||BH anc c j)&&!B9 anc c c
section
variable {P:Program} [Tabs P]
theorem Ju {o:SO} (h:Ev o=true):∃d op,o=⟨some d,op,none⟩/\op.calm=true/\op.isCall=false:=by
 obtain⟨d,op,g⟩:=o;unfold Ev at h;simp only[Bool.and_eq_true,Bool.not_eq_true',Option.isNone_iff_eq_none,Option.isSome_iff_exists] at h;obtain⟨⟨⟨h1,h2⟩,h3⟩,d',h4⟩:=h;subst h3 h4;exact⟨d',op,rfl,h1,h2⟩
theorem XE {o:SO} (h:L1 o=true):∃d op,o=⟨some d,op,none⟩/\op.isCall=true:=by
 obtain⟨d,op,g⟩:=o;unfold L1 at h;simp only[Bool.and_eq_true,Option.isNone_iff_eq_none,Option.isSome_iff_exists] at h;obtain⟨⟨h1,h3⟩,d',h4⟩:=h;subst h3 h4;exact⟨d',op,rfl,h1⟩
theorem Pp {o:SO} (h:CO o=true):∃d op,o=⟨some d,op,none⟩/\(op.isCall||op.grows)=true:=by
 obtain⟨d,op,g⟩:=o;unfold CO at h;simp only[Bool.and_eq_true,Option.isNone_iff_eq_none,Option.isSome_iff_exists] at h;obtain⟨⟨h1,h3⟩,d',h4⟩:=h;subst h3 h4;exact⟨d',op,rfl,h1⟩
theorem Tu {so:SOp} (hc:so.isCall=true) {objs:List OB} {tm:List AV} {K K':List OB->AV->Prop} (hk:∀o v,K o v->K' o v) (h:Ah P so objs tm K):Ah P so objs tm K':=by
 cases so<;>simp only[SOp.isCall,reduceCtorEq] at hc<;>simp only[Ah] at h ⊢
 case call=>exact h.mono hk
 case pcall=>exact⟨h.1,h.2.mono fun o r h3=>⟨h3.1,hk _ _ h3.2⟩⟩
 case callv=>
  revert h
  split
  ·exact fun h=>⟨h.1,h.2.mono hk⟩
  ·exact fun h=>h.elim
 case inv=>
  revert h
  split
  ·split
   ·exact fun h=>h.mono hk
   ·exact fun h=>h.elim
  ·exact fun h=>h.elim
theorem PA {so:SOp} (hc:(so.isCall||so.grows)=true) {objs:List OB} {tm:List AV} {K K':List OB->AV->Prop} (hk:∀o v,K o v->K' o v) (h:Ah P so objs tm K):Ah P so objs tm K':=by
 by_cases h0:so.isCall=true
 ·exact Tu h0 hk h
 ·cases so<;>simp only[SOp.isCall,SOp.grows,reduceCtorEq,Bool.or_self,Bool.or_true,Bool.or_false,not_true_eq_false,Bool.false_eq_true] at hc h0<;>simp only[Ah] at h ⊢
  case bslo=>
   revert h;split
   ·exact fun h=>⟨h.1,hk _ _ h.2⟩
   ·exact fun h=>h.elim
  case app=>
   revert h;split
   ·split
    ·split
     ·exact fun h=>⟨h.1,hk _ _ h.2⟩
     ·exact fun h=>h.elim
    ·exact fun h=>⟨h.1,hk _ _ h.2⟩
    ·exact fun h=>h.elim
   ·exact fun h=>h.elim
  case cappo=>
   revert h;split
   ·exact fun h=>⟨h.1,hk _ _ h.2⟩
   ·exact fun h=>h.elim
theorem I5:∀(pre:List SO) (objs:List OB) (tm:List AV) (F:List OB->List AV->Prop),(∀so∈pre,Ev so=true)->(pre.map (·.dst)).Nodup->Aq P pre objs tm F ->
  ∃t1,F objs t1/\t1.length=tm.length/\(∀s,(∀so∈pre,so.dst≠some s)->t1[s]? = tm[s]?) /\
   ∀A so B,pre=A++so::B->∃ti v,Ah P so.op objs ti (fun o x=>o=objs/\x=v)/\(∀s,(∃a∈A,a.dst=some s)->ti[s]? = t1[s]?)/\(∀s,(∀a∈A,a.dst≠some s)->ti[s]? = tm[s]?)/\∀d,so.dst=some d->d<tm.length->t1[d]? = some v
 | [],objs,tm,F,_,_,h=>⟨tm,h,rfl,fun s _=>rfl,fun A so B e=>by cases A<;>cases e⟩
 | so::pre,objs,tm,F,hc,hn,h=>by
  obtain⟨d,op,rfl,c1,c2⟩:=Ju (hc so (by simp));rw[zu,List.nodup_cons] at hn;simp only[Aq] at h;obtain⟨v,h1,h2⟩:=Qm c1 c2 h;obtain⟨t1,k1,k2,k3,k4⟩:=I5 pre objs (tm.set d v) F (fun so hs=>hc so (qw _ hs)) hn.2 h2;have hd:∀so∈pre,so.dst≠some d:=fun so hs e=>hn.1 (by show some d∈_;rw[<-e];exact xv hs);refine⟨t1,k1,by rw[k2,zh],fun s hs=>?_,fun A so B e=>?_⟩
  ·rw[k3 s fun so h=>hs so (qw _ h)];have:d≠s:=fun e=>hs ⟨some d,op,none⟩ (by simp) (by rw[e]);exact zp this
  ·cases A with
   | nil=>
    rw[qm] at e;injection e with e1 e2
    subst e1;refine⟨tm,v,h1,(fun s ⟨a,ha,_⟩=>by cases ha),(fun s _=>rfl),fun d' e hl=>?_⟩;injection e with e
    subst e;rw[k3 d hd];exact qc hl
   | cons a A=>
    rw[qt] at e;injection e with e1 e2
    subst e1;obtain⟨ti,v',m1,m2,m3,m4⟩:=k4 A so B e2;refine⟨ti,v',m1,fun s ⟨a,ha,has⟩=>?_,fun s hs=>?_,fun d' e hl=>m4 d' e (by rw[zh];exact hl)⟩
    ·by_cases hA:∃a∈A,a.dst=some s
     ·exact m2 s hA
     ·have hA':∀a∈A,a.dst≠some s:=fun a ha e=>hA ⟨a,ha,e⟩;rcases zt.1 ha with rfl|ha
      ·injection has with has
       subst has;rw[m3 _ hA',k3 _ hd]
      ·exact absurd has (hA' a ha)
    ·rw[m3 s fun a ha=>hs a (qw _ ha)];have:d≠s:=fun e=>hs ⟨some d,op,none⟩ (by simp) (by rw[e]);exact zp this
def EH (l:List SO) (k:Nat) (listed:Array Bool) (t1 tm t:List AV):Prop :=
 t.length=tm.length/\(∀s j,j<k->listed.getD j false=true->Az l j=some s->t[s]? = t1[s]?)/\∀s,(∀j,j<k->listed.getD j false=true->Az l j≠some s)->t[s]? = tm[s]?
theorem EH.step {l:List SO} {k i d:Nat} {listed:Array Bool} {t1 tm t:List AV} {v:AV} (h:EH l k listed t1 tm t) (hi:i<k) (his:i<listed.size) (hd:Az l i=some d) (hdis:∀a b,a<k->b<k->a≠b->Az l a≠none->Az l a≠Az l b) (hu:listed.getD i false=false) (hv:d<tm.length->t1[d]? = some v) (hlen:t1.length=tm.length):EH l k (listed.setIfInBounds i true) t1 tm (t.set d v):=by
 obtain⟨h1,h2,h3⟩:=h;have hset:∀j,(listed.setIfInBounds i true).getD j false=if j=i then true else listed.getD j false:=fun j=>F3 listed i j false his
 refine⟨by rw[zh];exact h1,fun s j hj hl hs=>?_,fun s hs=>?_⟩
 ·by_cases e:s=d
  ·subst e
   by_cases hlt:s<t.length
   ·rw[qc hlt,hv (by omega)]
   ·rw[qi (by rw[zh];omega),qi (by omega)]
  ·rw[zp (Ne.symm e)];rw[hset] at hl
   split at hl
   ·rename_i e2;subst e2;rw[hd] at hs;injection hs with hs
    exact absurd hs.symm e
   ·exact h2 s j hj hl hs
 ·have e:¬d=s:=fun e=>hs i hi (by rw[hset,if_pos rfl]) (by rw[hd,e]);rw[zp e];refine h3 s fun j hj hl=>hs j hj ?_;rw[hset]
  split
  ·rfl
  ·exact hl
end
section
theorem Hm {n:Nat} {p:Nat->Bool} {l:List SO} {so:SO}:so∈BQ n p l↔∃i,i<n/\p i=true/\Av l i=so:=by
 unfold BQ;simp only[jd,jh,qh,and_assoc]
theorem NS {n i:Nat} {p:Nat->Bool} (l:List SO) (hi:i<n) (hp:p i=true):∃B:(Nat->Bool)->List SO,(∀q,q i=true->BQ n q l=BQ i q l++Av l i::B q)/\(∀q,q i=false->BQ n q l=BQ i q l++B q)/\∀q q',(∀j,i<j->q j=q' j)->B q=B q':=by
 obtain⟨m,rfl⟩:∃m,n=i+1+m:=⟨n - (i+1),by omega⟩;refine⟨fun q=>(((zi m).map (i+1+·)).filter q).map (Av l),fun q hq=>?_,fun q hq=>?_,fun q q' h=>?_⟩
 ·unfold BQ;rw[List.range_add,List.range_succ];simp[List.filter_append,hq]
 ·unfold BQ;rw[List.range_add,List.range_succ];simp[List.filter_append,hq]
 ·dsimp only
  congr 1
  refine List.filter_congr fun j hj=>h j ?_;obtain⟨x,_,rfl⟩:=jd.1 hj;omega
theorem Sb {n:Nat} {p q:Nat->Bool} (l:List SO) (h:∀i,i<n->p i=q i):BQ n p l=BQ n q l:=by
 unfold BQ
 congr 1
 exact List.filter_congr fun j hj=>h j (qh.1 hj)
theorem Nu {n:Nat} {p:Nat->Bool} (l:List SO) (h:∀i,i<n->p i=false):BQ n p l=[]:=by
 unfold BQ;rw[List.filter_eq_nil_iff.2 fun j hj=>by rw[h j (qh.1 hj)];exact Bool.false_ne_true]
 rfl
theorem Cy {l:List SO} {i:Nat} (hi:i<l.length):Az l i=(Av l i).dst:=by
 unfold Az Av;rw[zv hi];rfl
theorem K4 {l:List SO} {i:Nat} {so:SO} (h:l[i]? = some so):Av l i=so:=by
 unfold Av;rw[h];rfl
end
section
variable {P:Program} [Tabs P] {C:Cx} [On P C] {K:Bg}
theorem nW (id:Nat) (ops:Array Oper) (l:List SO) (hl:ops.toList.mapM (Db P ops.toList)=some l) (c:Nat) (hok:Kb l (ops.toList.map AG) (Bc (ops.toList.map AG)) c=true) (hm:P.follows .mixedOrders=true) {objs:List OB} {tm:List AV}
  (h:Aq P (BQ l.length (Cm (Bc (ops.toList.map AG)) c) l) objs tm fun _ t1=>Aq P [Av l c] objs t1 fun o2 t2=>Aq P (BQ l.length (Cm (Bc (ops.toList.map AG)) c) l) o2 tm (fun _ t=>t=t1)/\Aq P (BQ l.length (BH (Bc (ops.toList.map AG)) c) l) o2 t2 fun o t=>K .normal o t):∀a w,CU C objs tm a w->(Code.region id ops true).wp P (CV C K) a w:=by
 have hnl:ops.size=l.length:=by
  have:=(GC _ _ _ hl).1;simpa using this
 unfold Kb at hok;simp only[Bool.and_eq_true] at hok;obtain⟨⟨⟨⟨⟨⟨⟨hd1,hd2⟩,hd3⟩,hcl⟩,hcall⟩,hcls⟩,htr⟩,hcc⟩:=hok;have hpre:D1 l (ops.toList.map AG) (Bc (ops.toList.map AG)) 0=true:=by
  unfold D1;simp only[Bool.and_eq_true];exact⟨⟨⟨⟨⟨⟨by simp,hd1⟩,by simp⟩,by simp⟩,by simp⟩,by simp⟩,by simp[Hb]⟩
 have hap0:∀an,Dh l an 0=[]:=fun an=>by simp[Dh]
 simp only[Bool.and_eq_true,decide_eq_true_eq,zl,qh,Bool.or_eq_true,bne_iff_ne,ne_eq,beq_iff_eq,List.any_eq_true,jb] at hd1 hd2 hd3 hcl hcls htr;have hlen:ops.toList.length=l.length:=by simpa using hnl
 have hdep:∀i,i<ops.size->(∀e∈(ops.toList.map AG).getD i [],e<i)/\∀j∈(Bc (ops.toList.map AG)).getD i [],j∈(ops.toList.map AG).getD i []\/∃e∈(ops.toList.map AG).getD i [],j∈(Bc (ops.toList.map AG)).getD e []:=fun i hi=>hd1 i (by omega);have halt:=Mh (ops.toList.map AG) (Bc (ops.toList.map AG)) ops.size hdep;have hfin:=IA (P:=P) (C:=C) (K:=K) id ops l l hl (.inl rfl) 0 hpre hm (objs:=objs) (tm:=tm);generalize Bc (ops.toList.map AG)=anc at *;clear hd1 hdep hpre;have hdis:∀a b,a<l.length->b<l.length->a≠b->Az l a≠none->Az l a≠Az l b:=fun a b ha hb hab hn e=>by
  rcases hd2 a ha with h0|h0
  ·exact hn h0
  ·rcases h0 b hb with h1|h1
   ·exact hab h1
   ·exact h1 e.symm
 have only:∀s j j',j<l.length->j'<l.length->Az l j=some s->Az l j'=some s->j'=j:=by
  intro s j j' h1 h2 h3 h4
  by_cases e:j'=j
  ·exact e
  ·exact absurd (h4.trans h3.symm) (hdis j' j h2 h1 e (by rw[h4];simp))
 obtain⟨cd,cop,hce,hcop⟩:=XE hcall;have hcd:Az l c=some cd:=by rw[Cy hcl,hce]
 have hcc':¬c∈anc.getD c []:=fun g=>by
  have:=halt c (by omega) c g;omega
 have kind:∀i,i<l.length->i=c\/Cm anc c i=true\/BH anc c i=true:=by
  intro i hi;unfold Cm BH
  by_cases e:i=c
  ·exact .inl e
  ·right
   cases hq:B9 anc i c
   ·left;simp[e]
   ·right;rfl
 have preNe:∀i,Cm anc c i=true->i≠c/\BH anc c i=false:=by
  intro i hp;unfold Cm at hp;unfold BH;simpa using hp
 have postC:BH anc c c=false:=by
  unfold BH B9;simpa using hcc'
 have postNe:∀i,BH anc c i=true->i≠c:=fun i hp e=>by rw[e,postC] at hp;cases hp
 have hcalm:∀i,i<l.length->Cm anc c i=true->∃d op,Av l i=⟨some d,op,none⟩/\op.calm=true/\op.isCall=false:=by
  intro i hi hp;obtain⟨h1,h2⟩:=preNe i hp;rcases hcls i hi with h0|h0
  ·exact absurd h0 h1
  ·rw[if_neg (by rw[h2];exact Bool.false_ne_true)] at h0;exact Ju h0
 have FH:∀so∈BQ l.length (Cm anc c) l,Ev so=true:=by
  intro so hs;obtain⟨i,hi,hp,rfl⟩:=Hm.1 hs;obtain⟨h1,h2⟩:=preNe i hp;rcases hcls i hi with h0|h0
  ·exact absurd h0 h1
  ·rwa [if_neg (by rw[h2];exact Bool.false_ne_true)] at h0
 have hnd:((BQ l.length (Cm anc c) l).map (·.dst)).Nodup:=by
  unfold BQ;rw[List.map_map];have h0:((zi l.length).filter (Cm anc c)).Nodup:=List.nodup_range.sublist List.filter_sublist;refine List.Pairwise.map _ ?_ (List.Pairwise.and_mem.1 h0);rintro a b ⟨ha,hb,hab⟩ e;rw[jh,qh] at ha hb;obtain⟨d,op,e1,_⟩:=hcalm a ha.1 ha.2;refine hdis a b ha.1 hb.1 hab ?_ ?_
  ·rw[Cy ha.1,e1];simp
  ·rw[Cy ha.1,Cy hb.1];exact e
 obtain⟨t1,h1,hl1,ho1,hs1⟩:=I5 _ _ _ _ FH hnd h;rw[hce] at h1;simp only[Aq,AJ] at h1;have hout:∀s,(∀j,j<l.length->Cm anc c j=true->Az l j≠some s)->t1[s]? = tm[s]?:=fun s hs=>ho1 s fun so hso e=>by
  obtain⟨i,g1,g2,rfl⟩:=Hm.1 hso;exact hs i g1 g2 (by rw[Cy g1];exact e)
 have hcdp:t1[cd]? = tm[cd]?:=hout cd fun j hj hp e=>(preNe j hp).1 (only cd c j hcl hj hcd e);have agree:∀(listed:Array Bool) (x1 t:List AV) (i:Nat),i<l.length->listed.getD i false=false->(∀j∈anc.getD i [],listed.getD j false=true)->(∀j,j<l.length->listed.getD j false=true->∀e∈anc.getD j [],listed.getD e false=true)->EH l l.length listed x1 tm t ->
   ∀s∈(Av l i).looks,((∀j,j<l.length->Az l j=some s->listed.getD j false=true/\j∈anc.getD i []/\t[s]? = x1[s]?)\/(∃j,j<l.length/\Az l j=some s/\(j=i\/i∈anc.getD j [])/\listed.getD j false=false/\t[s]? = tm[s]?))/\((∀j,j<l.length->Az l j≠some s)->t[s]? = tm[s]?):=by
  intro listed x1 t i hi hun hanc hclo hmix s hs;refine⟨?_,fun hno=>hmix.2.2 s fun j g1 _=>hno j g1⟩
  by_cases hj:∃j,j<l.length/\Az l j=some s
  ·obtain⟨j,hj1,hj2⟩:=hj;have tmcase:listed.getD j false=false->t[s]? = tm[s]?:=fun hu=>
    hmix.2.2 s fun j' g1 g2 g3=>by rw[only s j j' hj1 g1 hj2 g3,hu] at g2;cases g2
   rcases hd3 i hi s hs j hj1 with ((g|g)|g)|g
   ·subst g;exact .inr ⟨j,hj1,hj2,.inl rfl,hun,tmcase hun⟩
   ·exact absurd hj2 g
   ·left;intro j' g1 g2;obtain rfl:=only s j j' hj1 g1 hj2 g2;exact⟨hanc _ g,g,hmix.2.1 s _ hj1 (hanc _ g) hj2⟩
   ·have hu:listed.getD j false=false:=by
     cases hq:listed.getD j false with
     | false=>rfl
     | true=>
      have:=hclo j hj1 hq i g;rw[hun] at this;cases this
    exact .inr ⟨j,hj1,hj2,.inr g,hu,tmcase hu⟩
  ·exact .inl fun j g1 g2=>absurd ⟨j,g1,g2⟩ hj
 have evOf:∀(i:Nat) (t ti:List AV),(∀s∈(Av l i).looks,t[s]? = ti[s]?)->∀x∈(Av l i).op.svs,x.ev t=x.ev ti:=by
  intro i t ti hs x hx
  cases x with
  | c v=>rfl
  | t s=>
   simp only[SV.ev];rw[hs s (xf _ (List.mem_filterMap.2 ⟨_,hx,rfl⟩))]
 have hval:∀(o:List OB) (x1:List AV),(∀s j,j<l.length->Cm anc c j=true->Az l j=some s->x1[s]? = t1[s]?)->(∀A so B,BQ l.length (Cm anc c) l=A++so::B->∃ti v,Ah P so.op o ti (fun o' x=>o'=o/\x=v)/\(∀s,(∃a∈A,a.dst=some s)->ti[s]? = t1[s]?)/\(∀s,(∀a∈A,a.dst≠some s)->ti[s]? = tm[s]?)/\∀d,so.dst=some d->d<tm.length->t1[d]? = some v) ->
   ∀(listed:Array Bool) (t:List AV) (i d:Nat) (op:SOp),i<l.length->Cm anc c i=true->Av l i=⟨some d,op,none⟩->listed.getD i false=false->(∀j∈anc.getD i [],listed.getD j false=true)->(∀j,j<l.length->listed.getD j false=true->∀e∈anc.getD j [],listed.getD e false=true)->EH l l.length listed x1 tm t ->
   ∃v,Ah P op o t (fun o' x=>o'=o/\x=v)/\(d<tm.length->x1[d]? = some v):=by
  intro o x1 hxe hseq listed t i d op hi hp hso hun hanc hclo hmix;obtain⟨B,hB1,_,_⟩:=NS l hi hp;obtain⟨ti,v,m1,m2,m3,m4⟩:=hseq _ _ _ (hB1 _ hp);have hdi:Az l i=some d:=by rw[Cy hi,hso]
  refine⟨v,?_,fun hlt=>by rw[hxe d i hi hp hdi];exact m4 d (by rw[hso]) hlt⟩;have hA:∀a,a∈BQ i (Cm anc c) l↔∃j,j<i/\Cm anc c j=true/\Av l j=a:=fun a=>Hm;have tiTm:∀s j,j<l.length->Az l j=some s->¬(j<i/\Cm anc c j=true)->ti[s]? = tm[s]?:=by
   intro s j hj1 hj2 hn;refine m3 s fun a ha e=>?_;obtain⟨j',g1,g2,rfl⟩:=(hA a).1 ha;have:Az l j'=some s:=by rw[Cy (by omega)];exact e
   have:=only s j j' hj1 (by omega) hj2 this;subst this;exact hn ⟨g1,g2⟩
  have hlook:∀s∈(Av l i).looks,t[s]? = ti[s]?:=by
   intro s hs;obtain⟨k1,k2⟩:=agree listed x1 t i hi hun hanc hclo hmix s hs
   by_cases hj:∃j,j<l.length/\Az l j=some s
   ·obtain⟨j,hj1,hj2⟩:=hj;rcases k1 with k1|⟨j',g1,g2,g3,g4,g5⟩
    ·obtain⟨q1,q2,q3⟩:=k1 j hj1 hj2;have hji:=halt i (by omega) j q2;have hpj:Cm anc c j=true:=by
      rcases kind j hj1 with e|e|e
      ·subst e;have:BH anc j i=true:=by unfold BH B9;exact jb.2 q2
       rw[(preNe i hp).2] at this;cases this
      ·exact e
      ·have:BH anc c i=true:=by
        rcases htr i hi j hj1 with (h0|h0)|h0
        ·unfold B9 at h0;rw[jb.2 q2] at h0;cases h0
        ·rw[e] at h0;cases h0
        ·exact h0
       rw[(preNe i hp).2] at this;cases this
     rw[q3,hxe s j hj1 hpj hj2];exact(m2 s ⟨_,(hA _).2 ⟨j,hji,hpj,rfl⟩,by rw[<-Cy hj1];exact hj2⟩).symm
    ·rw[g5];refine(tiTm s j' g1 g2 fun hn=>?_).symm;rcases g3 with rfl|g3
     ·omega
     ·have:=halt j' (by omega) i g3;omega
   ·rw[k2 fun j g1 g2=>hj ⟨j,g1,g2⟩];refine(m3 s fun a ha e=>?_).symm;obtain⟨j',g1,g2,rfl⟩:=(hA a).1 ha;exact hj ⟨j',by omega,by rw[Cy (by omega)];exact e⟩
  have hev:=evOf i t ti hlook;rw[hso] at hev m1;rw[Ht hev];exact m1
 let Bg (listed:Array Bool) (o:List OB) (t:List AV):Prop:=∃o2 ts,Aq P (BQ l.length (Cm anc c) l) o2 tm (fun _ t=>t=t1)/\ts.length=tm.length/\(∀s,(∀j,j<l.length->Az l j≠some s)->ts[s]? = tm[s]?)/\(∀s j,j<l.length->Cm anc c j=true->Az l j=some s->ts[s]? = t1[s]?) /\
   (∀s j,j<l.length->BH anc c j=true->listed.getD j false=false->Az l j=some s->ts[s]? = tm[s]?)/\Aq P (BQ l.length (fun i=>BH anc c i&&!listed.getD i false) l) o ts (fun o t=>K .normal o t)/\EH l l.length listed ts tm t/\((∀j,j<l.length->Cm anc c j=true->(Av l j).op.touch=true->listed.getD j false=true)\/o=o2)
 refine hfin (fun listed o t=>(∀j,j<l.length->listed.getD j false=true->∀e∈anc.getD j [],listed.getD e false=true) /\
  ((listed.getD c false=false/\o=objs/\EH l l.length listed t1 tm t)\/(listed.getD c false=true/\Bg listed o t))) (fun o t=>o=objs/\t=tm) ?_ ?_ ?_ ?_
 ·rintro listed o t hs _ h2 ⟨rfl,rfl⟩;have hall:∀j,j<l.length->listed.getD j false=false:=fun j hj=>h2 j (ze _) (by omega);refine⟨(fun j hj hl=>by rw[hall j hj] at hl;cases hl),.inl ⟨hall c hcl,rfl,rfl,(fun s j hj hl=>?_),(fun s _=>rfl)⟩⟩;rw[hall j hj] at hl;cases hl
 ·intro listed o t i so hs hso _ hin hun hanci hT;obtain⟨hclo,hT⟩:=hT;have hi:i<l.length:=by omega
  obtain rfl:=K4 hso;have hset:∀j,(listed.setIfInBounds i true).getD j false=if j=i then true else listed.getD j false:=fun j=>F3 listed i j false (by omega)
  have hclo':∀j,j<l.length->(listed.setIfInBounds i true).getD j false=true->∀e∈anc.getD j [],(listed.setIfInBounds i true).getD e false=true:=by
   intro j hj hl e he;rw[hset] at hl ⊢
   split
   ·rfl
   ·split at hl
    ·rename_i e1;subst e1;exact hanci e he
    ·exact hclo j hj hl e he
  rcases kind i hi with hic|hp|hp
  ·-- the call
   subst hic;rcases hT with ⟨hA1,rfl,hmix⟩|⟨hB1,_⟩
   ·rw[hce];simp only[Aq,AJ];have hlook:∀s∈(Av l i).looks,t[s]? = t1[s]?:=by
     intro s hs;obtain⟨k1,k2⟩:=agree listed t1 t i hi hun hanci hclo hmix s hs
     by_cases hj:∃j,j<l.length/\Az l j=some s
     ·obtain⟨j,hj1,hj2⟩:=hj;rcases k1 with k1|⟨j',g1,g2,g3,g4,g5⟩
      ·exact(k1 j hj1 hj2).2.2
      ·rw[g5];refine(hout s fun j2 q1 q2 q3=>?_).symm;have:=only s j' j2 g1 q1 g2 q3;subst this;obtain⟨w1,w2⟩:=preNe j2 q2;rcases g3 with g3|g3
       ·exact w1 g3
       ·have:BH anc i j2=true:=by unfold BH B9;exact jb.2 g3
        rw[w2] at this;cases this
     ·rw[k2 fun j g1 g2=>hj ⟨j,g1,g2⟩,hout s fun j g1 _ g2=>hj ⟨j,g1,g2⟩]
    have hev:=evOf i t t1 hlook;rw[hce] at hev;rw[Ht hev];refine Tu hcop (fun o2 v hq=>?_) h1;refine⟨hclo',.inr ⟨by rw[hset,if_pos rfl],o2,t1.set cd v,hq.1,by rw[zh];exact hl1,fun s hs=>?_,fun s j hj hp hd=>?_,fun s j hj hp hu hd=>?_,?_,?_,.inr rfl⟩⟩
    ·have hne:¬cd=s:=fun e=>hs i hi (by rw[hcd,e]);rw[zp hne];exact hout s fun j g1 _=>hs j g1
    ·have hne:¬cd=s:=fun e=>(preNe j hp).1 (only s i j hi hj (by rw[hcd,e]) hd);exact zp hne
    ·have hne:¬cd=s:=fun e=>postNe j hp (only s i j hi hj (by rw[hcd,e]) hd);rw[zp hne];refine hout s fun j2 q1 q2 q3=>?_;have:=only s j j2 hj q1 hd q3;subst this;rw[(preNe j2 q2).2] at hp;cases hp
    ·rw[Sb l (q:=BH anc i) fun j hj=>?_]
     ·exact hq.2
     ·cases hpj:BH anc i j with
      | false=>rfl
      | true=>
       have hl0:listed.getD j false=false:=by
        cases hq2:listed.getD j false with
        | false=>rfl
        | true=>
         have:=hclo j hj hq2 i (by unfold BH B9 at hpj;exact jb.1 hpj);rw[hun] at this;cases this
       rw[hset,if_neg (postNe j hpj),hl0];rfl
    ·have hm2:EH l l.length listed (t1.set cd v) tm t:=by
      refine⟨hmix.1,fun s j hj hl hd=>?_,hmix.2.2⟩;have hne:¬cd=s:=fun e=>by
       have:=only s i j hi hj (by rw[hcd,e]) hd;subst this;rw[hun] at hl;cases hl
      rw[zp hne];exact hmix.2.1 s j hj hl hd
     exact hm2.step hi (by omega) hcd hdis hun (fun hlt=>qc (by omega)) (by rw[zh];exact hl1)
   ·rw[hun] at hB1;cases hB1
  ·-- what does not wait for it
   obtain⟨d,op,hso2,c1,c2⟩:=hcalm i hi hp;have hdi:Az l i=some d:=by rw[Cy hi,hso2]
   rcases hT with ⟨hA1,rfl,hmix⟩|⟨hB1,o2,ts,q1,q2,q3,q4,q5,q6,hmix,q7⟩
   ·obtain⟨x,g1,g2⟩:=hval o t1 (fun s j _ _ _=>rfl) hs1 listed t i d op hi hp hso2 hun hanci hclo hmix;rw[hso2];simp only[Aq,AJ];obtain⟨y,g3,_,rfl⟩:=GF c1 c2 g1;refine g3 _ ⟨hclo',.inl ⟨?_,rfl,hmix.step hi (by omega) hdi hdis hun g2 hl1⟩⟩;rw[hset,if_neg (Ne.symm (preNe i hp).1)];exact hA1
   ·obtain⟨t1',rfl,_,_,hs2⟩:=I5 _ _ _ _ FH hnd q1;obtain⟨x,g1,g2⟩:=hval o2 ts q4 hs2 listed t i d op hi hp hso2 hun hanci hclo hmix;have g1:Ah P op o t (fun o' z=>o'=o/\z=x):=by
     rcases q7 with q7|rfl
     ·cases ht:op.touch with
      | false=>exact Ql ht g1
      | true=>
       have:=q7 i hi hp (by rw[hso2];exact ht);rw[hun] at this;cases this
     ·exact g1
    rw[hso2];simp only[Aq,AJ];obtain⟨y,g3,_,rfl⟩:=GF c1 c2 g1;refine g3 _ ⟨hclo',.inr ⟨?_,o2,ts,q1,q2,q3,q4,fun s j hj hpj hu hd=>?_,?_,hmix.step hi (by omega) hdi hdis hun g2 q2,?_⟩⟩
    ·rw[hset,if_neg (Ne.symm (preNe i hp).1)];exact hB1
    ·refine q5 s j hj hpj ?_ hd;rw[hset] at hu
     split at hu
     ·cases hu
     ·exact hu
    ·rw[Sb l (q:=fun i=>BH anc c i&&!listed.getD i false) fun j hj=>?_]
     ·exact q6
     ·rw[hset]
      split
      ·rename_i e;subst e;rw[(preNe j hp).2];rfl
      ·rfl
    ·rcases q7 with q7|q7
     ·left;intro j hj hpj htj;rw[hset]
      split
      ·rfl
      ·exact q7 j hj hpj htj
     ·exact .inr q7
  ·-- what waits for it
   rcases hT with ⟨hA1,_⟩|⟨hB1,o2,ts,q1,q2,q3,q4,q5,q6,hmix,q7⟩
   ·have:=hanci c (by unfold BH B9 at hp;exact jb.1 hp);rw[hA1] at this;cases this
   have hcl2:(Av l i).op.isCall=false/\(Av l i).gd=none/\(∀j,j<i->BH anc c j=true->j∈anc.getD i [])/\((Av l i).op.calm=true\/∀j,j<l.length->Cm anc c j=true->(Av l j).op.touch=true->j∈anc.getD i []):=by
    rcases hcls i hi with h0|h0
    ·exact absurd h0 (postNe i hp)
    ·rw[if_pos hp] at h0;simp only[Bool.and_eq_true,Bool.not_eq_true',Option.isNone_iff_eq_none,zl,qh,Bool.or_eq_true] at h0;obtain⟨⟨⟨h2,h3⟩,h4⟩,h5⟩:=h0;refine⟨h2,h3,fun j hj hpj=>?_,?_⟩
     ·rcases h4 j hj with h6|h6
      ·rw[hpj] at h6;cases h6
      ·unfold B9 at h6;exact jb.1 h6
     ·rcases h5 with h5|h5
      ·exact .inl h5
      ·right;intro j hj hpj htj;rcases h5 j hj with (h6|h6)|h6
       ·rw[hpj] at h6;cases h6
       ·rw[htj] at h6;cases h6
       ·unfold B9 at h6;exact jb.1 h6
   obtain⟨k1,k2,k3,k4⟩:=hcl2;have hrem:BQ l.length (fun i=>BH anc c i&&!listed.getD i false) l=Av l i::BQ l.length (fun j=>BH anc c j&&!(listed.setIfInBounds i true).getD j false) l:=by
    obtain⟨B,hB1,hB2,hB3⟩:=NS l hi hp;rw[hB1 (fun i=>BH anc c i&&!listed.getD i false) (by rw[hp,hun];rfl),hB2 (fun j=>BH anc c j&&!(listed.setIfInBounds i true).getD j false) (by rw[hset,if_pos rfl];simp)];rw[Nu l (n:=i) fun j hj=>?_,Nu l (n:=i) fun j hj=>?_,qm,qm]
    ·congr 1
     refine hB3 _ _ fun j hj=>?_;rw[hset,if_neg (by omega)]
    ·cases hpj:BH anc c j with
     | false=>rfl
     | true=>rw[hset,if_neg (by omega),hanci j (k3 j hj hpj)];rfl
    ·cases hpj:BH anc c j with
     | false=>rfl
     | true=>rw[hanci j (k3 j hj hpj)];rfl
   rw[hrem] at q6;have hlook:∀s∈(Av l i).looks,t[s]? = ts[s]?:=by
    intro s hs;obtain⟨w1,w2⟩:=agree listed ts t i hi hun hanci hclo hmix s hs
    by_cases hj:∃j,j<l.length/\Az l j=some s
    ·obtain⟨j,hj1,hj2⟩:=hj;rcases w1 with w1|⟨j',g1,g2,g3,g4,g5⟩
     ·exact(w1 j hj1 hj2).2.2
     ·rw[g5];refine(q5 s j' g1 ?_ g4 g2).symm;rcases g3 with rfl|g3
      ·exact hp
      ·rcases htr j' g1 i hi with (h0|h0)|h0
       ·unfold B9 at h0;rw[jb.2 g3] at h0;cases h0
       ·rw[hp] at h0;cases h0
       ·exact h0
    ·rw[w2 fun j g1 g2=>hj ⟨j,g1,g2⟩,q3 s fun j g1 g2=>hj ⟨j,g1,g2⟩]
   have hev:=evOf i t ts hlook;have hdst:Az l i=(Av l i).dst:=Cy hi;generalize hSo:Av l i=so at k1 k2 k4 q6 hev hdst ⊢;obtain⟨d,op,g⟩:=so;dsimp only at k1 k2 k4 hev hdst;subst k2;simp only[Aq] at q6 ⊢;rw[Ht hev];have fin:∀o3 v,Aq P (BQ l.length (fun j=>BH anc c j&&!(listed.setIfInBounds i true).getD j false) l) o3 (AJ ts d v) (fun o t=>K .normal o t)->((∀j,j<l.length->Cm anc c j=true->(Av l j).op.touch=true->listed.getD j false=true)\/o3=o2) ->
     (∀j,j<l.length->(listed.setIfInBounds i true).getD j false=true->∀e∈anc.getD j [],(listed.setIfInBounds i true).getD e false=true)/\(((listed.setIfInBounds i true).getD c false=false/\o3=objs/\EH l l.length (listed.setIfInBounds i true) t1 tm (AJ t d v))\/((listed.setIfInBounds i true).getD c false=true/\Bg (listed.setIfInBounds i true) o3 (AJ t d v))):=by
    intro o3 v hw hq;have hsd:∀s,d≠some s->(AJ ts d v)[s]? = ts[s]?:=by
     intro s hs
     cases d with
     | none=>rfl
     | some d=>exact zp (fun e=>hs (by rw[e]))
    refine⟨hclo',.inr ⟨?_,o2,AJ ts d v,q1,?_,fun s hs=>?_,fun s j hj hpj hd=>?_,fun s j hj hpj hu hd=>?_,hw,?_,?_⟩⟩
    ·rw[hset,if_neg (Ne.symm (postNe i hp))];exact hB1
    ·cases d with
     | none=>exact q2
     | some d=>rw[AJ,zh];exact q2
    ·rw[hsd s (by rw[<-hdst];exact hs i hi)];exact q3 s hs
    ·rw[hsd s (fun e=>?_)]
     ·exact q4 s j hj hpj hd
     ·rw[<-hdst] at e;have:=only s i j hi hj e hd;subst this;rw[(preNe j hpj).2] at hp;cases hp
    ·rw[hset] at hu
     split at hu
     ·cases hu
     ·rename_i hji;rw[hsd s (fun e=>?_)]
      ·exact q5 s j hj hpj hu hd
      ·rw[<-hdst] at e;exact hji (only s i j hi hj e hd)
    ·cases d with
     | none=>
      refine⟨hmix.1,fun s j hj hl hd=>?_,fun s hs=>?_⟩
      ·rw[hset] at hl
       split at hl
       ·rename_i e;subst e;rw[hdst] at hd;cases hd
       ·exact hmix.2.1 s j hj hl hd
      ·refine hmix.2.2 s fun j hj hl=>hs j hj ?_;rw[hset]
       split
       ·rfl
       ·exact hl
     | some d=>
      have hm2:EH l l.length listed (ts.set d v) tm t:=by
       refine⟨hmix.1,fun s j hj hl hd=>?_,hmix.2.2⟩;have hne:¬d=s:=fun e=>by
        subst e;have:=only d i j hi hj hdst hd;subst this;rw[hun] at hl;cases hl
       rw[zp hne];exact hmix.2.1 s j hj hl hd
      exact hm2.step hi (by omega) hdst hdis hun (fun hlt=>qc (by omega)) (by rw[zh];exact q2)
    ·rcases hq with hq|hq
     ·left;intro j hj hpj htj;rw[hset]
      split
      ·rfl
      ·exact hq j hj hpj htj
     ·exact .inr hq
   cases hc:op.calm with
   | true=>
    obtain⟨v,h2,h3⟩:=GF hc k1 q6;exact h2 _ (fin _ _ h3 q7)
   | false=>
    obtain⟨o3,v,h2,h3⟩:=RO hc q6;refine h2 _ (fin _ _ h3 (.inl fun j hj hpj htj=>?_));rcases k4 with k4|k4
    ·rw[hc] at k4;cases k4
    ·exact hanci j (k4 j hj hpj htj)
 ·intro listed o t hs hall hT;have hall:∀j,j<l.length->listed.getD j false=true:=fun j hj=>hall j (by omega);rcases hT.2 with ⟨hA1,_⟩|⟨hB1,o2,ts,q1,q2,q3,q4,q5,q6,hmix,q7⟩
  ·rw[hall c hcl] at hA1;cases hA1
  ·rw[Nu l fun j hj=>by rw[hall j hj];simp] at q6;have:t=ts:=by
    refine List.ext_getElem? fun s=>?_
    by_cases hj:∃j,j<l.length/\Az l j=some s
    ·obtain⟨j,hj1,hj2⟩:=hj;exact hmix.2.1 s j hj1 (hall j hj1) hj2
    ·rw[hmix.2.2 s fun j g1 _ g3=>hj ⟨j,g1,g3⟩,q3 s fun j g1 g3=>hj ⟨j,g1,g3⟩]
   rw[this];exact q6
 ·simp only[xg,Br,hap0,CD,and_self]
end
def Bn (l:List SO) (anc:List (List Nat)) (i:Nat):Nat:=2*((zi l.length).filter fun j=>CO (Av l j)&&B9 anc i j).length+(if CO (Av l i)=true then 1 else 0)
def Bb (l:List SO):List Nat:=(zi l.length).filter fun j=>CO (Av l j)
def L5 (l:List SO) (deps anc:List (List Nat)):Bool :=
 (zi l.length).all (fun i=>(deps.getD i []).all (fun e=>decide (e<i))&&(anc.getD i []).all fun j=>(deps.getD i []).contains j||(deps.getD i []).any fun e=>(anc.getD e []).contains j) &&
 (zi l.length).all (fun i=>Az l i==none||(zi l.length).all fun j=>i==j||Az l j != Az l i) &&
 (zi l.length).all (fun i=>(Av l i).looks.all fun t=>(zi l.length).all fun j=>j==i||Az l j != some t||(anc.getD i []).contains j||(anc.getD j []).contains i) &&
 (zi l.length).all (fun i=>CO (Av l i)||Ev (Av l i)) &&
 (zi l.length).all (fun i=>(zi l.length).all fun j=>!B9 anc i j||decide (Bn l anc j<=Bn l anc i)) &&
 (zi l.length).all (fun c=>!CO (Av l c)||(zi l.length).all fun j=>j==c||decide (Bn l anc j<Bn l anc c)||B9 anc j c) &&
 (zi (Bb l).length).all (fun k=>Bn l anc ((Bb l).getD k 0)==2*k+1) &&
 (zi l.length).all (fun i=>decide (Bn l anc i<=2*(Bb l).length)&&(!CO (Av l i)||i==(Bb l).getD (Bn l anc i / 2) 0))
def Bz (l:List SO) (anc:List (List Nat)) (k:Nat):List SO:=BQ l.length (fun i=>Bn l anc i==2*k) l
def Cg (P:Program) [Tabs P]:List (List SO×List AV×List AV)->List OB->Prop
 | [],_=>True
 | e::r,o=>Aq P e.1 o e.2.1 (fun _ x=>x=e.2.2)/\Cg P r o
def C3 (P:Program) [Tabs P]:List (List SO×SO)->List (List SO×List AV×List AV)->List SO->List OB->List AV->(List OB->List AV->Prop)->Prop
 | [],_,last,o,t,K=>Aq P last o t K
 | (L,c)::r,hist,last,o,t,K=>Aq P L o t fun _ u=>Aq P [c] o u fun o' t'=>Cg P ((L,t,u)::hist) o'/\C3 P r ((L,t,u)::hist) last o' t' K
def DA (l:List SO) (anc:List (List Nat)):Nat->Nat->List (List SO×SO)
 | 0,_=>[]
 | r+1,k=>(Bz l anc k,Av l ((Bb l).getD k 0))::DA l anc r (k+1)
section
variable {P:Program} [Tabs P]
theorem R2:∀{h:List (List SO×List AV×List AV)} {o:List OB},Cg P h o->∀e∈h,Aq P e.1 o e.2.1 (fun _ x=>x=e.2.2)
 | [],o,_,e,he=>by cases he
 | x::h,o,hr,e,he=>by
  rcases zt.1 he with rfl|he
  ·exact hr.1
  ·exact R2 hr.2 e he
theorem Jm:∀(pre:List SO) (objs:List OB) (tm:List AV) (F:List OB->List AV->Prop),(∀so∈pre,Ev so=true)->Aq P pre objs tm F->∃u,F objs u/\Aq P pre objs tm (fun _ x=>x=u)
 | [],objs,tm,F,_,h=>⟨tm,h,rfl⟩
 | so::pre,objs,tm,F,hc,h=>by
  obtain⟨d,op,rfl,c1,c2⟩:=Ju (hc so (by simp));simp only[Aq] at h ⊢;obtain⟨v,h1,h2⟩:=GF c1 c2 h;obtain⟨u,k1,k2⟩:=Jm pre objs _ F (fun so hs=>hc so (qw _ hs)) h2;exact⟨u,k1,h1 _ k2⟩
end
abbrev DU:=List (List SO×List AV×List AV)
def kF (l:List SO) (anc:List (List Nat)) (tm:List AV) (e:List SO×List AV×List AV) (u:List AV) (j:Nat):Prop:=e.1=Bz l anc j/\e.2.1.length=tm.length/\e.2.2.length=tm.length/\(∀s i,i<l.length->Az l i=some s->Bn l anc i<2*j->e.2.1[s]? = u[s]?)/\(∀s,(∀i,i<l.length->Bn l anc i<2*j->Az l i≠some s)->e.2.1[s]? = tm[s]?)/\∀s i,i<l.length->Az l i=some s->Bn l anc i=2*j->e.2.2[s]? = u[s]?
def qR (l:List SO) (anc:List (List Nat)) (tm:List AV) (k:Nat) (hist:DU) (u:List AV):Prop:=u.length=tm.length/\(∀j,j<=k->∃e∈hist,kF l anc tm e u j)/\∀s,(∀i,i<l.length->Bn l anc i<=2*k->Az l i≠some s)->u[s]? = tm[s]?
def Fp (P:Program) [Tabs P] (l:List SO) (anc:List (List Nat)) (m:Nat) (tm:List AV) (W:Nat->DU->List OB->List AV->Prop) (listed:Array Bool) (o:List OB) (t:List AV):Prop :=
 (∀j,j<l.length->listed.getD j false=true->∀e∈anc.getD j [],listed.getD e false=true)/\∃k hist u,k<=m/\(∀j,j<m->listed.getD ((Bb l).getD j 0) false=decide (j<k))/\Cg P hist o/\qR l anc tm k hist u/\W k hist o u/\EH l l.length listed u tm t
def Ea (l:List SO) (anc:List (List Nat)):Bool :=
 (zi l.length).all (fun i=>Az l i==none||(zi l.length).all fun j=>i==j||Az l j != Az l i) &&
 (zi l.length).all (fun i=>(Av l i).looks.all fun t=>(zi l.length).all fun j=>j==i||Az l j != some t||(anc.getD i []).contains j||(anc.getD j []).contains i) &&
 (zi l.length).all (fun i=>CO (Av l i)||Ev (Av l i)) &&
 (zi l.length).all (fun i=>(zi l.length).all fun j=>!B9 anc i j||decide (Bn l anc j<=Bn l anc i)) &&
 (zi l.length).all (fun c=>!CO (Av l c)||(zi l.length).all fun j=>j==c||decide (Bn l anc j<Bn l anc c)||B9 anc j c) &&
 (zi (Bb l).length).all (fun k=>Bn l anc ((Bb l).getD k 0)==2*k+1) &&
 (zi l.length).all (fun i=>decide (Bn l anc i<=2*(Bb l).length)&&(!CO (Av l i)||i==(Bb l).getD (Bn l anc i / 2) 0)) &&
 (zi l.length).all (fun i=>(anc.getD i []).all fun j=>decide (j<i))
section
variable {P:Program} [Tabs P]
theorem KF (l:List SO) (anc:List (List Nat)) (hok:Ea l anc=true) (m:Nat) (hmm:(Bb l).length=m) (tm:List AV) (W:Nat->DU->List OB->List AV->Prop)
  (hWs:∀(k:Nat) (hist:DU) (o:List OB) (u:List AV),k<m->W k hist o u->Aq P [Av l ((Bb l).getD k 0)] o u (fun o' t'=>Cg P hist o'/\∃u',Aq P (Bz l anc (k+1)) o' t' (fun _ x=>x=u')/\W (k+1) ((Bz l anc (k+1),t',u')::hist) o' u')) :
  (∀(objs:List OB) (u:List AV),Aq P (Bz l anc 0) objs tm (fun _ x=>x=u)->W 0 [(Bz l anc 0,tm,u)] objs u->∀listed:Array Bool,(∀j,j<l.length->listed.getD j false=false)->Fp P l anc m tm W listed objs tm) /\
  (∀(listed:Array Bool) (o:List OB) (t:List AV) (i:Nat),l.length<=listed.size->i<l.length->listed.getD i false=false->(∀j∈anc.getD i [],listed.getD j false=true)->Fp P l anc m tm W listed o t->Aq P [Av l i] o t (fun o2 t2=>Fp P l anc m tm W (listed.setIfInBounds i true) o2 t2)) /\
  (∀(listed:Array Bool) (o:List OB) (t:List AV),(∀j,j<l.length->listed.getD j false=true)->Fp P l anc m tm W listed o t->∃hist,W m hist o t):=by
 unfold Ea at hok;simp only[Bool.and_eq_true] at hok;obtain⟨⟨⟨⟨⟨⟨⟨hd2,hd3⟩,hkd⟩,hrk⟩,hcl⟩,hci⟩,hbd⟩,hlt⟩:=hok;simp only[Bool.and_eq_true,decide_eq_true_eq,zl,qh,Bool.or_eq_true,bne_iff_ne,ne_eq,beq_iff_eq,List.any_eq_true,jb,Bool.not_eq_true'] at hd2 hd3 hkd hrk hcl hci hbd hlt;have halt:∀i,i<l.length->∀j∈anc.getD i [],j<i:=fun i hi j hj=>hlt i hi j hj;have ancIff:∀i j,B9 anc i j=true↔j∈anc.getD i []:=fun i j=>by unfold B9;exact jb
 have hdis:∀a b,a<l.length->b<l.length->a≠b->Az l a≠none->Az l a≠Az l b:=fun a b ha hb hab hn e=>by
  rcases hd2 a ha with h0|h0
  ·exact hn h0
  ·rcases h0 b hb with h1|h1
   ·exact hab h1
   ·exact h1 e.symm
 have only:∀s j j',j<l.length->j'<l.length->Az l j=some s->Az l j'=some s->j'=j:=by
  intro s j j' h1 h2 h3 h4
  by_cases e:j'=j
  ·exact e
  ·exact absurd (h4.trans h3.symm) (hdis j' j h2 h1 e (by rw[h4];simp))
 have hrk':∀i j,i<l.length->j<l.length->j∈anc.getD i []->Bn l anc j<=Bn l anc i:=by
  intro i j hi hj hm;rcases hrk i hi j hj with h0|h0
  ·rw[(ancIff i j).2 hm] at h0;cases h0
  ·exact h0
 have evenOdd:∀i,Bn l anc i % 2=if CO (Av l i)=true then 1 else 0:=by
  intro i;unfold Bn;split<;>omega
 have calmOf:∀i,i<l.length->∀j,Bn l anc i=2*j->∃d op,Av l i=⟨some d,op,none⟩/\op.calm=true/\op.isCall=false:=by
  intro i hi j hj;have:=evenOdd i;rw[hj] at this;have hn:¬CO (Av l i)=true:=fun h=>by rw[if_pos h] at this;omega
  rcases hkd i hi with h0|h0
  ·exact absurd h0 hn
  ·exact Ju h0
 have lvCalm:∀k,∀so∈Bz l anc k,Ev so=true:=by
  intro k so hs;obtain⟨i,hi,hp,rfl⟩:=Hm.1 hs;have hp:Bn l anc i=2*k:=by simpa using hp
  have:=evenOdd i;have hn:¬CO (Av l i)=true:=fun h=>by rw[if_pos h] at this;omega
  rcases hkd i hi with h0|h0
  ·exact absurd h0 hn
  ·exact h0
 have lvNd:∀k,((Bz l anc k).map (·.dst)).Nodup:=by
  intro k;unfold Bz BQ;rw[List.map_map];have h0:((zi l.length).filter (fun i=>Bn l anc i==2*k)).Nodup:=List.nodup_range.sublist List.filter_sublist;refine List.Pairwise.map _ ?_ (List.Pairwise.and_mem.1 h0);rintro a b ⟨ha,hb,hab⟩ e;rw[jh,qh] at ha hb;obtain⟨d,op,e1,_⟩:=calmOf a ha.1 k (by simpa using ha.2);refine hdis a b ha.1 hb.1 hab ?_ ?_
  ·rw[Cy ha.1,e1];simp
  ·rw[Cy ha.1,Cy hb.1];exact e
 simp only[hmm] at hci hbd;have cMem:∀k,k<m->(Bb l).getD k 0<l.length/\CO (Av l ((Bb l).getD k 0))=true:=by
  intro k hk;have h0:(Bb l).getD k 0∈Bb l:=by
   rw[jx,zv (by omega)];exact zy _
  unfold Bb at h0 ⊢;rw[jh,qh] at h0;exact h0
 let ci:Nat->Nat:=fun k=>(Bb l).getD k 0
 have ciRk:∀k,k<m->Bn l anc (ci k)=2*k+1:=fun k hk=>hci k hk;have callIs:∀i,i<l.length->CO (Av l i)=true->∃k,k<m/\i=ci k:=by
  intro i hi hc;have h1:=(hbd i hi).1;have h2:=evenOdd i;rw[if_pos hc] at h2;rcases(hbd i hi).2 with h0|h0
  ·rw[hc] at h0;cases h0
  ·exact⟨Bn l anc i / 2,by omega,h0⟩
 have level:∀(k:Nat) (o:List OB) (tb u:List AV),tb.length=tm.length->Aq P (Bz l anc k) o tb (fun _ x=>x=u)->u.length=tm.length/\∀s,(∀i,i<l.length->Bn l anc i=2*k->Az l i≠some s)->u[s]? = tb[s]?:=by
  intro k o tb u htb hu;obtain⟨u',rfl,h2,h3,_⟩:=I5 _ _ _ _ (lvCalm k) (lvNd k) hu;refine⟨h2.trans htb,fun s hs=>h3 s fun so hso e=>?_⟩;obtain⟨i,g1,g2,rfl⟩:=Hm.1 hso;exact hs i g1 (by simpa using g2) (by rw[Cy g1];exact e)
 have agree:∀(listed:Array Bool) (x1 t:List AV) (i:Nat),i<l.length->listed.getD i false=false->(∀j∈anc.getD i [],listed.getD j false=true)->(∀j,j<l.length->listed.getD j false=true->∀e∈anc.getD j [],listed.getD e false=true)->EH l l.length listed x1 tm t ->
   ∀s∈(Av l i).looks,((∀j,j<l.length->Az l j=some s->listed.getD j false=true/\j∈anc.getD i []/\t[s]? = x1[s]?)\/(∃j,j<l.length/\Az l j=some s/\(j=i\/i∈anc.getD j [])/\listed.getD j false=false/\t[s]? = tm[s]?))/\((∀j,j<l.length->Az l j≠some s)->t[s]? = tm[s]?):=by
  intro listed x1 t i hi hun hanc hclo hmix s hs;refine⟨?_,fun hno=>hmix.2.2 s fun j g1 _=>hno j g1⟩
  by_cases hj:∃j,j<l.length/\Az l j=some s
  ·obtain⟨j,hj1,hj2⟩:=hj;have tmcase:listed.getD j false=false->t[s]? = tm[s]?:=fun hu=>
    hmix.2.2 s fun j' g1 g2 g3=>by rw[only s j j' hj1 g1 hj2 g3,hu] at g2;cases g2
   rcases hd3 i hi s hs j hj1 with ((g|g)|g)|g
   ·subst g;exact .inr ⟨j,hj1,hj2,.inl rfl,hun,tmcase hun⟩
   ·exact absurd hj2 g
   ·left;intro j' g1 g2;obtain rfl:=only s j j' hj1 g1 hj2 g2;exact⟨hanc _ g,g,hmix.2.1 s _ hj1 (hanc _ g) hj2⟩
   ·have hu:listed.getD j false=false:=by
     cases hq:listed.getD j false with
     | false=>rfl
     | true=>
      have:=hclo j hj1 hq i g;rw[hun] at this;cases this
    exact .inr ⟨j,hj1,hj2,.inr g,hu,tmcase hu⟩
  ·exact .inl fun j g1 g2=>absurd ⟨j,g1,g2⟩ hj
 have evOf:∀(i:Nat) (t ti:List AV),(∀s∈(Av l i).looks,t[s]? = ti[s]?)->∀x∈(Av l i).op.svs,x.ev t=x.ev ti:=by
  intro i t ti hs x hx
  cases x with
  | c v=>rfl
  | t s=>
   simp only[SV.ev];rw[hs s (xf _ (List.mem_filterMap.2 ⟨_,hx,rfl⟩))]
 have hge:∀i j,i<l.length->j<l.length->(j=i\/i∈anc.getD j [])->Bn l anc i<=Bn l anc j:=by
  rintro i j hi hj (rfl|h)
  ·exact zd _
  ·exact hrk' j i hj hi h
 refine⟨?_,?_,?_⟩
 ·intro objs u hu hW listed hall;obtain⟨q1,q3⟩:=level 0 objs tm u rfl hu;refine⟨(fun j hj hl=>by rw[hall j hj] at hl;cases hl),0,[(Bz l anc 0,tm,u)],u,ze _,(fun j hj=>by rw[hall _ (cMem j hj).1];symm;exact decide_eq_false (by omega)),⟨hu,trivial⟩,⟨q1,?_,?_⟩,hW,rfl,(fun s j hj hl=>?_),(fun s _=>rfl)⟩
  ·intro j hj;obtain rfl:j=0:=by omega
   exact⟨_,jg ..,rfl,rfl,q1,(fun s i hi hd hr=>by omega),(fun s _=>rfl),fun s i hi hd hr=>rfl⟩
  ·intro s hs;exact q3 s fun i hi hr=>hs i hi (by omega)
  ·rw[hall j hj] at hl;cases hl
 ·intro listed o t i hs hi hun hanci hT;obtain⟨hclo,k,hist,u,hk,hck,hrc,⟨hul,hent,hout⟩,hcont,hmix⟩:=hT;have hset:∀j,(listed.setIfInBounds i true).getD j false=if j=i then true else listed.getD j false:=fun j=>F3 listed i j false (by omega)
  have hclo':∀j,j<l.length->(listed.setIfInBounds i true).getD j false=true->∀e∈anc.getD j [],(listed.setIfInBounds i true).getD e false=true:=by
   intro j hj hl e he;rw[hset] at hl ⊢
   split
   ·rfl
   ·split at hl
    ·rename_i e1;subst e1;exact hanci e he
    ·exact hclo j hj hl e he
  have low:∀j,j<l.length->(∀e∈anc.getD j [],listed.getD e false=true)->k<m->j≠ci k->Bn l anc j<=2*k:=by
   intro j hj ha hkm hne;rcases hcl (ci k) (cMem k hkm).1 with h0|h0
   ·rw[(cMem k hkm).2] at h0;cases h0
   ·rcases h0 j hj with (h1|h1)|h1
    ·exact absurd h1 hne
    ·rw[ciRk k hkm] at h1;omega
    ·have:=ha _ ((ancIff j _).1 h1);rw[hck k hkm] at this;have:=of_decide_eq_true this;omega
  by_cases hcc:CO (Av l i)=true
  ·-- a call
   obtain⟨k',hk',rfl⟩:=callIs i hi hcc;have hkk:k'=k:=by
    have e1:=hck k' hk';rw[hun] at e1;have e1:=of_decide_eq_false e1.symm;rcases zo k k' with h0|h0
    ·have h1:=low (ci k') hi hanci (by omega) (fun e=>by
      have a1:=ciRk k' hk';have a2:=ciRk k (by omega);rw[e] at a1;omega)
     rw[ciRk k' hk'] at h1;omega
    ·omega
   subst hkk;have hcont:=hWs k' hist o u hk' hcont;obtain⟨cd,cop,hce,hcop⟩:=Pp hcc;have hcd:Az l (ci k')=some cd:=by rw[Cy hi,hce]
   have hlook:∀s∈(Av l (ci k')).looks,t[s]? = u[s]?:=by
    intro s hs;obtain⟨w1,w2⟩:=agree listed u t (ci k') hi hun hanci hclo hmix s hs
    by_cases hj:∃j,j<l.length/\Az l j=some s
    ·obtain⟨j,hj1,hj2⟩:=hj;rcases w1 with w1|⟨j',g1,g2,g3,g4,g5⟩
     ·exact(w1 j hj1 hj2).2.2
     ·rw[g5];refine(hout s fun i' q1 q2 q3=>?_).symm;have:=only s j' i' g1 q1 g2 q3;subst this;have:=hge (ci k') i' hi q1 g3;rw[ciRk k' hk'] at this;omega
    ·rw[w2 fun j g1 g2=>hj ⟨j,g1,g2⟩,hout s fun j g1 _ g2=>hj ⟨j,g1,g2⟩]
   have hev:=evOf (ci k') t u hlook;rw[show Av l ((Bb l).getD k' 0)=_ from hce] at hcont;rw[hce] at hev ⊢;simp only[Aq,AJ] at hcont ⊢;rw[Ht hev];refine PA hcop (fun o2 v hq=>?_) hcont;obtain⟨hq1,u',hq2,hq3⟩:=hq;have hub:∀s,(∀i,i<l.length->Bn l anc i<2*(k'+1)->Az l i≠some s)->(u.set cd v)[s]? = tm[s]?:=by
    intro s hs;have hne:¬cd=s:=fun e=>hs (ci k') hi (by rw[ciRk k' hk'];omega) (by rw[hcd,e]);rw[zp hne];exact hout s fun i' g1 g2=>hs i' g1 (by omega)
   obtain⟨q1,q3⟩:=level (k'+1) o2 (u.set cd v) u' (by rw[zh];exact hul) hq2;have hkeep:∀s i',i'<l.length->Az l i'=some s->Bn l anc i'<=2*k'->u'[s]? = u[s]?:=by
    intro s i' g1 g2 g3;rw[q3 s fun i2 w1 w2 w3=>by
     have:=only s i' i2 g1 w1 g2 w3;subst this;omega]
    refine zp fun e=>?_;have:=only s i' (ci k') g1 hi g2 (by rw[hcd,e]);rw[<-this,ciRk k' hk'] at g3;omega
   refine⟨hclo',k'+1,(Bz l anc (k'+1),u.set cd v,u')::hist,u',by omega,fun j hj=>?_,⟨hq2,hq1⟩,⟨q1,fun j hj=>?_,fun s hs=>?_⟩,hq3,?_⟩
   ·rw[hset]
    by_cases e:j=k'
    ·subst e;rw[if_pos rfl];symm;exact decide_eq_true (by omega)
    ·rw[if_neg (fun h=>e (by
      have a1:Bn l anc ((Bb l).getD j 0)=2*j+1:=ciRk j hj;have a2:=ciRk k' hk';rw[h] at a1;omega)),hck j hj]
     congr 1;apply propext;omega
   ·by_cases e:j=k'+1
    ·subst e;refine⟨_,jg ..,rfl,by rw[zh];exact hul,q1,fun s i' g1 g2 g3=>?_,hub,fun s i' g1 g2 g3=>rfl⟩;exact(q3 s fun i2 w1 w2 w3=>by
      have:=only s i' i2 g1 w1 g2 w3;subst this;omega).symm
    ·obtain⟨en,h1,h2,h3,h4,h5,h6,h7⟩:=hent j (by omega);refine⟨en,qw _ h1,h2,h3,h4,fun s i' g1 g2 g3=>?_,h6,fun s i' g1 g2 g3=>?_⟩
     ·rw[h5 s i' g1 g2 g3,hkeep s i' g1 g2 (by omega)]
     ·rw[h7 s i' g1 g2 g3,hkeep s i' g1 g2 (by omega)]
   ·rw[q3 s fun i' g1 g2=>hs i' g1 (by omega)];exact hub s fun i' g1 g2=>hs i' g1 (by omega)
   ·have hm2:EH l l.length listed u' tm t:=by
     refine⟨hmix.1,fun s j hj hl hd=>?_,hmix.2.2⟩;have hjl:=low j hj (hclo j hj hl) hk' (fun e=>by rw[e,hun] at hl;cases hl);rw[hkeep s j hj hd hjl];exact hmix.2.1 s j hj hl hd
    refine hm2.step hi (by omega) hcd hdis hun (fun hlt=>?_) q1;rw[q3 cd fun i2 w1 w2 w3=>by
     have:=only cd (ci k') i2 hi w1 hcd w3;subst this;rw[ciRk k' hk'] at w2;omega]
    exact qc (by omega)
  ·-- a calm operation
   have hrke:∃j,Bn l anc i=2*j:=by
    have:=evenOdd i;rw[if_neg hcc] at this;exact⟨Bn l anc i / 2,by omega⟩
   obtain⟨j,hj⟩:=hrke;have hjk:j<=k:=by
    by_cases hkm:k=m
    ·have:=(hbd i hi).1;omega
    ·have h1:=low i hi hanci (by omega) (fun e=>by
      have:=ciRk k (by omega);rw[<-e] at this;omega)
     omega
   obtain⟨d,op,hso2,c1,c2⟩:=calmOf i hi j hj;have hdi:Az l i=some d:=by rw[Cy hi,hso2]
   obtain⟨⟨L,b,x⟩,he1,rfl,he3,he4,he5,he6,he7⟩:=hent j hjk;simp only at he3 he4 he5 he6 he7;have hrun:=R2 hrc _ he1;simp only at hrun;obtain⟨x',rfl,hxl,hxo,hseq⟩:=I5 _ _ _ _ (lvCalm j) (lvNd j) hrun;have hp:(fun i=>Bn l anc i==2*j) i=true:=by simpa using hj
   obtain⟨B,hB1,_,_⟩:=NS (p:=fun i=>Bn l anc i==2*j) l hi hp;obtain⟨ti,v,m1,m2,m3,m4⟩:=hseq _ _ _ (hB1 _ hp);have hA:∀a,a∈BQ i (fun i=>Bn l anc i==2*j) l↔∃j',j'<i/\Bn l anc j'=2*j/\Av l j'=a:=fun a=>by
    rw[Hm];simp
   have hlook:∀s∈(Av l i).looks,t[s]? = ti[s]?:=by
    intro s hs;obtain⟨w1,w2⟩:=agree listed u t i hi hun hanci hclo hmix s hs
    by_cases hjx:∃j,j<l.length/\Az l j=some s
    ·obtain⟨j',hj1,hj2⟩:=hjx;rcases w1 with w1|⟨j2,g1,g2,g3,g4,g5⟩
     ·obtain⟨_,q2,q3⟩:=w1 j' hj1 hj2;have hji:=halt i (by omega) j' q2;have hr:=hrk' i j' hi hj1 q2;rw[q3]
      by_cases e:Bn l anc j'=2*j
      ·rw[m2 s ⟨_,(hA _).2 ⟨j',hji,e,rfl⟩,by rw[<-Cy hj1];exact hj2⟩];exact(he7 s j' hj1 hj2 e).symm
      ·rw[m3 s fun a ha e2=>by
        obtain⟨j3,z1,z2,rfl⟩:=(hA a).1 ha;have:=only s j' j3 hj1 (by omega) hj2 (by rw[Cy (by omega)];exact e2);subst this;exact e z2]
       exact(he5 s j' hj1 hj2 (by omega)).symm
     ·have hr:=hge i j2 hi g1 g3;rw[g5];rw[m3 s fun a ha e2=>by
       obtain⟨j3,z1,z2,rfl⟩:=(hA a).1 ha;have:=only s j2 j3 g1 (by omega) g2 (by rw[Cy (by omega)];exact e2);subst this;rcases g3 with rfl|g3
       ·omega
       ·have:=halt j3 (by omega) i g3;omega]
      refine(he6 s fun i2 z1 z2 z3=>?_).symm;have:=only s j2 i2 g1 z1 g2 z3;subst this;omega
    ·rw[w2 fun j g1 g2=>hjx ⟨j,g1,g2⟩];rw[m3 s fun a ha e2=>by
      obtain⟨j3,z1,z2,rfl⟩:=(hA a).1 ha;exact hjx ⟨j3,by omega,by rw[Cy (by omega)];exact e2⟩]
     exact(he6 s fun i2 z1 _ z3=>hjx ⟨i2,z1,z3⟩).symm
   have hev:=evOf i t ti hlook;have hv:d<tm.length->u[d]? = some v:=fun hlt=>by
    rw[<-he7 d i hi hdi hj];exact m4 d (by rw[hso2]) (by omega)
   rw[hso2] at hev m1 ⊢;rw[<-Ht hev] at m1;simp only[Aq,AJ];obtain⟨y,g3,_,rfl⟩:=GF c1 c2 m1;refine g3 _ ⟨hclo',k,hist,u,hk,fun j' hj'=>?_,hrc,⟨hul,hent,hout⟩,hcont,hmix.step hi (by omega) hdi hdis hun hv hul⟩;rw[hset,if_neg (fun e=>hcc (by rw[<-e];exact(cMem j' hj').2))];exact hck j' hj'
 ·intro listed o t hall hT;obtain⟨hclo,k,hist,u,hk,hck,hrc,⟨hul,hent,hout⟩,hcont,hmix⟩:=hT;have hkm:k=m:=by
   rcases zo k m with h0|h0
   ·have:=hck k h0;rw[hall _ (cMem k h0).1] at this;have:=of_decide_eq_true this.symm;omega
   ·omega
  subst hkm;have:t=u:=by
   refine List.ext_getElem? fun s=>?_
   by_cases hj:∃j,j<l.length/\Az l j=some s
   ·obtain⟨j,hj1,hj2⟩:=hj;exact hmix.2.1 s j hj1 (hall j hj1) hj2
   ·rw[hmix.2.2 s fun j g1 _ g3=>hj ⟨j,g1,g3⟩,hout s fun j g1 _ g3=>hj ⟨j,g1,g3⟩]
  rw[this];exact⟨hist,hcont⟩
def CM (d:Nat) (p:AV) (h:DU):DU:=h.map fun e=>(e.1,e.2.1.set d p,e.2.2.set d p)
theorem Ih {a b:List AV} {d s:Nat} {p:AV} (hl:a.length=b.length) (h:s≠d->a[s]? = b[s]?):(a.set d p)[s]? = (b.set d p)[s]?:=by
 by_cases e:s=d
 ·subst e;rw[zb,zb,hl,if_pos rfl,if_pos rfl]
 ·rw[zp (fun h=>e h.symm),zp (fun h=>e h.symm)];exact h e
theorem YE {l:List SO} {anc:List (List Nat)} {m:Nat} {tm:List AV} {W0 W1:Nat->DU->List OB->List AV->Prop} {listed:Array Bool} {o:List OB} {t:List AV} {d:Nat} {p:AV} {B:OB} (hd:∀i,i<l.length->Az l i≠some d)
  (hW:∀(k:Nat) (hist:DU) (u:List AV),W0 k hist o u->Cg P (CM d p hist) (o++[B])/\W1 k (CM d p hist) (o++[B]) (u.set d p)) (h:Fp P l anc m tm W0 listed o t):Fp P l anc m (tm.set d p) W1 listed (o++[B]) (t.set d p):=by
 obtain⟨hclo,k,hist,u,hk,hck,hrc,⟨hul,hent,hout⟩,hw,hmix⟩:=h;obtain⟨h1,h2⟩:=hW k hist u hw;refine⟨hclo,k,CM d p hist,u.set d p,hk,hck,h1,⟨by rw[zh,zh];exact hul,fun j hj=>?_,fun s hs=>Ih hul fun _=>hout s hs⟩,h2,?_⟩
 ·obtain⟨e,he,q1,q2,q3,q4,q5,q6⟩:=hent j hj;refine⟨(e.1,e.2.1.set d p,e.2.2.set d p),jd.2 ⟨e,he,rfl⟩,q1,by rw[zh,zh];exact q2,by rw[zh,zh];exact q3,fun s i hi hds hr=>?_,fun s hs=>Ih q2 fun _=>q5 s hs,fun s i hi hds hr=>?_⟩
  ·exact Ih (q2.trans hul.symm) fun _=>q4 s i hi hds hr
  ·exact Ih (q3.trans hul.symm) fun _=>q6 s i hi hds hr
 ·obtain⟨m1,m2,m3⟩:=hmix;exact⟨by rw[zh,zh];exact m1,fun s j hj hl hds=>Ih (m1.trans hul.symm) fun _=>m2 s j hj hl hds,fun s hs=>Ih m1 fun _=>m3 s hs⟩
section
variable (P)
def EZ (d:Nat) (T:TypeId) (z:List AV):List (List SO×SO)->DU->List SO->List OB->List AV->(List OB->List AV->Prop)->Prop
 | [],hist,last,o,t,K=>Aq P last o t fun _ u=>Cg P (CM d (.p o.length 0) ((last,t,u)::hist)) (o++[.box T z])/\K (o++[.box T z]) (u.set d (.p o.length 0))
 | (L,c)::r,hist,last,o,t,K=>Aq P L o t fun _ u=>
  (Cg P (CM d (.p o.length 0) ((L,t,u)::hist)) (o++[.box T z])/\Aq P [c] (o++[.box T z]) (u.set d (.p o.length 0)) fun o' t'=>Cg P (CM d (.p o.length 0) ((L,t,u)::hist)) o'/\C3 P r (CM d (.p o.length 0) ((L,t,u)::hist)) last o' t' K) /\
  Aq P [c] o u fun o' t'=>Cg P ((L,t,u)::hist) o'/\EZ d T z r ((L,t,u)::hist) last o' t' K
end
theorem KL {l:List SO} {anc:List (List Nat)} (hok:Ea l anc=true) (k:Nat):∀so∈Bz l anc k,Ev so=true:=by
 intro so hs;unfold Ea at hok;simp only[Bool.and_eq_true] at hok;obtain⟨⟨⟨⟨⟨⟨⟨_,_⟩,hkd⟩,_⟩,_⟩,_⟩,_⟩,_⟩:=hok;simp only[zl,qh,Bool.or_eq_true] at hkd;obtain⟨i,hi,hp,rfl⟩:=Hm.1 hs;have hp:Bn l anc i=2*k:=by simpa using hp
 have hn:¬CO (Av l i)=true:=fun h=>by unfold Bn at hp;rw[if_pos h] at hp;omega
 rcases hkd i hi with h0|h0
 ·exact absurd h0 hn
 ·exact h0
theorem QJ {l:List SO} {k:Nat} (hk:k<(Bb l).length):CO (Av l ((Bb l).getD k 0))=true:=by
 have h0:(Bb l).getD k 0∈Bb l:=by
  rw[jx,zv hk];exact zy _
 unfold Bb at h0 ⊢;rw[jh,qh] at h0;exact h0.2
theorem JT {so:SO} (h:CO so=true\/Ev so=true) {o:List OB} {t:List AV} {F F':List OB->List AV->Prop} (hk:∀o t,F o t->F' o t) (hw:Aq P [so] o t F):Aq P [so] o t F':=by
 rcases h with h|h
 ·obtain⟨d,op,rfl,h1⟩:=Pp h;simp only[Aq] at hw ⊢;exact PA h1 (fun o v hq=>hk _ _ hq) hw
 ·obtain⟨d,op,rfl,c1,c2⟩:=Ju h;simp only[Aq] at hw ⊢;obtain⟨v,h1,h2⟩:=GF c1 c2 hw;exact h1 _ (hk _ _ h2)
section
variable (P)
def De (l:List SO) (anc:List (List Nat)) (m:Nat) (Kf:List OB->List AV->Prop) (k:Nat) (hist:DU) (o:List OB) (u:List AV):Prop :=
 if k=m then Kf o u else Aq P [Av l ((Bb l).getD k 0)] o u fun o' t'=>Cg P hist o'/\C3 P (DA l anc (m - k - 1) (k+1)) hist (Bz l anc m) o' t' Kf
def IU (d:Nat) (T:TypeId) (z:List AV) (l:List SO) (anc:List (List Nat)) (m:Nat) (Kf:List OB->List AV->Prop) (k:Nat) (hist:DU) (o:List OB) (u:List AV):Prop :=
 (Cg P (CM d (.p o.length 0) hist) (o++[.box T z])/\De P l anc m Kf k (CM d (.p o.length 0) hist) (o++[.box T z]) (u.set d (.p o.length 0))) /\
 (k<m->Aq P [Av l ((Bb l).getD k 0)] o u fun o' t'=>Cg P hist o'/\EZ P d T z (DA l anc (m - k - 1) (k+1)) hist (Bz l anc m) o' t' Kf)
end
theorem Mq {l:List SO} {anc:List (List Nat)} (hok:Ea l anc=true) {m:Nat} {Kf:List OB->List AV->Prop} {k:Nat} (hk:k<=m) {hist:DU} {o:List OB} {t:List AV} (h:C3 P (DA l anc (m - k) k) hist (Bz l anc m) o t Kf):∃u,Aq P (Bz l anc k) o t (fun _ x=>x=u)/\De P l anc m Kf k ((Bz l anc k,t,u)::hist) o u:=by
 by_cases hkm:k=m
 ·subst hkm;rw[Nat.sub_self] at h;simp only[DA,C3] at h;obtain⟨u,h1,h2⟩:=Jm _ _ _ _ (KL hok k) h;exact⟨u,h2,by unfold De;rw[if_pos rfl];exact h1⟩
 ·obtain⟨r,hr⟩:∃r,m - k=r+1:=⟨m - k - 1,by omega⟩;rw[hr] at h;simp only[DA,C3] at h;obtain⟨u,h1,h2⟩:=Jm _ _ _ _ (KL hok k) h;refine⟨u,h2,?_⟩;unfold De;rw[if_neg hkm,hr,Nat.add_sub_cancel];exact h1
theorem OQ {d:Nat} {T:TypeId} {z:List AV} {l:List SO} {anc:List (List Nat)} (hok:Ea l anc=true) {m:Nat} {Kf:List OB->List AV->Prop} {k:Nat} (hk:k<=m) {hist:DU} {o:List OB} {t:List AV} (h:EZ P d T z (DA l anc (m - k) k) hist (Bz l anc m) o t Kf):∃u,Aq P (Bz l anc k) o t (fun _ x=>x=u)/\IU P d T z l anc m Kf k ((Bz l anc k,t,u)::hist) o u:=by
 by_cases hkm:k=m
 ·subst hkm;rw[Nat.sub_self] at h;simp only[DA,EZ] at h;obtain⟨u,h1,h2⟩:=Jm _ _ _ (fun _ u=>Cg P (CM d (.p o.length 0) ((Bz l anc k,t,u)::hist)) (o++[.box T z])/\Kf (o++[.box T z]) (u.set d (.p o.length 0))) (KL hok k) h;refine⟨u,h2,⟨h1.1,?_⟩,fun h=>absurd h (Nat.lt_irrefl _)⟩;unfold De;rw[if_pos rfl];exact h1.2
 ·obtain⟨r,hr⟩:∃r,m - k=r+1:=⟨m - k - 1,by omega⟩;rw[hr] at h;simp only[DA,EZ] at h;obtain⟨u,h1,h2⟩:=Jm _ _ _ (fun _ u=>(Cg P (CM d (.p o.length 0) ((Bz l anc k,t,u)::hist)) (o++[.box T z])/\Aq P [Av l ((Bb l).getD k 0)] (o++[.box T z]) (u.set d (.p o.length 0)) fun o' t'=>Cg P (CM d (.p o.length 0) ((Bz l anc k,t,u)::hist)) o'/\C3 P (DA l anc r (k+1)) (CM d (.p o.length 0) ((Bz l anc k,t,u)::hist)) (Bz l anc m) o' t' Kf) /\
   Aq P [Av l ((Bb l).getD k 0)] o u fun o' t'=>Cg P ((Bz l anc k,t,u)::hist) o'/\EZ P d T z (DA l anc r (k+1)) ((Bz l anc k,t,u)::hist) (Bz l anc m) o' t' Kf) (KL hok k) h
  refine⟨u,h2,⟨h1.1.1,?_⟩,fun _=>?_⟩
  ·unfold De;rw[if_neg hkm,hr,Nat.add_sub_cancel];exact h1.1.2
  ·rw[hr,Nat.add_sub_cancel];exact h1.2
theorem Ma {l:List SO} {anc:List (List Nat)} (hok:Ea l anc=true) {m:Nat} (hmm:(Bb l).length=m) {Kf:List OB->List AV->Prop} (k:Nat) (hist:DU) (o:List OB) (u:List AV) (hk:k<m) (h:De P l anc m Kf k hist o u):Aq P [Av l ((Bb l).getD k 0)] o u (fun o' t'=>Cg P hist o'/\∃u',Aq P (Bz l anc (k+1)) o' t' (fun _ x=>x=u')/\De P l anc m Kf (k+1) ((Bz l anc (k+1),t',u')::hist) o' u'):=by
 unfold De at h;rw[if_neg (by omega)] at h;refine JT (.inl (QJ (by omega))) (fun o' t' hq=>⟨hq.1,Mq hok (by omega) (by rw[show m - (k+1)=m - k - 1 by omega];exact hq.2)⟩) h
theorem lN {d:Nat} {T:TypeId} {z:List AV} {l:List SO} {anc:List (List Nat)} (hok:Ea l anc=true) {m:Nat} (hmm:(Bb l).length=m) {Kf:List OB->List AV->Prop} (k:Nat) (hist:DU) (o:List OB) (u:List AV) (hk:k<m) (h:IU P d T z l anc m Kf k hist o u):Aq P [Av l ((Bb l).getD k 0)] o u (fun o' t'=>Cg P hist o'/\∃u',Aq P (Bz l anc (k+1)) o' t' (fun _ x=>x=u')/\IU P d T z l anc m Kf (k+1) ((Bz l anc (k+1),t',u')::hist) o' u') :=
 JT (.inl (QJ (by omega))) (fun o' t' hq=>⟨hq.1,OQ hok (by omega) (by rw[show m - (k+1)=m - k - 1 by omega];exact hq.2)⟩) (h.2 hk)
end
def Ow:SO:=⟨some 1000003,.mv (.c .nil),none⟩
def B3 (l:List SO) (al:Nat):List SO:=(l.take (l.length - 1)).set al Ow
def LL (so:SO):Option (Nat×TypeId×List AV):=match so with
 | ⟨some d,.alloc T z,none⟩=>some (d,T,z)
 | _=>none
def LU (so:SO):Bool:=match so with
 | ⟨none,.store _ (.t _) (.t _),none⟩=>true
 | _=>false
def Ka (l:List SO) (deps anc:List (List Nat)) (al d:Nat):Bool :=
 (zi l.length).all (fun i=>(deps.getD i []).all (fun e=>decide (e<i))&&(anc.getD i []).all fun j=>(deps.getD i []).contains j||(deps.getD i []).any fun e=>(anc.getD e []).contains j) &&
 decide (al+1<l.length)&&LU (Av l (l.length - 1))&&(zi (l.length - 1)).all (fun j=>B9 anc (l.length - 1) j) &&
 (zi (l.length - 1)).all (fun i=>i==al||(Az l i != some d))&&(anc.getD al []).isEmpty &&
 Ea (B3 l al) anc&&decide (d<1000003)
theorem WA (l:List SO) (al:Nat):(B3 l al).length=l.length - 1:=by unfold B3;rw[zh,zg];omega
theorem Ks {l:List SO} {al i:Nat} (hi:i<l.length - 1) (hne:i≠al):Av (B3 l al) i=Av l i:=by
 unfold Av B3;rw[zp (fun e=>hne e.symm),xn hi]
theorem O3 {l:List SO} {al:Nat} (hi:al<l.length - 1):Av (B3 l al) al=Ow:=by
 unfold Av B3;rw[qc (by rw[zg];omega)];rfl
section
variable {P:Program} [Tabs P] {C:Cx} [On P C] {K:Bg}
theorem nV (id:Nat) (ops:Array Oper) (l:List SO) (hl:ops.toList.mapM (Db P ops.toList)=some l) (al d:Nat) (T:TypeId) (z:List AV) (hal:LL (Av l al)=some (d,T,z)) (hok:Ka l (ops.toList.map AG) (Bc (ops.toList.map AG)) al d=true) (hm:P.follows .mixedOrders=true) {objs:List OB} {tm:List AV} (htl:tm.length<=1000003)
  (h:EZ P d T z (DA (B3 l al) (Bc (ops.toList.map AG)) (Bb (B3 l al)).length 0) [] (Bz (B3 l al) (Bc (ops.toList.map AG)) (Bb (B3 l al)).length) objs tm fun o t=>Aq P [Av l (l.length - 1)] o t fun o t=>K .normal o t):∀a w,CU C objs tm a w->(Code.region id ops true).wp P (CV C K) a w:=by
 have hnl:ops.size=l.length:=by
  have:=(GC _ _ _ hl).1;simpa using this
 unfold Ka at hok;simp only[Bool.and_eq_true] at hok;obtain⟨⟨⟨⟨⟨⟨⟨hd1,halt⟩,hst⟩,hlast⟩,hdd⟩,hae⟩,htv⟩,hdlt⟩:=hok;have hdlt:d<1000003:=of_decide_eq_true hdlt;have halt:al+1<l.length:=of_decide_eq_true halt;have hpre:D1 l (ops.toList.map AG) (Bc (ops.toList.map AG)) 0=true:=by
  unfold D1;simp only[Bool.and_eq_true];exact⟨⟨⟨⟨⟨⟨by simp,hd1⟩,by simp⟩,by simp⟩,by simp⟩,by simp⟩,by simp[Hb]⟩
 have hap0:∀an,Dh l an 0=[]:=fun an=>by simp[Dh]
 simp only[zl,qh,Bool.or_eq_true,bne_iff_ne,ne_eq,beq_iff_eq] at hlast hdd;have hfin:=IA (P:=P) (C:=C) (K:=K) id ops l l hl (.inl rfl) 0 hpre hm (objs:=objs) (tm:=tm);generalize Bc (ops.toList.map AG)=anc at *;clear hd1 hpre;have hso:Av l al=⟨some d,.alloc T z,none⟩:=by
  generalize Av l al=so at hal;unfold LL at hal
  split at hal
  ·injection hal with hal;injection hal with h1 h2;injection h2 with h2 h3;subst h1 h2 h3;rfl
  ·cases hal
 obtain⟨s1,e,u0,hstore⟩:∃s1 e u0,Av l (l.length - 1)=⟨none,.store s1 (.t e) (.t u0),none⟩:=by
  generalize Av l (l.length - 1)=so at hst;unfold LU at hst
  split at hst
  ·exact⟨_,_,_,rfl⟩
  ·cases hst
 have hn0:=WA l al;have hd0:∀i,i<(B3 l al).length->Az (B3 l al) i≠some d\/i=al:=by
  intro i hi
  by_cases e:i=al
  ·exact .inr e
  ·left;rw[Cy hi,Ks (by omega) e,<-Cy (by omega)];rcases hdd i (by omega) with h0|h0
   ·exact absurd h0 e
   ·exact h0
 generalize hM:(Bb (B3 l al)).length=m at *
 let Kf:List OB->List AV->Prop:=fun o t=>Aq P [Av l (l.length - 1)] o t fun o t=>K .normal o t
 have hcore0:=KF (P:=P) (B3 l al) anc htv m hM tm (IU P d T z (B3 l al) anc m Kf) (fun k hist o u hk hw=>lN htv hM k hist o u hk hw);have hcore1:=fun q=>KF (P:=P) (B3 l al) anc htv m hM (tm.set d q) (De P (B3 l al) anc m Kf) (fun k hist o u hk hw=>Ma htv hM k hist o u hk hw)
 let TF:Array Bool->List OB->List AV->Prop:=fun listed o t=>
  (listed.getD (l.length - 1) false=false/\((listed.getD al false=false/\Fp P (B3 l al) anc m tm (IU P d T z (B3 l al) anc m Kf) listed o t)\/(listed.getD al false=true/\∃q,Fp P (B3 l al) anc m (tm.set d q) (De P (B3 l al) anc m Kf) listed o t))) \/
  ((∀j,j<l.length->listed.getD j false=true)/\K .normal o t)
 refine hfin TF (fun o t=>o=objs/\t=tm) ?_ ?_ ?_ ?_
 ·rintro listed o t hs _ h2 ⟨rfl,rfl⟩;have hall:∀j,j<l.length->listed.getD j false=false:=fun j hj=>h2 j (ze _) (by omega);obtain⟨u,q1,q2⟩:=OQ (d:=d) (T:=T) (z:=z) htv (Kf:=Kf) (ze m) h;exact .inl ⟨hall _ (by omega),.inl ⟨hall _ (by omega),hcore0.1 o u q1 q2 listed fun j hj=>hall j (by omega)⟩⟩
 ·intro listed o t i so hs hso2 _ hin hun hanci hT;obtain rfl:=K4 hso2;have hset:∀j,(listed.setIfInBounds i true).getD j false=if j=i then true else listed.getD j false:=fun j=>F3 listed i j false (by omega)
  rcases hT with ⟨hT1,hT2⟩|⟨hT1,_⟩
  rotate_left
  ·have:=hT1 i (by omega);rw[hun] at this;cases this
  by_cases hil:i=l.length - 1
  ·-- the last one
   subst hil;have hall:∀j,j<l.length - 1->listed.getD j false=true:=fun j hj=>hanci j (by
    have:=hlast j hj;unfold B9 at this;exact jb.1 this)
   rcases hT2 with ⟨ha,_⟩|⟨_,q,hT2⟩
   ·rw[hall al (by omega)] at ha;cases ha
   obtain⟨hist,hw⟩:=(hcore1 q).2.2 listed o t (fun j hj=>hall j (by omega)) hT2;unfold De at hw;rw[if_pos rfl] at hw;have hw2:Aq P [Av l (l.length - 1)] o t (fun o t=>K .normal o t):=hw;rw[hstore] at hw2 ⊢;refine JB (d:=0) (x:=0) (y:=0) (v:=0) (fun o2 t2 hk=>?_) (.inr ⟨_,_,_,rfl⟩) hw2;refine .inr ⟨fun j hj=>?_,hk⟩;rw[hset]
   by_cases e:j=l.length - 1
   ·rw[if_pos e]
   ·rw[if_neg e];exact hall j (by omega)
  have hin2:i<l.length - 1:=by omega
  have hlst:(listed.setIfInBounds i true).getD (l.length - 1) false=false:=by rw[hset,if_neg (fun e=>hil e.symm)];exact hT1
  by_cases hia:i=al
  ·-- the allocation
   subst hia;rcases hT2 with ⟨_,hT2⟩|⟨ha,_⟩
   rotate_left
   ·rw[hun] at ha;cases ha
   rw[hso];simp only[Aq,Ah,AJ];have h1:=hcore0.2.1 listed o t i (by omega) (by omega) hun hanci hT2;rw[O3 (by omega)] at h1;have h2:Fp P (B3 l i) anc m tm (IU P d T z (B3 l i) anc m Kf) (listed.setIfInBounds i true) o (t.set 1000003 .nil):=h1;have htlen:t.length=tm.length:=by
    obtain⟨_,k,hist,u,_,_,_,_,_,hmix⟩:=hT2;exact hmix.1
   rw[List.set_eq_of_length_le (by omega)] at h2;have h3:=YE (W1:=De P (B3 l i) anc m Kf) (d:=d) (p:=.p o.length 0) (B:=.box T z) (fun j hj=>by
    rcases hd0 j hj with h0|h0
    ·exact h0
    ·subst h0;rw[Cy hj,O3 (by omega)];unfold Ow;intro e;have e:(1000003:Nat)=d:=by injection e
     omega) (fun k hist u hw=>hw.1) h2
   exact .inl ⟨hlst,.inr ⟨by rw[hset,if_pos rfl],_,h3⟩⟩
  have hki:CO (Av l i)=true\/Ev (Av l i)=true:=by
   have h0:=htv;unfold Ea at h0;simp only[Bool.and_eq_true] at h0;obtain⟨⟨⟨⟨⟨⟨⟨_,_⟩,hkd⟩,_⟩,_⟩,_⟩,_⟩,_⟩:=h0;simp only[zl,qh,Bool.or_eq_true] at hkd;have:=hkd i (by omega)
   rwa [Ks hin2 hia] at this
  rcases hT2 with ⟨ha,hT2⟩|⟨ha,q,hT2⟩
  ·have h1:=hcore0.2.1 listed o t i (by omega) (by omega) hun hanci hT2;rw[Ks hin2 hia] at h1;exact JT hki (fun o2 t2 hk=>.inl ⟨hlst,.inl ⟨by rw[hset,if_neg (fun e=>hia e.symm)];exact ha,hk⟩⟩) h1
  ·have h1:=(hcore1 q).2.1 listed o t i (by omega) (by omega) hun hanci hT2;rw[Ks hin2 hia] at h1;exact JT hki (fun o2 t2 hk=>.inl ⟨hlst,.inr ⟨by rw[hset,if_neg (fun e=>hia e.symm)];exact ha,q,hk⟩⟩) h1
 ·intro listed o t hs hall hT;rcases hT with ⟨h0,_⟩|⟨_,hk⟩
  ·rw[hall _ (by omega)] at h0;cases h0
  ·exact hk
 ·simp only[xg,Br,hap0,CD,and_self]
def Dp (l:List SO):List SO:=l.take (l.length - 1)
theorem WB (l:List SO):(Dp l).length=l.length - 1:=by unfold Dp;rw[zg];omega
theorem O4 {l:List SO} {i:Nat} (hi:i<l.length - 1):Av (Dp l) i=Av l i:=by
 unfold Av Dp;rw[xn hi]
def Kc (l:List SO) (deps anc:List (List Nat)):Bool :=
 (zi l.length).all (fun i=>(deps.getD i []).all (fun e=>decide (e<i))&&(anc.getD i []).all fun j=>(deps.getD i []).contains j||(deps.getD i []).any fun e=>(anc.getD e []).contains j) &&
 decide (0<l.length)&&LU (Av l (l.length - 1))&&(zi (l.length - 1)).all (fun j=>B9 anc (l.length - 1) j)&&Ea (Dp l) anc
def GX (l:List SO) (an:List (List Nat)):List (List SO×SO)×List SO:=(DA (Dp l) an (Bb (Dp l)).length 0,Bz (Dp l) an (Bb (Dp l)).length++[Av l (l.length - 1)])
section
variable {P:Program} [Tabs P]
theorem Qn:∀(st:List (List SO×SO)) (h:DU) (l x:List SO) (o:List OB) (t:List AV) (F:List OB->List AV->Prop),C3 P st h (l++x) o t F=C3 P st h l o t fun o t=>Aq P x o t F
 | [],h,l,x,o,t,F=>by simp only[C3,KG]
 | (L,c)::st,h,l,x,o,t,F=>by simp only[C3,Qn st _ l x]
end
theorem nX (id:Nat) (ops:Array Oper) (l:List SO) (hl:ops.toList.mapM (Db P ops.toList)=some l) (hok:L5 l (ops.toList.map AG) (Bc (ops.toList.map AG))=true) (hm:P.follows .mixedOrders=true) {objs:List OB} {tm:List AV}
  (h:C3 P (DA l (Bc (ops.toList.map AG)) (Bb l).length 0) [] (Bz l (Bc (ops.toList.map AG)) (Bb l).length) objs tm fun o t=>K .normal o t):∀a w,CU C objs tm a w->(Code.region id ops true).wp P (CV C K) a w:=by
 have hnl:ops.size=l.length:=by
  have:=(GC _ _ _ hl).1;simpa using this
 unfold L5 at hok;simp only[Bool.and_eq_true] at hok;obtain⟨⟨⟨⟨⟨⟨⟨hd1,hd2⟩,hd3⟩,hkd⟩,hrk⟩,hcl⟩,hci⟩,hbd⟩:=hok;have hpre:D1 l (ops.toList.map AG) (Bc (ops.toList.map AG)) 0=true:=by
  unfold D1;simp only[Bool.and_eq_true];exact⟨⟨⟨⟨⟨⟨by simp,hd1⟩,by simp⟩,by simp⟩,by simp⟩,by simp⟩,by simp[Hb]⟩
 have hap0:∀an,Dh l an 0=[]:=fun an=>by simp[Dh]
 simp only[Bool.and_eq_true,decide_eq_true_eq,zl,qh,Bool.or_eq_true,List.any_eq_true,jb] at hd1;have halt:=Mh (ops.toList.map AG) (Bc (ops.toList.map AG)) l.length fun i hi=>hd1 i hi;have htv:Ea l (Bc (ops.toList.map AG))=true:=by
  unfold Ea;simp only[Bool.and_eq_true];exact⟨⟨⟨⟨⟨⟨⟨hd2,hd3⟩,hkd⟩,hrk⟩,hcl⟩,hci⟩,hbd⟩,by
   simp only[zl,qh,decide_eq_true_eq];exact halt⟩
 have hfin:=IA (P:=P) (C:=C) (K:=K) id ops l l hl (.inl rfl) 0 hpre hm (objs:=objs) (tm:=tm);generalize Bc (ops.toList.map AG)=anc at *;generalize hM:(Bb l).length=m at *;have hcore:=KF (P:=P) l anc htv m hM tm (De P l anc m fun o t=>K .normal o t) (fun k hist o u hk hw=>Ma htv hM k hist o u hk hw);refine hfin (fun listed o t=>Fp P l anc m tm (De P l anc m fun o t=>K .normal o t) listed o t) (fun o t=>o=objs/\t=tm) ?_ ?_ ?_ ?_
 ·rintro listed o t hs _ h2 ⟨rfl,rfl⟩;obtain⟨u,q1,q2⟩:=Mq htv (Kf:=fun o t=>K .normal o t) (ze m) h;exact hcore.1 o u q1 q2 listed fun j hj=>h2 j (ze _) (by omega)
 ·intro listed o t i so hs hso2 _ hin hun hanci hT;obtain rfl:=K4 hso2;exact hcore.2.1 listed o t i (by omega) (by omega) hun hanci hT
 ·intro listed o t hs hall hT;obtain⟨hist,hw⟩:=hcore.2.2 listed o t (fun j hj=>hall j (by omega)) hT;unfold De at hw;rw[if_pos rfl] at hw;exact hw
 ·simp only[xg,Br,hap0,CD,and_self]
theorem nY (id:Nat) (ops:Array Oper) (l:List SO) (hl:ops.toList.mapM (Db P ops.toList)=some l) (hok:Kc l (ops.toList.map AG) (Bc (ops.toList.map AG))=true) (hm:P.follows .mixedOrders=true) {objs:List OB} {tm:List AV}
  (h0:C3 P (GX l (Bc (ops.toList.map AG))).1 [] (GX l (Bc (ops.toList.map AG))).2 objs tm fun o t=>K .normal o t):∀a w,CU C objs tm a w->(Code.region id ops true).wp P (CV C K) a w:=by
 have hnl:ops.size=l.length:=by
  have:=(GC _ _ _ hl).1;simpa using this
 have h:C3 P (DA (Dp l) (Bc (ops.toList.map AG)) (Bb (Dp l)).length 0) [] (Bz (Dp l) (Bc (ops.toList.map AG)) (Bb (Dp l)).length) objs tm fun o t=>Aq P [Av l (l.length - 1)] o t fun o t=>K .normal o t:=by
  unfold GX at h0;dsimp only at h0;rw[Qn] at h0;exact h0
 clear h0;unfold Kc at hok;simp only[Bool.and_eq_true] at hok;obtain⟨⟨⟨⟨hd1,hlt⟩,hst⟩,hlast⟩,htv⟩:=hok;have hlt:0<l.length:=of_decide_eq_true hlt;have hpre:D1 l (ops.toList.map AG) (Bc (ops.toList.map AG)) 0=true:=by
  unfold D1;simp only[Bool.and_eq_true];exact⟨⟨⟨⟨⟨⟨by simp,hd1⟩,by simp⟩,by simp⟩,by simp⟩,by simp⟩,by simp[Hb]⟩
 have hap0:∀an,Dh l an 0=[]:=fun an=>by simp[Dh]
 simp only[zl,qh] at hlast;have hfin:=IA (P:=P) (C:=C) (K:=K) id ops l l hl (.inl rfl) 0 hpre hm (objs:=objs) (tm:=tm);generalize Bc (ops.toList.map AG)=anc at *;clear hd1 hpre;obtain⟨s1,e,u0,hstore⟩:∃s1 e u0,Av l (l.length - 1)=⟨none,.store s1 (.t e) (.t u0),none⟩:=by
  generalize Av l (l.length - 1)=so at hst;unfold LU at hst
  split at hst
  ·exact⟨_,_,_,rfl⟩
  ·cases hst
 have hn0:=WB l;generalize hM:(Bb (Dp l)).length=m at *
 let Kf:List OB->List AV->Prop:=fun o t=>Aq P [Av l (l.length - 1)] o t fun o t=>K .normal o t
 have hcore:=KF (P:=P) (Dp l) anc htv m hM tm (De P (Dp l) anc m Kf) (fun k hist o u hk hw=>Ma htv hM k hist o u hk hw)
 let TF:Array Bool->List OB->List AV->Prop:=fun listed o t=>
  (listed.getD (l.length - 1) false=false/\Fp P (Dp l) anc m tm (De P (Dp l) anc m Kf) listed o t) \/
  ((∀j,j<l.length->listed.getD j false=true)/\K .normal o t)
 refine hfin TF (fun o t=>o=objs/\t=tm) ?_ ?_ ?_ ?_
 ·rintro listed o t hs _ h2 ⟨rfl,rfl⟩;have hall:∀j,j<l.length->listed.getD j false=false:=fun j hj=>h2 j (ze _) (by omega);obtain⟨u,q1,q2⟩:=Mq htv (Kf:=Kf) (ze m) h;exact .inl ⟨hall _ (by omega),hcore.1 o u q1 q2 listed fun j hj=>hall j (by omega)⟩
 ·intro listed o t i so hs hso2 _ hin hun hanci hT;obtain rfl:=K4 hso2;have hset:∀j,(listed.setIfInBounds i true).getD j false=if j=i then true else listed.getD j false:=fun j=>F3 listed i j false (by omega)
  rcases hT with ⟨hT1,hT2⟩|⟨hT1,_⟩
  rotate_left
  ·have:=hT1 i (by omega);rw[hun] at this;cases this
  by_cases hil:i=l.length - 1
  ·-- the last one
   subst hil;have hall:∀j,j<l.length - 1->listed.getD j false=true:=fun j hj=>hanci j (by
    have:=hlast j hj;unfold B9 at this;exact jb.1 this)
   obtain⟨hist,hw⟩:=hcore.2.2 listed o t (fun j hj=>hall j (by omega)) hT2;unfold De at hw;rw[if_pos rfl] at hw;have hw2:Aq P [Av l (l.length - 1)] o t (fun o t=>K .normal o t):=hw;rw[hstore] at hw2 ⊢;refine JB (d:=0) (x:=0) (y:=0) (v:=0) (fun o2 t2 hk=>?_) (.inr ⟨_,_,_,rfl⟩) hw2;refine .inr ⟨fun j hj=>?_,hk⟩;rw[hset]
   by_cases e:j=l.length - 1
   ·rw[if_pos e]
   ·rw[if_neg e];exact hall j (by omega)
  have hin2:i<l.length - 1:=by omega
  have hlst:(listed.setIfInBounds i true).getD (l.length - 1) false=false:=by rw[hset,if_neg (fun e=>hil e.symm)];exact hT1
  have hki:CO (Av l i)=true\/Ev (Av l i)=true:=by
   have h0:=htv;unfold Ea at h0;simp only[Bool.and_eq_true] at h0;obtain⟨⟨⟨⟨⟨⟨⟨_,_⟩,hkd⟩,_⟩,_⟩,_⟩,_⟩,_⟩:=h0;simp only[zl,qh,Bool.or_eq_true] at hkd;have:=hkd i (by omega)
   rwa [O4 hin2] at this
  have h1:=hcore.2.1 listed o t i (by omega) (by omega) hun hanci hT2;rw[O4 hin2] at h1;exact JT hki (fun o2 t2 hk=>.inl ⟨hlst,hk⟩) h1
 ·intro listed o t hs hall hT;rcases hT with ⟨h0,_⟩|⟨_,hk⟩
  ·rw[hall _ (by omega)] at h0;cases h0
  ·exact hk
 ·simp only[xg,Br,hap0,CD,and_self]
end
section
variable {P:Program} [Tabs P] {C:Cx} [On P C] {K:Bg}
inductive SCode where
 | skip
 | reg (l:List SO)
 | drw (l:List SO) (k:Nat) (ap:List (Nat×Nat×Option (Nat×Bool)))
 | crg (pre:List SO) (cl:SO) (post:List SO)
 | crs (st:List (List SO×SO)) (last:List SO)
 | cra (d:Nat) (T:TypeId) (z:List AV) (st:List (List SO×SO)) (last:List SO) (sr:SO)
 | seq (x y:SCode)
 | cond (c:SV) (x y:SCode)
 | blk (id:Nat) (c:SCode)
 | loop (c:SCode)
 | exit (id:Nat)
 | ret
 | dead
@[reducible] def SCode.s (l:List SO) (c:SCode):SCode:=.seq (.reg l) c
def Qe (l:List SO):Bool :=
 match l.getLast? with
 | some ⟨_,.call _ args,none⟩=>args.any fun
  | .t s=>(l.any fun o=>match o with
   | ⟨some d,.fad _ _,_⟩=>d==s
   | _=>false)||l.all fun o=>!(o.dst==some s)
  | _=>false
 | _=>false
def WC (l:List SO):Bool :=
 match l.reverse with
 | ⟨_,.mv (.t d),none⟩::⟨some d',.call _ args,none⟩::_=>d==d'&&args.any fun
  | .t s=>l.any fun o=>match o with
   | ⟨some e,.app _ _ _ _ _,_⟩=>e==s
   | _=>false
  | _=>false
 | _=>false
def pX (ops:List Oper):Bool:=ops.any fun o=>match o.op with
 | .panic _=>true
 | _=>false
def nZ (l:List SO):Bool:=l.any fun o=>match o with
 | ⟨some d,.trn _ _ _,none⟩=>U1 l d
 | _=>false
def U2 (l:List SO):List (List SO×Nat) :=
 (if WC l=true then [(l,l.length - 2)] else [])++(if Qe l=true then [(l,l.length - 1)] else [])++[(l,OT l),(l,l.length)]++((if Qe l=true then [(l.map SO.toQ,l.length - 1)] else [])++[(l.map SO.toQ,OT l),(l.map SO.toQ,l.length)]++((if nZ l=true then [(l.map SO.toR,l.length)] else [])++[(l.map SO.toP,l.length)]))
def Md (l:List SO) (ds an:List (List Nat)):Option (List SO×Nat):=(U2 l).find? fun c=>Kl c.1 ds an c.2
theorem YP {l:List SO} {ds an:List (List Nat)} {c:List SO×Nat} (h:Md l ds an=some c):(c.1=l\/c.1=l.map SO.toP\/c.1=l.map SO.toQ\/c.1=l.map SO.toR)/\Kl c.1 ds an c.2=true:=by
 refine⟨?_,by simpa using List.find?_some h⟩;have hm:=List.mem_of_find?_eq_some h;unfold U2 at hm;simp only[List.mem_append,zt,jk,or_false] at hm;rcases hm with ((hm|hm)|rfl|rfl)|(hm|rfl|rfl)|hm|rfl
 ·split at hm
  ·simp only[zt,jk,or_false] at hm;subst hm;exact .inl rfl
  ·simp at hm
 ·split at hm
  ·simp only[zt,jk,or_false] at hm;subst hm;exact .inl rfl
  ·simp at hm
 ·exact .inl rfl
 ·exact .inl rfl
 ·split at hm
  ·simp only[zt,jk,or_false] at hm;subst hm;exact .inr (.inr (.inl rfl))
  ·simp at hm
 ·exact .inr (.inr (.inl rfl))
 ·exact .inr (.inr (.inl rfl))
 ·split at hm
  ·simp only[zt,jk,or_false] at hm;subst hm;exact .inr (.inr (.inr rfl))
  ·simp at hm
 ·exact .inr (.inl rfl)
def U6 (l:List SO) (ds an:List (List Nat)):Option (List SO×Nat×List (Nat×Nat×Option (Nat×Bool))):=(zi l.length).findSome? fun k=>if Ko l ds an k=true then (IY l k).map fun p=>(l,l.length,[(p.1,p.2+1000000,none)]) else none
def Ki (l:List SO) (ds an:List (List Nat)):Option (List SO×Nat×List (Nat×Nat×Option (Nat×Bool))):=match Md l ds an with
 | some c=>some (c.1,c.2,Dh c.1 an c.2)
 | none=>U6 l ds an
theorem Zk {l:List SO} {ds an:List (List Nat)} {r:List SO×Nat×List (Nat×Nat×Option (Nat×Bool))} (h:Ki l ds an=some r):(∃c,Md l ds an=some c/\r=(c.1,c.2,Dh c.1 an c.2))\/(∃k d e,Ko l ds an k=true/\IY l k=some (d,e)/\r=(l,l.length,[(d,e+1000000,none)])):=by
 unfold Ki at h
 split at h
 ·rename_i c hc;injection h with h;exact .inl ⟨c,hc,h.symm⟩
 ·unfold U6 at h;obtain⟨k,_,hk⟩:=List.exists_of_findSome?_eq_some h
  split at hk
  ·rename_i hok;obtain⟨p,hp,rfl⟩:=jz.1 hk;exact .inr ⟨k,p.1,p.2,hok,hp,rfl⟩
  ·cases hk
def W9 (P:Program) (ops:Array Oper) (l:List SO) (c:Nat):Bool:=(match ops[c]? with
 | some o=>match o.op with
  | .call x=>match x.argTypes[0]? with
   | some t=>match P.underlying t with
    | some (.pointer _)=>true
    | _=>false
   | _=>false
  | _=>false
 | none=>false)&&l.any fun o=>match o.op with
  | .app ..=>true
  | _=>false
def U5 (P:Program) (ops:Array Oper) (l:List SO) (ds an:List (List Nat)):Option Nat:=(zi l.length).find? fun c=>W9 P ops l c&&Kb l ds an c
theorem Zl {P:Program} {ops:Array Oper} {l:List SO} {ds an:List (List Nat)} {c:Nat} (h:U5 P ops l ds an=some c):Kb l ds an c=true:=by
 have:=List.find?_some h;simp only[Bool.and_eq_true] at this;exact this.2
def XV (P:Program) (ops:Array Oper) (l:List SO):Bool:=decide (2<=(Bb l).length)&&(Bb l).all fun c=>match ops[c]? with
 | some o=>match P.underlying o.type with
  | some (.map _ _)=>true
  | _=>false
 | none=>false
def Zm (P:Program) (ops:Array Oper) (l:List SO):Bool:=(l.any fun o=>o.op.grows)&&(zi l.length).any fun i=>(Av l i).op.isCall&&match ops[i]? with
  | some o=>match o.op with
   | .call x=>match x.argTypes[0]? with
    | some t=>match P.underlying t with
     | some (.pointer _)=>true
     | _=>false
    | _=>false
   | _=>false
  | none=>false
def X4 (l:List SO):Bool:=decide (2<=(l.filter fun o=>match o.op with
 | .call _ [.t _,.c (.i _ _)]=>true
 | _=>false).length)
def kH (P:Program) (ops:Array Oper) (l:List SO):Bool:=(zi l.length).any fun i=>(match (Av l i).op with
 | .pcall ..=>true
 | _=>false)&&match ops[i]? with
  | some o=>match o.op with
   | .call x=>match x.argTypes[0]? with
    | some t=>match P.underlying t with
     | some (.pointer _)=>true
     | _=>false
    | _=>false
   | _=>false
  | none=>false
def Jf (l:List SO) (ds an:List (List Nat)):Option (Nat×Nat×TypeId×List AV):=(zi l.length).findSome? fun al=>match LL (Av l al) with
 | some r=>if Ka l ds an al r.1=true then some (al,r) else none
 | none=>none
theorem aS {l:List SO} {ds an:List (List Nat)} {r:Nat×Nat×TypeId×List AV} (h:Jf l ds an=some r):LL (Av l r.1)=some (r.2.1,r.2.2.1,r.2.2.2)/\Ka l ds an r.1 r.2.1=true:=by
 unfold Jf at h;obtain⟨al,_,hk⟩:=List.exists_of_findSome?_eq_some h
 split at hk
 ·rename_i q hq
  split at hk
  ·rename_i hok;injection hk with hk;subst hk
   exact⟨hq,hok⟩
  ·cases hk
 ·cases hk
def LM (l:List SO) (an:List (List Nat)) (r:Nat×Nat×TypeId×List AV):SCode:=.cra r.2.1 r.2.2.1 r.2.2.2 (DA (B3 l r.1) an (Bb (B3 l r.1)).length 0) (Bz (B3 l r.1) an (Bb (B3 l r.1)).length) (Av l (l.length - 1))
def Me (P:Program) (ops:Array Oper) (l:List SO) (ds an:List (List Nat)):Option SCode:=if (X4 l&&Kc l ds an)=true then some (.crs (GX l an).1 (GX l an).2) else match Ki l ds an with
 | some c=>if kH P ops c.1=true then (match Jf l ds an with
  | some r=>some (LM l an r)
  | none=>some (.drw c.1 c.2.1 c.2.2)) else some (.drw c.1 c.2.1 c.2.2)
 | none=>(Jf l ds an).map (LM l an)
theorem QO {P:Program} {ops:Array Oper} {l:List SO} {ds an:List (List Nat)} {sc:SCode} (h:Me P ops l ds an=some sc):(∃c,Ki l ds an=some c/\sc=.drw c.1 c.2.1 c.2.2)\/(∃r,Jf l ds an=some r/\sc=LM l an r)\/Kc l ds an=true/\sc=.crs (GX l an).1 (GX l an).2:=by
 unfold Me at h
 split at h
 ·rename_i hd;injection h with h
  rw[Bool.and_eq_true] at hd;exact .inr (.inr ⟨hd.2,h.symm⟩)
 split at h
 ·rename_i c hc
  split at h
  ·split at h
   ·rename_i r hr;injection h with h;exact .inr (.inl ⟨r,hr,h.symm⟩)
   ·injection h with h;exact .inl ⟨c,hc,h.symm⟩
  ·injection h with h;exact .inl ⟨c,hc,h.symm⟩
 ·obtain⟨r,hr,rfl⟩:=jz.1 h;exact .inr (.inl ⟨r,hr,rfl⟩)
def BA (P:Program):Code->Option SCode
 | .skip=>some .skip
 | .region _ ops false=>match ops.toList.mapM (Db P ops.toList) with
  | some l=>some (.reg l)
  | none=>if pX ops.toList=true then some .dead else none
 | .region _ ops true=>match ops.toList.mapM (Db P ops.toList) with
  | some l=>if P.follows .mixedOrders=true then (match U5 P ops l (ops.toList.map AG) (Bc (ops.toList.map AG)) with
   | some c=>some (.crg (BQ l.length (Cm (Bc (ops.toList.map AG)) c) l) (Av l c) (BQ l.length (BH (Bc (ops.toList.map AG)) c) l))
   | none=>if (XV P ops l||Zm P ops l)&&L5 l (ops.toList.map AG) (Bc (ops.toList.map AG)) then some (.crs (DA l (Bc (ops.toList.map AG)) (Bb l).length 0) (Bz l (Bc (ops.toList.map AG)) (Bb l).length)) else Me P ops l (ops.toList.map AG) (Bc (ops.toList.map AG))) else none
  | none=>none
 | .seq x y=>match BA P x,BA P y with
  | some a,some b=>some (.seq a b)
  | _,_=>none
 | .cond c x y=>match BA P x,BA P y with
  | some a,some b=>some (.cond (Ad c) a b)
  | _,_=>none
 | .block id c=>(BA P c).map (.blk id)
 | .loop c=>(BA P c).map .loop
 | .exit id=>some (.exit id)
 | .ret=>some .ret
 | .scope c=>BA P c
 | .label _=>some .skip
 | _=>none
def EF (K:Bg):Bg
 | .goto _,_,_=>False
 | e,objs,tm=>K e objs tm
omit [Tabs P] [On P C] in
theorem WP.scope {c:Code} {K:Bg} {objs:List OB} {tm:List AV} (hh:WP P C c (EF K) objs tm):WP P C (.scope c) (EF K) objs tm:=by
 intro a w hr;refine wp_scope_straight (wp_mono (hh a w hr) ?_);rintro e a w ⟨o,t,hk,hr⟩
 cases e<;>first|exact hk.elim|exact⟨o,t,hk,hr⟩
def Vc (P:Program) (C:Cx) (sc:SCode) (K:Bg) (objs:List OB) (tm:List AV):Prop:=∀c,BA P c=some sc->WP P C c K objs tm
def DF (P:Program) [Tabs P] (C:Cx):SCode->Bg->List OB->List AV->Prop
 | .skip,K,objs,tm=>K .normal objs tm
 | .reg l,K,objs,tm=>Aq P l objs tm fun o t=>K .normal o t
 | .drw l k ap,K,objs,tm=>Br P (l.take k) objs tm fun o t=>CD ap t/\Aq P (l.drop k) o t fun o t=>K .normal o t
 | .crg pre cl post,K,objs,tm=>Aq P pre objs tm fun _ t1=>Aq P [cl] objs t1 fun o2 t2=>Aq P pre o2 tm (fun _ t=>t=t1)/\Aq P post o2 t2 fun o t=>K .normal o t
 | .crs st last,K,objs,tm=>C3 P st [] last objs tm fun o t=>K .normal o t
 | .cra d T z st last sr,K,objs,tm=>tm.length<=1000003/\EZ P d T z st [] last objs tm fun o t=>Aq P [sr] o t fun o t=>K .normal o t
 | .seq x y,K,objs,tm=>DF P C x (EK (fun o t=>DF P C y K o t) K) objs tm
 | .cond c x y,K,objs,tm=>match c.ev tm with
  | .b t=>(t=true->DF P C x K objs tm)/\(t=false->DF P C y K objs tm)
  | _=>False
 | .blk id c,K,objs,tm=>DF P C c (Gg id K) objs tm
 | .loop c,K,objs,tm=>Vc P C (.loop c) (EF K) objs tm
 | .exit id,K,objs,tm=>K (.exit id) objs tm
 | .ret,K,objs,tm=>K .ret objs tm
 | .dead,K,objs,tm=>False
theorem Gx:∀(c:Code) (sc:SCode) (K:Bg) (objs:List OB) (tm:List AV),BA P c=some sc->DF P C sc K objs tm->WP P C c (EF K) objs tm
 | .skip,sc,K,objs,tm,ht,h=>by simp only[BA,zw.injEq] at ht;subst ht;exact WP.skip h
 | .region id ops false,sc,K,objs,tm,ht,h=>by
  simp only[BA] at ht
  cases h1:ops.toList.mapM (Db P ops.toList) with
  | none=>
   rw[h1] at ht;dsimp only at ht
   split at ht
   ·injection ht with ht;subst ht;exact h.elim
   ·cases ht
  | some l=>
   rw[h1] at ht;injection ht with ht;subst ht
   intro a w hr;exact wp_region_list (OX (K:=EF K) ops ops.toList l objs tm h1 h a w hr)
 | .region id ops true,sc,K,objs,tm,ht,h=>by
  simp only[BA] at ht
  split at ht
  ·rename_i l h1
   split at ht
   ·rename_i hf
    split at ht
    ·rename_i c hc;injection ht with ht;subst ht
     intro a w hr;exact nW (K:=EF K) id ops l h1 c (Zl hc) hf h a w hr
    split at ht
    ·rename_i hc;injection ht with ht;subst ht
     intro a w hr;rw[Bool.and_eq_true] at hc;exact nX (K:=EF K) id ops l h1 hc.2 hf h a w hr
    rcases QO ht with ⟨c,hc,rfl⟩|⟨r,hr0,rfl⟩|⟨hc,rfl⟩
    rotate_left
    ·obtain⟨r1,r2⟩:=aS hr0;intro a w hr;exact nV (K:=EF K) id ops l h1 r.1 r.2.1 r.2.2.1 r.2.2.2 r1 r2 hf h.1 h.2 a w hr
    ·intro a w hr;exact nY (K:=EF K) id ops l h1 hc hf h a w hr
    intro a w hr;rcases Zk hc with ⟨c',hc',rfl⟩|⟨k,d,e,k1,k2,rfl⟩
    ·obtain⟨c1,c2⟩:=YP hc';exact Vp (K:=EF K) id ops l c'.1 h1 c1 _ c2 hf h a w hr
    ·exact WI (K:=EF K) id ops l h1 k d e k1 k2 hf h a w hr
   ·cases ht
  ·cases ht
 | .seq x y,sc,K,objs,tm,ht,h=>by
  simp only[BA] at ht
  split at ht
  ·rename_i a b ha hb;injection ht with ht;subst ht
   refine WP.seq (WP.mono ?_ (Gx x a _ objs tm ha h));intro e o t hk
   cases e with
   | normal=>exact Gx y b K o t hb hk
   | _=>exact hk
  ·cases ht
 | .cond c x y,sc,K,objs,tm,ht,h=>by
  simp only[BA] at ht
  split at ht
  ·rename_i a b ha hb;injection ht with ht;subst ht
   simp only[DF] at h
   split at h
   ·rename_i t hc;exact WP.cond hc (fun e=>Gx x a K objs tm ha (h.1 e)) (fun e=>Gx y b K objs tm hb (h.2 e))
   ·exact h.elim
  ·cases ht
 | .block id c,sc,K,objs,tm,ht,h=>by
  simp only[BA] at ht
  cases h1:BA P c with
  | none=>rw[h1] at ht;cases ht
  | some a=>rw[h1] at ht;injection ht with ht;subst ht;refine WP.block (WP.mono ?_ (Gx c a _ objs tm h1 h));intro e o t hk;cases e with
   | exit id'=>simp only[EF,Gg] at hk ⊢;exact hk
   | _=>exact hk
 | .loop c,sc,K,objs,tm,ht,h=>by
  have ht':=ht;simp only[BA] at ht
  cases h1:BA P c with
  | none=>rw[h1] at ht;cases ht
  | some a=>rw[h1] at ht;injection ht with ht;subst ht;exact h _ ht'
 | .exit id,sc,K,objs,tm,ht,h=>by simp only[BA,zw.injEq] at ht;subst ht;exact WP.exit h
 | .ret,sc,K,objs,tm,ht,h=>by simp only[BA,zw.injEq] at ht;subst ht;exact WP.ret h
 | .rangeFunc ..,sc,K,objs,tm,ht,h=>by simp[BA] at ht
 | .scope c,sc,K,objs,tm,ht,h=>by simp only[BA] at ht;exact WP.scope (Gx c sc K objs tm ht h)
 | .label _,sc,K,objs,tm,ht,h=>by simp only[BA,zw.injEq] at ht;subst ht;exact fun a w hr=>wp_label ⟨_,_,h,hr⟩
 | .goto _,sc,K,objs,tm,ht,h=>by simp[BA] at ht
 | .refuse _,sc,K,objs,tm,ht,h=>by simp[BA] at ht
theorem OW (c:Code) (sc:SCode) (K:Bg) (objs:List OB) (tm:List AV) (ht:BA P c=some sc) (h:DF P C sc K objs tm):WP P C c K objs tm :=
 WP.mono (fun e o t hk=>by cases e<;>first|exact hk.elim|exact hk) (Gx c sc K objs tm ht h)
theorem YJ {sc:SCode} {objs:List OB} {tm:List AV} (J:Nat->List OB->List AV->Prop) (n:Nat) (h0:J n objs tm)
  (round:∀n objs tm,J n objs tm->DF P C sc (EK (fun o t=>∃m,m<n/\J m o t) K) objs tm):Vc P C (.loop sc) (EF K) objs tm:=by
 intro c ht
 induction c with
 | scope c ih=>simp only[BA] at ht;exact WP.scope (ih ht)
 | loop c _=>
  simp only[BA] at ht
  cases h1:BA P c with
  | none=>rw[h1] at ht;cases ht
  | some a=>
   rw[h1] at ht;injection ht with ht;injection ht with ht;subst ht
   refine WP.loop J n h0 fun n o t hj=>WP.mono ?_ (Gx c a _ o t h1 (round n o t hj));intro e o t hk
   cases e with
   | normal=>exact hk
   | _=>exact hk
 | region id ops draw=>
  cases draw
  ·simp only[BA] at ht;split at ht
   ·cases ht
   ·split at ht<;>cases ht
  ·simp only[BA] at ht
   split at ht
   ·split at ht
    ·split at ht
     ·cases ht
     split at ht
     ·cases ht
     ·rcases QO ht with ⟨c,_,e⟩|⟨r,_,e⟩|⟨_,e⟩
      ·cases e
      ·unfold LM at e;cases e
      ·cases e
    ·cases ht
   ·cases ht
 | seq x y _ _=>simp only[BA] at ht;split at ht<;>cases ht
 | cond c x y _ _=>simp only[BA] at ht;split at ht<;>cases ht
 | block id c _=>simp only[BA] at ht;cases h1:BA P c<;>(rw[h1] at ht;cases ht)
 | _=>simp[BA] at ht
end
mutual
/-- the value as it is given away: rows of the call's own last from now on -/
def BO (objs:List OB):Nat->AV->Option AV
 | d,.agg cs=>(CX objs d cs).map .agg
 | d,.tup cs=>(CX objs d cs).map .tup
 | 0,.orow _ _=>none
 | d+1,.orow b gen=>match objs[b]? with
  | some (.orow _ _ gen' n xs)=>if gen'=gen then (CX objs d xs).map (.row n) else none
  | _=>none
 | _,x=>if x.plain=true then some x else none
def CX (objs:List OB):Nat->List AV->Option (List AV)
 | _,[]=>some []
 | d,x::xs=>match BO objs d x,CX objs d xs with
  | some y,some ys=>some (y::ys)
  | _,_=>none
end
def Ak.rows (I:Ak) (G:Gh) (objs:List OB) (w:World):Ak:=fun g o v=>I g o v\/(w.cell? ⟨g,o,none⟩=some v/\∃b E sz gen n xs,objs[b]? = some (.orow E sz gen n xs)/\G.own b=some g)
mutual
theorem MK {G:Gh} {I:Ak} {objs:List OB} {w:World} (hm:MemOk G I objs w) (d:Nat) (ih:∀d',d=d'+1->∀(xs rs:List AV) (ys:List Value),CX objs d' xs=some rs->Ac G I xs ys->Ac Gh.none (I.rows G objs w) rs ys/\AK rs=true) :
  ∀(x r:AV) (y:Value),BO objs d x=some r->Ab G I x y->Ab Gh.none (I.rows G objs w) r y/\r.plain=true
 | .agg cs,r,y,hp,h=>by
  simp only[BO,jz] at hp;obtain⟨rs,h1,rfl⟩:=hp;simp only[Ab] at h ⊢;obtain⟨ys,e1,e2,e3⟩:=h;obtain⟨k1,k2⟩:=Jq hm d ih cs rs ys h1 e2;exact⟨⟨ys,e1,k1,e3⟩,by simpa[AV.plain] using k2⟩
 | .tup cs,r,y,hp,h=>by
  simp only[BO,jz] at hp;obtain⟨rs,h1,rfl⟩:=hp;simp only[Ab] at h ⊢;obtain⟨ys,e1,e2⟩:=h;obtain⟨k1,k2⟩:=Jq hm d ih cs rs ys h1 e2;exact⟨⟨ys,e1,k1⟩,by simpa[AV.plain] using k2⟩
 | .orow b gen,r,y,hp,h=>by
  cases d with
  | zero=>simp[BO] at hp
  | succ d=>
   simp only[BO] at hp
   split at hp
   ·rename_i E sz gen' n xs hb
    split at hp
    ·rename_i hg;subst hg;simp only[jz] at hp;obtain⟨rs,h1,rfl⟩:=hp;simp only[Ab] at h ⊢;obtain⟨g',v,k1,k2,k3,_⟩:=h;obtain⟨v',vs,m1,m2,m3,m4,m5⟩:=hm.row b E sz gen' n xs hb;rw[k1] at m1;injection m1 with m1;injection m1 with m1 m6
     have hv:=k3 m1.symm;subst m1 m6 hv;obtain⟨q1,q2⟩:=ih d rfl xs rs vs h1 m3;refine⟨?_,by simpa[AV.plain] using q2⟩;have hown:=FC m5 k1;rcases m2.2 with ⟨rfl,rfl⟩|⟨g,cap,cur,rfl,hx1,hx2,hx3,hx4⟩
     ·have hvs:vs=[]:=qd (by simpa using m2.1);subst hvs;exact⟨none,0,[],rfl,⟨zd _,by intro _ e;cases e⟩,q1,by simp,by simp⟩
     ·refine⟨some ⟨g,0,none⟩,cap,vs,rfl,⟨hx3,by rintro _ ⟨⟩ _;rfl⟩,q1,m4,fun j u hj=>⟨g,0,rfl,.inr ⟨?_,b,E,sz,_,n,xs,hb,hown⟩⟩⟩;have:=m2.cells (g:=g) rfl j u hj
      rwa [B0] at this
    ·cases hp
   ·cases hp
 | .p b off,r,y,hp,h=>by cases d<;>simp[BO,AV.plain] at hp
 | .porow b gen j,r,y,hp,h=>by cases d<;>simp[BO,AV.plain] at hp
 | .bsl b off n,r,y,hp,h=>by cases d<;>simp[BO,AV.plain] at hp
 | .m b,r,y,hp,h=>by cases d<;>simp[BO,AV.plain] at hp
 | .ip T b off,r,y,hp,h=>by cases d<;>simp[BO,AV.plain] at hp
 | .s l,r,y,hp,h=>by
  have e:r=.s l:=by cases d<;>simp[BO,AV.plain] at hp<;>exact hp.symm
  subst e;exact⟨Ab.plain (fun _ _ _ h=>.inl h) _ _ rfl h,rfl⟩
 | .i k n,r,y,hp,h=>by
  have e:r=.i k n:=by cases d<;>simp[BO,AV.plain] at hp<;>exact hp.symm
  subst e;exact⟨Ab.plain (fun _ _ _ h=>.inl h) _ _ rfl h,rfl⟩
 | .b x,r,y,hp,h=>by
  have e:r=.b x:=by cases d<;>simp[BO,AV.plain] at hp<;>exact hp.symm
  subst e;exact⟨Ab.plain (fun _ _ _ h=>.inl h) _ _ rfl h,rfl⟩
 | .nil,r,y,hp,h=>by
  have e:r=.nil:=by cases d<;>simp[BO,AV.plain] at hp<;>exact hp.symm
  subst e;exact⟨Ab.plain (fun _ _ _ h=>.inl h) _ _ rfl h,rfl⟩
 | .zn z,r,y,hp,h=>by
  have e:r=.zn z:=by cases d<;>simp[BO,AV.plain] at hp<;>exact hp.symm
  subst e;exact⟨Ab.plain (fun _ _ _ h=>.inl h) _ _ rfl h,rfl⟩
 | .o v,r,y,hp,h=>by
  have e:r=.o v:=by cases d<;>simp[BO,AV.plain] at hp<;>exact hp.symm
  subst e;exact⟨Ab.plain (fun _ _ _ h=>.inl h) _ _ rfl h,rfl⟩
 | .u,r,y,hp,h=>by
  have e:r=.u:=by cases d<;>simp[BO,AV.plain] at hp<;>exact hp.symm
  subst e;exact⟨Ab.plain (fun _ _ _ h=>.inl h) _ _ rfl h,rfl⟩
 | .row n xs,r,y,hp,h=>by
  have e:(AV.row n xs).plain=true/\r=.row n xs:=by
   cases d<;>(simp only[BO] at hp;split at hp<;>first|(rename_i hq;injection hp with hp;exact⟨hq,hp.symm⟩)|cases hp)
  obtain⟨e1,rfl⟩:=e;exact⟨Ab.plain (fun _ _ _ h=>.inl h) _ _ e1 h,e1⟩
 | .prow xs j,r,y,hp,h=>by
  have e:(AV.prow xs j).plain=true/\r=.prow xs j:=by
   cases d<;>(simp only[BO] at hp;split at hp<;>first|(rename_i hq;injection hp with hp;exact⟨hq,hp.symm⟩)|cases hp)
  obtain⟨e1,rfl⟩:=e;exact⟨Ab.plain (fun _ _ _ h=>.inl h) _ _ e1 h,e1⟩
 | .crow n xs,r,y,hp,h=>by
  have e:(AV.crow n xs).plain=true/\r=.crow n xs:=by
   cases d<;>(simp only[BO] at hp;split at hp<;>first|(rename_i hq;injection hp with hp;exact⟨hq,hp.symm⟩)|cases hp)
  obtain⟨e1,rfl⟩:=e;exact⟨Ab.plain (fun _ _ _ h=>.inl h) _ _ e1 h,e1⟩
 | .fn f fs cs,r,y,hp,h=>by
  have e:(AV.fn f fs cs).plain=true/\r=.fn f fs cs:=by
   cases d<;>(simp only[BO] at hp;split at hp<;>first|(rename_i hq;injection hp with hp;exact⟨hq,hp.symm⟩)|cases hp)
  obtain⟨e1,rfl⟩:=e;exact⟨Ab.plain (fun _ _ _ h=>.inl h) _ _ e1 h,e1⟩
theorem Jq {G:Gh} {I:Ak} {objs:List OB} {w:World} (hm:MemOk G I objs w) (d:Nat) (ih:∀d',d=d'+1->∀(xs rs:List AV) (ys:List Value),CX objs d' xs=some rs->Ac G I xs ys->Ac Gh.none (I.rows G objs w) rs ys/\AK rs=true) :
  ∀(xs rs:List AV) (ys:List Value),CX objs d xs=some rs->Ac G I xs ys->Ac Gh.none (I.rows G objs w) rs ys/\AK rs=true
 | [],rs,ys,hp,h=>by
  simp only[CX,zw.injEq] at hp;subst hp;simp only[Ac] at h ⊢;exact⟨h,rfl⟩
 | x::xs,rs,ys,hp,h=>by
  simp only[CX] at hp
  split at hp
  ·rename_i r rs' h1 h2;injection hp with hp;subst hp
   simp only[Ac] at h ⊢;obtain⟨y,ys',e1,e2,e3⟩:=h;obtain⟨k1,k2⟩:=MK hm d ih x r y h1 e2;obtain⟨k3,k4⟩:=Jq hm d ih xs rs' ys' h2 e3;exact⟨⟨y,ys',e1,k1,k3⟩,by simp[AK,k2,k4]⟩
  ·cases hp
end
theorem PZ {G:Gh} {I:Ak} {objs:List OB} {w:World} (hm:MemOk G I objs w):∀(d:Nat) (xs rs:List AV) (ys:List Value),CX objs d xs=some rs->Ac G I xs ys->Ac Gh.none (I.rows G objs w) rs ys/\AK rs=true
 | 0=>Jq hm 0 (fun d' e=>by omega)
 | d+1=>Jq hm (d+1) (fun d' e=>by
   obtain rfl:d=d':=by omega
   exact PZ hm d)
theorem oU {G:Gh} {I:Ak} {objs:List OB} {w:World} (hm:MemOk G I objs w) (d:Nat) (x r:AV) (y:Value) (hp:BO objs d x=some r) (h:Ab G I x y):Ab Gh.none (I.rows G objs w) r y/\r.plain=true:=by
 cases d with
 | zero=>exact MK hm 0 (fun d' e=>by omega) x r y hp h
 | succ d=>exact MK hm (d+1) (fun d' e=>by
   obtain rfl:d=d':=by omega
   exact PZ hm d) x r y hp h
inductive SRes where
 | tmp (t:Nat)
 | cell1 (t:Nat)
 | celln (t sz:Nat)
def Gs (P:Program):ResultVar->Option SRes
 | .tmp t=>some (.tmp t)
 | .cell a t=>match P.underlying t,P.info? t with
  | some d,some i=>some (if d.isRow=true then .celln a i.size else .cell1 a)
  | _,_=>none
def Gr (objs:List OB) (tm:List AV):SRes->Option AV
 | .tmp t=>tm[t]?
 | .cell1 t=>match tm[t]? with
  | some (.p b off)=>match objs[b]? with
   | some (.box _ cs)=>cs[off]?
   | _=>none
  | _=>none
 | .celln t sz=>match tm[t]? with
  | some (.p b off)=>match objs[b]? with
   | some (.box _ cs)=>if off+sz<=cs.length then some (.agg ((cs.drop off).take sz)) else none
   | _=>none
  | _=>none
def Ew (objs:List OB) (tm:List AV):List SRes->Option (List AV)
 | []=>some []
 | r::rs=>match Gr objs tm r,Ew objs tm rs with
  | some x,some xs=>some (x::xs)
  | _,_=>none
def E7:List AV->AV
 | [x]=>x
 | xs=>.tup xs
def G4 (tmps:Array Value):ResultVar->Sem Value
 | .tmp t=>pure (tmps.getD t undef)
 | .cell b t=>do loadVar t (<-asAddr (tmps.getD b undef))
theorem NQ (fn:Func) (tmps:Array Value):results fn tmps=(fn.results.mapM (G4 tmps)) >>= fun vs=>pure (if h:vs.size=1 then vs[0] else .tuple vs):=by
 unfold results
 congr 2
section
variable {P:Program}
theorem YZ {G:Gh} {I:Ak} {objs:List OB} {tm:List AV} {a:Act} {w:World} (hm:MemOk G I objs w) (hd:Ac G I tm a.tmps.toList) (r:ResultVar) (s:SRes) (x:AV) (hs:Gs P r=some s) (hx:Gr objs tm s=some x) :
  ∃y,(G4 a.tmps r).run P w=.ok y w/\Ab G I x y:=by
 cases r with
 | tmp t=>
  simp only[Gs,zw.injEq] at hs;subst hs;simp only[Gr] at hx;obtain⟨y,h1,h2⟩:=Ac.get t hd hx;refine⟨y,?_,h2⟩;rw[Array.getElem?_toList] at h1;simp only[G4,Array.getD_eq_getD_getElem?,h1,jc];rfl
 | cell b t=>
  simp only[Gs] at hs
  split at hs
  ·rename_i d i hu hi;injection hs with hs;subst hs
   have getp:∀bb off,tm[b]? = some (.p bb off)->∃g,G.blk bb=some g/\a.tmps.getD b undef=.pointer (some ⟨g,off,none⟩):=by
    intro bb off ht;obtain⟨y,h1,h2⟩:=Ac.get b hd ht;simp only[Ab] at h2;obtain⟨g,hg,rfl⟩:=h2;rw[Array.getElem?_toList] at h1;exact⟨g,hg,by simp[Array.getD_eq_getD_getElem?,h1]⟩
   rcases hr:d.isRow with _|_
   ·simp only[hr,Bool.false_eq_true,if_false,Gr] at hx
    split at hx
    ·rename_i bb off ht
     split at hx
     ·rename_i T cs hb;obtain⟨g,hg,hv⟩:=getp bb off ht;obtain⟨g',ys,k1,k2,k3,k4⟩:=hm.box bb T cs hb;obtain rfl:g=g':=zw.inj (hg.symm.trans k1);obtain⟨y,hy,hyd⟩:=Ac.get off k3 hx;refine⟨y,?_,hyd⟩;have hcell:w.cell? ⟨g,off,none⟩=some y:=by rw[cell_of_row w g off _ T (0,0) k2];simpa using hy
      simp[G4,hv,asAddr,loadVar,JI hu,hr,load,Sem.run,hcell]
     ·cases hx
    ·cases hx
   ·simp only[hr,if_true,Gr] at hx
    split at hx
    ·rename_i bb off ht
     split at hx
     ·rename_i T cs hb
      split at hx
      ·rename_i hlen;injection hx with hx;subst hx
       obtain⟨g,hg,hv⟩:=getp bb off ht;obtain⟨g',ys,k1,k2,k3,k4⟩:=hm.box bb T cs hb;obtain rfl:g=g':=zw.inj (hg.symm.trans k1);have hl:=k3.length;refine⟨.agg ((ys.drop off).take i.size).toArray,?_,?_⟩
       ·have:=run_loadVar_mid (P:=P) w g off t ((ys.drop off).take i.size) d (by
         intro j v hj;rw[cell_of_row w g (off+j) _ T (0,0) k2];rw[List.getElem?_take] at hj
         split at hj
         ·simpa[jt] using hj
         ·cases hj) hu hr (by rw[hi];simp;omega)
        simp[G4,hv,asAddr,this]
       ·simp only[Ab];exact⟨_,rfl,Ac.take i.size (Ac.drop off k3),fun u hu=>k4 u (List.mem_of_mem_drop (List.mem_of_mem_take hu))⟩
      ·cases hx
     ·cases hx
    ·cases hx
  ·cases hs
theorem R3 {G:Gh} {I:Ak} {objs:List OB} {tm:List AV} {a:Act} {w:World} (hm:MemOk G I objs w) (hd:Ac G I tm a.tmps.toList):∀(rs:List ResultVar) (ss:List SRes) (xs:List AV),rs.mapM (Gs P)=some ss->Ew objs tm ss=some xs ->
  ∃ys,(rs.mapM (G4 a.tmps)).run P w=.ok ys w/\Ac G I xs ys
 | [],ss,xs,hs,hx=>by
  simp at hs;subst hs;simp only[Ew,zw.injEq] at hx;subst hx;exact⟨[],by simp,Ac.nil⟩
 | r::rs,ss,xs,hs,hx=>by
  simp only[List.mapM_cons,Option.bind_eq_bind,Option.pure_def] at hs
  cases h1:Gs P r with
  | none=>simp[h1] at hs
  | some s=>
   cases h2:rs.mapM (Gs P) with
   | none=>simp[h1,h2] at hs
   | some ss'=>
    simp[h1,h2] at hs;subst hs;simp only[Ew] at hx
    split at hx
    ·rename_i x xs' hx1 hx2;injection hx with hx;subst hx
     obtain⟨y,k1,k2⟩:=YZ hm hd r s x h1 hx1;obtain⟨ys,k3,k4⟩:=R3 hm hd rs ss' xs' h2 hx2;exact⟨y::ys,by simp only[List.mapM_cons,Sem.run_bind,k1,Result.andThen_ok,k3,Sem.run_pure],Ac.cons k2 k4⟩
    ·cases hx
theorem S0 {fn:Func} {G:Gh} {I:Ak} {objs:List OB} {tm:List AV} {a:Act} {w:World} (hm:MemOk G I objs w) (hd:Ac G I tm a.tmps.toList) (ss:List SRes) (xs:List AV) (hs:fn.results.toList.mapM (Gs P)=some ss) (hx:Ew objs tm ss=some xs) :
  ∃y,(results fn a.tmps).run P w=.ok y w/\Ab G I (E7 xs) y:=by
 obtain⟨ys,h1,h2⟩:=R3 hm hd _ ss xs hs hx;have hl:=h2.length;have hr:(fn.results.mapM (G4 a.tmps)).run P w=.ok ys.toArray w:=by
  rw[Array.mapM_eq_mapM_toList,Sem.run_map,h1];rfl
 match xs,ys,h2,hl with
 | [x],[y],h2,_=>
  simp only[Ac] at h2;obtain⟨y',ys',e,h3,h4⟩:=h2;injection e with e1 e2;subst e1
  refine⟨y,?_,h3⟩;rw[NQ,Sem.run_bind,hr];simp
 | [],[],h2,_=>
  refine⟨.tuple #[],?_,?_⟩
  ·rw[NQ,Sem.run_bind,hr];simp
  ·simp only[E7,Ab];exact⟨[],rfl,Ac.nil⟩
 | x::x'::xs,y::y'::ys,h2,_=>
  refine⟨.tuple (y::y'::ys).toArray,?_,?_⟩
  ·rw[NQ,Sem.run_bind,hr];simp
  ·simp only[E7,Ab];exact⟨_,rfl,h2⟩
 | [],y::ys,h2,hl=>exact absurd hl (by simp)
 | x::xs,[],h2,hl=>exact absurd hl (by simp)
 | [x],y::y'::ys,h2,hl=>exact absurd hl (by simp)
 | x::x'::xs,[y],h2,hl=>exact absurd hl (by simp)
def Gq (ss:List SRes) (K:AV->Prop) (objs:List OB) (tm:List AV):Prop :=
 match (Ew objs tm ss).bind (fun xs=>BO objs 5 (E7 xs)) with
 | some r=>K r
 | none=>False
def HY (ss:List SRes) (K:AV->Prop):Bg
 | .normal,objs,tm=>Gq ss K objs tm
 | .ret,objs,tm=>Gq ss K objs tm
 | _,_,_=>False
structure FnIs (P:Program) (f:FuncId) (n:Nat) (ss:List SRes) (sc:SCode):Prop where
 is:∃fn c,P.funcs[f]? = some fn/\fn.body=some c/\fn.ntmps=n/\fn.results.toList.mapM (Gs P)=some ss/\BA P c=some sc
theorem lY [Tabs P] {f:FuncId} {n:Nat} {ss:List SRes} {sc:SCode} (hf:FnIs P f n ss sc) {args:List AV} {objs:List OB} {K:List OB->AV->Prop} (hp:AK args=true)
  (h:∀(C:Cx) [On P C],DF P C sc (HY ss (fun r=>K objs r)) [] (args++qr (n - args.length) (.o undef))):Ag P f args objs K:=by
 intro C hOn G I w hin hm ys hd;obtain⟨fn,c,h1,h2,h3,h4,h5⟩:=hf.is
 let C':Cx:=⟨w,fun _=>False,I,Gh.none⟩
 haveI hOn':On P C':=⟨hin.tab (P:=P),fun _ h=>h⟩
 have hwp:=OW (C:=C') c sc _ [] _ h5 (h C');have hlen:=hd.length;have hrel:CU C' [] (args++qr (n - args.length) (.o undef)) { tmps:=ys.toArray++Array.replicate (fn.ntmps - ys.toArray.size) undef,defers:=[] } w:=by
  refine⟨Gh.none,I,⟨rfl,rfl,rfl,zd _,fun _ _ _=>rfl,fun _ _ _ h=>h,fun _ _ _ h=>.inl h,fun b g hb=>by simp[Gh.own,Gh.none] at hb,Gh.le.refl _⟩,
   ⟨hm.imm,by simp,by simp,by simp,fun b b' g hb=>by simp[Gh.own,Gh.none] at hb,fun b g hb=>by simp[Gh.own,Gh.none] at hb,fun b g o v hb=>by simp[Gh.own,Gh.none] at hb,fun b _=>⟨rfl,rfl⟩⟩,?_,rfl⟩
  simp only[Array.toList_append,Array.toList_replicate,h3,xm];refine Ac.append (Ac.plain (Ak.le.refl I) _ _ hp hd) ?_;rw[hlen];have:∀k,Ac Gh.none I (qr k (.o undef)) (qr k undef):=by
   intro k
   induction k with
   | zero=>exact Ac.nil
   | succ k ih=>exact Ac.cons (by simp[Ab]) ih
  exact this _
 refine calls_of_wp h1 h2 (wp_mono (hwp _ _ hrel) ?_);rintro e a' w' ⟨objs',tm',hk,G',I',hin',hm',hd',hdef⟩;have key:Gq ss (fun r=>K objs r) objs' tm' ->
   a'.defers=[]/\∃v,(results fn a'.tmps).run P w'=.ok v w'/\∃y objs'' r G'' I'',Ending.returned v=.returned y/\K objs'' r/\G.le G''/\Ak.le I I''/\In C G'' I'' w'/\MemOk G'' I'' objs'' w'/\Ab G'' I'' r y:=by
  intro hk;unfold Gq at hk
  split at hk
  ·rename_i r hr0;obtain⟨xs,hxs,hr⟩:=Option.bind_eq_some_iff.1 hr0
   ·obtain⟨y,hy,hyd⟩:=S0 (P:=P) (fn:=fn) hm' hd' ss xs h4 hxs;obtain⟨p1,p2⟩:=oU hm' 5 _ r y hr hyd;have hg:w.grownBy w' none:=⟨hin'.os,hin'.tape,hin'.output,hin'.size,fun k hk _=>hin'.block k hk (fun h=>h)⟩;have hle:Ak.le I (I'.rows G' objs' w'):=fun g o v hi=>.inl (hin'.imm g o v hi);have hnew:∀g o v,I'.rows G' objs' w' g o v->I g o v\/w.heap.size<=g:=by
     rintro g o v (hi|⟨_,b,E,sz,gen,n,xs,hb,ho⟩)
     ·rcases hin'.news g o v hi with h|h|h
      ·exact .inl h
      ·exact h.elim
      ·exact .inr h
     ·rcases hin'.blk b g ho with h|h
      ·exact h.elim
      ·exact .inr h
    refine⟨hdef,y,hy,y,objs,r,G,I'.rows G' objs' w',rfl,hk,Gh.le.refl G,hle,(hin.evolve hg (by simp)).imm_more hle ?_,(hm.evolve hg).imm_more hle ?_ ?_,Ab.plain (Ak.le.refl _) r y p2 p1⟩
    ·intro g o v hi;rcases hnew g o v hi with h|h
     ·exact .inl h
     ·exact .inr (.inr (Nat.le_trans hin.size h))
    ·rintro g o v (hi|⟨hc,_⟩)
     ·exact hm'.imm g o v hi
     ·exact hc
    ·intro b g o v hb hi;rcases hnew g o v hi with h|h
     ·exact hm.apart b g o v hb h
     ·have:=hm.lt b g hb;omega
  ·exact hk.elim
 cases e with
 | normal=>exact key hk
 | ret=>exact key hk
 | _=>exact hk.elim
def Gp (ss:List SRes) (K:List OB->AV->Prop) (objs:List OB) (tm:List AV):Prop :=
 match Ew objs tm ss with
 | some xs=>K objs (E7 xs)
 | none=>False
def J0 (ss:List SRes) (K:List OB->AV->Prop):Bg
 | .normal,objs,tm=>Gp ss K objs tm
 | .ret,objs,tm=>Gp ss K objs tm
 | _,_,_=>False
theorem lX [Tabs P] {f:FuncId} {n:Nat} {ss:List SRes} {sc:SCode} (hf:FnIs P f n ss sc) {args:List AV} {objs:List OB} {K:List OB->AV->Prop}
  (h:∀(C:Cx) [On P C],DF P C sc (J0 ss K) objs (args++qr (n - args.length) (.o undef))):Ag P f args objs K:=by
 intro C hOn G I w hin hm ys hd;obtain⟨fn,c,h1,h2,h3,h4,h5⟩:=hf.is
 let C':Cx:=⟨C.w,C.own,I,G⟩
 haveI hOn':On P C':=⟨hOn.tab,hOn.own⟩
 have hwp:=OW (C:=C') c sc _ objs _ h5 (h C');have hlen:=hd.length;have hrel:CU C' objs (args++qr (n - args.length) (.o undef)) { tmps:=ys.toArray++Array.replicate (fn.ntmps - ys.toArray.size) undef,defers:=[] } w:=by
  refine⟨G,I,⟨hin.os,hin.tape,hin.output,hin.size,hin.block,fun _ _ _ h=>h,fun _ _ _ h=>.inl h,hin.blk,Gh.le.refl G⟩,hm,?_,rfl⟩;simp only[Array.toList_append,Array.toList_replicate,h3,xm];refine Ac.append hd ?_;rw[hlen];have:∀k,Ac G I (qr k (.o undef)) (qr k undef):=by
   intro k
   induction k with
   | zero=>exact Ac.nil
   | succ k ih=>exact Ac.cons (by simp[Ab]) ih
  exact this _
 refine calls_of_wp h1 h2 (wp_mono (hwp _ _ hrel) ?_);rintro e a' w' ⟨objs',tm',hk,G',I',hin',hm',hd',hdef⟩;have key:Gp ss K objs' tm' ->
   a'.defers=[]/\∃v,(results fn a'.tmps).run P w'=.ok v w'/\∃y objs'' r G'' I'',Ending.returned v=.returned y/\K objs'' r/\G.le G''/\Ak.le I I''/\In C G'' I'' w'/\MemOk G'' I'' objs'' w'/\Ab G'' I'' r y:=by
  intro hk;unfold Gp at hk
  split at hk
  ·rename_i xs hxs;obtain⟨y,hy,hyd⟩:=S0 (P:=P) (fn:=fn) hm' hd' ss xs h4 hxs;refine⟨hdef,y,hy,y,objs',_,G',I',rfl,hk,hin'.gh,hin'.imm,⟨hin'.os,hin'.tape,hin'.output,hin'.size,hin'.block,fun g o v hi=>hin'.imm g o v (hin.imm g o v hi),fun g o v hi=>?_,hin'.blk,hin.gh.trans hin'.gh⟩,hm',hyd⟩;rcases hin'.news g o v hi with h|h
   ·exact hin.news g o v h
   ·exact .inr h
  ·exact hk.elim
 cases e with
 | normal=>exact key hk
 | ret=>exact key hk
 | _=>exact hk.elim
theorem law_ok [Tabs P] {f:FuncId} {args:List AV} {ys:List Value} {w:World} (hd:Ac Gh.none (fun g o v=>w.cell? ⟨g,o,none⟩=some v) args ys) (hT:Tabs.T (P:=P) w) (h:Ag P f args [] (fun _ r=>r=.b true)) :
  Calls P f ys.toArray w fun e w'=>e=.returned (.bool true)/\Below w.heap.size w w':=by
 haveI:On P ⟨w,fun _=>False,fun g o v=>w.cell? ⟨g,o,none⟩=some v,Gh.none⟩:=⟨hT,fun _ h=>h⟩
 have hc:=h ⟨w,fun _=>False,fun g o v=>w.cell? ⟨g,o,none⟩=some v,Gh.none⟩ Gh.none (fun g o v=>w.cell? ⟨g,o,none⟩=some v) w
  ⟨rfl,rfl,rfl,zd _,fun _ _ _=>rfl,fun _ _ _ h=>h,fun _ _ _ h=>.inl h,fun b g hb=>by simp[Gh.own,Gh.none] at hb,Gh.le.refl _⟩
  ⟨fun _ _ _ h=>h,by simp,by simp,by simp,fun b b' g hb=>by simp[Gh.own,Gh.none] at hb,fun b g hb=>by simp[Gh.own,Gh.none] at hb,fun b g o v hb=>by simp[Gh.own,Gh.none] at hb,fun b _=>⟨rfl,rfl⟩⟩ ys hd
 refine hc.mono ?_;rintro e w' ⟨y,objs',r,G',I',rfl,rfl,_,_,hin,_,hy⟩;simp only[Ab] at hy;subst hy;exact⟨rfl,hin.os,hin.tape,hin.output,hin.size,fun k hk=>hin.block k hk (fun h=>h)⟩
end
inductive IT where
 | code (c:SCode)
 | ops (l:List SO)
 | dops (l:List SO)
 | ap (l:List (Nat×Nat×Option (Nat×Bool)))
 | blk (id:Nat)
def DV (P:Program) [Tabs P] (C:Cx) (F:Bg):List IT->Bg
 | []=>F
 | .code c::k=>EK (fun o t=>DF P C c (DV P C F k) o t) (DV P C F k)
 | .ops l::k=>EK (fun o t=>Aq P l o t fun o t=>DV P C F k .normal o t) (DV P C F k)
 | .dops l::k=>EK (fun o t=>Br P l o t fun o t=>DV P C F k .normal o t) (DV P C F k)
 | .ap l::k=>EK (fun o t=>CD l t/\DV P C F k .normal o t) (DV P C F k)
 | .blk id::k=>Gg id (DV P C F k)
def run (P:Program) [Tabs P] (C:Cx) (k:List IT) (objs:List OB) (tm:List AV) (F:Bg):Prop:=DV P C F k .normal objs tm
def Ek (P:Program) [Tabs P] (C:Cx) (id:Nat) (k:List IT) (objs:List OB) (tm:List AV) (F:Bg):Prop:=DV P C F k (.exit id) objs tm
def J7 (P:Program) [Tabs P] (C:Cx) (J:Nat->List OB->List AV->Prop) (n:Nat) (k:List IT) (F:Bg):Bg:=EK (fun o t=>∃m,m<n/\J m o t) (DV P C F k)
def EG (tm:List AV):List SV->List AV
 | []=>[]
 | x::xs=>x.ev tm::EG tm xs
theorem G7 (tm:List AV):∀l:List SV,EG tm l=l.map fun x=>x.ev tm
 | []=>rfl
 | x::l=>by rw[EG,G7 tm l];rfl
section
variable {P:Program} [Tabs P] {C:Cx} {F:Bg} {k:List IT} {r:List SO} {objs:List OB} {tm:List AV} {d:Option Nat}
theorem pC:run P C [] objs tm F=F .normal objs tm:=Eq.trans rfl rfl
theorem VJ (x y:SCode):run P C (.code (.seq x y)::k) objs tm F=run P C (.code x::.code y::k) objs tm F:=Eq.trans rfl rfl
theorem Xg:run P C (.code .skip::k) objs tm F=run P C k objs tm F:=Eq.trans rfl rfl
theorem pD (l:List SO):run P C (.code (.reg l)::k) objs tm F=run P C (.ops l::k) objs tm F:=Eq.trans rfl rfl
theorem lH (l:List (Nat×Nat×Option (Nat×Bool))):run P C (.ap l::k) objs tm F=(CD l tm/\run P C k objs tm F):=Eq.trans rfl rfl
theorem pB (l:List SO) (n:Nat) (ap:List (Nat×Nat×Option (Nat×Bool))):run P C (.code (.drw l n ap)::k) objs tm F=run P C (.dops (l.take n)::.ap ap::.ops (l.drop n)::k) objs tm F:=Eq.trans rfl rfl
theorem oY (pre:List SO) (cl:SO) (post:List SO):run P C (.code (.crg pre cl post)::k) objs tm F=run P C [.ops pre] objs tm (fun _ _ t1=>run P C [.ops [cl]] objs t1 (fun _ o2 t2=>run P C [.ops pre] o2 tm (fun _ _ t=>t=t1)/\run P C (.ops post::k) o2 t2 F)):=Eq.trans rfl rfl
def FG (P:Program) [Tabs P] (C:Cx):List (List SO×List AV×List AV)->List OB->Prop
 | [],_=>True
 | e::r,o=>run P C [.ops e.1] o e.2.1 (fun _ _ x=>x=e.2.2)/\FG P C r o
def IM (P:Program) [Tabs P] (C:Cx) (st:List (List SO×SO)) (hist:List (List SO×List AV×List AV)) (last:List SO) (k:List IT) (objs:List OB) (tm:List AV) (F:Bg):Prop:=C3 P st hist last objs tm fun o t=>run P C k o t F
theorem Ku:∀(h:List (List SO×List AV×List AV)) (o:List OB),Cg P h o=FG P C h o
 | [],o=>rfl
 | e::h,o=>by
  unfold Cg FG;rw[Ku h o]
  rfl
theorem oZ (st:List (List SO×SO)) (last:List SO):run P C (.code (.crs st last)::k) objs tm F=IM P C st [] last k objs tm F:=Eq.trans rfl rfl
theorem lM (h:List (List SO×List AV×List AV)) (last:List SO):IM P C [] h last k objs tm F=run P C (.ops last::k) objs tm F:=Eq.trans rfl rfl
theorem lL (L:List SO) (c:SO) (st:List (List SO×SO)) (h:List (List SO×List AV×List AV)) (last:List SO):IM P C ((L,c)::st) h last k objs tm F=run P C [.ops L] objs tm (fun _ _ u=>run P C [.ops [c]] objs u (fun _ o' t'=>FG P C ((L,tm,u)::h) o'/\IM P C st ((L,tm,u)::h) last k o' t' F)):=by
 rw[show IM P C ((L,c)::st) h last k objs tm F=Aq P L objs tm (fun _ u=>Aq P [c] objs u fun o' t'=>Cg P ((L,tm,u)::h) o'/\C3 P st ((L,tm,u)::h) last o' t' fun o t=>run P C k o t F) from rfl];simp only[Ku (C:=C)]
 rfl
def IP (P:Program) [Tabs P] (C:Cx) (d:Nat) (T:TypeId) (z:List AV) (sr:SO) (st:List (List SO×SO)) (hist:List (List SO×List AV×List AV)) (last:List SO) (k:List IT) (objs:List OB) (tm:List AV) (F:Bg):Prop:=EZ P d T z st hist last objs tm fun o t=>Aq P [sr] o t fun o t=>run P C k o t F
theorem oX (d:Nat) (T:TypeId) (z:List AV) (st:List (List SO×SO)) (last:List SO) (sr:SO):run P C (.code (.cra d T z st last sr)::k) objs tm F=(tm.length<=1000003/\IP P C d T z sr st [] last k objs tm F):=Eq.trans rfl rfl
theorem lK (d:Nat) (T:TypeId) (z:List AV) (sr:SO) (h:List (List SO×List AV×List AV)) (last:List SO):IP P C d T z sr [] h last k objs tm F=run P C [.ops last] objs tm (fun _ _ u=>FG P C (CM d (.p objs.length 0) ((last,tm,u)::h)) (objs++[.box T z])/\run P C (.ops [sr]::k) (objs++[.box T z]) (u.set d (.p objs.length 0)) F):=by
 rw[show IP P C d T z sr [] h last k objs tm F=Aq P last objs tm (fun _ u=>Cg P (CM d (.p objs.length 0) ((last,tm,u)::h)) (objs++[.box T z])/\Aq P [sr] (objs++[.box T z]) (u.set d (.p objs.length 0)) fun o t=>run P C k o t F) from rfl];simp only[Ku (C:=C)]
 rfl
theorem lJ (d:Nat) (T:TypeId) (z:List AV) (sr:SO) (L:List SO) (c:SO) (st:List (List SO×SO)) (h:List (List SO×List AV×List AV)) (last:List SO):IP P C d T z sr ((L,c)::st) h last k objs tm F=run P C [.ops L] objs tm (fun _ _ u=>(FG P C (CM d (.p objs.length 0) ((L,tm,u)::h)) (objs++[.box T z])/\run P C [.ops [c]] (objs++[.box T z]) (u.set d (.p objs.length 0)) (fun _ o' t'=>FG P C (CM d (.p objs.length 0) ((L,tm,u)::h)) o'/\IM P C st (CM d (.p objs.length 0) ((L,tm,u)::h)) last (.ops [sr]::k) o' t' F))/\run P C [.ops [c]] objs u (fun _ o' t'=>FG P C ((L,tm,u)::h) o'/\IP P C d T z sr st ((L,tm,u)::h) last k o' t' F)):=by
 rw[show IP P C d T z sr ((L,c)::st) h last k objs tm F=Aq P L objs tm (fun _ u=>(Cg P (CM d (.p objs.length 0) ((L,tm,u)::h)) (objs++[.box T z])/\Aq P [c] (objs++[.box T z]) (u.set d (.p objs.length 0)) (fun o' t'=>Cg P (CM d (.p objs.length 0) ((L,tm,u)::h)) o'/\C3 P st (CM d (.p objs.length 0) ((L,tm,u)::h)) last o' t' fun o t=>Aq P [sr] o t fun o t=>run P C k o t F))/\Aq P [c] objs u (fun o' t'=>Cg P ((L,tm,u)::h) o'/\EZ P d T z st ((L,tm,u)::h) last o' t' fun o t=>Aq P [sr] o t fun o t=>run P C k o t F)) from rfl];simp only[Ku (C:=C)]
 rfl
theorem Dz (id:Nat) (c:SCode):run P C (.code (.blk id c)::k) objs tm F=run P C (.code c::.blk id::k) objs tm F:=Eq.trans rfl rfl
theorem Y3 (id:Nat):run P C (.blk id::k) objs tm F=run P C k objs tm F:=Eq.trans rfl rfl
theorem dF:run P C (.ops []::k) objs tm F=run P C k objs tm F:=Eq.trans rfl rfl
theorem eJ:run P C (.dops []::k) objs tm F=run P C k objs tm F:=Eq.trans rfl rfl
theorem GG:∀(k:List IT),DV P C F k .ret objs tm=F .ret objs tm
 | []=>rfl
 | .code c::k=>GG k
 | .ops l::k=>GG k
 | .dops l::k=>GG k
 | .ap l::k=>GG k
 | .blk id::k=>GG k
theorem pE:run P C (.code .ret::k) objs tm F=F .ret objs tm:=GG k
theorem Xe:run P C (.code .dead::k) objs tm F=False:=Eq.trans rfl rfl
theorem Xf (id:Nat):run P C (.code (.exit id)::k) objs tm F=Ek P C id k objs tm F:=Eq.trans rfl rfl
theorem WZ (id:Nat):Ek P C id [] objs tm F=F (.exit id) objs tm:=Eq.trans rfl rfl
theorem YK (id:Nat) (c:SCode):Ek P C id (.code c::k) objs tm F=Ek P C id k objs tm F:=Eq.trans rfl rfl
theorem W2 (id:Nat) (l:List SO):Ek P C id (.ops l::k) objs tm F=Ek P C id k objs tm F:=Eq.trans rfl rfl
theorem YL (id:Nat) (l:List SO):Ek P C id (.dops l::k) objs tm F=Ek P C id k objs tm F:=Eq.trans rfl rfl
theorem VF (id:Nat) (l:List (Nat×Nat×Option (Nat×Bool))):Ek P C id (.ap l::k) objs tm F=Ek P C id k objs tm F:=Eq.trans rfl rfl
theorem WY (id id':Nat):Ek P C id (.blk id'::k) objs tm F=if id=id' then run P C k objs tm F else Ek P C id k objs tm F:=Eq.trans rfl rfl
theorem eV (J:Nat->List OB->List AV->Prop) (n:Nat):J7 P C J n k F .normal objs tm=∃m,m<n/\J m objs tm:=Eq.trans rfl rfl
theorem bE (J:Nat->List OB->List AV->Prop) (n id:Nat):J7 P C J n k F (.exit id) objs tm=Ek P C id k objs tm F:=Eq.trans rfl rfl
theorem Z5 (J:Nat->List OB->List AV->Prop) (n:Nat):J7 P C J n k F .ret objs tm=F .ret objs tm:=GG k
theorem BI [On P C] {c:SCode} (J:Nat->List OB->List AV->Prop) (n:Nat) (h0:J n objs tm) (round:∀n objs tm,J n objs tm->run P C [.code c] objs tm (J7 P C J n k F)):run P C (.code (.loop c)::k) objs tm F :=
 YJ J n h0 round
def nxt (P:Program) [Tabs P] (C:Cx) (d:Option Nat) (r:List SO) (k:List IT) (tm:List AV) (F:Bg) (o:List OB) (v:AV):Prop:=run P C (.ops r::k) o (AJ tm d v) F
theorem qF (o:List OB) (v:AV):nxt P C d r k tm F o v=run P C (.ops r::k) o (AJ tm d v) F:=Eq.trans rfl rfl
theorem lI (op:SOp):run P C (.ops (⟨d,op,none⟩::r)::k) objs tm F=Ah P op objs tm (nxt P C d r k tm F):=Eq.trans rfl rfl
section
variable (objs) (N:List OB->AV->Prop)
def kO:Option AV->Prop
 | some v=>N objs v
 | none=>False
theorem mK (c:Prop) [Decidable c] (v:AV):kO objs N (if c then some v else none)=(c/\N objs v):=by
 by_cases h:c<;>simp[h,kO]
theorem mJ (x:Option AV):(∃v,x=some v/\N objs v)=kO objs N x:=by cases x<;>simp[kO]
theorem kR (x:Option AV):(match x with|some v=>N objs v|none=>False)=kO objs N x:=by cases x<;>rfl
def L8 (x y:AV):AV->Prop
 | .b t=>(t=true->N objs x)/\(t=false->N objs y)
 | _=>False
theorem Wz (x y:AV):L8 objs N x y (.b true)=N objs x:=propext ⟨fun h=>h.1 rfl,fun h=>⟨fun _=>h,fun e=>absurd e.symm Bool.false_ne_true⟩⟩
theorem Wy (x y:AV):L8 objs N x y (.b false)=N objs y:=propext ⟨fun h=>h.2 rfl,fun h=>⟨fun e=>absurd e Bool.false_ne_true,fun _=>h⟩⟩
theorem VE (c x y:SV):Ah P (.pick c x y) objs tm N=L8 objs N (x.ev tm) (y.ev tm) (c.ev tm):=Eq.trans rfl rfl
def LS:AV->Prop
 | .p b off=>match objs[b]? with
  | some (.box _ cs)=>kO objs N cs[off]?
  | _=>False
 | .prow xs j=>kO objs N xs[j]?
 | .porow b gen j=>match objs[b]? with
  | some (.orow _ _ gen' _ xs)=>gen'=gen/\kO objs N xs[j]?
  | _=>False
 | _=>False
theorem WW (x:SV):Ah P (.load1 x) objs tm N=LS objs N (x.ev tm):=by
 simp only[Ah,mJ,kR]
 cases x.ev tm<;>rfl
def Eo (z:Int):IntKind->Prop
 | .i64=>(-9223372036854775808<=z/\z<=9223372036854775807)/\N objs (.i .i64 z)
 | .i8=>N objs (.i .i8 (IntKind.wrap .i8 z))
 | .i16=>N objs (.i .i16 (IntKind.wrap .i16 z))
 | .i32=>N objs (.i .i32 (IntKind.wrap .i32 z))
 | .u8=>N objs (.i .u8 (IntKind.wrap .u8 z))
 | .u16=>N objs (.i .u16 (IntKind.wrap .u16 z))
 | .u32=>N objs (.i .u32 (IntKind.wrap .u32 z))
 | .u64=>N objs (.i .u64 (IntKind.wrap .u64 z))
theorem O1 (q:IntKind) (z:Int):Es q z (fun z=>N objs (.i q z))=Eo objs N z q:=by cases q<;>rfl
def UV:AV->Prop
 | .i q n=>Eo objs N (0 - n) q
 | _=>False
theorem lS (x:SV):Ah P (.neg x) objs tm N=UV objs N (x.ev tm):=by
 simp only[Ah,O1]
 cases x.ev tm<;>rfl
def E2 (q:IntKind) (m n:Int):BinOp->Prop
 | .add=>Eo objs N (m+n) q
 | .sub=>Eo objs N (m - n) q
 | .mul=>Eo objs N (m*n) q
 | .quo=>n≠0/\Eo objs N (m.tdiv n) q
 | .rem=>n≠0/\N objs (.i q (m.tmod n))
 | .eql=>N objs (.b (decide (m=n)))
 | .neq=>N objs (.b (decide (¬m=n)))
 | .lss=>N objs (.b (decide (m<n)))
 | .leq=>N objs (.b (decide (m<=n)))
 | .gtr=>N objs (.b (decide (n<m)))
 | .geq=>N objs (.b (decide (n<=m)))
 | _=>False
def LW (l m:List UInt8):BinOp->Prop
 | .add=>l.length+m.length<=9223372036854775807/\N objs (.s (l++m))
 | .eql=>N objs (.b (decide (l=m)))
 | .neq=>N objs (.b (decide (¬l=m)))
 | _=>False
def LR (op:BinOp) (x y:AV):Prop:=Fq op x y fun v=>N objs v
theorem lQ (op:BinOp) (x y:SV):Ah P (.bin op x y) objs tm N=LR objs N op (x.ev tm) (y.ev tm):=Eq.trans rfl rfl
theorem nC (op:BinOp) (q:IntKind) (m n:Int):LR objs N op (.i q m) (.i q n)=E2 objs N q m n op:=by
 simp only[LR,Fq,O1,true_and]
 cases op<;>rfl
theorem nD (op:BinOp) (l m:List UInt8):LR objs N op (.s l) (.s m)=LW objs N l m op:=by cases op<;>rfl
def I1:AV->Prop
 | .row n _=>N objs (.i .i64 n)
 | .nil=>N objs (.i .i64 0)
 | .orow b gen=>match objs[b]? with
  | some (.orow _ _ gen' n _)=>gen'=gen/\N objs (.i .i64 n)
  | _=>False
 | .zn _=>N objs (.i .i64 0)
 | _=>False
theorem VD (x:SV):Ah P (.lenr x) objs tm N=I1 objs N (x.ev tm):=by simp only[Ah];cases x.ev tm<;>rfl
def Oy (E sz by' m:Nat) (ys:List AV):AV->Prop
 | .orow b gen=>match objs[b]? with
  | some (.orow E' sz' gen' n xs)=>((E'=E/\sz'=sz/\gen'=gen)/\ys.length=m*sz/\(n+m)*by'<=140737488355328/\n+m<=140737488355328)/\N (objs.set b (.orow E sz (gen+1) (n+m) (xs++ys))) (.orow b (gen+1))
  | _=>False
 | .nil=>(ys.length=m*sz/\m*by'<=140737488355328/\m<=140737488355328)/\N (objs++[.orow E sz 0 m ys]) (.orow objs.length 0)
 | _=>False
def U8 (E sz by':Nat) (v:AV):Option (Nat×List AV)->Prop
 | some (m,ys)=>Oy objs N E sz by' m ys v
 | none=>False
theorem lP (E sz by':Nat) (x y:SV):Ah P (.app E sz by' x y) objs tm N=U8 objs N E sz by' (x.ev tm) (C6 objs (y.ev tm)):=by
 simp only[Ah]
 cases C6 objs (y.ev tm)<;>rfl
def OC (E:Nat) (l:List UInt8):AV->Prop
 | .orow b gen=>match objs[b]? with
  | some (.orow E' sz' gen' n xs)=>((E'=E/\sz'=1/\gen'=gen)/\n+l.length<=140737488355328)/\N (objs.set b (.orow E 1 (gen+1) (n+l.length) (xs++A8 l))) (.orow b (gen+1))
  | _=>False
 | .nil=>l.length<=140737488355328/\N (objs++[.orow E 1 0 l.length (A8 l)]) (.orow objs.length 0)
 | _=>False
def UU (E:Nat) (v:AV):AV->Prop
 | .s l=>OC objs N E l v
 | _=>False
theorem VA (E:Nat) (x y:SV):Ah P (.apps E x y) objs tm N=UU objs N E (x.ev tm) (y.ev tm):=by
 simp only[Ah]
 cases y.ev tm<;>rfl
def kM (c:Option OB) (gen:Nat):Prop:=match c with
 | some (.orow _ sz gen' _ xs)=>(gen'=gen/\sz=1)/\∃l,xs=A8 l/\N objs (.s l)
 | _=>False
def kN (c:Option OB) (off n:Nat):Prop:=match c with
 | some (.box _ cs)=>∃l,((cs.drop off).take n=A8 l/\l.length=n)/\N objs (.s l)
 | _=>False
def IQ:AV->Prop
 | .orow b gen=>kM objs N objs[b]? gen
 | .row n xs=>∃l,(xs=A8 l/\n=l.length)/\N objs (.s l)
 | .nil=>N objs (.s [])
 | .bsl b off n=>kN objs N objs[b]? off n
 | _=>False
theorem VC (x:SV):Ah P (.cvbs x) objs tm N=IQ objs N (x.ev tm):=by
 simp only[Ah]
 cases x.ev tm<;>try rfl
 all_goals simp only[IQ]
 all_goals
  generalize objs[_]? = q
  cases q with
  | none=>rfl
  | some ob=>cases ob<;>rfl
theorem kX (q:PQ) (xs:List SV):Ah P (.pu q xs) objs tm N=kO objs N (pq q (EG tm xs)):=by
 simp only[Ah,G7]
 cases pq q (xs.map fun x=>x.ev tm)<;>rfl
def L7 (P:Program) [Tabs P] (f:Nat) (args:List AV):Prop:=Ag P f args objs N
theorem VB (f:Nat) (args:List SV):Ah P (.call f args) objs tm N=L7 objs N P f (EG tm args):=by simp only[Ah,L7,G7]
def GT (P : Program) (f : Nat) : Prop := ∃ fn, P.funcs[f]? = some fn ∧ fn.body.isSome = true ∧ fn.name ≠ "runtime.NumGoroutine"
def O2 (P:Program) [Tabs P] (args:List AV):AV->Prop
 | .fn f fs cs=>GT P f/\Ag P f (fs++args++cs) objs N
 | _=>False
theorem WV (x:SV) (args:List SV):Ah P (.callv x args) objs tm N=O2 objs N P (EG tm args) (x.ev tm):=by
 simp only[Ah,G7]
 cases x.ev tm<;>rfl
def Oz (P:Program) [Tabs P] (tab:List (Nat×Nat)) (args:List AV):AV->Prop
 | .ip T b off=>match tab.lookup T with
  | some f=>Ag P f (.p b off::args) objs N
  | none=>False
 | _=>False
theorem lR (tab:List (Nat×Nat)) (x:SV) (args:List SV):Ah P (.inv tab x args) objs tm N=Oz objs N P tab (EG tm args) (x.ev tm):=by
 simp only[Ah,G7]
 cases x.ev tm<;>rfl
end
section
variable {N:List OB->AV->Prop}
theorem Wx (l:List UInt8) (n:Nat) (hn:n=l.length) (h:N objs (.s l)):IQ objs N (.row n (A8 l)):=⟨l,⟨rfl,hn⟩,h⟩
theorem Ai {f:Nat} {args:List AV} (h:Ag P f args objs N):L7 objs N P f args:=h
theorem I6 {f:Nat} {fs cs args:List AV} (hf:GT P f) (h:Ag P f (fs++args++cs) objs N):O2 objs N P args (.fn f fs cs):=⟨hf,h⟩
theorem G0 {f T b off:Nat} {tab:List (Nat×Nat)} {args:List AV} (hf:tab.lookup T=some f) (h:Ag P f (.p b off::args) objs N):Oz objs N P tab args (.ip T b off):=by
 simp only[Oz,hf];exact h
end
theorem qA (q:IntKind) (a b:Int):pq (.bits .and) [.i q a,.i q b]=some (.i q (q.wrap (BitVec.ofInt q.bits a &&& BitVec.ofInt q.bits b).toNat)):=by simp[pq,H5]
theorem lD (q:IntKind) (a b:Int):pq (.bits .or) [.i q a,.i q b]=some (.i q (q.wrap (BitVec.ofInt q.bits a ||| BitVec.ofInt q.bits b).toNat)):=by simp[pq,H5]
theorem oT (q:IntKind) (a b:Int):pq (.bits .xor) [.i q a,.i q b]=some (.i q (q.wrap (BitVec.ofInt q.bits a ^^^ BitVec.ofInt q.bits b).toNat)):=by simp[pq,H5]
theorem oM (q q':IntKind) (a b:Int):pq .shl [.i q a,.i q' b]=if 0<=b then some (.i q (q.wrap (a*2 ^ (min b.toNat q.bits)))) else none:=Eq.trans rfl rfl
theorem oN (q q':IntKind) (a b:Int):pq .shr [.i q a,.i q' b]=if 0<=b then some (.i q (a.fdiv (2 ^ (min b.toNat q.bits)))) else none:=Eq.trans rfl rfl
theorem lB (q:IntKind) (a b:Int):pq .mn [.i q a,.i q b]=some (.i q (if b<a then b else a)):=by simp[pq]
theorem lC (q:IntKind) (a b:Int):pq .mx [.i q a,.i q b]=some (.i q (if a<b then b else a)):=by simp[pq]
theorem oL (sz n:Nat) (xs:List AV) (q:IntKind) (a:Int):pq (.rsl sz) [.row n xs,.i q a]=if 0<=a/\a<=n then some (.row (n - a.toNat) ((xs.take (n*sz)).drop (a.toNat*sz))) else none:=Eq.trans rfl rfl
theorem W7 (sz:Nat) (q:IntKind) (a:Int):pq (.rsl sz) [.nil,.i q a]=if a=0 then some .nil else none:=Eq.trans rfl rfl
theorem W6 (sz n:Nat) (xs:List AV) (q:IntKind) (a:Int):pq (.rslh sz) [.row n xs,.i q a]=if 0<=a/\a<=n then some (.row a.toNat (xs.take (a.toNat*sz))) else none:=Eq.trans rfl rfl
theorem YQ (sz:Nat) (q:IntKind) (a:Int):pq (.rslh sz) [.nil,.i q a]=if a=0 then some .nil else none:=Eq.trans rfl rfl
theorem W5 (sz n:Nat) (xs:List AV) (q q':IntKind) (a b:Int):pq (.rslb sz) [.row n xs,.i q a,.i q' b]=if 0<=a/\a<=b/\b<=n then some (.row (b.toNat - a.toNat) ((xs.take (b.toNat*sz)).drop (a.toNat*sz))) else none:=Eq.trans rfl rfl
theorem qB (sz len b off:Nat) (q:IntKind) (a:Int):pq (.asl sz len) [.p b off,.i q a]=if 0<=a/\a<len then some (.bsl b (off+a.toNat*sz) (len - a.toNat)) else none:=Eq.trans rfl rfl
theorem W4 (sz len b off:Nat) (q:IntKind) (a:Int):pq (.aslh sz len) [.p b off,.i q a]=if 0<=a/\a<=len/\0<len then some (.bsl b off a.toNat) else none:=Eq.trans rfl rfl
theorem W3 (sz len b off:Nat) (q q':IntKind) (a c:Int):pq (.aslb sz len) [.p b off,.i q a,.i q' c]=if 0<=a/\a<=c/\c<=len/\a<len then some (.bsl b (off+a.toNat*sz) (c.toNat - a.toNat)) else none:=Eq.trans rfl rfl
theorem oP (ne:Bool):pq (.snil ne) [.nil,.nil]=some (.b (!ne)):=Eq.trans rfl rfl
theorem oR (ne b:Bool):pq (.snil ne) [.zn b,.nil]=some (.b (if ne then !b else b)):=Eq.trans rfl rfl
theorem oQ (ne:Bool) (n:Nat) (x:AV) (xs:List AV):pq (.snil ne) [.row n (x::xs),.nil]=some (.b ne):=Eq.trans rfl rfl
theorem oO (n:Nat) (xs:List AV) (q q':IntKind):pq .sl3 [.row n xs,.i q n,.i q' n]=some (.crow n xs):=by simp[pq]
theorem oH (n:Nat) (z:List AV) (pl:List (Nat×Nat)) (xs:List AV):pq (.lit n z pl) xs=(DX z (Gl pl xs)).map (.crow n):=by
 simp only[pq]
theorem VG (a b:Nat) (pl:List (Nat×Nat)) (x:AV) (xs:List AV):Gl ((a,b)::pl) (x::xs)=(a,b,x)::Gl pl xs:=Eq.trans rfl rfl
theorem VH (xs:List AV):Gl [] xs=[]:=by cases xs<;>rfl
theorem W8 (q q':IntKind):pq .sl3 [.nil,.i q 0,.i q' 0]=some (.crow 0 []):=by simp[pq]
theorem oK (T b off:Nat):pq (.mki T) [.p b off]=some (.ip T b off):=Eq.trans rfl rfl
theorem oJ (T:Nat) (q:IntKind) (n:Int):pq (.mki T) [.i q n]=some (.o (.iface T (.int q n))):=Eq.trans rfl rfl
theorem oS (T:Nat) (q:IntKind) (n:Int):pq (.tas T) [.o (.iface T (.int q n))]=some (.tup [.i q n,.b true]):=by simp[pq]
theorem oI (l m:List UInt8):pq (.scmp .lss) [.s l,.s m]=some (.b (Du l m)):=Eq.trans rfl rfl
theorem oG (l m:List UInt8):pq (.scmp .leq) [.s l,.s m]=some (.b (Du l m||l==m)):=Eq.trans rfl rfl
theorem qD (l m:List UInt8):pq (.scmp .gtr) [.s l,.s m]=some (.b (!Du l m&&!(l==m))):=Eq.trans rfl rfl
theorem qC (l m:List UInt8):pq (.scmp .geq) [.s l,.s m]=some (.b (!Du l m)):=Eq.trans rfl rfl
def kG (P:Program) [Tabs P] (C:Cx) (v:AV) (op:SOp) (t:Nat) (w:Bool) (d:Option Nat) (r:List SO) (k:List IT) (objs:List OB) (tm:List AV) (F:Bg):Prop :=
 match v with
 | .b x=>(x=w->run P C (.ops (⟨d,op,none⟩::r)::k) objs (tm.set t (.b w)) F)/\(x=!w->run P C (.ops r::k) objs (AJ (tm.set t (.b (!w))) d (.o undef)) F)
 | .o (.tuple _)=>run P C (.ops r::k) objs (AJ tm d (.o undef)) F
 | _=>False
def GP (P:Program) [Tabs P] (C:Cx) (v:AV) (op:SOp) (t:Nat) (w:Bool) (d:Option Nat) (r:List SO) (k:List IT) (objs:List OB) (tm:List AV) (F:Bg):Prop :=
 match v with
 | .b x=>(x=w->run P C (.dops (⟨d,op,none⟩::r)::k) objs (tm.set t (.b w)) F)/\(x=!w->run P C (.dops r::k) objs (AJ (tm.set t (.b (!w))) d (.o undef)) F)
 | .o (.tuple _)=>run P C (.dops r::k) objs (AJ tm d (.o undef)) F
 | _=>False
theorem mI (op:SOp) (t:Nat):kG P C (.b true) op t true d r k objs tm F=run P C (.ops (⟨d,op,none⟩::r)::k) objs (tm.set t (.b true)) F:=propext ⟨fun h=>h.1 rfl,fun h=>⟨fun _=>h,fun e=>absurd e (by decide)⟩⟩
theorem mH (op:SOp) (t:Nat):kG P C (.b true) op t false d r k objs tm F=run P C (.ops r::k) objs (AJ (tm.set t (.b true)) d (.o undef)) F:=propext ⟨fun h=>h.2 rfl,fun h=>⟨fun e=>absurd e (by decide),fun _=>h⟩⟩
theorem mG (op:SOp) (t:Nat):kG P C (.b false) op t true d r k objs tm F=run P C (.ops r::k) objs (AJ (tm.set t (.b false)) d (.o undef)) F:=propext ⟨fun h=>h.2 rfl,fun h=>⟨fun e=>absurd e (by decide),fun _=>h⟩⟩
theorem mF (op:SOp) (t:Nat):kG P C (.b false) op t false d r k objs tm F=run P C (.ops (⟨d,op,none⟩::r)::k) objs (tm.set t (.b false)) F:=propext ⟨fun h=>h.1 rfl,fun h=>⟨fun _=>h,fun e=>absurd e (by decide)⟩⟩
theorem kP (op:SOp) (t:Nat) (w:Bool):kG P C (.o undef) op t w d r k objs tm F=run P C (.ops r::k) objs (AJ tm d (.o undef)) F:=Eq.trans rfl rfl
theorem kQ (op:SOp) (t:Nat) (w:Bool) (vs:Array Value):kG P C (.o (.tuple vs)) op t w d r k objs tm F=run P C (.ops r::k) objs (AJ tm d (.o undef)) F:=Eq.trans rfl rfl
theorem nH (op:SOp) (t:Nat):GP P C (.b true) op t true d r k objs tm F=run P C (.dops (⟨d,op,none⟩::r)::k) objs (tm.set t (.b true)) F:=propext ⟨fun h=>h.1 rfl,fun h=>⟨fun _=>h,fun e=>absurd e (by decide)⟩⟩
theorem nG (op:SOp) (t:Nat):GP P C (.b true) op t false d r k objs tm F=run P C (.dops r::k) objs (AJ (tm.set t (.b true)) d (.o undef)) F:=propext ⟨fun h=>h.2 rfl,fun h=>⟨fun e=>absurd e (by decide),fun _=>h⟩⟩
theorem nF (op:SOp) (t:Nat):GP P C (.b false) op t true d r k objs tm F=run P C (.dops r::k) objs (AJ (tm.set t (.b false)) d (.o undef)) F:=propext ⟨fun h=>h.2 rfl,fun h=>⟨fun e=>absurd e (by decide),fun _=>h⟩⟩
theorem nE (op:SOp) (t:Nat):GP P C (.b false) op t false d r k objs tm F=run P C (.dops (⟨d,op,none⟩::r)::k) objs (tm.set t (.b false)) F:=propext ⟨fun h=>h.1 rfl,fun h=>⟨fun _=>h,fun e=>absurd e (by decide)⟩⟩
theorem mD (op:SOp) (t:Nat) (w:Bool):GP P C (.o undef) op t w d r k objs tm F=run P C (.dops r::k) objs (AJ tm d (.o undef)) F:=Eq.trans rfl rfl
theorem mE (op:SOp) (t:Nat) (w:Bool) (vs:Array Value):GP P C (.o (.tuple vs)) op t w d r k objs tm F=run P C (.dops r::k) objs (AJ tm d (.o undef)) F:=Eq.trans rfl rfl
theorem Y2 (op:SOp) (t:Nat) (w:Bool):run P C (.ops (⟨d,op,some (t,w)⟩::r)::k) objs tm F=kG P C ((tm[t]?).getD .u) op t w d r k objs tm F:=by
 show Aq P _ _ _ _=_;simp only[Aq,kG]
 cases (tm[t]?).getD .u<;>try rfl
 try (case o v=>cases v<;>rfl)
theorem ZZ (op:SOp) (t:Nat) (w:Bool):run P C (.dops (⟨d,op,some (t,w)⟩::r)::k) objs tm F=GP P C ((tm[t]?).getD .u) op t w d r k objs tm F:=by
 show Br P _ _ _ _=_;simp only[Br,GP]
 cases (tm[t]?).getD .u<;>try rfl
 try (case o v=>cases v<;>rfl)
def kC (P:Program) [Tabs P] (C:Cx) (v:AV) (x y:SCode) (k:List IT) (objs:List OB) (tm:List AV) (F:Bg):Prop :=
 match v with
 | .b t=>(t=true->run P C (.code x::k) objs tm F)/\(t=false->run P C (.code y::k) objs tm F)
 | _=>False
theorem kL (x y:SCode):kC P C (.b true) x y k objs tm F=run P C (.code x::k) objs tm F:=propext ⟨fun h=>h.1 rfl,fun h=>⟨fun _=>h,fun e=>absurd e (by decide)⟩⟩
theorem kK (x y:SCode):kC P C (.b false) x y k objs tm F=run P C (.code y::k) objs tm F:=propext ⟨fun h=>h.2 rfl,fun h=>⟨fun e=>absurd e (by decide),fun _=>h⟩⟩
theorem Xd (c:SV) (x y:SCode):run P C (.code (.cond c x y)::k) objs tm F=kC P C (c.ev tm) x y k objs tm F:=by
 show DF P C _ _ _ _=_;simp only[DF,kC]
 cases c.ev tm<;>rfl
def Kq (P:Program) [Tabs P] (C:Cx) (f:Nat) (args:List AV) (d:Option Nat) (r:List SO) (k:List IT) (objs:List OB) (tm:List AV) (F:Bg):Prop:=∃v,(Ag P f args objs fun o x=>o=objs/\x=v)/\run P C (.dops r::k) objs (AJ tm d v) F
theorem Y1 (f:Nat) (args:List SV):run P C (.dops (⟨d,.call f args,none⟩::r)::k) objs tm F=Kq P C f (EG tm args) d r k objs tm F:=by
 show Br P _ _ _ _=_;simp only[Br,Ah,Kq,G7,SOp.isCall,if_true];rfl
def Kr (P:Program) [Tabs P] (C:Cx) (f:Nat) (args:List AV) (d:Option Nat) (r:List SO) (k:List IT) (objs:List OB) (tm:List AV) (F:Bg):Prop:=∃v,(AK args=true/\Ag P f args [] fun _ x=>x.plain=true/\objs=objs/\x=v)/\run P C (.dops r::k) objs (AJ tm d v) F
theorem QV (f:Nat) (args:List SV):run P C (.dops (⟨d,.pcall f args,none⟩::r)::k) objs tm F=Kr P C f (EG tm args) d r k objs tm F:=by
 show Br P (⟨d,.pcall f args,none⟩::r) objs tm _=_;simp only[Br,Ah,Kr,G7,SOp.isCall,if_true];rfl
theorem Fd {f:Nat} {args:List AV} {v:AV} (h:Ag P f args [] fun _ x=>x=v) (hp:AK args=true) (hv:v.plain=true) (hr:run P C (.dops r::k) objs (AJ tm d v) F):Kr P C f args d r k objs tm F :=
 ⟨v,⟨hp,h.mono fun _ x e=>by subst e;exact⟨hv,rfl,rfl⟩⟩,hr⟩
theorem Bq {f:Nat} {args:List AV} {v:AV} (h:Ag P f args objs fun o x=>o=objs/\x=v) (hr:run P C (.dops r::k) objs (AJ tm d v) F):Kq P C f args d r k objs tm F:=⟨v,h,hr⟩
section
variable (P) [Tabs P] (C) (d r k objs tm F)
def dT (op:SOp):Prop:=run P C (.ops [⟨d,op,none⟩]::.dops r::k) objs tm F
def dS:SOp->Prop
 | .call f a=>Kq P C f (EG tm a) d r k objs tm F
 | .pcall f a=>Kr P C f (EG tm a) d r k objs tm F
 | .mv x=>dT P C F k r objs tm d (.mv x)
 | .pick x y z=>dT P C F k r objs tm d (.pick x y z)
 | .alloc x y=>dT P C F k r objs tm d (.alloc x y)
 | .box x y=>dT P C F k r objs tm d (.box x y)
 | .build x y=>dT P C F k r objs tm d (.build x y)
 | .bslice x y z=>dT P C F k r objs tm d (.bslice x y z)
 | .bslo x y z v w=>dT P C F k r objs tm d (.bslo x y z v w)
 | .load1 x=>dT P C F k r objs tm d (.load1 x)
 | .loadn x y=>dT P C F k r objs tm d (.loadn x y)
 | .store x y z=>dT P C F k r objs tm d (.store x y z)
 | .nck x=>dT P C F k r objs tm d (.nck x)
 | .bin x y z=>dT P C F k r objs tm d (.bin x y z)
 | .beq x y z=>dT P C F k r objs tm d (.beq x y z)
 | .eqs x y z v=>dT P C F k r objs tm d (.eqs x y z v)
 | .not x=>dT P C F k r objs tm d (.not x)
 | .neg x=>dT P C F k r objs tm d (.neg x)
 | .cvi x y=>dT P C F k r objs tm d (.cvi x y)
 | .cvs x=>dT P C F k r objs tm d (.cvs x)
 | .cvbs x=>dT P C F k r objs tm d (.cvbs x)
 | .slcs x y z=>dT P C F k r objs tm d (.slcs x y z)
 | .fad x y=>dT P C F k r objs tm d (.fad x y)
 | .fld1 x y=>dT P C F k r objs tm d (.fld1 x y)
 | .fldn x y z=>dT P C F k r objs tm d (.fldn x y z)
 | .iad x y z=>dT P C F k r objs tm d (.iad x y z)
 | .iada x y z v=>dT P C F k r objs tm d (.iada x y z v)
 | .iadr x y z=>dT P C F k r objs tm d (.iadr x y z)
 | .idx x y=>dT P C F k r objs tm d (.idx x y)
 | .ext x y=>dT P C F k r objs tm d (.ext x y)
 | .app x y z v w=>dT P C F k r objs tm d (.app x y z v w)
 | .apps x y z=>dT P C F k r objs tm d (.apps x y z)
 | .lens x=>dT P C F k r objs tm d (.lens x)
 | .lenr x=>dT P C F k r objs tm d (.lenr x)
 | .mks x y z v w=>dT P C F k r objs tm d (.mks x y z v w)
 | .mkz x y z v w=>dT P C F k r objs tm d (.mkz x y z v w)
 | .capp x y z v=>dT P C F k r objs tm d (.capp x y z v)
 | .cappo x y z v w=>dT P C F k r objs tm d (.cappo x y z v w)
 | .trn x y z=>dT P C F k r objs tm d (.trn x y z)
 | .mkf x y z=>dT P C F k r objs tm d (.mkf x y z)
 | .pu x y=>dT P C F k r objs tm d (.pu x y)
 | .mkm0=>dT P C F k r objs tm d (.mkm0)
 | .mkm1 x=>dT P C F k r objs tm d (.mkm1 x)
 | .lk x y z v=>dT P C F k r objs tm d (.lk x y z v)
 | .mup x y z=>dT P C F k r objs tm d (.mup x y z)
 | .mph x y z v w=>dT P C F k r objs tm d (.mph x y z v w)
 | op=>Br P (⟨d,op,none⟩::r) objs tm fun o t=>DV P C F k .normal o t
end
theorem lU (op:SOp):dT P C F k r objs tm d op=run P C (.ops [⟨d,op,none⟩]::.dops r::k) objs tm F:=Eq.trans rfl rfl
theorem pA (op:SOp):run P C (.dops (⟨d,op,none⟩::r)::k) objs tm F=dS P C F k r objs tm d op:=by
 cases op
 case call f a=>exact Y1 f a
 case pcall f a=>exact QV f a
 all_goals rfl
theorem AC {f:FuncId} {n:Nat} {ss:List SRes} {sc:SCode} (hf:FnIs P f n ss sc) {args:List AV} {objs:List OB} {K:List OB->AV->Prop} (hp:AK args=true)
  (h:∀(C:Cx) [On P C],run P C [.code sc] [] (args++qr (n - args.length) (.o undef)) (HY ss fun r=>K objs r)):Ag P f args objs K :=
 lY hf hp h
theorem C0 {f:FuncId} {n:Nat} {ss:List SRes} {sc:SCode} (hf:FnIs P f n ss sc) {args:List AV} {objs:List OB} {K:List OB->AV->Prop}
  (h:∀(C:Cx) [On P C],run P C [.code sc] objs (args++qr (n - args.length) (.o undef)) (J0 ss K)):Ag P f args objs K :=
 lX hf h
theorem oD (ss:List SRes) (K:List OB->AV->Prop):J0 ss K .normal objs tm=Gp ss K objs tm:=Eq.trans rfl rfl
theorem oE (ss:List SRes) (K:List OB->AV->Prop):J0 ss K .ret objs tm=Gp ss K objs tm:=Eq.trans rfl rfl
def UX (K:List OB->AV->Prop) (objs:List OB):Option (List AV)->Prop
 | some xs=>K objs (E7 xs)
 | none=>False
theorem pV (K:List OB->AV->Prop) (xs:List AV):UX K objs (some xs)=K objs (E7 xs):=Eq.trans rfl rfl
theorem Xu (ss:List SRes) (K:List OB->AV->Prop):Gp ss K objs tm=UX K objs (Ew objs tm ss):=by
 unfold Gp
 cases Ew objs tm ss<;>rfl
theorem oF (ss:List SRes) (K:AV->Prop):HY ss K .normal objs tm=Gq ss K objs tm:=Eq.trans rfl rfl
theorem mQ (ss:List SRes) (K:AV->Prop):HY ss K .ret objs tm=Gq ss K objs tm:=Eq.trans rfl rfl
def UY (K:AV->Prop):Option AV->Prop
 | some r=>K r
 | none=>False
theorem pW (K:AV->Prop) (r:AV):UY K (some r)=K r:=Eq.trans rfl rfl
theorem Xv (ss:List SRes) (K:AV->Prop):Gq ss K objs tm=UY K ((Ew objs tm ss).bind fun xs=>BO objs 5 (E7 xs)):=by
 unfold Gq
 cases (Ew objs tm ss).bind (fun xs=>BO objs 5 (E7 xs))<;>rfl
end
end Go.Proofs.YtbeoijfmfkifeaaGreatDoor.Sx
