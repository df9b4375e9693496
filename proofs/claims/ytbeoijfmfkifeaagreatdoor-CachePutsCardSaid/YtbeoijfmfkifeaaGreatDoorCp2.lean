/- The texts that the proofs of these statements reach, in their order, as few files. -/
import Derived.Test.YtbeoijfmfkifeaaGreatDoorCp1
set_option linter.unusedVariables false
set_option linter.unusedSimpArgs false
set_option maxRecDepth 100000
namespace Go.Proofs.YtbeoijfmfkifeaaGreatDoor.Sx
open Go.RowKit
open List renaming all_cons->jd, all_eq_true->zj, any_eq_true->xk, cons_append->qy, contains_iff_mem->qz, drop_drop->xr, drop_eq_getElem_cons->jq, eq_nil_of_length_eq_zero->qh, filter_append->xg, getD_eq_getElem?_getD->jz, getElem?_append_left->qr, getElem?_drop->ju, getElem?_eq_getElem->zq, getElem?_eq_none->qg, getElem?_eq_some_iff->jf, getElem?_map->xe, getElem?_set->zb, getElem?_set_ne->zp, getElem?_set_self->qd, getElem?_take_of_lt->xz, getElem_mem->qe, length_map->jg, length_set->zf, length_take->zh, map_congr_left->xy, map_cons->zr, mem_append_left->xj, mem_append_right->yj, mem_cons->zv, mem_cons_of_mem->qx, mem_cons_self->jp, mem_filter->jv, mem_map->jc, mem_range->qi, nil_append->qn, not_mem_nil->jk, range->zi, replicate->qo, size_toArray->xo, take_append_drop->jh, take_zero->xl
open Nat renaming add_zero->jj, le_refl->zd, lt_or_ge->zo, zero_add->zz, zero_le->ze
open Option renaming getD_some->ja, map_eq_some_iff->xf, map_some->jt, some->zx
structure SO where
 dst:Option Nat
 op:SOp
 gd:Option (Nat×Bool)
@[reducible] def SO.o (d:Nat) (op:SOp):SO:=⟨some d,op,none⟩
@[reducible] def SO.m (d x:Nat):SO:=⟨some d,.mv (.t x),none⟩
@[reducible] def SO.n (d:Nat) (z:Int):SO:=⟨some d,.mv (.c (.i .i64 z)),none⟩
@[reducible] def SO.z (d:Nat):SO:=⟨some d,.mv (.c (.s [])),none⟩
@[reducible] def SO.e (d x k:Nat):SO:=⟨some d,.ext (.t x) k,none⟩
@[reducible] def SO.l (d x:Nat):SO:=⟨some d,.load1 (.t x),none⟩
@[reducible] def SO.w (d sz x:Nat):SO:=⟨some d,.loadn sz (.t x),none⟩
@[reducible] def SO.s (sz x y:Nat):SO:=⟨none,.store sz (.t x) (.t y),none⟩
@[reducible] def SO.f (d off x:Nat):SO:=⟨some d,.fad off (.t x),none⟩
@[reducible] def SO.c (d f:Nat) (l:List SV):SO:=⟨some d,.call f l,none⟩
@[reducible] def SO.b (d:Nat) (op:BinOp) (x y:Nat):SO:=⟨some d,.bin op (.t x) (.t y),none⟩
@[reducible] def SO.k (d:Nat) (op:BinOp) (x:Nat) (z:Int):SO:=⟨some d,.bin op (.t x) (.c (.i .i64 z)),none⟩
@[reducible] def SO.h (d x:Nat):SO:=⟨some d,.lens (.t x),none⟩
@[reducible] def SO.p (d x y:Nat):SO:=⟨some d,.pick (.t x) (.c (.b true)) (.t y),none⟩
def AD (tm:List AV):Option Nat->AV->List AV
 | none,_=>tm
 | some d,v=>tm.set d v
theorem EV {G:Gh} {I:Ak} {tm:List AV} {a:Act} {v:AV} {y:Value} (h:Ac G I tm a.tmps.toList) (hv:Ab G I v y) (dst:Option Nat):Ac G I (AD tm dst v) (a.put dst y).tmps.toList:=by
 cases dst with
 | none=>exact h
 | some d=>simp only[AD,Act.put,Array.toList_setIfInBounds];exact Ac.set d h hv
theorem GT (a:Act) (dst:Option Nat) (y:Value):(a.put dst y).defers=a.defers:=by cases dst<;>rfl
def As (P:Program) [Tabs P]:List SO->List OB->List AV->(List OB->List AV->Prop)->Prop
 | [],objs,tm,K=>K objs tm
 | ⟨dst,op,none⟩::r,objs,tm,K=>Ah P op objs tm fun objs' v=>As P r objs' (AD tm dst v) K
 | ⟨dst,op,some (t,want)⟩::r,objs,tm,K=>
  match (tm[t]?).getD .u with
  | .b x=>(x=want->Ah P op objs (tm.set t (.b want)) fun objs' v=>As P r objs' (AD (tm.set t (.b want)) dst v) K)/\(x=!want->As P r objs (AD (tm.set t (.b (!want))) dst (.o undef)) K)
  | .o (.tuple vs)=>As P r objs (AD tm dst (.o undef)) K
  | _=>False
def QC (ops:List Oper):Option Nat->Bool
 | none=>false
 | some d=>ops.any fun o=>match o.op with
  | .assign (.tmp t)=>t==d
  | _=>false
def oP (ops:List Oper) (p:Nat):Bool:=ops.any fun o=>o.dst==some p&&match o.op with
 | .slice _ _ _ _ (some _)=>true
 | _=>false
def oJ (ops:List Oper):Option Nat->Bool
 | none=>false
 | some d=>ops.any fun o=>match o.op with
  | .call c=>(match c.callee with
   | .builtin .append=>true
   | _=>false)&&match (c.args.toList.head?:Option Operand) with
    | some (.tmp t)=>t==d
    | _=>false
  | _=>false
def mS (ops:List Oper) (p:Nat):Bool:=ops.any fun o=>o.dst==some p&&match o.op with
 | .buildSlice _ len _=>decide (0<len)
 | _=>false
def Xw (ops:List Oper):Bool:=decide ((ops.filter fun o=>QC ops o.dst&&match o.op with
 | .buildSlice ..=>true
 | _=>false).length<=1)
def Xv (ops:List Oper) (e:TypeId):Option Nat->Bool
 | none=>false
 | some d=>(ops.any fun o=>match o.op with
  | .build t parts=>t==e&&parts.any fun p=>match p.2 with
   | .tmp x=>x==d
   | _=>false
  | _=>false)&&ops.any fun o=>match o.op with
   | .alloc t=>t==e
   | _=>false
def J9 (P:Program) (ops:List Oper) (o:Oper) (so:SOp):SOp :=
 match so,o.op with
 | .bslice len z ps,.buildSlice t _ _=>match P.underlying t with
  | some (.slice e)=>match P.info? e with
   | some ie=>if (oJ ops o.dst&&decide (0<len))=true then .pu (.lit len z (ps.map fun p=>(p.1,p.2.1))) (ps.map fun p=>p.2.2)
    else if (QC ops o.dst&&Xw ops||Xv ops e o.dst)=true then .bslo e ie.size len z ps else .bslice len z ps
   | none=>.bslice len z ps
  | _=>.bslice len z ps
 | .app E sz by' x y,.call c=>match c.callee with
  | .builtin .append=>match x with
   | .t p=>if oP ops p=true then .capp sz by' (.t p) y else if mS ops p=true then .cappo E sz by' (.t p) y else .app E sz by' (.t p) y
   | x=>.app E sz by' x y
  | _=>.app E sz by' x y
 | so,_=>so
def Do (P:Program) (ops:List Oper) (o:Oper):Option SO :=
 match Ig P o.op with
 | none=>none
 | some so=>match o.guard with
  | none=>some ⟨o.dst,J9 P ops o so,none⟩
  | some (j,want)=>match (ops[j]?).bind (·.dst) with
   | some t=>some ⟨o.dst,J9 P ops o so,some (t,want)⟩
   | none=>none
section
variable {P:Program} [Tabs P] {C:Cx} [On P C] {type:TypeId} {objs:List OB} {tm:List AV} {K:List OB->AV->Prop}
omit [On P C] in
theorem VG {args:Array Operand} {ats:Array TypeId} {E sz by':Nat} {x y:SV} (ht:Ig P (.call ⟨.builtin .append,args,ats⟩)=some (.app E sz by' x y)) (h:Ah P (.capp sz by' x y) objs tm K):AA P C (.call ⟨.builtin .append,args,ats⟩) type objs tm K:=by
 have ht0:Fi P (.call ⟨.builtin .append,args,ats⟩)=some (.app E sz by' x y):=ht;clear ht;simp only[Fi] at ht0
 split at ht0
 ·rename_i X Y T U hargs hats;have ea:args=#[X,Y]:=by apply Array.ext';simpa using hargs
  have et:ats=#[T,U]:=by apply Array.ext';simpa using hats
  subst ea et
  split at ht0
  ·rename_i e hu
   split at ht0
   ·rename_i i hi
    split at ht0
    ·rename_i z hz
     split at ht0
     ·rename_i hTU;subst hTU
      split at ht0
      ·rename_i hzs;injection ht0 with ht0
       injection ht0 with e1 e2 e3 e4 e5
       subst e1 e2 e3 e4 e5;simp only[Ah] at h
       split at h
       ·rename_i n xs m ys hx hy;obtain⟨⟨⟨h1,h2⟩,h3,h4,h5⟩,h⟩:=h;have hy':Dk objs ((Ad Y).ev tm)=some (m,ys):=cY hy;exact Wm T _ X Y _ i z hu hi hz hzs.2 n m xs ys hx hy' h2 h1 h3 h4 h5 h
       ·exact h.elim
      ·cases ht0
     ·split at ht0
      ·split at ht0<;>cases ht0
      ·cases ht0
    ·cases ht0
   ·cases ht0
  ·cases ht0
 ·cases ht0
omit [On P C] in
theorem XX {args:Array Operand} {ats:Array TypeId} {E sz by':Nat} {x y:SV} (ht:Ig P (.call ⟨.builtin .append,args,ats⟩)=some (.app E sz by' x y)) (h:Ah P (.cappo E sz by' x y) objs tm K):AA P C (.call ⟨.builtin .append,args,ats⟩) type objs tm K:=by
 have ht0:Fi P (.call ⟨.builtin .append,args,ats⟩)=some (.app E sz by' x y):=ht;clear ht;simp only[Fi] at ht0
 split at ht0
 ·rename_i X Y T U hargs hats;have ea:args=#[X,Y]:=by apply Array.ext';simpa using hargs
  have et:ats=#[T,U]:=by apply Array.ext';simpa using hats
  subst ea et
  split at ht0
  ·rename_i e hu
   split at ht0
   ·rename_i i hi
    split at ht0
    ·rename_i z hz
     split at ht0
     ·rename_i hTU;subst hTU
      split at ht0
      ·rename_i hzs;injection ht0 with ht0
       injection ht0 with e1 e2 e3 e4 e5
       subst e1 e2 e3 e4 e5;simp only[Ah] at h
       split at h
       ·rename_i n xs m ys hx hy;obtain⟨⟨⟨h1,h2⟩,h3,h4,h5⟩,h⟩:=h;have hy':Dk objs ((Ad Y).ev tm)=some (m,ys):=hy;exact Yi T _ X Y _ i z hu hi hz hzs.1 hzs.2 n m xs ys hx hy' h2 h1 h3 h4 h5 h
       ·exact h.elim
      ·cases ht0
     ·split at ht0
      ·split at ht0<;>cases ht0
      ·cases ht0
    ·cases ht0
   ·cases ht0
  ·cases ht0
 ·cases ht0
theorem QQ (tm:List AV):∀ps:List (Nat×Nat×SV),Gx (ps.map fun p=>(p.1,p.2.1)) ((ps.map fun p=>p.2.2).map fun x=>x.ev tm)=ps.map fun p=>(p.1,p.2.1,p.2.2.ev tm)
 | []=>rfl
 | (a,b,c)::ps=>by simp only[zr,Gx,QQ tm ps]
theorem KI (ops:List Oper) (o:Oper) (so:SOp) (ht:Ig P o.op=some so) (h:Ah P (J9 P ops o so) objs tm K):AA P C o.op type objs tm K:=by
 unfold J9 at h
 split at h
 ·rename_i len z ps t ln parts ho
  split at h
  ·rename_i e hu
   split at h
   ·rename_i ie hie
    split at h
    ·rw[ho] at ht ⊢;have ht0:Fi P (.buildSlice t ln parts)=some (.bslice len z ps):=ht;simp only[Fi,hu,hie] at ht0
     split at ht0
     ·rename_i z' ps' hz hps
      split at ht0
      ·rename_i h1;injection ht0 with ht0
       injection ht0 with e1 e2 e3
       subst e1 e2 e3;simp only[Ah,pq,QQ] at h
       split at h
       ·rename_i v hv;obtain⟨cs,hf,rfl⟩:=xf.1 hv;exact W5 _ e _ _ ie z' hu hie hz h1.1.1 h1.1.2 _ rfl h1.2 ps' hps cs hf h
       ·exact h.elim
      ·split at ht0<;>cases ht0
     ·cases ht0
    split at h
    ·rw[ho] at ht ⊢;have ht0:Fi P (.buildSlice t ln parts)=some (.bslice len z ps):=ht;simp only[Fi,hu,hie] at ht0
     split at ht0
     ·rename_i z' ps' hz hps
      split at ht0
      ·rename_i h1;injection ht0 with ht0
       injection ht0 with e1 e2 e3
       subst e1 e2 e3;simp only[Ah] at h
       split at h
       ·rename_i cs hf;exact Wl _ e _ _ ie z' hu hie hz h1.1.1 h1.1.2 _ rfl h1.2 ps' hps cs hf h.1 h.2
       ·exact h.elim
      ·split at ht0<;>cases ht0
     ·cases ht0
    ·exact Hh o.op _ ht h
   ·exact Hh o.op _ ht h
  ·exact Hh o.op _ ht h
 ·rename_i E sz by' x y c ho;rw[ho] at ht ⊢
  split at h
  ·rename_i hc;obtain⟨callee,args,ats⟩:=c;dsimp only at hc;subst hc
   split at h
   ·split at h
    ·exact VG ht h
    ·split at h
     ·exact XX ht h
     ·exact Hh _ _ ht h
   ·exact Hh _ _ ht h
  ·exact Hh _ _ ht h
 ·exact Hh o.op _ ht h
end
theorem Ac.set_same {G:Gh} {I:Ak} {tm:List AV} {ys:List Value} (t:Nat) (x:AV) (h:Ac G I tm ys) (hx:∀y,ys[t]? = some y->Ab G I x y):Ac G I (tm.set t x) ys:=by
 rcases zo t tm.length with hl|hl
 ·have hl2:t<ys.length:=by rw[<-h.length];exact hl
  have hy:ys[t]? = some ys[t]:=zq hl2;have:=Ac.set t h (hx _ hy)
  rwa [List.set_getElem_self] at this
 ·rw[List.set_eq_of_length_le hl];exact h
section
variable {P:Program} [Tabs P] {C:Cx} [On P C] {K:Bb}
theorem RF (ops:Array Oper) (o:Oper) (so0 so:SO) (hd0:so.dst=so0.dst) (hg0:so.gd=so0.gd) (hcv:∀objs tm K,Ah P so.op objs tm K->Ah P so0.op objs tm K) (rest:List SO) (objs:List OB) (tm:List AV) (K':List OB->List AV->Prop) (N:Act->World->Prop) (Q:Exit->Act->World->Prop) (h1:Do P ops.toList o=some so0) (h:As P (so::rest) objs tm K') (a:Act) (w:World) (hr:C1 C objs tm a w)
  (hN:∀objs tm a w,As P rest objs tm K'->C1 C objs tm a w->N a w):if Region.wanted o (yielded ops a.tmps) then o.wp P a w N Q else N (a.put o.dst undef) w:=by
 obtain⟨d1,op1,g1⟩:=so;dsimp only at hd0 hg0 hcv;subst hd0 hg0;unfold Do at h1
 split at h1
 ·cases h1
 ·rename_i op hop;obtain⟨G,I,hin,hm,hd,hdef⟩:=hr
  split at h1
  ·rename_i hg;injection h1 with h1;subst h1
   dsimp only at h hcv ⊢;simp only[As] at h;rw[if_pos (by simp[Region.wanted,hg])];refine KI (C:=C) (type:=o.type) ops.toList o op hop (hcv _ _ _ h) G I a w hin hm hd o _ _ rfl rfl ?_;intro objs' v y G' I' w' hk l1 l2 l3 l4 l5;exact hN objs' _ _ _ hk ⟨G',I',l3,l4,EV (Ac.mono l1 l2 _ _ hd) l5 o.dst,by rw[GT];exact hdef⟩
  ·rename_i j want hg
   split at h1
   ·rename_i t hj;injection h1 with h1;subst h1
    dsimp only at h hcv ⊢;have hj':(ops[j]?).bind (·.dst)=some t:=by simpa using hj
    simp only[As] at h;have hval:∀v,tm[t]? = some v->∃y,a.tmps[t]? = some y/\Ab G I v y:=by
     intro v hv;obtain⟨y,h3,h4⟩:=Ac.get t hd hv;exact⟨y,by simpa using h3,h4⟩
    cases htm:tm[t]? with
    | none=>rw[htm] at h;exact h.elim
    | some v=>
     rw[htm] at h;obtain⟨y,hy,hyd⟩:=hval v htm;have hyl:a.tmps.toList[t]? = some y:=by simpa using hy
     simp only[ja] at h
     split at h
     ·rename_i x;simp only[Ab] at hyd;subst hyd;have hyi:yielded ops a.tmps j=some x:=by simp[yielded,hj',hy]
      have hset:∀b,x=b->Ac G I (tm.set t (.b b)) a.tmps.toList:=by
       rintro b rfl;exact Ac.set_same t _ hd (fun y' hy'=>by rw[hyl] at hy';injection hy' with hy';subst hy';simp[Ab])
      by_cases hx:x=want
      ·rw[if_pos (by simp[Region.wanted,hg,hyi,hx])];refine KI (C:=C) (type:=o.type) ops.toList o op hop (hcv _ _ _ (h.1 hx)) G I a w hin hm (hset _ hx) o _ _ rfl rfl ?_;intro objs' v y G' I' w' hk l1 l2 l3 l4 l5;exact hN objs' _ _ _ hk ⟨G',I',l3,l4,EV (Ac.mono l1 l2 _ _ (hset _ hx)) l5 o.dst,by rw[GT];exact hdef⟩
      ·have hx':x=!want:=by cases x<;>cases want<;>first|rfl|exact absurd rfl hx
       rw[if_neg (by simp[Region.wanted,hg,hyi,hx])];exact hN objs _ _ _ (h.2 hx') ⟨G,I,hin,hm,EV (hset _ hx') (by simp[Ab]) o.dst,by rw[GT];exact hdef⟩
     ·rename_i vs;simp only[Ab] at hyd;subst hyd;have hyi:yielded ops a.tmps j=none:=by simp[yielded,hj',hy]
      rw[if_neg (by simp[Region.wanted,hg,hyi])];exact hN objs _ _ _ h ⟨G,I,hin,hm,EV hd (by simp[Ab]) o.dst,by rw[GT];exact hdef⟩
     ·exact h.elim
   ·cases h1
theorem Pn (ops:Array Oper):∀(l:List Oper) (sos:List SO) (objs:List OB) (tm:List AV),l.mapM (Do P ops.toList)=some sos->As P sos objs tm (fun o t=>K .normal o t)->∀a w,C1 C objs tm a w->wpList P ops (C9 C K) l a w
 | [],sos,objs,tm,ht,h,a,w,hr=>by
  simp at ht;subst ht;exact⟨objs,tm,h,hr⟩
 | o::l,sos,objs,tm,ht,h,a,w,hr=>by
  simp only[List.mapM_cons,Option.bind_eq_bind,Option.pure_def] at ht
  cases h1:Do P ops.toList o with
  | none=>simp[h1] at ht
  | some so=>
   cases h2:l.mapM (Do P ops.toList) with
   | none=>simp[h1,h2] at ht
   | some rest=>
    simp[h1,h2] at ht;subst ht;have:=RF ops o so so rfl rfl (fun _ _ _ h=>h) rest objs tm _ (wpList P ops (C9 C K) l) (C9 C K) h1 h a w hr (fun objs tm a w hk hr=>Pn ops l rest objs tm h2 hk a w hr);unfold wpList
    split
    ·rename_i hw;rw[if_pos hw] at this;exact .inl this
    ·rename_i hw;rw[if_neg hw] at this;exact this
end
def SOp.svs:SOp->List SV
 | .mv x=>[x]
 | .pick c x y=>[c,x,y]
 | .alloc _ _=>[]
 | .mkm0=>[]
 | .mkm1 x=>[x]
 | .lk _ _ x y=>[x,y]
 | .mup x y v=>[x,y,v]
 | .mph _ _ x y v=>[x,y,v]
 | .box _ x=>[x]
 | .build _ ps=>ps.map (·.2.2)
 | .bslice _ _ ps=>ps.map (·.2.2)
 | .bslo _ _ _ _ ps=>ps.map (·.2.2)
 | .load1 x | .loadn _ x | .nck x | .not x | .neg x | .cvi _ x | .cvs x | .cvbs x | .fad _ x | .fld1 _ x | .fldn _ _ x | .ext x _ | .lens x | .lenr x=>[x]
 | .store _ x y | .bin _ x y | .beq _ x y | .eqs _ _ x y | .iad _ x y | .iada _ _ x y | .iadr _ x y | .idx x y | .app _ _ _ x y | .apps _ x y | .mks _ _ _ x y | .trn _ x y | .capp _ _ x y | .cappo _ _ _ x y=>[x,y]
 | .mkz _ _ _ _ x=>[x]
 | .slcs x lo hi=>x::lo.toList++hi.toList
 | .call _ args=>args
 | .pcall _ args=>args
 | .callv x args=>x::args
 | .inv _ x args=>x::args
 | .mkf _ fs cs=>fs++cs
 | .pu _ xs=>xs
theorem LH {tm tm':List AV} {l:List SV} (h:∀x∈l,x.ev tm=x.ev tm'):l.map (fun x=>x.ev tm)=l.map (fun x=>x.ev tm'):=xy h
theorem ZA {tm tm':List AV} {l:List (Nat×Nat×SV)} (h:∀x∈l.map (·.2.2),x.ev tm=x.ev tm'):l.map (fun p=>(p.1,p.2.1,p.2.2.ev tm))=l.map (fun p=>(p.1,p.2.1,p.2.2.ev tm')) :=
 xy fun p hp=>by rw[h p.2.2 (List.mem_map_of_mem hp)]
theorem S1 {tm tm':List AV} (d:Int) (o:Option SV) (h:∀x∈o.toList,x.ev tm=x.ev tm'):Gv tm d o=Gv tm' d o:=by
 cases o with
 | none=>rfl
 | some x=>simp only[Gv,h x (by simp)]
theorem HY {P:Program} [Tabs P] {so:SOp} {objs:List OB} {tm tm':List AV} {K:List OB->AV->Prop} (h:∀x∈so.svs,x.ev tm=x.ev tm'):Ah P so objs tm K=Ah P so objs tm' K:=by
 cases so<;>simp only[SOp.svs,zv,jk,or_false,forall_eq_or_imp,forall_eq,qy,qn] at h<;>first
  | (simp only[Ah,h];done)
  | (simp only[Ah];rw[ZA h];done)
  | (simp only[Ah];rw[LH h];done)
  | (simp only[Ah,h.1];rw[LH h.2];done)
  | (simp only[Ah];rw[LH (fun x hx=>h x (xj _ hx)),LH (fun x hx=>h x (yj _ hx))];done)
  | (have e1:=fun d=>S1 (tm:=tm) (tm':=tm') d _ (fun x hx=>h.2 x (xj _ hx));have e2:=fun d=>S1 (tm:=tm) (tm':=tm') d _ (fun x hx=>h.2 x (yj _ hx));simp only[Ah,h.1,e1,e2];done)
  | rfl
  | skip
def SOp.calm:SOp->Bool
 | .alloc .. | .box .. | .bslo .. | .store .. | .app .. | .cappo .. | .apps .. | .mks .. | .mkz .. | .trn .. | .mkm0 | .mkm1 .. | .mup .. | .mph ..=>false
 | _=>true
def SOp.isCall:SOp->Bool
 | .call .. | .pcall .. | .callv .. | .inv ..=>true
 | _=>false
theorem GS {P:Program} [Tabs P] {so:SOp} {objs:List OB} {tm:List AV} {W:List OB->AV->Prop} (hc:so.calm=true) (hn:so.isCall=false) (h:Ah P so objs tm W):∃v,(∀K:List OB->AV->Prop,K objs v->Ah P so objs tm K)/\W objs v:=by
 cases so<;>simp only[SOp.calm,SOp.isCall,reduceCtorEq] at hc hn<;>simp only[Ah] at h ⊢
 case pick c x y=>
  split at h
  ·rename_i t _
   cases t
   ·exact⟨_,fun K hk=>⟨fun e=>absurd e Bool.false_ne_true,fun _=>hk⟩,h.2 rfl⟩
   ·exact⟨_,fun K hk=>⟨fun _=>hk,fun e=>absurd e.symm Bool.false_ne_true⟩,h.1 rfl⟩
  ·exact h.elim
 case load1 x=>
  split at h
  ·split at h
   ·split at h
    ·exact⟨_,fun K hk=>hk,h⟩
    ·exact h.elim
   ·exact h.elim
  ·obtain⟨v,h1,h2⟩:=h;exact⟨v,fun K hk=>⟨v,h1,hk⟩,h2⟩
  ·split at h
   ·obtain⟨h0,v,h1,h2⟩:=h;exact⟨v,fun K hk=>⟨h0,v,h1,hk⟩,h2⟩
   ·exact h.elim
  ·exact h.elim
 case cvbs x=>
  split at h
  ·split at h
   ·obtain⟨h0,l,h1,h2⟩:=h;exact⟨_,fun K hk=>⟨h0,l,h1,hk⟩,h2⟩
   ·exact h.elim
  ·obtain⟨l,h1,h2⟩:=h;exact⟨_,fun K hk=>⟨l,h1,hk⟩,h2⟩
  ·exact⟨_,fun K hk=>hk,h⟩
  ·split at h
   ·obtain⟨l,h1,h2⟩:=h;exact⟨_,fun K hk=>⟨l,h1,hk⟩,h2⟩
   ·exact h.elim
  ·exact h.elim
 case bin op x y=>
  unfold Fx at h;unfold Fx
  split at h
  ·obtain⟨hk,h⟩:=h;subst hk;have key:∀(k:IntKind) (r:Int),EA k r (fun r=>W objs (.i k r))->∃v,(∀K:List OB->AV->Prop,K objs v->EA k r fun r=>K objs (.i k r))/\W objs v:=by
    intro k r h
    cases k<;>simp only[EA] at h ⊢<;>first|exact⟨_,fun K hk=>⟨h.1,hk⟩,h.2⟩|exact⟨_,fun K hk=>hk,h⟩
   split at h
   ·obtain⟨v,h1,h2⟩:=key _ _ h;exact⟨v,fun K hk=>⟨rfl,h1 K hk⟩,h2⟩
   ·obtain⟨v,h1,h2⟩:=key _ _ h;exact⟨v,fun K hk=>⟨rfl,h1 K hk⟩,h2⟩
   ·obtain⟨v,h1,h2⟩:=key _ _ h;exact⟨v,fun K hk=>⟨rfl,h1 K hk⟩,h2⟩
   ·obtain⟨v,h1,h2⟩:=key _ _ h.2;exact⟨v,fun K hk=>⟨rfl,h.1,h1 K hk⟩,h2⟩
   ·exact⟨_,fun K hk=>⟨rfl,h.1,hk⟩,h.2⟩
   all_goals first|exact⟨_,fun K hk=>⟨rfl,hk⟩,h⟩|exact h.elim
  ·split at h
   ·exact⟨_,fun K hk=>⟨h.1,hk⟩,h.2⟩
   all_goals first|exact⟨_,fun K hk=>hk,h⟩|exact h.elim
  ·exact h.elim
 case neg x=>
  split at h
  ·rename_i k n _
   cases k<;>simp only[EA] at h ⊢<;>first|exact⟨_,fun K hk=>⟨h.1,hk⟩,h.2⟩|exact⟨_,fun K hk=>hk,h⟩
  ·exact h.elim
 all_goals first
  | exact⟨_,fun K hk=>hk,h⟩
  | (split at h<;>first|exact⟨_,fun K hk=>hk,h⟩|exact⟨_,fun K hk=>⟨h.1,hk⟩,h.2⟩|exact h.elim|(split at h<;>first|exact⟨_,fun K hk=>hk,h⟩|exact⟨_,fun K hk=>⟨h.1,hk⟩,h.2⟩|exact h.elim))
theorem QO {P:Program} [Tabs P] {so:SOp} {objs:List OB} {tm:List AV} {W:List OB->AV->Prop} (hc:so.calm=true) (hn:so.isCall=false) (h:Ah P so objs tm W):∃v,Ah P so objs tm (fun o x=>o=objs/\x=v)/\W objs v:=by
 obtain⟨v,h1,h2⟩:=GS hc hn h;exact⟨v,h1 _ ⟨rfl,rfl⟩,h2⟩
def SOp.touch:SOp->Bool
 | .alloc .. | .box .. | .bslo .. | .store .. | .app .. | .cappo .. | .apps .. | .mks .. | .mkz .. | .trn .. | .mkm0 | .mkm1 .. | .mup .. | .mph .. | .lk .. | .load1 .. | .loadn .. | .cvbs .. | .call .. | .callv .. | .inv .. | .lenr .. | .iad ..=>true
 | _=>false
theorem S2 {so:SOp} (h:so.calm=false):so.touch=true/\so.isCall=false:=by
 cases so<;>simp[SOp.calm,SOp.touch,SOp.isCall] at h ⊢
theorem QN {P:Program} [Tabs P] {so:SOp} {objs cur:List OB} {tm:List AV} {v:AV} (ht:so.touch=false) (h:Ah P so objs tm (fun o x=>o=objs/\x=v)):Ah P so cur tm (fun o x=>o=cur/\x=v):=by
 by_cases hn:so.isCall=true
 ·cases so<;>simp only[SOp.isCall,SOp.touch,reduceCtorEq,Bool.true_eq_false,Bool.false_eq_true] at hn ht
  case pcall f args=>
   simp only[Ah] at h ⊢;exact⟨h.1,h.2.mono fun o r h2=>⟨h2.1,by trivial,h2.2.2⟩⟩
 ·simp only[Bool.not_eq_true] at hn;have hc:so.calm=true:=by cases so<;>simp[SOp.touch,SOp.calm] at ht ⊢
  have key:∀K:List OB->AV->Prop,Ah P so objs tm K->Ah P so cur tm (fun _ x=>K objs x):=by
   intro K h
   cases so<;>simp only[SOp.touch,SOp.isCall,reduceCtorEq] at ht hn<;>exact h
  have h1:=key _ h;obtain⟨x,h2,h3⟩:=GS hc hn h1;obtain⟨_,rfl⟩:=h3;exact h2 _ ⟨rfl,rfl⟩
theorem Sj {P:Program} [Tabs P] {so:SOp} {objs:List OB} {tm:List AV} {W:List OB->AV->Prop} (hc:so.calm=false) (h:Ah P so objs tm W):∃o' v,(∀K:List OB->AV->Prop,K o' v->Ah P so objs tm K)/\W o' v:=by
 cases so<;>simp only[SOp.calm,reduceCtorEq] at hc<;>simp only[Ah] at h ⊢
 case alloc T z=>exact⟨_,_,fun K hk=>hk,h⟩
 case mkm0=>exact⟨_,_,fun K hk=>hk,h⟩
 case mkm1 x=>
  split at h
  ·exact⟨_,_,fun K hk=>hk,h⟩
  ·exact h.elim
 case mup x y v=>
  split at h
  ·split at h
   ·exact⟨_,_,fun K hk=>⟨h.1,hk⟩,h.2⟩
   ·exact h.elim
  ·exact h.elim
 case mph q z x y v=>
  split at h
  ·exact⟨_,_,fun K hk=>hk,h⟩
  ·split at h
   ·split at h
    ·exact⟨_,_,fun K hk=>⟨h.1,hk⟩,h.2⟩
    ·exact h.elim
   ·exact h.elim
  ·split at h
   ·split at h
    ·exact⟨_,_,fun K hk=>hk,h⟩
    ·exact h.elim
   ·exact h.elim
 case box T x=>exact⟨_,_,fun K hk=>⟨h.1,hk⟩,h.2⟩
 case bslo E sz len z ps=>
  split at h
  ·exact⟨_,_,fun K hk=>⟨h.1,hk⟩,h.2⟩
  ·exact h.elim
 case store sz x y=>
  split at h
  ·split at h
   ·exact⟨_,_,fun K hk=>⟨h.1,hk⟩,h.2⟩
   ·exact h.elim
  ·split at h
   ·exact⟨_,_,fun K hk=>⟨h.1,hk⟩,h.2⟩
   ·exact h.elim
  ·exact h.elim
 case trn sz x y=>
  split at h
  ·exact⟨_,_,fun K hk=>⟨h.1,hk⟩,h.2⟩
  ·exact⟨_,_,fun K hk=>⟨h.1,hk⟩,h.2⟩
  ·split at h
   ·exact⟨_,_,fun K hk=>⟨h.1,hk⟩,h.2⟩
   ·exact h.elim
  ·exact h.elim
 case app E sz by' x y=>
  split at h
  ·split at h
   ·split at h
    ·exact⟨_,_,fun K hk=>⟨h.1,hk⟩,h.2⟩
    ·exact h.elim
   ·exact⟨_,_,fun K hk=>⟨h.1,hk⟩,h.2⟩
   ·exact h.elim
  ·exact h.elim
 case cappo E sz by' x y=>
  split at h
  ·exact⟨_,_,fun K hk=>⟨h.1,hk⟩,h.2⟩
  ·exact h.elim
 case apps E x y=>
  split at h
  ·split at h
   ·split at h
    ·exact⟨_,_,fun K hk=>⟨h.1,hk⟩,h.2⟩
    ·exact h.elim
   ·exact⟨_,_,fun K hk=>⟨h.1,hk⟩,h.2⟩
   ·exact h.elim
  ·exact h.elim
 case mks E sz by' x y=>
  split at h
  ·exact⟨_,_,fun K hk=>⟨h.1,hk⟩,h.2⟩
  ·exact h.elim
 case mkz E by' kd z x=>
  split at h
  ·exact⟨_,_,fun K hk=>⟨h.1,hk⟩,h.2⟩
  ·exact h.elim
def H9 (P:Program) [Tabs P] (objs:List OB) (o:SO) (v:AV) (o':List OB) (tm:List AV):Prop :=
 (o.op.calm=true->o'=objs) /\
 match o.gd with
 | none=>Ah P o.op objs tm fun y x=>y=o'/\x=v
 | some (t,want)=>(tm[t]? = some (.b want)/\Ah P o.op objs tm fun y x=>y=o'/\x=v)\/((tm[t]? = some (.b (!want))\/∃vs,tm[t]? = some (.o (.tuple vs)))/\v=.o undef/\o'=objs)
def I4 (P:Program) [Tabs P]:List OB->List SO->List AV->List (List OB)->List AV->Prop
 | _,[],[],[],_=>True
 | objs,o::r,v::vs,o'::os,tm=>H9 P objs o v o' tm/\I4 P o' r vs os (AD tm o.dst v)
 | _,_,_,_,_=>False
def AW (p:Nat->Bool):Nat->List SO->List AV->List AV->List AV
 | k,o::r,v::vs,tm=>AW p (k+1) r vs (if p k=true then AD tm o.dst v else tm)
 | _,_,_,tm=>tm
def BE (p:Nat->Bool):Nat->List SO->List (List OB)->List OB->List OB
 | k,o::r,o'::os,cur=>BE p (k+1) r os (if (p k&&!o.op.calm)=true then o' else cur)
 | _,_,_,cur=>cur
def BB (P:Program) [Tabs P]:List SO->List OB->List AV->(List OB->List AV->Prop)->Prop
 | [],objs,tm,K=>K objs tm
 | ⟨dst,op,none⟩::r,objs,tm,K=>
  if op.isCall=true then ∃v,Ah P op objs tm (fun o x=>o=objs/\x=v)/\BB P r objs (AD tm dst v) K
  else Ah P op objs tm fun o v=>BB P r o (AD tm dst v) K
 | ⟨dst,op,some (t,want)⟩::r,objs,tm,K=>
  match (tm[t]?).getD .u with
  | .b x=>(x=want->if op.isCall=true then ∃v,Ah P op objs (tm.set t (.b want)) (fun o x=>o=objs/\x=v)/\BB P r objs (AD (tm.set t (.b want)) dst v) K
    else Ah P op objs (tm.set t (.b want)) fun o v=>BB P r o (AD (tm.set t (.b want)) dst v) K) /\
   (x=!want->BB P r objs (AD (tm.set t (.b (!want))) dst (.o undef)) K)
  | .o (.tuple _)=>BB P r objs (AD tm dst (.o undef)) K
  | _=>False
theorem set_same {tm:List AV} {t:Nat} {x:AV} (h:tm[t]? = some x):tm.set t x=tm:=by
 obtain⟨hl,he⟩:=jf.1 h;rw[<-he,List.set_getElem_self]
theorem QM {P:Program} [Tabs P] {op:SOp} {objs:List OB} {tm:List AV} {W:List OB->AV->Prop} (h:if op.isCall=true then ∃v,Ah P op objs tm (fun o x=>o=objs/\x=v)/\W objs v else Ah P op objs tm W):∃v o',(op.calm=true->o'=objs)/\Ah P op objs tm (fun o x=>o=o'/\x=v)/\W o' v:=by
 by_cases hi:op.isCall=true
 ·rw[if_pos hi] at h;obtain⟨v,h1,h2⟩:=h;exact⟨v,objs,fun _=>rfl,h1,h2⟩
 ·rw[if_neg hi] at h
  cases hc:op.calm with
  | true=>
   obtain⟨v,h1,h2⟩:=QO hc (by simpa using hi) h;exact⟨v,objs,fun _=>rfl,h1,h2⟩
  | false=>
   obtain⟨o',v,h1,h2⟩:=Sj hc h;exact⟨v,o',(fun e=>by cases e),h1 _ ⟨rfl,rfl⟩,h2⟩
theorem Jz {P:Program} [Tabs P]:∀(l:List SO) (objs:List OB) (tm:List AV) (K:List OB->List AV->Prop),BB P l objs tm K->∃vs os,I4 P objs l vs os tm/\K (BE (fun _=>true) 0 l os objs) (AW (fun _=>true) 0 l vs tm)
 | [],objs,tm,K,h=>⟨[],[],trivial,h⟩
 | ⟨dst,op,gd⟩::r,objs,tm,K,h=>by
  have shift:∀(l:List SO) (vs tm:List AV) (k j:Nat),AW (fun _=>true) k l vs tm=AW (fun _=>true) j l vs tm:=by
   intro l
   induction l with
   | nil=>intro vs tm k j;rfl
   | cons o l ih=>
    intro vs tm k j
    cases vs with
    | nil=>rfl
    | cons v vs=>simp only[AW];exact ih vs _ _ _
  have shiftO:∀(l:List SO) (os:List (List OB)) (cur:List OB) (k j:Nat),BE (fun _=>true) k l os cur=BE (fun _=>true) j l os cur:=by
   intro l
   induction l with
   | nil=>intro os cur k j;rfl
   | cons o l ih=>
    intro os cur k j
    cases os with
    | nil=>rfl
    | cons v os=>simp only[BE];exact ih os _ _ _
  have nxt:∀(o':List OB),(op.calm=true->o'=objs)->(if (true&&!op.calm)=true then o' else objs)=o':=by
   intro o' h
   cases hc:op.calm with
   | true=>simp[h hc]
   | false=>simp
  cases gd with
  | none=>
   simp only[BB] at h;obtain⟨v,o',hco,h1,h2⟩:=QM (W:=fun o v=>BB P r o (AD tm dst v) K) h;obtain⟨vs,os,k1,k2⟩:=Jz r _ _ K h2;refine⟨v::vs,o'::os,⟨⟨hco,h1⟩,k1⟩,?_⟩;simp only[AW,BE,if_true];rw[nxt o' hco,shift r vs _ _ 0,shiftO r os _ _ 0];exact k2
  | some g=>
   obtain⟨t,want⟩:=g;simp only[BB] at h
   cases ht:tm[t]? with
   | none=>rw[ht] at h;exact h.elim
   | some y=>
    rw[ht] at h;simp only[ja] at h
    split at h
    ·rename_i x
     by_cases hx:x=want
     ·subst hx;have h':=h.1 rfl;rw[set_same ht] at h';obtain⟨v,o',hco,h1,h2⟩:=QM (W:=fun o v=>BB P r o (AD tm dst v) K) h';obtain⟨vs,os,k1,k2⟩:=Jz r _ _ K h2;refine⟨v::vs,o'::os,⟨⟨hco,.inl ⟨ht,h1⟩⟩,k1⟩,?_⟩;simp only[AW,BE,if_true];rw[nxt o' hco,shift r vs _ _ 0,shiftO r os _ _ 0];exact k2
     ·have hx':x=!want:=by cases x<;>cases want<;>first|rfl|exact absurd rfl hx
      subst hx';have h':=h.2 rfl;rw[set_same ht] at h';obtain⟨vs,os,k1,k2⟩:=Jz r _ _ K h';refine⟨_::vs,objs::os,⟨⟨fun _=>rfl,.inr ⟨.inl ht,rfl,rfl⟩⟩,k1⟩,?_⟩;simp only[AW,BE,if_true];rw[nxt objs (fun _=>rfl),shift r vs _ _ 0,shiftO r os _ _ 0];exact k2
    ·obtain⟨vs,os,k1,k2⟩:=Jz r _ _ K h;refine⟨_::vs,objs::os,⟨⟨fun _=>rfl,.inr ⟨.inr ⟨_,ht⟩,rfl,rfl⟩⟩,k1⟩,?_⟩;simp only[AW,BE,if_true];rw[nxt objs (fun _=>rfl),shift r vs _ _ 0,shiftO r os _ _ 0];exact k2
    ·exact h.elim
theorem Iz (p q:Nat->Bool):∀(l:List SO) (os:List (List OB)) (cur:List OB) (k:Nat),(∀j o,l[j]? = some o->o.op.calm=false->p (k+j)=q (k+j))->BE p k l os cur=BE q k l os cur
 | [],os,cur,k,h=>by cases os<;>rfl
 | o::r,[],cur,k,h=>rfl
 | o::r,o'::os,cur,k,h=>by
  simp only[BE];have e:(p k&&!o.op.calm)=(q k&&!o.op.calm):=by
   cases hc:o.op.calm with
   | true=>simp
   | false=>have:=h 0 o rfl hc;simp only[jj] at this;rw[this]
  rw[e];exact Iz p q r os _ (k+1) (fun j o2 hj hc=>by
   have:=h (j+1) o2 (by simpa using hj) hc
   rwa [show k+1+j=k+(j+1) by omega])
theorem Jq (p:Nat->Bool) (l:List SO) (os:List (List OB)) (cur:List OB) (k:Nat) (h:∀j o,l[j]? = some o->o.op.calm=false->p (k+j)=false):BE p k l os cur=cur:=by
 induction l generalizing os k with
 | nil=>cases os<;>rfl
 | cons o r ih=>
  cases os with
  | nil=>rfl
  | cons o' os=>
   simp only[BE];have e:(p k&&!o.op.calm)=false:=by
    cases hc:o.op.calm with
    | true=>simp
    | false=>have:=h 0 o rfl hc;simp only[jj] at this;simp[this]
   rw[e,if_neg Bool.false_ne_true];exact ih os (k+1) (fun j o2 hj hc=>by
    have:=h (j+1) o2 (by simpa using hj) hc
    rwa [show k+1+j=k+(j+1) by omega])
theorem RJ (p:Nat->Bool):∀(l:List SO) (os:List (List OB)) (cur:List OB) (k i:Nat) (o:SO) (o':List OB),l[i]? = some o->os[i]? = some o'->o.op.calm=false->(∀j o2,l[j]? = some o2->i<j->o2.op.calm=false->p (k+j)=false)->BE (fun x=>p x||x==k+i) k l os cur=o'
 | [],os,cur,k,i,o,o',ho,hv,hc,hl=>by simp at ho
 | o0::r,[],cur,k,i,o,o',ho,hv,hc,hl=>by simp at hv
 | o0::r,v0::os,cur,k,0,o,o',ho,hv,hc,hl=>by
  simp at ho hv;subst ho hv;simp only[BE,hc,jj,beq_self_eq_true,Bool.or_true,Bool.not_false,Bool.and_self,if_true];refine Jq _ r os _ (k+1) (fun j o2 hj hc2=>?_);have:=hl (j+1) o2 (by simpa using hj) (by omega) hc2;rw[show k+1+j=k+(j+1) by omega,this];simp
 | o0::r,v0::os,cur,k,i+1,o,o',ho,hv,hc,hl=>by
  simp only[List.getElem?_cons_succ] at ho hv;simp only[BE];have e2:(fun x=>p x||x==k+(i+1))=(fun x=>p x||x==k+1+i):=by
   funext x;rw[show k+(i+1)=k+1+i by omega]
  generalize (if ((p k||k==k+(i+1))&&!o0.op.calm)=true then v0 else cur)=cur';rw[e2];exact RJ p r os _ (k+1) i o o' ho hv hc (fun j o2 hj hij hc2=>by
   have:=hl (j+1) o2 (by simpa using hj) (by omega) hc2
   rwa [show k+1+j=k+(j+1) by omega])
theorem NG (p q:Nat->Bool) (t:Nat):∀(l:List SO) (vs tm tm':List AV) (k:Nat),tm[t]? = tm'[t]?->tm.length=tm'.length->(∀j o,l[j]? = some o->o.dst=some t->p (k+j)=q (k+j))->(AW p k l vs tm)[t]? = (AW q k l vs tm')[t]?
 | [],vs,tm,tm',k,h,hl,hp=>by cases vs<;>simpa[AW] using h
 | o::r,[],tm,tm',k,h,hl,hp=>by simpa[AW] using h
 | o::r,v::vs,tm,tm',k,h,hl,hp=>by
  simp only[AW];have hstep:∀(b:Bool) (x:List AV),(if b=true then AD x o.dst v else x).length=x.length:=by
   intro b x;cases b<;>cases hd:o.dst<;>simp[AD]
  refine NG p q t r vs _ _ (k+1) ?_ (by rw[hstep,hstep,hl]) (fun j o' hj ho'=>by
   have:=hp (j+1) o' (by simpa using hj) ho'
   rwa [show k+1+j=k+(j+1) by omega])
  cases hd:o.dst with
  | none=>cases p k<;>cases q k<;>simpa[AD] using h
  | some d=>
   by_cases e:d=t
   ·subst e;have:=hp 0 o rfl hd;simp only[jj] at this;rw[this]
    cases q k
    ·simpa using h
    ·simp only[if_true,AD,List.getElem?_set_self',h]
   ·cases p k<;>cases q k<;>simp[AD,zp e,h]
theorem Ql (p:Nat->Bool) (d:Nat) (v:AV):∀(l:List SO) (vs tm:List AV) (k:Nat),(∀o∈l,o.dst≠some d)->AW p k l vs (tm.set d v)=(AW p k l vs tm).set d v
 | [],vs,tm,k,h=>by cases vs<;>rfl
 | o::r,[],tm,k,h=>rfl
 | o::r,z::vs,tm,k,h=>by
  simp only[AW];rw[<-Ql p d v r vs _ (k+1) (fun o' ho'=>h o' (qx _ ho'))]
  congr 1
  cases p k
  ·rfl
  ·simp only[if_true]
   cases hd:o.dst with
   | none=>rfl
   | some e=>
    have:e≠d:=fun e'=>h o (jp ..) (by rw[hd,e']);simp only[AD];rw[List.set_comm _ _ this]
theorem KS (p q:Nat->Bool):∀(l:List SO) (vs tm:List AV) (k:Nat),(∀j,j<l.length->p (k+j)=q (k+j))->AW p k l vs tm=AW q k l vs tm
 | [],vs,tm,k,h=>by cases vs<;>rfl
 | o::r,[],tm,k,h=>rfl
 | o::r,z::vs,tm,k,h=>by
  simp only[AW];have:=h 0 (by simp);simp only[jj] at this;rw[this];exact KS p q r vs _ (k+1) (fun j hj=>by
   have:=h (j+1) (by simp;omega)
   rwa [show k+1+j=k+(j+1) by omega])
theorem KT (p:Nat->Bool):∀(l:List SO) (vs tm:List AV) (k i:Nat) (o:SO) (v:AV),l[i]? = some o->vs[i]? = some v->p (k+i)=false->(∀j o',l[j]? = some o'->j≠i->o'.dst≠o.dst\/o.dst=none) ->
  AD (AW p k l vs tm) o.dst v=AW (fun x=>p x||x==k+i) k l vs tm
 | [],vs,tm,k,i,o,v,ho,hv,hp,hd=>by simp at ho
 | o0::r,[],tm,k,i,o,v,ho,hv,hp,hd=>by simp at hv
 | o0::r,v0::vs,tm,k,0,o,v,ho,hv,hp,hd=>by
  simp at ho hv hp;subst ho hv;simp only[AW,hp,Bool.false_eq_true,if_false,jj,beq_self_eq_true,Bool.or_true,if_true];have e1:AW (fun x=>p x||x==k) (k+1) r vs (AD tm o0.dst v0)=AW p (k+1) r vs (AD tm o0.dst v0) :=
   KS _ _ r vs _ (k+1) (fun j hj=>by
    have:(k+1+j==k)=false:=by simp;omega
    rw[this,Bool.or_false])
  rw[e1]
  cases h0:o0.dst with
  | none=>rfl
  | some d=>
   simp only[AD];rw[Ql p d v0 r vs tm (k+1)];intro o' ho' hd';obtain⟨j,hj⟩:=List.mem_iff_getElem?.1 ho';rcases hd (j+1) o' (by simpa using hj) (by omega) with h1|h1
   ·exact h1 (by rw[hd',h0])
   ·rw[h0] at h1;cases h1
 | o0::r,v0::vs,tm,k,i+1,o,v,ho,hv,hp,hd=>by
  simp only[List.getElem?_cons_succ] at ho hv;simp only[AW];have e0:(p k||k==k+(i+1))=p k:=by
   have:(k==k+(i+1))=false:=by simp
   rw[this,Bool.or_false]
  have e2:(fun x=>p x||x==k+(i+1))=(fun x=>p x||x==k+1+i):=by
   funext x;rw[show k+(i+1)=k+1+i by omega]
  simp only[e0];rw[KT p r vs _ (k+1) i o v ho hv (by rwa [show k+1+i=k+(i+1) by omega]) (fun j o' hj hji=>hd (j+1) o' (by simpa using hj) (by omega)),e2]
theorem QX {P:Program} [Tabs P]:∀(l:List SO) (objs:List OB) (vs:List AV) (os:List (List OB)) (tm:List AV) (k i:Nat) (o:SO),I4 P objs l vs os tm->l[i]? = some o->∃v o',vs[i]? = some v/\os[i]? = some o'/\H9 P (BE (fun x=>decide (x<k+i)) k l os objs) o v o' (AW (fun x=>decide (x<k+i)) k l vs tm)
 | [],objs,vs,os,tm,k,i,o,h,ho=>by simp at ho
 | o0::r,objs,[],os,tm,k,i,o,h,ho=>by cases os<;>exact h.elim
 | o0::r,objs,v::vs,[],tm,k,i,o,h,ho=>h.elim
 | o0::r,objs,v0::vs,p0::os,tm,k,0,o,h,ho=>by
  simp at ho;subst ho;refine⟨v0,p0,rfl,rfl,?_⟩;have e1:AW (fun x=>decide (x<k+0)) k (o0::r) (v0::vs) tm=tm:=by
   have nil:∀(l:List SO) (vs tm:List AV) (j:Nat),k<=j->AW (fun x=>decide (x<k+0)) j l vs tm=tm:=by
    intro l
    induction l with
    | nil=>intro vs tm j hj;cases vs<;>rfl
    | cons o l ih=>
     intro vs tm j hj
     cases vs with
     | nil=>rfl
     | cons v vs=>
      simp only[AW];rw[if_neg (by simp;omega)];exact ih vs tm (j+1) (by omega)
   exact nil _ _ _ k (zd _)
  rw[e1,Jq _ _ _ _ _ (fun j o hj hc=>by simp)];exact h.1
 | o0::r,objs,v0::vs,p0::os,tm,k,i+1,o,h,ho=>by
  obtain⟨v,o',h1,h2,h3⟩:=QX r p0 vs os _ (k+1) i o h.2 (by simpa using ho);refine⟨v,o',by simpa using h1,by simpa using h2,?_⟩;simp only[AW,BE];have e:(if (decide (k<k+(i+1))&&!o0.op.calm)=true then p0 else objs)=p0:=by
   cases hc:o0.op.calm with
   | true=>simp[h.1.1 hc]
   | false=>simp
  have e9:(if decide (k<k+(i+1))=true then AD tm o0.dst v0 else tm)=AD tm o0.dst v0:=if_pos (by simp);rw[e,e9,show k+(i+1)=k+1+i by omega];exact h3
def AJ (o:Oper):List Nat:=(o.after.toList.filter (Region.binds .any)).map (·.on)
def Bj (deps:List (List Nat)):List (List Nat):=deps.foldl (fun acc d=>acc++[(d++d.flatMap fun e=>acc.getD e []).eraseDups]) []
def SV.tmp?:SV->Option Nat
 | .t n=>some n
 | _=>none
def SO.looks (o:SO):List Nat:=o.op.svs.filterMap SV.tmp?++(match o.gd with|some (t,_)=>[t] | none=>[])
def Pj (l:List SO):Nat:=l.findIdx fun o=>!o.op.calm||o.dst.isNone
def Az (l:List SO) (j:Nat):Option Nat:=(l[j]?).bind (·.dst)
def Hl (l:List SO) (j:Nat):Bool:=((l[j]?).map (·.op.touch)).getD false
def Hn (l:List SO) (j:Nat):Bool:=((l[j]?).map (fun o=>!o.op.calm)).getD false
def J3 (l:List SO) (i:Nat):Option Nat :=
 match l[i]? with
 | some ⟨_,.load1 (.t s),_⟩=>some s
 | some ⟨_,.loadn _ (.t s),_⟩=>some s
 | _=>none
def Vq (l:List SO) (d:Nat):Bool:=l.any fun q=>match q.op with
 | .app _ _ _ (.t x) _=>x==d
 | _=>false
def G5 (l:List SO) (j:Nat):Option Nat :=
 match l[j]? with
 | some ⟨_,.store _ (.t s) _,none⟩=>some s
 | some ⟨some d,.alloc _ _,none⟩=>some d
 | some ⟨some d,.app _ _ _ _ _,none⟩=>some d
 | some ⟨some d,.apps _ _ _,none⟩=>some d
 | some ⟨some d,.bslo _ _ _ _ _,none⟩=>some d
 | some ⟨some d,.trn _ _ _,none⟩=>if Vq l d=true then some d else none
 | _=>none
def Hc (l:List SO) (j:Nat):Nat :=
 match l[j]? with
 | some ⟨some _,.alloc _ _,none⟩=>j+1
 | some ⟨some _,.app _ _ _ _ _,none⟩=>j+1
 | some ⟨some _,.apps _ _ _,none⟩=>j+1
 | some ⟨some _,.bslo _ _ _ _ _,none⟩=>j+1
 | some ⟨some _,.trn _ _ _,none⟩=>j+1
 | _=>j
def JX (l:List SO) (i:Nat):Option (Nat×Bool):=(l[i]?).bind (·.gd)
def Mp (l:List SO) (k i:Nat):Bool:=match JX l i with
 | some (g,_)=>(zi k).all fun m=>decide (m<i)||Az l m != some g
 | none=>true
def F4 (l:List SO) (k i j:Nat):Bool :=
 match J3 l i,G5 l j with
 | some s,some s'=>(zi k).all (fun m=>decide (m<i)||Az l m != some s)&&(zi k).all (fun m=>decide (m<Hc l j)||Az l m != some s')&&Mp l k i
 | _,_=>false
def O2 (l:List SO) (anc:List (List Nat)) (i j:Nat):Option (Nat×Nat×Option (Nat×Bool)) :=
 if (Hl l i&&Hn l j&&!(j==i)&&!(if j<i then (anc.getD i []).contains j else (anc.getD j []).contains i))=true then
  match J3 l i,G5 l j with
  | some s,some s'=>some (s,s',JX l i)
  | _,_=>none
 else none
def Ds (l:List SO) (anc:List (List Nat)) (k:Nat):List (Nat×Nat×Option (Nat×Bool)):=(zi k).flatMap fun i=>(zi k).filterMap fun j=>O2 l anc i j
def Fg:Option AV->Option AV->Prop
 | some (.p b _),some (.p b' _)=>¬b=b'
 | some (.p b _),some (.orow b' _)=>¬b=b'
 | some (.p b _),some (.porow b' _ _)=>¬b=b'
 | some (.prow _ _),some (.p _ _)=>True
 | some (.prow _ _),some (.orow _ _)=>True
 | some (.prow _ _),some (.porow _ _ _)=>True
 | _,_=>False
def Fv:Option AV->Option AV->Prop
 | some (.porow b _ _),some (.porow b' _ _)=>¬b=b'
 | some (.porow b _ _),some (.p b' _)=>¬b=b'
 | _,_=>False
def J7:Option AV->Bool->Prop->Prop
 | some (.b true),true,p=>p
 | some (.b false),false,p=>p
 | some (.b true),false,_=>True
 | some (.b false),true,_=>True
 | _,_,p=>p
def I1:Option (Nat×Bool)->List AV->Prop->Prop
 | none,_,p=>p
 | some (g,want),tm,p=>J7 tm[g]? want p
theorem XU {g:Option (Nat×Bool)} {tm:List AV} {p:Prop} (h:I1 g tm p) (hg:∀t want,g=some (t,want)->tm[t]? = some (.b want)):p:=by
 cases g with
 | none=>exact h
 | some x=>
  obtain⟨t,want⟩:=x;have h2:=hg t want rfl;simp only[I1,h2] at h
  cases want<;>exact h
def CN:List (Nat×Nat×Option (Nat×Bool))->List AV->Prop
 | [],_=>True
 | (s,s',g)::r,tm=>(if s'<1000000 then I1 g tm (Fg tm[s]? tm[s']?) else Fv tm[s]? tm[s' - 1000000]?)/\CN r tm
theorem Rf:∀(r:List (Nat×Nat×Option (Nat×Bool))) (tm:List AV) (s s':Nat) (g:Option (Nat×Bool)),CN r tm->(s,s',g)∈r->s'<1000000->I1 g tm (Fg tm[s]? tm[s']?)
 | [],tm,s,s',g,h,hm,hs=>by cases hm
 | (x,y,z)::r,tm,s,s',g,h,hm,hs=>by
  rcases zv.1 hm with e|hm
  ·cases e
   have:=h.1
   rwa [if_pos hs] at this
  ·exact Rf r tm s s' g h.2 hm hs
def Hg (l:List SO) (k:Nat):Bool:=(zi k).all fun j=>match G5 l j with
 | some s=>decide (s<1000000)
 | none=>true
theorem aK {l:List SO} {k j s:Nat} (h:Hg l k=true) (hj:j<k) (hs:G5 l j=some s):s<1000000:=by
 have:=zj.1 h j (qi.2 hj);rw[hs] at this;exact of_decide_eq_true this
def Kl (l:List SO) (deps anc:List (List Nat)) (k:Nat):Bool :=
 decide (k<=l.length) &&
 (zi l.length).all (fun i=>(deps.getD i []).all (fun e=>decide (e<i))&&(anc.getD i []).all fun j=>(deps.getD i []).contains j||(deps.getD i []).any fun e=>(anc.getD e []).contains j) &&
 (zi k).all (fun i=>Az l i==none||(zi k).all fun j=>i==j||Az l j != Az l i) &&
 (zi k).all (fun i=>(((l[i]?).map (·.looks)).getD []).all fun t=>(zi k).all fun j=>j==i||Az l j != some t||(anc.getD i []).contains j||(anc.getD j []).contains i) &&
 (zi k).all (fun i=>!Hl l i||(zi k).all fun j=>!Hn l j||j==i||(if j<i then (anc.getD i []).contains j else (anc.getD j []).contains i)||F4 l k i j) &&
 ((zi l.length).all fun j=>decide (j<k)||(zi j).all fun i=>(anc.getD j []).contains i)&&Hg l k
def Eb (l:List SO) (deps anc:List (List Nat)) (k:Nat):Bool :=
 decide (k<=l.length) &&
 (zi l.length).all (fun i=>(deps.getD i []).all (fun e=>decide (e<i))&&(anc.getD i []).all fun j=>(deps.getD i []).contains j||(deps.getD i []).any fun e=>(anc.getD e []).contains j) &&
 (zi k).all (fun i=>Az l i==none||(zi k).all fun j=>i==j||Az l j != Az l i) &&
 (zi k).all (fun i=>(((l[i]?).map (·.looks)).getD []).all fun t=>(zi k).all fun j=>j==i||Az l j != some t||(anc.getD i []).contains j||(anc.getD j []).contains i) &&
 (zi k).all (fun i=>!Hl l i||(zi k).all fun j=>!Hn l j||j==i||(if j<i then (anc.getD i []).contains j else (anc.getD j []).contains i)||F4 l k i j) &&
 ((zi l.length).all fun j=>decide (j<k)||(zi k).all fun i=>(anc.getD j []).contains i)&&Hg l k
section
variable {P:Program} [Tabs P] {C:Cx} [On P C] {K:Bb}
theorem Lp (deps anc:List (List Nat)) (n:Nat) (h1:∀i,i<n->(∀e∈deps.getD i [],e<i)/\∀j∈anc.getD i [],j∈deps.getD i []\/∃e∈deps.getD i [],j∈anc.getD e []) (p:Nat->Bool) (hc:∀i,i<n->p i=true->∀e∈deps.getD i [],p e=true) :
  ∀i,i<n->(∀e∈deps.getD i [],p e=true)->∀j∈anc.getD i [],p j=true:=by
 intro i
 induction i using Nat.strongRecOn with
 | _ i ih=>
  intro hi hd j hj;rcases(h1 i hi).2 j hj with h2|⟨e,he,h2⟩
  ·exact hd j h2
  ·have hlt:=(h1 i hi).1 e he;exact ih e hlt (by omega) (hc e (by omega) (hd e he)) j h2
theorem Ms (deps anc:List (List Nat)) (n:Nat) (h1:∀i,i<n->(∀e∈deps.getD i [],e<i)/\∀j∈anc.getD i [],j∈deps.getD i []\/∃e∈deps.getD i [],j∈anc.getD e []):∀i,i<n->∀j∈anc.getD i [],j<i:=by
 intro i
 induction i using Nat.strongRecOn with
 | _ i ih=>
  intro hi j hj;rcases(h1 i hi).2 j hj with h2|⟨e,he,h2⟩
  ·exact(h1 i hi).1 j h2
  ·have hlt:=(h1 i hi).1 e he;have:=ih e hlt (by omega) j h2;omega
theorem RI {P:Program} [Tabs P] (b:Nat) (q:Nat->Bool):∀(l:List SO) (objs:List OB) (vs:List AV) (os:List (List OB)) (tm:List AV) (k:Nat),I4 P objs l vs os tm ->
  (∀j m o o2,l[j]? = some o->l[m]? = some o2->j<m->o.op.calm=false->o2.op.calm=false->q (k+m)=true->q (k+j)=true) ->
  (∀j o v o' t ob,l[j]? = some o->o.op.calm=false->q (k+j)=true->os[j]? = some o'->vs[j]? = some v->H9 P ob o v o' t->t=AW (fun x=>decide (x<k+j)) k l vs tm->o'[b]? = ob[b]?) ->
  (BE q k l os objs)[b]? = objs[b]?
 | [],objs,vs,os,tm,k,h,hc,hk=>by cases os<;>rfl
 | o::r,objs,[],os,tm,k,h,hc,hk=>by cases os<;>exact h.elim
 | o::r,objs,v::vs,[],tm,k,h,hc,hk=>h.elim
 | o::r,objs,v::vs,o'::os,tm,k,h,hc,hk=>by
  simp only[BE];have e0:AW (fun x=>decide (x<k+0)) k (o::r) (v::vs) tm=tm:=by
   have nil:∀(l:List SO) (vs tm:List AV) (j:Nat),k<=j->AW (fun x=>decide (x<k+0)) j l vs tm=tm:=by
    intro l
    induction l with
    | nil=>intro vs tm j hj;cases vs<;>rfl
    | cons o l ih=>
     intro vs tm j hj
     cases vs with
     | nil=>rfl
     | cons v vs=>
      simp only[AW];rw[if_neg (by simp;omega)];exact ih vs tm (j+1) (by omega)
   exact nil _ _ _ k (zd _)
  have next:(BE q (k+1) r os o')[b]? = o'[b]?:=by
   refine RI b q r o' vs os _ (k+1) h.2 (fun j m o1 o2 h1 h2 h3 h4 h5 h6=>?_) (fun j o1 v1 o1' t ob h1 h2 h3 h4 h5 h6 h7=>?_)
   ·have:=hc (j+1) (m+1) o1 o2 (by simpa using h1) (by simpa using h2) (by omega) h4 h5 (by rwa [show k+(m+1)=k+1+m by omega])
    rwa [show k+1+j=k+(j+1) by omega]
   ·refine hk (j+1) o1 v1 o1' t ob (by simpa using h1) h2 (by rwa [show k+(j+1)=k+1+j by omega]) (by simpa using h4) (by simpa using h5) h6 ?_;rw[h7];simp only[AW];rw[if_pos (by simp),show k+(j+1)=k+1+j by omega]
  cases hcm:o.op.calm with
  | true=>
   simp only[Bool.not_true,Bool.and_false,Bool.false_eq_true,if_false];have:=h.1.1 hcm;subst this;exact next
  | false=>
   cases hq:q k with
   | true=>
    simp only[Bool.not_false,Bool.and_self,if_true];rw[next];exact hk 0 o v o' tm objs rfl hcm (by simpa using hq) rfl rfl h.1 e0.symm
   | false=>
    simp only[Bool.false_and,Bool.false_eq_true,if_false];rw[Jq];intro j o2 hj h2
    cases hx:q (k+1+j) with
    | false=>rfl
    | true=>
     have:=hc 0 (j+1) o o2 rfl (by simpa using hj) (by omega) hcm h2 (by rwa [show k+(j+1)=k+1+j by omega]);rw[jj,hq] at this;cases this
theorem MN {P:Program} [Tabs P] (b:Nat) (p q:Nat->Bool):∀(l:List SO) (objs:List OB) (vs:List AV) (os:List (List OB)) (tm:List AV) (k:Nat),I4 P objs l vs os tm ->
  (∀j m o o2,l[j]? = some o->l[m]? = some o2->j<m->o.op.calm=false->o2.op.calm=false->q (k+m)=true->q (k+j)=true) ->
  (∀j m o o2,l[j]? = some o->l[m]? = some o2->j<m->o.op.calm=false->o2.op.calm=false->p (k+m)=true->p (k+j)=true) ->
  (∀j o,l[j]? = some o->o.op.calm=false->p (k+j)=true->q (k+j)=true) ->
  (∀j o v o' t ob,l[j]? = some o->o.op.calm=false->p (k+j)=false->q (k+j)=true->os[j]? = some o'->vs[j]? = some v->H9 P ob o v o' t->t=AW (fun x=>decide (x<k+j)) k l vs tm->o'[b]? = ob[b]?) ->
  (BE p k l os objs)[b]? = (BE q k l os objs)[b]?
 | [],objs,vs,os,tm,k,h,hq,hp,hs,hk=>by cases os<;>rfl
 | o::r,objs,[],os,tm,k,h,hq,hp,hs,hk=>by cases os<;>exact h.elim
 | o::r,objs,v::vs,[],tm,k,h,hq,hp,hs,hk=>h.elim
 | o::r,objs,v::vs,o'::os,tm,k,h,hq,hp,hs,hk=>by
  have C9:∀(z:Nat->Bool),(∀j m o1 o2,(o::r)[j]? = some o1->(o::r)[m]? = some o2->j<m->o1.op.calm=false->o2.op.calm=false->z (k+m)=true->z (k+j)=true)->∀j m o1 o2,r[j]? = some o1->r[m]? = some o2->j<m->o1.op.calm=false->o2.op.calm=false->z (k+1+m)=true->z (k+1+j)=true:=by
   intro z hz j m o1 o2 h1 h2 h3 h4 h5 h6;have:=hz (j+1) (m+1) o1 o2 (by simpa using h1) (by simpa using h2) (by omega) h4 h5 (by rwa [show k+(m+1)=k+1+m by omega])
   rwa [show k+1+j=k+(j+1) by omega]
  have next:(BE p (k+1) r os o')[b]? = (BE q (k+1) r os o')[b]?:=by
   refine MN b p q r o' vs os _ (k+1) h.2 (C9 q hq) (C9 p hp) (fun j o1 h1 h2 h3=>?_) (fun j o1 v1 o1' t ob h1 h2 h3 h3' h4 h5 h6 h7=>?_)
   ·have:=hs (j+1) o1 (by simpa using h1) h2 (by rwa [show k+(j+1)=k+1+j by omega])
    rwa [show k+1+j=k+(j+1) by omega]
   ·refine hk (j+1) o1 v1 o1' t ob (by simpa using h1) h2 (by rwa [show k+(j+1)=k+1+j by omega]) (by rwa [show k+(j+1)=k+1+j by omega]) (by simpa using h4) (by simpa using h5) h6 ?_;rw[h7];simp only[AW];rw[if_pos (by simp),show k+(j+1)=k+1+j by omega]
  cases hcm:o.op.calm with
  | true=>
   have e:=h.1.1 hcm;subst e;simp only[BE,hcm,Bool.not_true,Bool.and_false,Bool.false_eq_true,if_false];exact next
  | false=>
   cases hpk:p k with
   | true=>
    have hqk:q k=true:=hs 0 o rfl hcm (by simpa using hpk);simp only[BE,hcm,hpk,hqk,Bool.not_false,Bool.and_self,if_true];exact next
   | false=>
    have hpn:∀j o2,(o::r)[j]? = some o2->o2.op.calm=false->p (k+j)=false:=by
     intro j o2 hj h2
     cases j with
     | zero=>simpa using hpk
     | succ j=>
      cases hx:p (k+(j+1)) with
      | false=>rfl
      | true=>
       have:=hp 0 (j+1) o o2 rfl hj (by omega) hcm h2 hx;rw[jj,hpk] at this;cases this
    rw[Jq p (o::r) (o'::os) objs k hpn]
    symm
    exact RI b q (o::r) objs (v::vs) (o'::os) tm k h hq (fun j o1 v1 o1' t ob h1 h2 h3 h4 h5 h6 h7=>hk j o1 v1 o1' t ob h1 h2 (hpn j o1 h1 h2) h3 h4 h5 h6 h7)
theorem X5 {P:Program} [Tabs P] {op:SOp} {s:Nat} {obi cur:List OB} {tm:List AV} {v:AV} (hop:op=.load1 (.t s)\/∃sz,op=.loadn sz (.t s)) (hb:∀b off,tm[s]? = some (.p b off)->cur[b]? = obi[b]?) (hp:∃b off,tm[s]? = some (.p b off))
  (h:Ah P op obi tm (fun y x=>y=obi/\x=v)):Ah P op cur tm (fun y x=>y=cur/\x=v):=by
 obtain⟨b,off,hp⟩:=hp;have hb:=hb b off hp;rcases hop with rfl|⟨sz,rfl⟩
 ·simp only[Ah,SV.ev,hp,ja,hb] at h ⊢
  split at h
  ·split at h
   ·exact⟨trivial,h.2⟩
   ·exact h
  ·exact h
 ·simp only[Ah,SV.ev,hp,ja,hb] at h ⊢
  split at h
  ·exact⟨h.1,trivial,h.2.2⟩
  ·exact h
theorem bA {P:Program} [Tabs P] {op:SOp} {s:Nat} {obi cur:List OB} {tm:List AV} {v:AV} (hop:op=.load1 (.t s)\/∃sz,op=.loadn sz (.t s)) (hp:∃xs q,tm[s]? = some (.prow xs q))
  (h:Ah P op obi tm (fun y x=>y=obi/\x=v)):Ah P op cur tm (fun y x=>y=cur/\x=v):=by
 obtain⟨xs,q,hp⟩:=hp;rcases hop with rfl|⟨sz,rfl⟩
 ·simp only[Ah,SV.ev,hp,ja] at h ⊢;obtain⟨v',h1,_,h2⟩:=h;exact⟨v',h1,trivial,h2⟩
 ·simp only[Ah,SV.ev,hp,ja] at h ⊢;exact⟨h.1,trivial,h.2.2⟩
theorem cZ {P:Program} [Tabs P] {sz s:Nat} {y:SV} {ob o':List OB} {tm:List AV} {v:AV} {b:Nat} (hb:∀b' off,tm[s]? = some (.p b' off)->¬b=b') (hq:∀b' g j,tm[s]? = some (.porow b' g j)->¬b=b') (h:Ah P (.store sz (.t s) y) ob tm (fun z x=>z=o'/\x=v)):o'[b]? = ob[b]?:=by
 simp only[Ah,SV.ev] at h
 cases ht:tm[s]? with
 | none=>rw[ht] at h;exact h.elim
 | some a=>
  rw[ht] at h;simp only[ja] at h
  split at h
  ·rename_i b' off
   split at h
   ·obtain⟨_,rfl,_⟩:=h;have:=hb b' off ht;rw[zp (fun e=>this e.symm)]
   ·exact h.elim
  ·rename_i b' g j
   split at h
   ·obtain⟨_,rfl,_⟩:=h;have:=hq b' g j ht;rw[zp (fun e=>this e.symm)]
   ·exact h.elim
  ·exact h.elim
theorem Zi {P:Program} [Tabs P] {op:SOp} {ob o':List OB} {tm:List AV} {v:AV} (hop:(∃E sz by' x y,op=.app E sz by' x y)\/(∃E x y,op=.apps E x y)\/(∃E sz n z ps,op=.bslo E sz n z ps)\/(∃sz x y,op=.trn sz x y)) (h:Ah P op ob tm (fun z x=>z=o'/\x=v)) :
  (∃b g,v=.orow b g/\∀c,¬c=b->o'[c]? = ob[c]?)\/(∃n xs,v=.row n xs)\/v=.nil:=by
 have new:∀x:OB,∀c,¬c=ob.length->(ob++[x])[c]? = ob[c]?:=by
  intro x c hc;rcases zo c ob.length with h6|h6
  ·exact qr h6
  ·rw[qg (by simp;omega),qg h6]
 rcases hop with ⟨E,sz,by',x,y,rfl⟩|⟨E,x,y,rfl⟩|⟨E,sz,n,z,ps,rfl⟩|⟨sz,x,y,rfl⟩
 ·simp only[Ah] at h
  split at h
  ·split at h
   ·split at h
    ·obtain⟨_,rfl,rfl⟩:=h;exact .inl ⟨_,_,rfl,fun c hc=>zp (fun e=>hc e.symm)⟩
    ·exact h.elim
   ·obtain⟨_,rfl,rfl⟩:=h;exact .inl ⟨_,_,rfl,new _⟩
   ·exact h.elim
  ·exact h.elim
 ·simp only[Ah] at h
  split at h
  ·split at h
   ·split at h
    ·obtain⟨_,rfl,rfl⟩:=h;exact .inl ⟨_,_,rfl,fun c hc=>zp (fun e=>hc e.symm)⟩
    ·exact h.elim
   ·obtain⟨_,rfl,rfl⟩:=h;exact .inl ⟨_,_,rfl,new _⟩
   ·exact h.elim
  ·exact h.elim
 ·simp only[Ah] at h
  split at h
  ·obtain⟨_,rfl,rfl⟩:=h;exact .inl ⟨_,_,rfl,new _⟩
  ·exact h.elim
 ·simp only[Ah] at h
  split at h
  ·obtain⟨_,rfl,rfl⟩:=h;exact .inr (.inl ⟨_,_,rfl⟩)
  ·obtain⟨_,rfl,rfl⟩:=h;exact .inr (.inr rfl)
  ·split at h
   ·obtain⟨_,rfl,rfl⟩:=h;exact .inl ⟨_,_,rfl,fun c hc=>zp (fun e=>hc e.symm)⟩
   ·exact h.elim
  ·exact h.elim
theorem Z1 (ops:Array Oper) (o:Oper) (so0 so:SO) (hd0:so.dst=so0.dst) (hg0:so.gd=so0.gd) (hcv:∀objs tm K,Ah P so.op objs tm K->Ah P so0.op objs tm K) (obi cur o':List OB) (tm tmi:List AV) (v:AV) (N:Act->World->Prop) (Q:Exit->Act->World->Prop) (h1:Do P ops.toList o=some so0) (h:H9 P obi so v o' tmi)
  (hstep:(∀t want,so.gd=some (t,want)->tm[t]? = some (.b want))->Ah P so.op obi tm (fun y x=>y=o'/\x=v)->Ah P so.op cur tm (fun y x=>y=(if so.op.calm=true then cur else o')/\x=v)) (hskip:o'=obi->(if so.op.calm=true then cur else o')=cur) (hag:∀t∈so.looks,tm[t]? = tmi[t]?) (a:Act) (w:World) (hr:C1 C cur tm a w)
  (hN:∀a w,C1 C (if so.op.calm=true then cur else o') (AD tm so.dst v) a w->N a w):if Region.wanted o (yielded ops a.tmps) then o.wp P a w N Q else N (a.put o.dst undef) w:=by
 obtain⟨d1,op1,g1⟩:=so;dsimp only at hd0 hg0 hcv;subst hd0 hg0;obtain⟨hco,h⟩:=h;have hev:∀x∈op1.svs,x.ev tm=x.ev tmi:=by
  intro x hx
  cases x with
  | c v=>rfl
  | t n=>
   simp only[SV.ev];rw[hag n (xj _ (List.mem_filterMap.2 ⟨_,hx,rfl⟩))]
 unfold Do at h1
 split at h1
 ·cases h1
 ·rename_i op hop;obtain⟨G,I,hin,hm,hd,hdef⟩:=hr
  split at h1
  ·rename_i hg;injection h1 with h1;subst h1
   dsimp only at h hstep hskip hev hN hcv ⊢;rw[if_pos (by simp[Region.wanted,hg])];rw[<-HY hev] at h;have h:=hstep (fun _ _ e=>by cases e) h;refine KI (C:=C) (type:=o.type) ops.toList o op hop (hcv _ _ _ h) G I a w hin hm hd o _ _ rfl rfl ?_;rintro objs' v' y G' I' w' ⟨rfl,rfl⟩ l1 l2 l3 l4 l5;exact hN _ _ ⟨G',I',l3,l4,EV (Ac.mono l1 l2 _ _ hd) l5 o.dst,by rw[GT];exact hdef⟩
  ·rename_i j want hg
   split at h1
   ·rename_i t hj;injection h1 with h1;subst h1
    have hj':(ops[j]?).bind (·.dst)=some t:=by simpa using hj
    dsimp only at h hstep hskip hev hN hcv ⊢;have hat:=hag t (yj _ (List.mem_singleton_self t));have hval:∀v,tm[t]? = some v->∃y,a.tmps[t]? = some y/\Ab G I v y:=by
     intro v hv;obtain⟨y,h3,h4⟩:=Ac.get t hd hv;exact⟨y,by simpa using h3,h4⟩
    rcases h with ⟨h2,h3⟩|⟨h2|⟨vs,h2⟩,rfl,he⟩
    ·obtain⟨y,hy,hyd⟩:=hval _ (hat.trans h2);simp only[Ab] at hyd;subst hyd;have hyi:yielded ops a.tmps j=some want:=by simp[yielded,hj',hy]
     rw[if_pos (by simp[Region.wanted,hg,hyi])];rw[<-HY hev] at h3;have h3:=hstep (fun _ _ e=>by cases e;exact hat.trans h2) h3;refine KI (C:=C) (type:=o.type) ops.toList o op hop (hcv _ _ _ h3) G I a w hin hm hd o _ _ rfl rfl ?_;rintro objs' v' y G' I' w' ⟨rfl,rfl⟩ l1 l2 l3 l4 l5;exact hN _ _ ⟨G',I',l3,l4,EV (Ac.mono l1 l2 _ _ hd) l5 o.dst,by rw[GT];exact hdef⟩
    ·obtain⟨y,hy,hyd⟩:=hval _ (hat.trans h2);simp only[Ab] at hyd;subst hyd;have hyi:yielded ops a.tmps j=some (!want):=by simp[yielded,hj',hy]
     rw[if_neg (by cases want<;>simp[Region.wanted,hg,hyi])]
     rw[hskip he] at hN;exact hN _ _ ⟨G,I,hin,hm,EV hd (by simp[Ab]) o.dst,by rw[GT];exact hdef⟩
    ·obtain⟨y,hy,hyd⟩:=hval _ (hat.trans h2);simp only[Ab] at hyd;subst hyd;have hyi:yielded ops a.tmps j=none:=by simp[yielded,hj',hy]
     rw[if_neg (by simp[Region.wanted,hg,hyi])];rw[hskip he] at hN;exact hN _ _ ⟨G,I,hin,hm,EV hd (by simp[Ab]) o.dst,by rw[GT];exact hdef⟩
   ·cases h1
theorem Le {ops:Array Oper} {listed:Array Bool} {i:Nat} (hs:listed.size=ops.size):i∈Region.ready .any ops listed↔i<ops.size/\listed.getD i true=false/\∀e∈(ops.toList.map AJ).getD i [],listed.getD e false=true:=by
 unfold Region.ready;rw[jv,qi]
 constructor
 ·rintro⟨h1,h2⟩;simp only[Bool.and_eq_true,Bool.not_eq_true'] at h2;refine⟨h1,h2.1,fun e he=>?_⟩;rw[Array.getElem?_eq_getElem h1] at h2;simp only[jt,ja,Array.all_eq_true'] at h2;have hg:(ops.toList.map AJ).getD i []=AJ ops[i]:=by
   rw[jz,xe,zq (by simpa using h1)];rfl
  rw[hg] at he;unfold AJ at he;obtain⟨ed,hed,rfl⟩:=jc.1 he;obtain⟨hm,hb⟩:=jv.1 hed;have:=h2.2 ed (by simpa using hm);simpa[hb] using this
 ·rintro⟨h1,h2,h3⟩;refine⟨h1,?_⟩;simp only[Bool.and_eq_true,Bool.not_eq_true'];refine⟨h2,?_⟩;rw[Array.getElem?_eq_getElem h1];simp only[jt,ja,Array.all_eq_true'];intro ed hed;have hg:(ops.toList.map AJ).getD i []=AJ ops[i]:=by
   rw[jz,xe,zq (by simpa using h1)];rfl
  cases hb:Region.binds .any ed with
  | false=>simp
  | true=>
   simp only[Bool.not_true,Bool.false_or];refine h3 ed.on ?_;rw[hg];exact jc.2 ⟨ed,jv.2 ⟨by simpa using hed,hb⟩,rfl⟩
theorem GQ {α β:Type} (f:α->Option β):∀(l:List α) (r:List β),l.mapM f=some r->l.length=r.length/\∀(i:Nat) (x:α),l[i]? = some x->∃y,r[i]? = some y/\f x=some y
 | [],r,h=>by simp at h;subst h;simp
 | x::l,r,h=>by
  simp only[List.mapM_cons,Option.bind_eq_bind,Option.pure_def] at h
  cases h1:f x with
  | none=>simp[h1] at h
  | some y=>
   cases h2:l.mapM f with
   | none=>simp[h1,h2] at h
   | some r'=>
    simp[h1,h2] at h;subst h;obtain⟨h3,h4⟩:=GQ f l r' h2;refine⟨by simp[h3],fun i z hz=>?_⟩
    cases i with
    | zero=>simp at hz;subst hz;exact⟨y,rfl,h1⟩
    | succ i=>simpa using h4 i z (by simpa using hz)
theorem Ga (listed:Array Bool) (i j:Nat) (d:Bool) (hi:i<listed.size):(listed.setIfInBounds i true).getD j d=if j=i then true else listed.getD j d:=by
 simp only[Array.getD_eq_getD_getElem?,Array.getElem?_setIfInBounds]
 by_cases e:j=i
 ·subst e;simp[hi]
 ·rw[if_neg (fun e'=>e e'.symm),if_neg e]
def SO.toP:SO->SO
 | ⟨d,.call f args,g⟩=>⟨d,.pcall f args,g⟩
 | ⟨d,.iad sz x y,g⟩=>⟨d,.iadr sz x y,g⟩
 | ⟨d,.trn sz x y,g⟩=>⟨d,.pu (.rslh sz) [x,y],g⟩
 | o=>o
def SO.toR:SO->SO
 | ⟨d,.call f args,g⟩=>⟨d,.pcall f args,g⟩
 | ⟨d,.iad sz x y,g⟩=>⟨d,.iadr sz x y,g⟩
 | o=>o
def SO.toQ:SO->SO
 | ⟨d,.iad sz x y,g⟩=>⟨d,.iadr sz x y,g⟩
 | o=>o
theorem ML {sz:Nat} {x y:SV} {objs:List OB} {tm:List AV} {K:List OB->AV->Prop} (h:Ah P (.iadr sz x y) objs tm K):Ah P (.iad sz x y) objs tm K:=by
 simp only[Ah] at h ⊢
 revert h
 cases x.ev tm<;>try exact fun h=>h.elim
 cases y.ev tm<;>first|exact fun h=>h|exact fun h=>h.elim
theorem Xr {sz:Nat} {x y:SV} {objs:List OB} {tm:List AV} {K:List OB->AV->Prop} (h:Ah P (.pu (.rslh sz) [x,y]) objs tm K):Ah P (.trn sz x y) objs tm K:=by
 simp only[Ah,zr,List.map_nil] at h ⊢
 revert h
 cases x.ev tm<;>try (intro h;simp[pq] at h;done)
 ·cases y.ev tm<;>try (intro h;simp[pq] at h;done)
  intro h;simp only[pq] at h
  split at h
  ·rename_i v hv
   split at hv
   ·rename_i hc;injection hv with hv;subst hv
    exact⟨hc,h⟩
   ·cases hv
  ·exact h.elim
 ·cases y.ev tm<;>try (intro h;simp[pq] at h;done)
  intro h;simp only[pq] at h
  split at h
  ·rename_i v hv
   split at hv
   ·rename_i hc;injection hv with hv;subst hv
    exact⟨hc,h⟩
   ·cases hv
  ·exact h.elim
theorem XB (o:SO):o.toQ.dst=o.dst:=by obtain⟨d,op,g⟩:=o;cases op<;>rfl
theorem Wi (o:SO):o.toQ.gd=o.gd:=by obtain⟨d,op,g⟩:=o;cases op<;>rfl
theorem Wj (o:SO) (objs:List OB) (tm:List AV) (K:List OB->AV->Prop) (h:Ah P o.toQ.op objs tm K):Ah P o.op objs tm K:=by
 obtain⟨d,op,g⟩:=o
 cases op<;>first|exact h|exact ML h
theorem XA (o:SO):o.toP.dst=o.dst:=by obtain⟨d,op,g⟩:=o;cases op<;>rfl
theorem Wg (o:SO):o.toP.gd=o.gd:=by obtain⟨d,op,g⟩:=o;cases op<;>rfl
theorem Wh (o:SO) (objs:List OB) (tm:List AV) (K:List OB->AV->Prop) (h:Ah P o.toP.op objs tm K):Ah P o.op objs tm K:=by
 obtain⟨d,op,g⟩:=o
 cases op<;>try exact h
 case call f args=>
  simp only[SO.toP,Ah] at h ⊢;exact RP h.1 h.2
 case iad sz x y=>exact ML h
 case trn sz x y=>exact Xr h
theorem XC (o:SO):o.toR.dst=o.dst:=by obtain⟨d,op,g⟩:=o;cases op<;>rfl
theorem Wk (o:SO):o.toR.gd=o.gd:=by obtain⟨d,op,g⟩:=o;cases op<;>rfl
theorem VY (o:SO) (objs:List OB) (tm:List AV) (K:List OB->AV->Prop) (h:Ah P o.toR.op objs tm K):Ah P o.op objs tm K:=by
 obtain⟨d,op,g⟩:=o
 cases op<;>try exact h
 case call f args=>
  simp only[SO.toR,Ah] at h ⊢;exact RP h.1 h.2
 case iad sz x y=>exact ML h
end
section
variable {P:Program} [Tabs P] {C:Cx} [On P C] {K:Bb}
theorem II (id:Nat) (ops:Array Oper) (l0 l:List SO) (hl:ops.toList.mapM (Do P ops.toList)=some l0) (hlp:l=l0\/l=l0.map SO.toP\/l=l0.map SO.toQ\/l=l0.map SO.toR) (k:Nat) (hok:Eb l (ops.toList.map AJ) (Bj (ops.toList.map AJ)) k=true) (hm:P.follows .mixedOrders=true) {objs:List OB} {tm:List AV} (T:Array Bool->List OB->List AV->Prop) (H:List OB->List AV->Prop)
  (hT0:∀(listed:Array Bool) (o:List OB) (t:List AV),listed.size=ops.size->(∀j,j<k->listed.getD j false=true)->(∀j,k<=j->j<ops.size->listed.getD j false=false)->H o t->T listed o t)
  (hTs:∀(listed:Array Bool) (o:List OB) (t:List AV) (i:Nat) (so:SO),listed.size=ops.size->l[i]? = some so->k<=i->i<ops.size->listed.getD i false=false->(∀j∈(Bj (ops.toList.map AJ)).getD i [],listed.getD j false=true)->T listed o t->As P [so] o t (fun o2 t2=>T (listed.setIfInBounds i true) o2 t2))
  (hTf:∀(listed:Array Bool) (o:List OB) (t:List AV),listed.size=ops.size->(∀j,j<ops.size->listed.getD j false=true)->T listed o t->K .normal o t)
  (h:BB P (l.take k) objs tm (fun o t=>CN (Ds l (Bj (ops.toList.map AJ)) k) t/\H o t)):∀a w,C1 C objs tm a w->(Code.region id ops true).wp P (C9 C K) a w:=by
 intro a w hr;obtain⟨hlen0,hget0⟩:=GQ _ _ _ hl;have hlen:ops.toList.length=l.length:=by
  rcases hlp with rfl|rfl|rfl|rfl
  ·exact hlen0
  ·rw[jg];exact hlen0
  ·rw[jg];exact hlen0
  ·rw[jg];exact hlen0
 have hget:∀(i:Nat) (x:Oper),ops.toList[i]? = some x->∃y,l[i]? = some y/\∃y0,Do P ops.toList x=some y0/\y.dst=y0.dst/\y.gd=y0.gd/\∀objs tm K,Ah P y.op objs tm K->Ah P y0.op objs tm K:=by
  intro i x hx;obtain⟨y0,h1,h2⟩:=hget0 i x hx;rcases hlp with rfl|rfl|rfl|rfl
  ·exact⟨y0,h1,y0,h2,rfl,rfl,fun _ _ _ h=>h⟩
  ·exact⟨y0.toP,by rw[xe,h1];rfl,y0,h2,XA y0,Wg y0,fun objs tm K h=>Wh y0 objs tm K h⟩
  ·exact⟨y0.toQ,by rw[xe,h1];rfl,y0,h2,XB y0,Wi y0,fun objs tm K h=>Wj y0 objs tm K h⟩
  ·exact⟨y0.toR,by rw[xe,h1];rfl,y0,h2,XC y0,Wk y0,fun objs tm K h=>VY y0 objs tm K h⟩
 have hnl:ops.size=l.length:=by simpa using hlen
 generalize hdeps:ops.toList.map AJ=deps at hok h hTs;generalize Bj deps=anc at hok h hTs;simp only[Eb,Bool.and_eq_true,decide_eq_true_eq,zj,qi,Bool.or_eq_true,bne_iff_ne,ne_eq,beq_iff_eq,xk,qz] at hok;obtain⟨⟨⟨⟨⟨⟨hk,hd1⟩,hd2⟩,hd3⟩,hm1⟩,hd4⟩,hsm⟩:=hok;obtain⟨vs,os,hfacts,hAp,hK⟩:=Jz _ _ _ _ h;have hdep:∀i,i<ops.size->(∀e∈deps.getD i [],e<i)/\∀j∈anc.getD i [],j∈deps.getD i []\/∃e∈deps.getD i [],j∈anc.getD e []:=fun i hi=>hd1 i (by omega);have halt:=Ms deps anc ops.size hdep;have htk:(l.take k).length=k:=by rw[zh];omega
 let Inv:Array Bool->Act->World->Prop:=fun listed a w=>
  listed.size=ops.size/\(∀i,i<ops.size->listed.getD i false=true->∀e∈deps.getD i [],listed.getD e false=true) /\
  (((∀j,k<=j->j<ops.size->listed.getD j false=false)/\C1 C (BE (fun x=>listed.getD x false) 0 (l.take k) os objs) (AW (fun x=>listed.getD x false) 0 (l.take k) vs tm) a w) \/
   ((∀j,j<k->listed.getD j false=true)/\∃objs' tm',C1 C objs' tm' a w/\T listed objs' tm'))
 have hgd:∀(listed:Array Bool) (i:Nat),i<listed.size->listed.getD i true=listed.getD i false:=by
  intro listed i hi;simp[Array.getD_eq_getD_getElem?,hi]
 have fin:∀listed a w,Inv listed a w->(∀i,i<ops.size->listed.getD i false=true)->C9 C K .normal a w:=by
  rintro listed a w ⟨hs,hc,hA|⟨hm1,objs',tm',hr',hw⟩⟩ hall
  ·have hT:=hT0 listed (BE (fun x=>listed.getD x false) 0 (l.take k) os objs) (AW (fun x=>listed.getD x false) 0 (l.take k) vs tm) hs (fun j hj=>hall j (by omega)) hA.1 (by
    rw[Iz (fun x=>listed.getD x false) (fun _=>true) (l.take k) os objs 0 (fun j o hj _=>by
     rw[zz];exact(hall j (by have:=(jf.1 hj).1;rw[htk] at this;omega))),KS (fun x=>listed.getD x false) (fun _=>true) _ vs tm 0 (fun j hj=>by
     rw[zz];exact(hall j (by rw[htk] at hj;omega)))]
    exact hK)
   exact⟨_,_,hTf listed _ _ hs hall hT,hA.2⟩
  ·exact⟨objs',tm',hTf listed _ _ hs hall hw,hr'⟩
 have step:∀listed a w i,Inv listed a w->i∈Region.ready .any ops listed->wpOp P ops (C9 C K) i (fun a w=>Inv (listed.setIfInBounds i true) a w) a w:=by
  intro listed a w i hinv hi;obtain⟨hs,hc,hAB⟩:=hinv;obtain⟨hin,hun,hrd⟩:=(Le hs).1 hi;rw[hdeps] at hrd;rw[hgd listed i (by omega)] at hun;have hanc:=Lp deps anc ops.size hdep (fun x=>listed.getD x false) hc i hin hrd;have ho:ops[i]? = some ops[i]:=Array.getElem?_eq_getElem hin;obtain⟨so,hso,so0,htr,hd0,hg0,hcv⟩:=hget i ops[i] (by rw[zq (by simpa using hin)];simp);have hs':(listed.setIfInBounds i true).size=ops.size:=by rw[Array.size_setIfInBounds];exact hs
  have hset:∀j,(listed.setIfInBounds i true).getD j false=if j=i then true else listed.getD j false:=fun j=>Ga listed i j false (by omega)
  have hc':∀x,x<ops.size->(listed.setIfInBounds i true).getD x false=true->∀e∈deps.getD x [],(listed.setIfInBounds i true).getD e false=true:=by
   intro x hx hlx e he;rw[hset] at hlx ⊢
   split
   ·rfl
   ·split at hlx
    ·rename_i e1;subst e1;exact hrd e he
    ·exact hc x hx hlx e he
  suffices hsuf:if Region.wanted ops[i] (yielded ops a.tmps) then ops[i].wp P a w (fun a w=>Inv (listed.setIfInBounds i true) a w) (C9 C K) else Inv (listed.setIfInBounds i true) (a.put ops[i].dst undef) w by
   unfold wpOp;rw[ho];show if Region.wanted ops[i] (yielded ops a.tmps)=true then _ else _
   split
   ·rename_i hw;rw[if_pos hw] at hsuf;exact .inl hsuf
   ·rename_i hw;rw[if_neg hw] at hsuf;exact hsuf
  have tail:∀objs' tm',k<=i->(∀j,j<k->listed.getD j false=true)->C1 C objs' tm' a w->T listed objs' tm' ->
    if Region.wanted ops[i] (yielded ops a.tmps) then ops[i].wp P a w (fun a w=>Inv (listed.setIfInBounds i true) a w) (C9 C K) else Inv (listed.setIfInBounds i true) (a.put ops[i].dst undef) w:=by
   intro objs' tm' hki hlo hr' hw;refine RF ops ops[i] so0 so hd0 hg0 hcv [] objs' tm' _ _ _ htr (hTs listed objs' tm' i so hs hso hki hin hun hanc hw) a w hr' ?_;intro o2 t2 a2 w2 hw2 hr2;refine⟨hs',hc',.inr ⟨fun j hj=>?_,o2,t2,hr2,hw2⟩⟩;rw[hset]
   split
   ·rfl
   ·exact hlo j hj
  rcases zo i k with hik|hik
  ·-- a step of the part whose order is open
   rcases hAB with ⟨hA1,hA2⟩|⟨hm3,_⟩
   ·have hti:(l.take k)[i]? = some so:=by rw[xz hik];exact hso
    obtain⟨v,o',hv,hov,hf⟩:=QX (l.take k) objs vs os tm 0 i so hfacts hti;have hlook:=hd3 i hik;rw[hso] at hlook;simp only[jt,ja] at hlook;have hag:∀t∈so.looks,(AW (fun x=>listed.getD x false) 0 (l.take k) vs tm)[t]? = (AW (fun x=>decide (x<0+i)) 0 (l.take k) vs tm)[t]?:=by
     intro t ht;refine NG _ _ t _ vs tm tm 0 rfl rfl ?_;intro j o' hj ho';simp only[zz];have hjk:j<k:=by
      rcases zo j k with h0|h0
      ·exact h0
      ·rw[qg (by rw[htk];exact h0)] at hj;cases hj
     have hdst:Az l j=some t:=by
      unfold Az;rw[xz hjk] at hj;rw[hj];exact ho'
     rcases hlook t ht j hjk with ((h1|h1)|h1)|h1
     ·subst h1;rw[hun];simp
     ·exact absurd hdst h1
     ·have h2:=hanc j h1;have h3:=halt i hin j h1;rw[h2];simp[h3]
     ·have h3:=halt j (by omega) i h1;have h2:listed.getD j false=false:=by
       cases hq:listed.getD j false with
       | false=>rfl
       | true=>
        have:=Lp deps anc ops.size hdep (fun x=>listed.getD x false) hc j (by omega) (hc j (by omega) hq) i h1;rw[hun] at this;cases this
      rw[h2];symm;simp;omega
    have hord:∀i2 j o2 o3,l[i2]? = some o3->o3.op.touch=true->i2<k->l[j]? = some o2->o2.op.calm=false->j<k->j≠i2->(if j<i2 then j∈anc.getD i2 [] else i2∈anc.getD j [])\/(F4 l k i2 j=true/\¬(if j<i2 then j∈anc.getD i2 [] else i2∈anc.getD j [])):=by
     intro i2 j o2 o3 hi2 ht2 hik2 hj hcj hjk hji;have wj:Hn l j=true:=by simp[Hn,hj,hcj]
     have ti:Hl l i2=true:=by simp[Hl,hi2,ht2]
     by_cases hc0:(if j<i2 then j∈anc.getD i2 [] else i2∈anc.getD j [])
     ·exact .inl hc0
     ·right;refine⟨?_,hc0⟩;rcases hm1 i2 hik2 with h0|h0
      ·rw[ti] at h0;cases h0
      ·rcases h0 j hjk with ((h0|h0)|h0)|h0
       ·rw[wj] at h0;cases h0
       ·exact absurd h0 hji
       ·exfalso;apply hc0
        split at h0<;>rename_i hlt
        ·rw[if_pos hlt];simpa using h0
        ·rw[if_neg hlt];simpa using h0
       ·exact h0
    have hdone:∀i2 j,i2<ops.size->j<ops.size->listed.getD i2 false=false->(∀x∈anc.getD i2 [],listed.getD x false=true)->(if j<i2 then j∈anc.getD i2 [] else i2∈anc.getD j [])->listed.getD j false=decide (j<i2):=by
     intro i2 j hi2 hj hu2 ha2 hcond
     split at hcond
     ·rename_i hlt;rw[ha2 j hcond];simp[hlt]
     ·rename_i hlt;have h2:listed.getD j false=false:=by
       cases hq:listed.getD j false with
       | false=>rfl
       | true=>
        have:=Lp deps anc ops.size hdep (fun x=>listed.getD x false) hc j hj (hc j hj hq) i2 hcond;rw[hu2] at this;cases this
      rw[h2];simp[hlt]
    have hlk:∀{j:Nat} {o2:SO},(l.take k)[j]? = some o2->j<k/\l[j]? = some o2:=by
     intro j o2 hj;have hjk:j<k:=by
      rcases zo j k with h0|h0
      ·exact h0
      ·rw[qg (by rw[htk];exact h0)] at hj;cases hj
     rw[xz hjk] at hj;exact⟨hjk,hj⟩
    have hww:∀j m o1 o2,l[j]? = some o1->l[m]? = some o2->j<m->m<k->o1.op.calm=false->o2.op.calm=false->j∈anc.getD m []:=by
     intro j m o1 o2 h1 h2 hjm hmk hc1 hc2;rcases hord m j o1 o2 h2 (S2 hc2).1 hmk h1 hc1 (by omega) (by omega) with h0|⟨h0,_⟩
     ·rw[if_pos hjm] at h0;exact h0
     ·exfalso;unfold F4 J3 at h0;rw[h2] at h0;obtain⟨d2,op2,g2⟩:=o2
      cases op2<;>first|(exact absurd hc2 (fun e=>Bool.noConfusion e))|(simp at h0;done)|(cases h0;done)
    have hmem:∀j o2,(l.take k)[j]? = some o2->o2.op.calm=false->so.op.calm=false->j≠i->listed.getD j false=decide (j<i):=by
     intro j o2 hj hcj hci hji;obtain⟨hjk,hj⟩:=hlk hj;refine hdone i j hin (by omega) hun hanc ?_;rcases zo j i with h0|h0
     ·rw[if_pos h0];exact hww j i o2 so hj hso h0 hik hcj hci
     ·rw[if_neg (by omega)];exact hww i j so o2 hso hj (by omega) hjk hci hcj
    have hclosed:∀j m o1 o2,(l.take k)[j]? = some o1->(l.take k)[m]? = some o2->j<m->o1.op.calm=false->o2.op.calm=false->listed.getD (0+m) false=true->listed.getD (0+j) false=true:=by
     intro j m o1 o2 h1 h2 hjm hc1 hc2 hlm;rw[zz] at hlm ⊢;obtain⟨hjk,h1⟩:=hlk h1;obtain⟨hmk,h2⟩:=hlk h2;exact Lp deps anc ops.size hdep (fun x=>listed.getD x false) hc m (by omega) (hc m (by omega) hlm) j (hww j m o1 o2 h1 h2 hjm hmk hc1 hc2)
    have hclosed2:∀j m o1 o2,(l.take k)[j]? = some o1->(l.take k)[m]? = some o2->j<m->o1.op.calm=false->o2.op.calm=false->decide (0+m<0+i)=true->decide (0+j<0+i)=true:=by
     intro j m o1 o2 _ _ hjm _ _ h;simp at h ⊢;omega
    have hskip:o'=BE (fun x=>decide (x<0+i)) 0 (l.take k) os objs->(if so.op.calm=true then BE (fun x=>listed.getD x false) 0 (l.take k) os objs else o')=BE (fun x=>listed.getD x false) 0 (l.take k) os objs:=by
     intro e
     cases hci:so.op.calm with
     | true=>rw[if_pos rfl]
     | false=>
      rw[if_neg Bool.false_ne_true,e];refine Iz _ _ _ _ _ 0 (fun j o2 hj hcj=>?_);rw[zz,zz]
      by_cases hji:j=i
      ·subst hji;rw[hun];simp
      ·exact(hmem j o2 hj hcj hci hji).symm
    have hstep:(∀g want,so.gd=some (g,want)->(AW (fun x=>listed.getD x false) 0 (l.take k) vs tm)[g]? = some (.b want))->Ah P so.op (BE (fun x=>decide (x<0+i)) 0 (l.take k) os objs) (AW (fun x=>listed.getD x false) 0 (l.take k) vs tm) (fun y x=>y=o'/\x=v)->Ah P so.op (BE (fun x=>listed.getD x false) 0 (l.take k) os objs) (AW (fun x=>listed.getD x false) 0 (l.take k) vs tm) (fun y x=>y=(if so.op.calm=true then BE (fun x=>listed.getD x false) 0 (l.take k) os objs else o')/\x=v):=by
     intro hG h
     cases ht:so.op.touch with
     | false=>
      have hci:so.op.calm=true:=by
       cases hq:so.op.calm with
       | true=>rfl
       | false=>rw[(S2 hq).1] at ht;cases ht
      rw[if_pos hci];rw[hf.1 hci] at h;exact QN ht h
     | true=>
      by_cases hall:∀j o2,(l.take k)[j]? = some o2->o2.op.calm=false->j≠i->(if j<i then j∈anc.getD i [] else i∈anc.getD j [])
      ·have ecur:BE (fun x=>listed.getD x false) 0 (l.take k) os objs=BE (fun x=>decide (x<0+i)) 0 (l.take k) os objs:=by
        refine Iz _ _ _ _ _ 0 (fun j o2 hj hcj=>?_);rw[zz,zz]
        by_cases hji:j=i
        ·subst hji;rw[hun];simp
        ·exact hdone i j hin (by have:=(hlk hj).1;omega) hun hanc (hall j o2 hj hcj hji)
       rw[ecur]
       cases hci:so.op.calm with
       | true=>rw[if_pos rfl];rw[hf.1 hci] at h;exact h
       | false=>rw[if_neg Bool.false_ne_true];exact h
      ·-- some store is apart
       simp only[Classical.not_forall] at hall;obtain⟨j0,o0,hj0,hc0,hji0,hno0⟩:=hall;have hl0:=hlk hj0;have hap0:F4 l k i j0=true:=by
        rcases hord i j0 o0 so hso ht hik hl0.2 hc0 hl0.1 hji0 with h0|h0
        ·exact absurd h0 hno0
        ·exact h0.1
       obtain⟨s,hs0,hop,hci⟩:∃s,J3 l i=some s/\(so.op=.load1 (.t s)\/∃sz,so.op=.loadn sz (.t s))/\so.op.calm=true:=by
        unfold F4 at hap0
        split at hap0
        ·rename_i s s' h1 h2;refine⟨s,h1,?_⟩;unfold J3 at h1;rw[hso] at h1
         split at h1
         ·rename_i e;cases e;cases h1;exact⟨.inl rfl,rfl⟩
         ·rename_i e;cases e;cases h1;exact⟨.inr ⟨_,rfl⟩,rfl⟩
         ·cases h1
        ·cases hap0
       have hfin:∀{m s1:Nat},((zi k).all (fun x=>decide (x<m)||Az l x != some s1))=true->∀p:Nat->Bool,(∀x,x<m->(∃o2,(l.take k)[x]? = some o2/\o2.dst=some s1)->p x=true)->(AW p 0 (l.take k) vs tm)[s1]? = (AW (fun _=>true) 0 (l.take k) vs tm)[s1]?:=by
        intro m s1 hst p hp;refine NG _ _ s1 _ vs tm tm 0 rfl rfl ?_;intro x o2 hx hd;rw[zz];have hx2:=hlk hx;have:=zj.1 hst x (qi.2 hx2.1);simp only[Bool.or_eq_true,decide_eq_true_eq,bne_iff_ne,ne_eq] at this;rcases this with h1|h1
        ·exact hp x h1 ⟨o2,hx,hd⟩
        ·exfalso;apply h1;unfold Az;rw[hx2.2];exact hd
       have hapst:∀j,F4 l k i j=true->∃s',G5 l j=some s'/\((zi k).all (fun x=>decide (x<i)||Az l x != some s))=true/\((zi k).all (fun x=>decide (x<Hc l j)||Az l x != some s'))=true/\Mp l k i=true:=by
        intro j hj;unfold F4 at hj;rw[hs0] at hj
        split at hj
        ·rename_i s1 s' h1 h2
         cases h1
         simp only[Bool.and_eq_true] at hj;exact⟨s',h2,hj.1.1,hj.1.2,hj.2⟩
        ·cases hj
       have hsL:(AW (fun x=>listed.getD x false) 0 (l.take k) vs tm)[s]? = (AW (fun _=>true) 0 (l.take k) vs tm)[s]?:=by
        obtain⟨s',_,hst,_,_⟩:=hapst j0 hap0;refine hfin hst _ (fun x hx ⟨o2,ho2,hd2⟩=>?_);have hx2:=hlk ho2;have hsl:s∈so.looks:=by
         unfold SO.looks;refine xj _ ?_;rcases hop with e|⟨sz,e⟩<;>rw[e]<;>simp[SOp.svs,SV.tmp?]
        have hdst:Az l x=some s:=by unfold Az;rw[hx2.2];exact hd2
        rcases hlook s hsl x hx2.1 with ((h1|h1)|h1)|h1
        ·omega
        ·exact absurd hdst h1
        ·exact hanc x h1
        ·have:=halt x (by omega) i h1;omega
       have hgL:∀g want,so.gd=some (g,want)->(AW (fun _=>true) 0 (l.take k) vs tm)[g]? = some (.b want):=by
        intro g want hg;obtain⟨s',_,_,_,hgs⟩:=hapst j0 hap0;unfold Mp JX at hgs;rw[hso] at hgs;simp only[Option.bind_some,hg] at hgs;rw[<-hfin hgs (fun x=>listed.getD x false) (fun x hx ⟨o2,ho2,hd2⟩=>?_)]
        ·exact hG g want hg
        have hx2:=hlk ho2;have hsl:g∈so.looks:=by
         unfold SO.looks;rw[hg];exact yj _ (List.mem_singleton_self g)
        have hdst:Az l x=some g:=by unfold Az;rw[hx2.2];exact hd2
        rcases hlook g hsl x hx2.1 with ((h1|h1)|h1)|h1
        ·omega
        ·exact absurd hdst h1
        ·exact hanc x h1
        ·have:=halt x (by omega) i h1;omega
       have hApP:∀j o2,(l.take k)[j]? = some o2->o2.op.calm=false->j≠i->¬(if j<i then j∈anc.getD i [] else i∈anc.getD j [])->∃s',G5 l j=some s'/\((zi k).all (fun x=>decide (x<Hc l j)||Az l x != some s'))=true/\Fg (AW (fun _=>true) 0 (l.take k) vs tm)[s]? (AW (fun _=>true) 0 (l.take k) vs tm)[s']?:=by
        intro j o2 hj hcj hji hno;have hl2:=hlk hj;have hap:F4 l k i j=true:=by
         rcases hord i j o2 so hso ht hik hl2.2 hcj hl2.1 hji with h0|h0
         ·exact absurd h0 hno
         ·exact h0.1
        obtain⟨s',h1,_,h2,_⟩:=hapst j hap;refine⟨s',h1,h2,XU (Rf _ _ s s' (JX l i) hAp ?_ (aK hsm hl2.1 h1)) (fun g want e=>hgL g want (by unfold JX at e;rw[hso] at e;exact e))⟩;unfold Ds;refine List.mem_flatMap.2 ⟨i,qi.2 hik,List.mem_filterMap.2 ⟨j,qi.2 hl2.1,?_⟩⟩;unfold O2;have wj:Hn l j=true:=by simp[Hn,hl2.2,hcj]
        have ti:Hl l i=true:=by simp[Hl,hso,ht]
        have hcond:(if j<i then (anc.getD i []).contains j else (anc.getD j []).contains i)=false:=by
         split<;>rename_i hlt
         ·rw[if_pos hlt] at hno;simpa using hno
         ·rw[if_neg hlt] at hno;simpa using hno
        have hji':(j==i)=false:=by simpa using hji
        rw[wj,ti,hcond,hji',hs0,h1];simp
       have hpp:(∃b off,(AW (fun x=>listed.getD x false) 0 (l.take k) vs tm)[s]? = some (.p b off))\/∃xs q,(AW (fun x=>listed.getD x false) 0 (l.take k) vs tm)[s]? = some (.prow xs q):=by
        obtain⟨s',_,_,h1⟩:=hApP j0 o0 hj0 hc0 hji0 hno0;rw[hsL];unfold Fg at h1
        split at h1
        all_goals first
         | exact h1.elim
         | (rename_i e1 e2;exact .inl ⟨_,_,e1⟩)
         | (rename_i e1 e2;exact .inr ⟨_,_,e1⟩)
       rw[if_pos hci];rw[hf.1 hci] at h;rcases hpp with hpp|hpp
       case inr=>exact bA hop hpp h
       refine X5 hop (fun b off hbo=>?_) hpp h;rw[hsL] at hbo;have keepb:∀j o2 v2 o2' t ob,(l.take k)[j]? = some o2->o2.op.calm=false->j≠i->¬(if j<i then j∈anc.getD i [] else i∈anc.getD j [])->vs[j]? = some v2->H9 P ob o2 v2 o2' t->t=AW (fun x=>decide (x<0+j)) 0 (l.take k) vs tm->o2'[b]? = ob[b]?:=by
        intro j o2 v2 o2' t ob hj hcj hji hno hv2 hfj ht2;obtain⟨s',h1,h2,h3⟩:=hApP j o2 hj hcj hji hno;have hl2:=hlk hj;have hkind:(∃sz y,o2.op=.store sz (.t s') y/\o2.gd=none/\Hc l j=j)\/(∃T z,o2.op=.alloc T z/\o2.gd=none/\o2.dst=some s'/\Hc l j=j+1)\/(((∃E sz by' x y,o2.op=.app E sz by' x y)\/(∃E x y,o2.op=.apps E x y)\/(∃E sz n z ps,o2.op=.bslo E sz n z ps)\/(∃sz x y,o2.op=.trn sz x y))/\o2.gd=none/\o2.dst=some s'/\Hc l j=j+1):=by
         unfold G5 at h1;unfold Hc;rw[hl2.2] at h1 ⊢
         split at h1
         ·rename_i e;cases e;cases h1;refine .inl ⟨_,_,rfl,rfl,?_⟩
          split
          ·rename_i q;cases q
          ·rename_i q;cases q
          ·rename_i q;cases q
          ·rename_i q;cases q
          ·rename_i q;cases q
          ·rfl
         ·rename_i e;cases e;cases h1;exact .inr (.inl ⟨_,_,rfl,rfl,rfl,rfl⟩)
         ·rename_i e;cases e;cases h1;exact .inr (.inr ⟨.inl ⟨_,_,_,_,_,rfl⟩,rfl,rfl,rfl⟩)
         ·rename_i e;cases e;cases h1;exact .inr (.inr ⟨.inr (.inl ⟨_,_,_,rfl⟩),rfl,rfl,rfl⟩)
         ·rename_i e;cases e;cases h1;exact .inr (.inr ⟨.inr (.inr (.inl ⟨_,_,_,_,_,rfl⟩)),rfl,rfl,rfl⟩)
         ·rename_i e;cases e
          split at h1
          ·cases h1;exact .inr (.inr ⟨.inr (.inr (.inr ⟨_,_,_,rfl⟩)),rfl,rfl,rfl⟩)
          ·cases h1
         ·cases h1
        have hfj2:=hfj.2;rcases hkind with ⟨sz,y,e2,hg2,hat⟩|⟨T,z,e2,hg2,hds,hat⟩|⟨hrk,hg2,hds,hat⟩
        ·rw[hg2,e2] at hfj2;rw[hat] at h2;refine cZ (fun b' off' hb'=>?_) (fun b' g' j' hb'=>?_) hfj2
         ·rw[ht2] at hb';rw[hfin h2 (fun x=>decide (x<0+j)) (fun x hx _=>by simpa using hx)] at hb';rw[hbo,hb'] at h3;exact h3
         ·rw[ht2] at hb';rw[hfin h2 (fun x=>decide (x<0+j)) (fun x hx _=>by simpa using hx)] at hb';rw[hbo,hb'] at h3;exact h3
        ·rw[hg2,e2] at hfj2;rw[hat] at h2;simp only[Ah] at hfj2;obtain⟨g1,g2⟩:=hfj2;have hdj:=hd2 j hl2.1;have hst:=KT (fun x=>decide (x<0+j)) (l.take k) vs tm 0 j o2 v2 hj hv2 (by simp) (by
          intro j' o' hj' hjj;have hl3:=hlk hj';rcases hdj with hdj|hdj
          ·right;unfold Az at hdj;rw[hl2.2] at hdj;exact hdj
          ·rcases hdj j' hl3.1 with h5|h5
           ·exact absurd h5.symm hjj
           ·left;intro e
            apply h5
            unfold Az;rw[hl3.2,hl2.2];exact e)
         have hfs:=hfin h2 (fun x=>decide (x<0+j)||x==0+j) (fun x hx _=>by
          simp only[zz,Bool.or_eq_true,decide_eq_true_eq,beq_iff_eq];omega)
         rw[<-hst,hds] at hfs;have hne:¬b=ob.length:=by
          intro eb;simp only[AD] at hfs;have hlt2:s'<(AW (fun x=>decide (x<0+j)) 0 (l.take k) vs tm).length:=by
           rcases zo s' (AW (fun x=>decide (x<0+j)) 0 (l.take k) vs tm).length with h6|h6
           ·exact h6
           ·exfalso;have hn:(AW (fun _=>true) 0 (l.take k) vs tm)[s']? = none:=by
             rw[<-hfs];exact qg (by simp only[zf];exact h6)
            rw[hn,hbo] at h3;exact h3
          rw[qd hlt2,<-g2] at hfs;rw[hbo,<-hfs] at h3;exact h3 eb
         rw[<-g1];rcases zo b ob.length with h6|h6
         ·rw[qr h6]
         ·rw[qg (by simp;omega),qg h6]
        ·rw[hg2] at hfj2;rw[hat] at h2;have hdj:=hd2 j hl2.1;have hst:=KT (fun x=>decide (x<0+j)) (l.take k) vs tm 0 j o2 v2 hj hv2 (by simp) (by
          intro j' o' hj' hjj;have hl3:=hlk hj';rcases hdj with hdj|hdj
          ·right;unfold Az at hdj;rw[hl2.2] at hdj;exact hdj
          ·rcases hdj j' hl3.1 with h5|h5
           ·exact absurd h5.symm hjj
           ·left;intro e
            apply h5
            unfold Az;rw[hl3.2,hl2.2];exact e)
         have hfs:=hfin h2 (fun x=>decide (x<0+j)||x==0+j) (fun x hx _=>by
          simp only[zz,Bool.or_eq_true,decide_eq_true_eq,beq_iff_eq];omega)
         rw[<-hst,hds] at hfs;have hlt2:s'<(AW (fun x=>decide (x<0+j)) 0 (l.take k) vs tm).length:=by
          unfold Fg at h3;rcases zo s' (AW (fun x=>decide (x<0+j)) 0 (l.take k) vs tm).length with h6|h6
          ·exact h6
          ·exfalso;have hn:(AW (fun _=>true) 0 (l.take k) vs tm)[s']? = none:=by
            rw[<-hfs];exact qg (by simp only[AD,zf];exact h6)
           rw[hn] at h3;rw[hbo] at h3;exact h3
         obtain⟨b',g',hv',hkeep⟩:∃b' g',v2=.orow b' g'/\∀c,¬c=b'->o2'[c]? = ob[c]?:=by
          rcases Zi hrk hfj2 with h7|h7
          ·exact h7
          ·exfalso;simp only[AD] at hfs;rw[qd hlt2] at hfs;rw[hbo,<-hfs] at h3;rcases h7 with ⟨n,xs,rfl⟩|rfl<;>exact h3
         have hne:¬b=b':=by
          simp only[AD] at hfs;rw[qd hlt2,hv'] at hfs;rw[hbo,<-hfs] at h3;exact h3
         exact hkeep b hne
       by_cases hmore:∃j o2,(l.take k)[j]? = some o2/\o2.op.calm=false/\i<=j/\listed.getD j false=true
       ·obtain⟨j1,o1,hj1,hc1,hij1,hl1⟩:=hmore
        symm
        refine MN b (fun x=>decide (x<0+i)) (fun x=>listed.getD x false) (l.take k) objs vs os tm 0 hfacts hclosed hclosed2 (fun j o2 hj hcj hlt=>?_) (fun j o2 v2 o2' t ob hj hcj hp hq _ hv2 hfj ht2=>?_)
        ·simp at hlt;exact hclosed j j1 o2 o1 hj hj1 (by omega) hcj hc1 (by simpa using hl1)
        ·have hji:j≠i:=by rintro rfl;rw[zz,hun] at hq;cases hq
         refine keepb j o2 v2 o2' t ob hj hcj hji (fun hcd=>?_) hv2 hfj ht2;have:=hdone i j hin (by have:=(hlk hj).1;omega) hun hanc hcd;simp only[zz] at hq hp;rw[hq] at this;rw[<-this] at hp;cases hp
       ·refine MN b (fun x=>listed.getD x false) (fun x=>decide (x<0+i)) (l.take k) objs vs os tm 0 hfacts hclosed2 hclosed (fun j o2 hj hcj hlt=>?_) (fun j o2 v2 o2' t ob hj hcj hp hq _ hv2 hfj ht2=>?_)
        ·simp only[zz] at hlt ⊢;rcases zo j i with h0|h0
         ·simpa using h0
         ·exact absurd ⟨j,o2,hj,hcj,h0,hlt⟩ hmore
        ·simp at hq;refine keepb j o2 v2 o2' t ob hj hcj (by omega) (fun hcd=>?_) hv2 hfj ht2;have:=hdone i j hin (by have:=(hlk hj).1;omega) hun hanc hcd;simp only[zz] at hp;rw[hp] at this;simp at this;omega
    refine Z1 ops ops[i] so0 so hd0 hg0 hcv _ _ o' _ _ v _ _ htr hf hstep hskip hag a w hA2 ?_;intro a2 w2 hr2;refine⟨hs',hc',.inl ⟨fun j hj hjn=>by rw[hset,if_neg (by omega)];exact hA1 j hj hjn,?_⟩⟩;have hdi:=hd2 i hik;rw[KT (fun x=>listed.getD x false) (l.take k) vs tm 0 i so v hti hv (by simpa using hun) (by
     intro j o' hj hji;have hjk:j<k:=by
      rcases zo j k with h0|h0
      ·exact h0
      ·rw[qg (by rw[htk];exact h0)] at hj;cases hj
     rw[xz hjk] at hj;rcases hdi with hdi|hdi
     ·right;unfold Az at hdi;rw[hso] at hdi;exact hdi
     ·rcases hdi j hjk with h1|h1
      ·exact absurd h1.symm hji
      ·left;intro e
       apply h1
       unfold Az;rw[hj,hso];exact e)] at hr2
    have e2:(fun x=>listed.getD x false||x==0+i)=fun x=>(listed.setIfInBounds i true).getD x false:=by
     funext x
     rw[hset,zz]
     by_cases e:x=i
     ·simp[e]
     ·have:(x==i)=false:=by simp[e]
      rw[if_neg e,this,Bool.or_false]
    rw[e2] at hr2;have e3:(if so.op.calm=true then BE (fun x=>listed.getD x false) 0 (l.take k) os objs else o')=BE (fun x=>(listed.setIfInBounds i true).getD x false) 0 (l.take k) os objs:=by
     rw[<-e2]
     cases hc2:so.op.calm with
     | true=>
      rw[if_pos rfl];refine Iz _ _ _ _ _ 0 (fun j o2 hj hcj=>?_);rw[zz];have:j≠i:=by
       rintro rfl;rw[hti] at hj;cases hj;rw[hc2] at hcj;cases hcj
      have:(j==0+i)=false:=by simp;omega
      rw[this,Bool.or_false]
     | false=>
      rw[if_neg Bool.false_ne_true];refine(RJ (fun x=>listed.getD x false) (l.take k) os objs 0 i so o' hti hov hc2 (fun j o2 hj hij hcj=>?_)).symm;rw[zz,hmem j o2 hj hcj hc2 (by omega)];simp;omega
    rw[e3] at hr2;exact hr2
   ·exfalso;have:=hm3 i hik;rw[hun] at this
    cases this
  ·-- a step of the tail
   have hall:∀j,j<k->listed.getD j false=true:=by
    intro j hj;rcases hd4 i (by omega) with h0|h0
    ·omega
    ·exact hanc j (h0 j hj)
   rcases hAB with ⟨hA1,hA2⟩|⟨hm3,objs',tm',hr',hw⟩
   ·refine tail _ _ hik hall hA2 (hT0 listed _ _ hs hall hA1 ?_);rw[Iz (fun x=>listed.getD x false) (fun _=>true) (l.take k) os objs 0 (fun j o hj _=>by
     rw[zz];exact hall j (by have:=(jf.1 hj).1;rw[htk] at this;omega)),KS (fun x=>listed.getD x false) (fun _=>true) _ vs tm 0 (fun j hj=>by
     rw[zz];exact hall j (by rw[htk] at hj;omega))]
    exact hK
   ·exact tail objs' tm' hik hall hr' hw
 have main:∀(fuel:Nat) (S:List Nat) (listed:Array Bool) (a:Act) (w:World),S.length=fuel->(∀i,i<ops.size->listed.getD i false=false->i∈S)->Inv listed a w->wpAny P .any ops (C9 C K) fuel listed a w:=by
  intro fuel
  induction fuel with
  | zero=>
   intro S listed a w hS hcov hinv;have hS0:S=[]:=qh hS;have hall:∀i,i<ops.size->listed.getD i false=true:=by
    intro i hi
    cases hq:listed.getD i false with
    | true=>rfl
    | false=>have:=hcov i hi hq;rw[hS0] at this;cases this
   refine⟨?_,fin listed a w hinv hall⟩
   apply List.eq_nil_iff_forall_not_mem.2
   intro i hi;obtain⟨hin,hun,_⟩:=(Le hinv.1).1 hi;rw[hgd listed i (by rw[hinv.1];exact hin),hall i hin] at hun;cases hun
  | succ fuel ih=>
   intro S listed a w hS hcov hinv;refine⟨fun hnil=>?_,fun i hi=>?_⟩
   ·refine fin listed a w hinv ?_;intro i
    induction i using Nat.strongRecOn with
    | _ i ih2=>
     intro hi
     cases hq:listed.getD i false with
     | true=>rfl
     | false=>
      have:i∈Region.ready .any ops listed:=(Le hinv.1).2 ⟨hi,by rw[hgd listed i (by rw[hinv.1];exact hi)];exact hq,fun e he=>by
       rw[hdeps] at he;have:=(hdep i hi).1 e he;exact ih2 e this (by omega)⟩
      rw[hnil] at this;cases this
   ·refine wpOp_mono (fun a' w' hI=>?_) (step listed a w i hinv hi);obtain⟨hin,hun,_⟩:=(Le hinv.1).1 hi;rw[hgd listed i (by rw[hinv.1];exact hin)] at hun;have hiS:=hcov i hin hun;refine ih (S.erase i) _ a' w' (by rw[List.length_erase_of_mem hiS,hS];rfl) ?_ hI;intro j hj hjn;rw[Ga listed i j false (by rw[hinv.1];exact hin)] at hjn
    split at hjn
    ·cases hjn
    ·rename_i e;exact(List.mem_erase_of_ne e).2 (hcov j hj hjn)
 refine wp_region_any hm (main ops.size (zi ops.size) _ a _ (by simp) (fun i hi _=>qi.2 hi) ?_);have hrep:∀(j:Nat),(Array.replicate ops.size false).getD j false=false:=by
  intro j;simp only[Array.getD_eq_getD_getElem?,Array.getElem?_replicate]
  split<;>rfl
 refine⟨by simp,⟨fun i _ hi=>absurd hi (by rw[hrep];exact Bool.false_ne_true),.inl ⟨fun j _ _=>hrep j,?_⟩⟩⟩;have e0:AW (fun x=>(Array.replicate ops.size false).getD x false) 0 (l.take k) vs tm=tm:=by
  have:∀(l:List SO) (vs tm:List AV) (j:Nat),AW (fun x=>(Array.replicate ops.size false).getD x false) j l vs tm=tm:=by
   intro l
   induction l with
   | nil=>intro vs tm j;cases vs<;>rfl
   | cons o l ih=>
    intro vs tm j
    cases vs with
    | nil=>rfl
    | cons v vs=>
     simp only[AW];rw[if_neg (by rw[hrep];exact Bool.false_ne_true)];exact ih vs tm (j+1)
  exact this _ _ _ _
 rw[e0,Jq _ _ _ _ _ (fun j _ _ _=>hrep _)];obtain⟨G,I,h1,h2,h3,h4⟩:=hr;exact⟨G,I,⟨h1.os,h1.tape,h1.output,h1.size,h1.block,h1.imm,h1.news,h1.blk,h1.gh⟩,⟨h2.imm,h2.box,h2.row,h2.map,h2.inj,h2.lt,h2.apart,h2.fresh⟩,h3,h4⟩
theorem KH:∀(l x:List SO) (o:List OB) (t:List AV) (F:List OB->List AV->Prop),As P (l++x) o t F=As P l o t fun o t=>As P x o t F
 | [],x,o,t,F=>rfl
 | ⟨d,op,none⟩::l,x,o,t,F=>by simp only[qy,As,KH l x]
 | ⟨d,op,some (g,w)⟩::l,x,o,t,F=>by simp only[qy,As,KH l x]
theorem VO (id:Nat) (ops:Array Oper) (l0 l:List SO) (hl:ops.toList.mapM (Do P ops.toList)=some l0) (hlp:l=l0\/l=l0.map SO.toP\/l=l0.map SO.toQ\/l=l0.map SO.toR) (k:Nat) (hok:Kl l (ops.toList.map AJ) (Bj (ops.toList.map AJ)) k=true) (hm:P.follows .mixedOrders=true) {objs:List OB} {tm:List AV}
  (h:BB P (l.take k) objs tm (fun o t=>CN (Ds l (Bj (ops.toList.map AJ)) k) t/\As P (l.drop k) o t (fun o t=>K .normal o t))):∀a w,C1 C objs tm a w->(Code.region id ops true).wp P (C9 C K) a w:=by
 obtain⟨hlen0,hget0⟩:=GQ _ _ _ hl;have hlen:ops.size=l.length:=by
  rw[<-Array.length_toList];rcases hlp with rfl|rfl|rfl|rfl
  ·exact hlen0
  ·rw[jg];exact hlen0
  ·rw[jg];exact hlen0
  ·rw[jg];exact hlen0
 unfold Kl at hok;simp only[Bool.and_eq_true] at hok;obtain⟨⟨⟨⟨⟨⟨q1,q2⟩,q3⟩,q4⟩,q5⟩,q6⟩,q7⟩:=hok;have hk:k<=l.length:=of_decide_eq_true q1;have q6':=q6;simp only[zj,qi,Bool.or_eq_true,decide_eq_true_eq,qz] at q6';have hpre:Eb l (ops.toList.map AJ) (Bj (ops.toList.map AJ)) k=true:=by
  unfold Eb;simp only[Bool.and_eq_true];refine⟨⟨⟨⟨⟨⟨q1,q2⟩,q3⟩,q4⟩,q5⟩,?_⟩,q7⟩;simp only[zj,qi,Bool.or_eq_true,decide_eq_true_eq,qz];intro j hj;rcases q6' j hj with h0|h0
  ·exact .inl h0
  ·by_cases hjk:j<k
   ·exact .inl hjk
   ·exact .inr fun i hi=>h0 i (by omega)
 refine II id ops l0 l hl hlp k hpre hm (fun listed o t=>∃i,k<=i/\i<=l.length/\(∀j,j<i->listed.getD j false=true)/\(∀j,i<=j->j<l.length->listed.getD j false=false)/\As P (l.drop i) o t fun o t=>K .normal o t) (fun o t=>As P (l.drop k) o t fun o t=>K .normal o t) ?_ ?_ ?_ h
 ·exact fun listed o t hs h1 h2 hw=>⟨k,zd _,hk,h1,fun j hj hjl=>h2 j hj (by omega),hw⟩
 ·rintro listed o t i so hs hso hki hi hun hanc ⟨i',h1,h2,h3,h4,hw⟩;have hil:i<l.length:=by omega
  obtain rfl:i'=i:=by
   rcases Nat.lt_trichotomy i' i with c|c|c
   ·rcases q6' i hil with h0|h0
    ·omega
    ·have:=hanc i' (h0 i' c);rw[h4 i' (zd _) (by omega)] at this
     cases this
   ·exact c
   ·rw[h3 i c] at hun;cases hun
  have hset:∀j,(listed.setIfInBounds i' true).getD j false=if j=i' then true else listed.getD j false:=fun j=>Ga listed i' j false (by omega)
  have e:(fun (o2:List OB) (t2:List AV)=>∃i,k<=i/\i<=l.length/\(∀j,j<i->(listed.setIfInBounds i' true).getD j false=true)/\(∀j,i<=j->j<l.length->(listed.setIfInBounds i' true).getD j false=false)/\As P (l.drop i) o2 t2 fun o t=>K .normal o t)=fun o2 t2=>As P (l.drop (i'+1)) o2 t2 fun o t=>K .normal o t:=by
   funext o2 t2
   refine propext ⟨?_,fun hw=>⟨i'+1,by omega,by omega,fun j hj=>?_,fun j hj hjl=>?_,hw⟩⟩
   ·rintro⟨a,a1,a2,a3,a4,a5⟩;obtain rfl:a=i'+1:=by
     rcases Nat.lt_trichotomy a (i'+1) with c|c|c
     ·have:=a4 i' (by omega) hil;rw[hset,if_pos rfl] at this
      cases this
     ·exact c
     ·have:=a3 (i'+1) c;rw[hset,if_neg (by omega),h4 (i'+1) (by omega) (by omega)] at this
      cases this
    exact a5
   ·rw[hset]
    split
    ·rfl
    ·exact h3 j (by omega)
   ·rw[hset,if_neg (by omega)];exact h4 j (by omega) hjl
  rw[e];obtain⟨hlt,rfl⟩:=jf.1 hso;rw[jq hlt] at hw;have hw2:As P ([l[i']]++l.drop (i'+1)) o t fun o t=>K .normal o t:=hw;rw[KH] at hw2;exact hw2
 ·rintro listed o t hs hall ⟨i,h1,h2,h3,h4,hw⟩;obtain rfl:i=l.length:=by
   rcases Nat.eq_or_lt_of_le h2 with c|c
   ·exact c
   ·have:=h4 i (zd _) c;rw[hall i (by omega)] at this
    cases this
  rw[List.drop_length] at hw;exact hw
theorem Yp (id:Nat) (ops:Array Oper) (l0 l:List SO) (hl:ops.toList.mapM (Do P ops.toList)=some l0) (hlp:l=l0\/l=l0.map SO.toP\/l=l0.map SO.toQ\/l=l0.map SO.toR) (k:Nat) (hok:Eb l (ops.toList.map AJ) (Bj (ops.toList.map AJ)) k=true) (hm:P.follows .mixedOrders=true) {objs:List OB} {tm:List AV} (T:Array Bool->List OB->List AV->Prop) (Kf:List OB->List AV->Prop)
  (hT0:∀(listed:Array Bool) (o:List OB) (t:List AV),listed.size=ops.size->(∀j,j<k->listed.getD j false=true)->(∀j,k<=j->j<ops.size->listed.getD j false=false)->As P (l.drop k) o t Kf->T listed o t)
  (hTs:∀(listed:Array Bool) (o:List OB) (t:List AV) (i:Nat) (so:SO),listed.size=ops.size->l[i]? = some so->k<=i->i<ops.size->listed.getD i false=false->(∀j∈(Bj (ops.toList.map AJ)).getD i [],listed.getD j false=true)->T listed o t->As P [so] o t (fun o2 t2=>T (listed.setIfInBounds i true) o2 t2))
  (hTf:∀(listed:Array Bool) (o:List OB) (t:List AV),listed.size=ops.size->(∀j,j<ops.size->listed.getD j false=true)->T listed o t->K .normal o t)
  (h:BB P (l.take k) objs tm (fun o t=>CN (Ds l (Bj (ops.toList.map AJ)) k) t/\As P (l.drop k) o t Kf)):∀a w,C1 C objs tm a w->(Code.region id ops true).wp P (C9 C K) a w :=
 II id ops l0 l hl hlp k hok hm T (fun o t=>As P (l.drop k) o t Kf) hT0 hTs hTf h
def GZ (d x y v:Nat) (so:SO):Bool:=match so with
 | ⟨some q,.nck (.t a),none⟩=>(decide (q≠d)&&decide (q≠x)&&decide (q≠y)&&decide (q≠v))&&decide (a≠d)
 | ⟨some q,.fad _ (.t a),none⟩=>(decide (q≠d)&&decide (q≠x)&&decide (q≠y)&&decide (q≠v))&&decide (a≠d)
 | _=>false
def I6 (l:List SO) (k:Nat):Option (Nat×Nat):=match l.drop k with
 | ⟨some d,.iad _ (.t x) (.t y),none⟩::⟨none,.store _ (.t d') (.t v),none⟩::rest=>match rest.reverse with
  | ⟨none,.store _ (.t e) (.t u),none⟩::rB=>if (d=d'/\e≠d/\u≠d/\v≠d/\x≠d/\y≠d)/\rB.all (GZ d x y v)=true then some (d,e) else none
  | _=>none
 | _=>none
def Qi (anc:List (List Nat)) (k n:Nat):Bool :=
 (anc.getD (k+1) []).contains k&&(zi n).all fun j=>decide (j<k+2)||(zi j).all fun i=>decide (i<k+2)||(anc.getD j []).contains i
def Km (l:List SO) (deps anc:List (List Nat)) (k:Nat):Bool :=
 Eb l deps anc k&&(Ds l anc k).isEmpty&&Qi anc k l.length&&(l.drop k).all (fun o=>!o.op.isCall)
theorem Yx {l:List SO} {k d e:Nat} (h:I6 l k=some (d,e)):∃(sz x y sz' v s1 u:Nat) (Bs:List SO),
  l=l.take k++⟨some d,.iad sz (.t x) (.t y),none⟩::⟨none,.store sz' (.t d) (.t v),none⟩::(Bs++[⟨none,.store s1 (.t e) (.t u),none⟩])/\e≠d/\u≠d/\v≠d/\x≠d/\y≠d/\∀so∈Bs,GZ d x y v so=true:=by
 unfold I6 at h
 split at h
 ·rename_i d0 sz x y sz' d' v rest hl
  split at h
  ·rename_i s1 e0 u rB hr
   split at h
   ·rename_i hc;injection h with h;injection h with h1 h2
    subst h1 h2;obtain⟨⟨rfl,c2,c3,c4,c5,c6⟩,c7⟩:=hc;refine⟨sz,x,y,sz',v,s1,u,rB.reverse,?_,c2,c3,c4,c5,c6,fun so hso=>zj.1 c7 so (List.mem_reverse.1 hso)⟩;have hrest:rest=rB.reverse++[⟨none,.store s1 (.t e0) (.t u),none⟩]:=by
     have:=congrArg List.reverse hr;simpa using this
    rw[<-hrest,<-hl,jh]
   ·cases h
  ·cases h
 ·cases h
section
variable (P)
def rF (l:List SO) (d e:Nat) (Kf:List OB->List AV->Prop) (b:Nat) (o:List OB) (t:List AV):Prop:=As P (l.drop b) o t fun o t=>Fv t[d]? t[e]?/\Kf o t
end
def pQ (P:Program) [Tabs P] (l:List SO) (d e x y v sz sz':Nat) (Kf:List OB->List AV->Prop) (dn:Bool) (b:Nat) (o:List OB) (t:List AV):Prop :=
 ∃(bi g E n:Nat) (xs:List AV) (ik:IntKind) (m:Int) (yv:AV),o[bi]? = some (.orow E sz g n xs)/\t[v]? = some yv/\(yv.flat=true/\yv.cells.length=sz'/\m.toNat*sz+sz'<=xs.length)/\d<t.length /\
  (dn=true->t[d]? = some (.porow bi g (m.toNat*sz)))/\(dn=false->t[x]? = some (.orow bi g)/\t[y]? = some (.i ik m)/\0<=m/\m<n) /\
  rF P l d e Kf b (o.set bi (.orow E sz g n (Cv xs (m.toNat*sz) yv.cells))) (t.set d (.porow bi g (m.toNat*sz)))
theorem Sd {α:Type} (l:List α) (i j:Nat) (a b:α) (h:i≠j):(l.set i a).set j b=(l.set j b).set i a:=List.set_comm a b h
theorem getD_some {o:Option AV} {x:AV} (h:o.getD .u=x) (hx:x≠.u):o=some x:=by
 cases o with
 | none=>exact absurd h.symm hx
 | some z=>exact congrArg some h
theorem lK {l:List SO} {d e x y v sz sz':Nat} {Kf:List OB->List AV->Prop} {dn:Bool} {b:Nat} {o:List OB} {t:List AV} {so:SO} (hl:l.drop b=so::l.drop (b+1)) (hso:GZ d x y v so=true) (h:pQ P l d e x y v sz sz' Kf dn b o t) :
  As P [so] o t fun o2 t2=>pQ P l d e x y v sz sz' Kf dn (b+1) o2 t2:=by
 obtain⟨bi,g,E,n,xs,ik,m,yv,h1,h2,h3,h4,h5,h6,h7⟩:=h;unfold rF at h7;rw[hl] at h7;have fin:∀(q:Nat) (w:AV),q≠d->q≠x->q≠y->q≠v->rF P l d e Kf (b+1) (o.set bi (.orow E sz g n (Cv xs (m.toNat*sz) yv.cells))) ((t.set d (.porow bi g (m.toNat*sz))).set q w)->pQ P l d e x y v sz sz' Kf dn (b+1) o (t.set q w):=by
  intro q w q1 q2 q3 q4 hr;refine⟨bi,g,E,n,xs,ik,m,yv,h1,by rw[zp q4];exact h2,h3,by rw[zf];exact h4,fun hd=>by rw[zp q1];exact h5 hd,fun hd=>by rw[zp q2,zp q3];exact h6 hd,?_⟩;rw[Sd _ _ _ _ _ q1];exact hr
 unfold GZ at hso
 split at hso
 ·rename_i q a;simp only[Bool.and_eq_true,decide_eq_true_eq] at hso;obtain⟨⟨⟨⟨q1,q2⟩,q3⟩,q4⟩,qa⟩:=hso;simp only[As,Ah,SV.ev,zp (Ne.symm qa)] at h7 ⊢
  revert h7
  split
  all_goals first|exact fun h=>h.elim|exact fun h=>fin q _ q1 q2 q3 q4 h
 ·rename_i q off a;simp only[Bool.and_eq_true,decide_eq_true_eq] at hso;obtain⟨⟨⟨⟨q1,q2⟩,q3⟩,q4⟩,qa⟩:=hso;simp only[As,Ah,SV.ev,zp (Ne.symm qa)] at h7 ⊢
  revert h7
  split
  all_goals first|exact fun h=>h.elim|exact fun h=>fin q _ q1 q2 q3 q4 h
 ·cases hso
theorem lL {l:List SO} {d e x y v sz sz' s1 u:Nat} {Kf:List OB->List AV->Prop} {dn:Bool} {b:Nat} {o:List OB} {t:List AV} (he:e≠d) (hu:u≠d) (hl:l.drop b=[⟨none,.store s1 (.t e) (.t u),none⟩]) (hl2:l.drop (b+1)=[]) (h:pQ P l d e x y v sz sz' Kf dn b o t) :
  As P [⟨none,.store s1 (.t e) (.t u),none⟩] o t fun o2 t2=>pQ P l d e x y v sz sz' Kf dn (b+1) o2 t2:=by
 obtain⟨bi,g,E,n,xs,ik,m,yv,h1,h2,h3,h4,h5,h6,h7⟩:=h;unfold rF at h7;rw[hl] at h7;have fin:∀(b0:Nat) (Y:OB),¬bi=b0->(Fv (t.set d (.porow bi g (m.toNat*sz)))[d]? (t.set d (.porow bi g (m.toNat*sz)))[e]?/\Kf ((o.set bi (.orow E sz g n (Cv xs (m.toNat*sz) yv.cells))).set b0 Y) (t.set d (.porow bi g (m.toNat*sz))))->pQ P l d e x y v sz sz' Kf dn (b+1) (o.set b0 Y) t:=by
  intro b0 Y hb hr;refine⟨bi,g,E,n,xs,ik,m,yv,by rw[zp (fun h=>hb h.symm)];exact h1,h2,h3,h4,h5,h6,?_⟩;unfold rF;rw[hl2,Sd _ _ _ _ _ (fun h=>hb h.symm)];exact hr
 have hd:(t.set d (.porow bi g (m.toNat*sz)))[d]? = some (.porow bi g (m.toNat*sz)):=qd h4;have hte:(t.set d (.porow bi g (m.toNat*sz)))[e]? = t[e]?:=zp (Ne.symm he);simp only[As,Ah,SV.ev,AD,zp (Ne.symm he),zp (Ne.symm hu)] at h7 ⊢
 revert h7
 split
 ·rename_i b0 off hp;have hp':=getD_some hp (by intro h;cases h);have key:∀{q:Prop},(Fv (t.set d (.porow bi g (m.toNat*sz)))[d]? t[e]?/\q)->¬bi=b0:=by
   intro q hq;rw[hd,hp'] at hq;exact hq.1
  split
  ·rename_i T cs hb;rintro⟨c1,c2⟩;have hne:=key c2;rw[zp hne] at hb;rw[hb];exact⟨c1,fin b0 _ hne (by rw[hte];exact c2)⟩
  ·exact fun h=>h.elim
 ·rename_i b0 g0 j0 hp;have hp':=getD_some hp (by intro h;cases h);have key:∀{q:Prop},(Fv (t.set d (.porow bi g (m.toNat*sz)))[d]? t[e]?/\q)->¬bi=b0:=by
   intro q hq;rw[hd,hp'] at hq;exact hq.1
  split
  ·rename_i E0 s0 g1 n0 xs0 hb;rintro⟨c1,c2⟩;have hne:=key c2;rw[zp hne] at hb;rw[hb];exact⟨c1,fin b0 _ hne (by rw[hte];exact c2)⟩
  ·exact fun h=>h.elim
 ·exact fun h=>h.elim
theorem JA {d x y v:Nat} {so:SO} {o:List OB} {t:List AV} {F F':List OB->List AV->Prop} (hk:∀o t,F o t->F' o t) (hso:GZ d x y v so=true\/∃s1 e u,so=⟨none,.store s1 (.t e) (.t u),none⟩) (h:As P [so] o t F):As P [so] o t F':=by
 rcases hso with hso|⟨s1,e,u,rfl⟩
 ·unfold GZ at hso
  split at hso
  ·simp only[As,Ah] at h ⊢
   revert h
   split
   all_goals first|exact fun h=>h.elim|exact fun h=>hk _ _ h
  ·simp only[As,Ah] at h ⊢
   revert h
   split
   all_goals first|exact fun h=>h.elim|exact fun h=>hk _ _ h
  ·cases hso
 ·simp only[As,Ah] at h ⊢
  revert h
  split
  ·split
   ·exact fun h=>⟨h.1,hk _ _ h.2⟩
   ·exact fun h=>h.elim
  ·split
   ·exact fun h=>⟨h.1,hk _ _ h.2⟩
   ·exact fun h=>h.elim
  ·exact fun h=>h.elim
theorem MV:∀(a b:List SO) (objs:List OB) (tm:List AV) (F:List OB->List AV->Prop),BB P (a++b) objs tm F=BB P a objs tm (fun o t=>BB P b o t F)
 | [],b,objs,tm,F=>rfl
 | ⟨dst,op,none⟩::a,b,objs,tm,F=>by
  simp only[qy,BB,MV a b]
 | ⟨dst,op,some (t,want)⟩::a,b,objs,tm,F=>by
  simp only[qy,BB,MV a b]
theorem Mk:∀(b:List SO) (objs:List OB) (tm:List AV) (F:List OB->List AV->Prop),b.all (fun o=>!o.op.isCall)=true->BB P b objs tm F=As P b objs tm F
 | [],objs,tm,F,h=>rfl
 | ⟨dst,op,none⟩::a,objs,tm,F,h=>by
  rw[jd,Bool.and_eq_true,Bool.not_eq_true'] at h;have h1:¬op.isCall=true:=by rw[show op.isCall=false from h.1];exact Bool.false_ne_true
  simp only[BB,As,if_neg h1,fun o t=>Mk a o t F h.2]
 | ⟨dst,op,some (t,want)⟩::a,objs,tm,F,h=>by
  rw[jd,Bool.and_eq_true,Bool.not_eq_true'] at h;have h1:¬op.isCall=true:=by rw[show op.isCall=false from h.1];exact Bool.false_ne_true
  simp only[BB,As,if_neg h1,fun o t=>Mk a o t F h.2]
  all_goals (cases (tm[t]?).getD .u<;>first|rfl|(rename_i v;cases v<;>rfl))
theorem VU (id:Nat) (ops:Array Oper) (l:List SO) (hl:ops.toList.mapM (Do P ops.toList)=some l) (k d e:Nat) (hok:Km l (ops.toList.map AJ) (Bj (ops.toList.map AJ)) k=true) (hf:I6 l k=some (d,e)) (hm:P.follows .mixedOrders=true) {objs:List OB} {tm:List AV}
  (h:BB P (l.take l.length) objs tm (fun o t=>CN [(d,e+1000000,none)] t/\As P (l.drop l.length) o t fun o t=>K .normal o t)):∀a w,C1 C objs tm a w->(Code.region id ops true).wp P (C9 C K) a w:=by
 obtain⟨sz,x,y,sz',v,s1,u,Bs,hdec,he,hu,hv,hx,hy,hB⟩:=Yx hf;have hnl:ops.size=l.length:=by
  have:=(GQ _ _ _ hl).1;simpa using this
 unfold Km at hok;simp only[Bool.and_eq_true] at hok;obtain⟨⟨⟨hpre,hap⟩,hanc⟩,hcalls⟩:=hok;have hk:k<=l.length:=by
  unfold Eb at hpre;simp only[Bool.and_eq_true,decide_eq_true_eq] at hpre;exact hpre.1.1.1.1.1.1
 have hap:Ds l (Bj (ops.toList.map AJ)) k=[]:=List.isEmpty_iff.1 hap;have htk:(l.take k).length=k:=by rw[zh];omega
 have hdk:l.drop k=⟨some d,.iad sz (.t x) (.t y),none⟩::⟨none,.store sz' (.t d) (.t v),none⟩::(Bs++[⟨none,.store s1 (.t e) (.t u),none⟩]):=by
  have:=jh k l;rw[hdec] at this;rw[List.take_append_of_le_length (by rw[htk];exact zd _),List.take_take,Nat.min_self] at this;have h2:=List.append_cancel_left this;rw[<-hdec] at h2;exact h2
 have hlen:l.length=k+2+Bs.length+1:=by
  have:=congrArg List.length hdk;rw[List.length_drop] at this;simp only[List.length_cons,List.length_append,List.length_nil] at this;omega
 have hd2:l.drop (k+2)=Bs++[⟨none,.store s1 (.t e) (.t u),none⟩]:=by
  rw[<-xr,hdk];rfl
 have hat:∀i so,l[i]? = some so->l.drop i=so::l.drop (i+1):=fun i so hi=>by
  obtain⟨h1,h2⟩:=jf.1 hi;rw[jq h1,h2]
 have hBat:∀i so,l[i]? = some so->k+2<=i->(so∈Bs)\/(so=⟨none,.store s1 (.t e) (.t u),none⟩/\i+1=l.length):=by
  intro i so hi hki;have h1:(l.drop (k+2))[i - (k+2)]? = some so:=by rw[ju,show k+2+(i - (k+2))=i by omega];exact hi
  rw[hd2] at h1;rcases zo (i - (k+2)) Bs.length with h2|h2
  ·rw[qr h2] at h1;exact .inl (List.mem_of_getElem? h1)
  ·rw[List.getElem?_append_right h2] at h1;have hlt:=(jf.1 hi).1;rw[show i - (k+2) - Bs.length=0 by omega] at h1;simp only[List.getElem?_cons_zero,zx.injEq] at h1;exact .inr ⟨h1.symm,by omega⟩
 rw[List.take_length,List.drop_length] at h
 let Kf:List OB->List AV->Prop:=fun o t=>K .normal o t
 have h':BB P (l.take k) objs tm (fun o t=>CN (Ds l (Bj (ops.toList.map AJ)) k) t/\As P (l.drop k) o t (fun o t=>Fv t[d]? t[e]?/\Kf o t)):=by
  have h0:=h;rw[<-jh k l,MV] at h0;have hR:∀o t,BB P (l.drop k) o t (fun o t=>CN [(d,e+1000000,none)] t/\As P [] o t fun o t=>K .normal o t)=(CN (Ds l (Bj (ops.toList.map AJ)) k) t/\As P (l.drop k) o t (fun o t=>Fv t[d]? t[e]?/\Kf o t)):=by
   intro o t;rw[Mk _ _ _ _ hcalls,hap];have hz:∀o t,(CN [(d,e+1000000,none)] t/\As P [] o t fun o t=>K .normal o t)=(Fv t[d]? t[e]?/\Kf o t):=by
    intro o t;simp only[CN,As,if_neg (show ¬e+1000000<1000000 by omega),Nat.add_sub_cancel,and_true]
    rfl
   rw[show (fun o t=>CN [(d,e+1000000,none)] t/\As P [] o t fun o t=>K .normal o t)=(fun o t=>Fv t[d]? t[e]?/\Kf o t) from funext fun o=>funext fun t=>hz o t];simp only[CN,true_and]
  simpa only[hR] using h0
 refine Yp id ops l l hl (.inl rfl) k hpre hm (fun listed o t=>∃st b,st<=2/\k+2<=b/\b<=l.length/\(∀j,k<=j->j<l.length->listed.getD j false=decide (j<k+st\/(k+2<=j/\j<b)))/\(st=0->pQ P l d e x y v sz sz' Kf false b o t)/\(st=1->pQ P l d e x y v sz sz' Kf true b o t)/\(st=2->rF P l d e Kf b o t)) _ ?_ ?_ ?_ h'
 ·intro listed o t hs h1 h2 hw;refine⟨0,k+2,by omega,zd _,by omega,fun j hj hjn=>?_,fun _=>?_,(fun h=>by cases h),(fun h=>by cases h)⟩
  ·rw[h2 j hj (by omega)]
   symm
   exact decide_eq_false (by omega)
  ·rw[hdk] at hw;simp only[As] at hw;rw[show Ah P (.iad sz (.t x) (.t y)) o t=fun K=>match (SV.t x).ev t,(SV.t y).ev t with
    | .row n xs,.i _ i=>(0<=i/\i<n/\n*sz<=xs.length)/\K o (.prow xs (i.toNat*sz))
    | .orow b gen,.i _ i=>match o[b]? with
     | some (.orow _ s gen' n _)=>(gen'=gen/\s=sz/\0<=i/\i<n)/\K o (.porow b gen (i.toNat*sz))
     | _=>False
    | _,_=>False from rfl] at hw
   have noset:∀p:AV,(∀b g j,p≠.porow b g j)->(∀b j,p≠.p b j)->∀F,¬Ah P (.store sz' (.t d) (.t v)) o (t.set d p) F:=by
    intro p hp hp2 F hF;simp only[Ah,SV.ev] at hF;rcases zo d t.length with hlt|hge
    ·rw[qd hlt,ja] at hF
     cases p<;>first|exact hF|exact hp _ _ _ rfl|exact hp2 _ _ rfl
    ·rw[qg (by rw[zf];exact hge)] at hF;exact hF
   split at hw
   ·exact absurd hw.2 (noset _ (by intro _ _ _ h;cases h) (by intro _ _ h;cases h) _)
   ·rename_i bi g ik m hxv hyv
    split at hw
    ·rename_i E s g' n xs hb;obtain⟨⟨rfl,rfl,c3,c4⟩,hw⟩:=hw;simp only[Ah,SV.ev,AD] at hw;have hdl:d<t.length:=by
      rcases zo d t.length with hlt|hge
      ·exact hlt
      ·exfalso;rw[qg (by rw[zf];exact hge)] at hw;exact hw
     rw[qd hdl,ja] at hw;simp only[hb,zp (Ne.symm hv)] at hw;obtain⟨⟨_,q1,q2,q3⟩,hw⟩:=hw;have hxs:t[x]? = some (.orow bi g'):=getD_some hxv (by intro h;cases h);have hys:t[y]? = some (.i ik m):=getD_some hyv (by intro h;cases h);obtain⟨yv,hyv2⟩:∃yv,t[v]? = some yv:=by
      cases hq:t[v]? with
      | none=>rw[hq] at q1;cases q1
      | some z=>exact⟨z,rfl⟩
     rw[hyv2,ja] at q1 q2 hw;refine⟨bi,g',E,n,xs,ik,m,yv,hb,hyv2,⟨q1,q2,q3⟩,hdl,(fun h=>by cases h),fun _=>⟨hxs,hys,c3,c4⟩,?_⟩;unfold rF;rw[hd2];exact hw
    ·exact hw.elim
   ·exact hw.elim
 ·intro listed o t i so hs hi hki hin hun hanci hT;obtain⟨st,b,hst,hb1,hb2,hlist,t0,t1,t2⟩:=hT;have hset:∀j,(listed.setIfInBounds i true).getD j false=if j=i then true else listed.getD j false:=fun j=>Ga listed i j false (by omega)
  have hui:=hlist i hki (by omega);rw[hun] at hui;have hui:¬(i<k+st\/(k+2<=i/\i<b)):=of_decide_eq_false hui.symm;unfold Qi at hanc;rw[Bool.and_eq_true] at hanc;obtain⟨ha1,ha2⟩:=hanc
  by_cases ck:i=k
  ·subst ck;have hst0:st=0:=by omega
   subst hst0;obtain⟨bi,g,E,n,xs,ik,m,yv,h1,h2,h3,h4,h5,h6,h7⟩:=t0 rfl;obtain⟨hx1,hy1,hm1,hm2⟩:=h6 rfl;have hso:so=⟨some d,.iad sz (.t x) (.t y),none⟩:=by
    have:=hat i so hi;rw[hdk] at this;exact(List.cons.inj this).1.symm
   subst hso;simp only[As,Ah,SV.ev,hx1,hy1,ja,h1,AD];refine⟨⟨trivial,trivial,hm1,hm2⟩,1,b,by omega,hb1,hb2,fun j hj hjn=>?_,(fun h=>by cases h),fun _=>?_,(fun h=>by cases h)⟩
   ·rw[hset]
    split
    ·rename_i e1;symm;exact decide_eq_true (by omega)
    ·rw[hlist j hj hjn];congr 1;apply propext;omega
   ·refine⟨bi,g,E,n,xs,ik,m,yv,h1,by rw[zp (Ne.symm hv)];exact h2,h3,by rw[zf];exact h4,fun _=>qd h4,(fun h=>by cases h),?_⟩;rw[List.set_set];exact h7
  by_cases ck1:i=k+1
  ·subst ck1;have hk1:listed.getD k false=true:=hanci k (qz.1 ha1);rw[hlist k (zd _) (by omega)] at hk1;have hk1:=of_decide_eq_true hk1;have hst1:st=1:=by omega
   subst hst1;obtain⟨bi,g,E,n,xs,ik,m,yv,h1,h2,h3,h4,h5,h6,h7⟩:=t1 rfl;have hd1:=h5 rfl;have hso:so=⟨none,.store sz' (.t d) (.t v),none⟩:=by
    have:=hat (k+1) so hi;rw[<-xr,hdk] at this;exact(List.cons.inj this).1.symm
   subst hso;simp only[As,Ah,SV.ev,hd1,h2,ja,h1,AD];refine⟨⟨trivial,h3⟩,2,b,by omega,hb1,hb2,fun j hj hjn=>?_,(fun h=>by cases h),(fun h=>by cases h),fun _=>?_⟩
   ·rw[hset]
    split
    ·rename_i e1;symm;exact decide_eq_true (by omega)
    ·rw[hlist j hj hjn];congr 1;apply propext;omega
   ·rw[set_same hd1] at h7;exact h7
  have hi2:k+2<=i:=by omega
  have hib:i=b:=by
   rcases zo b i with h0|h0
   ·exfalso;have h1:=zj.1 ha2 i (qi.2 (by omega));simp only[Bool.or_eq_true,decide_eq_true_eq,zj,qi,qz] at h1;rcases h1 with h1|h1
    ·omega
    ·rcases h1 b h0 with h2|h2
     ·omega
     ·have h3:=hanci b h2;rw[hlist b (by omega) (by omega)] at h3;have:=of_decide_eq_true h3;omega
   ·omega
  subst hib;have hdi:=hat i so hi;have hlist':∀j,k<=j->j<l.length->(listed.setIfInBounds i true).getD j false=decide (j<k+st\/(k+2<=j/\j<i+1)):=by
   intro j hj hjn;rw[hset]
   split
   ·rename_i e1;symm;exact decide_eq_true (by omega)
   ·rw[hlist j hj hjn];congr 1;apply propext;omega
  have goPQ:∀dn,pQ P l d e x y v sz sz' Kf dn i o t->As P [so] o t fun o2 t2=>pQ P l d e x y v sz sz' Kf dn (i+1) o2 t2:=by
   intro dn hq;rcases hBat i so hi hi2 with hmem|⟨rfl,hlast⟩
   ·exact lK hdi (hB so hmem) hq
   ·have hnil:l.drop (i+1)=[]:=List.drop_eq_nil_of_le (by omega);rw[hnil] at hdi;exact lL he hu hdi hnil hq
  have hnone:GZ d x y v so=true\/∃s1 e u,so=⟨none,.store s1 (.t e) (.t u),none⟩:=by
   rcases hBat i so hi hi2 with hmem|⟨rfl,_⟩
   ·exact .inl (hB so hmem)
   ·exact .inr ⟨_,_,_,rfl⟩
  have hst3:st=0\/st=1\/st=2:=by omega
  rcases hst3 with rfl|rfl|rfl
  ·refine JA (fun o2 t2 hq=>⟨0,i+1,by omega,by omega,by omega,hlist',fun _=>hq,(fun h=>by cases h),(fun h=>by cases h)⟩) hnone (goPQ false (t0 rfl))
  ·refine JA (fun o2 t2 hq=>⟨1,i+1,by omega,by omega,by omega,hlist',(fun h=>by cases h),fun _=>hq,(fun h=>by cases h)⟩) hnone (goPQ true (t1 rfl))
  ·refine JA (fun o2 t2 hq=>⟨2,i+1,by omega,by omega,by omega,hlist',(fun h=>by cases h),(fun h=>by cases h),fun _=>hq⟩) hnone ?_;have h2:=t2 rfl;unfold rF at h2;rw[hdi] at h2;rcases hnone with hso|⟨s2,e2,u2,rfl⟩
   ·unfold GZ at hso
    split at hso
    ·exact h2
    ·exact h2
    ·cases hso
   ·exact h2
 ·intro listed o t hs hall hT;obtain⟨st,b,hst,hb1,hb2,hlist,t0,t1,t2⟩:=hT;have e1:=hlist (k+1) (by omega) (by omega);rw[hall (k+1) (by omega)] at e1;have e1:=of_decide_eq_true e1.symm;have hst2:st=2:=by omega
  subst hst2;have hbn:b=l.length:=by
   rcases zo b l.length with h0|h0
   ·have e2:=hlist b (by omega) h0;rw[hall b (by omega)] at e2;have e2:=of_decide_eq_true e2.symm;omega
   ·omega
  subst hbn;have h2:=t2 rfl;unfold rF at h2;rw[List.drop_length] at h2;exact h2.2
end
def EE (o:SO):Bool:=o.op.calm&&!o.op.isCall&&o.gd.isNone&&o.dst.isSome
def L8 (o:SO):Bool:=o.op.isCall&&o.gd.isNone&&o.dst.isSome
def SOp.grows:SOp->Bool
 | .bslo .. | .app .. | .cappo ..=>true
 | _=>false
def C0 (o:SO):Bool:=(o.op.isCall||o.op.grows)&&o.gd.isNone&&o.dst.isSome
def Av (l:List SO) (i:Nat):SO:=(l[i]?).getD ⟨none,.mv (.c .nil),none⟩
def Cg (anc:List (List Nat)) (i j:Nat):Bool:=(anc.getD i []).contains j
def BQ (anc:List (List Nat)) (c i:Nat):Bool:=Cg anc i c
def Ct (anc:List (List Nat)) (c i:Nat):Bool:=!(i==c)&&!Cg anc i c
def BZ (n:Nat) (p:Nat->Bool) (l:List SO):List SO:=((zi n).filter p).map (Av l)
def Ke (l:List SO) (deps anc:List (List Nat)) (c:Nat):Bool :=
 (zi l.length).all (fun i=>(deps.getD i []).all (fun e=>decide (e<i))&&(anc.getD i []).all fun j=>(deps.getD i []).contains j||(deps.getD i []).any fun e=>(anc.getD e []).contains j) &&
 (zi l.length).all (fun i=>Az l i==none||(zi l.length).all fun j=>i==j||Az l j != Az l i) &&
 (zi l.length).all (fun i=>(Av l i).looks.all fun t=>(zi l.length).all fun j=>j==i||Az l j != some t||(anc.getD i []).contains j||(anc.getD j []).contains i) &&
 decide (c<l.length)&&L8 (Av l c) &&
 (zi l.length).all (fun i=>i==c||(if BQ anc c i=true then
   !(Av l i).op.isCall&&(Av l i).gd.isNone&&(zi i).all (fun j=>!BQ anc c j||Cg anc i j)&&((Av l i).op.calm||(zi l.length).all fun j=>!Ct anc c j||!(Av l j).op.touch||Cg anc i j)
  else EE (Av l i))) &&
 (zi l.length).all (fun j=>(zi l.length).all fun i=>!Cg anc j i||!BQ anc c i||BQ anc c j)&&!Cg anc c c
section
variable {P:Program} [Tabs P]
theorem Jv {o:SO} (h:EE o=true):∃d op,o=⟨some d,op,none⟩/\op.calm=true/\op.isCall=false:=by
 obtain⟨d,op,g⟩:=o;unfold EE at h;simp only[Bool.and_eq_true,Bool.not_eq_true',Option.isNone_iff_eq_none,Option.isSome_iff_exists] at h;obtain⟨⟨⟨h1,h2⟩,h3⟩,d',h4⟩:=h;subst h3 h4;exact⟨d',op,rfl,h1,h2⟩
theorem XW {o:SO} (h:L8 o=true):∃d op,o=⟨some d,op,none⟩/\op.isCall=true:=by
 obtain⟨d,op,g⟩:=o;unfold L8 at h;simp only[Bool.and_eq_true,Option.isNone_iff_eq_none,Option.isSome_iff_exists] at h;obtain⟨⟨h1,h3⟩,d',h4⟩:=h;subst h3 h4;exact⟨d',op,rfl,h1⟩
theorem PM {o:SO} (h:C0 o=true):∃d op,o=⟨some d,op,none⟩/\(op.isCall||op.grows)=true:=by
 obtain⟨d,op,g⟩:=o;unfold C0 at h;simp only[Bool.and_eq_true,Option.isNone_iff_eq_none,Option.isSome_iff_exists] at h;obtain⟨⟨h1,h3⟩,d',h4⟩:=h;subst h3 h4;exact⟨d',op,rfl,h1⟩
theorem Uc {so:SOp} (hc:so.isCall=true) {objs:List OB} {tm:List AV} {K K':List OB->AV->Prop} (hk:∀o v,K o v->K' o v) (h:Ah P so objs tm K):Ah P so objs tm K':=by
 cases so<;>simp only[SOp.isCall,reduceCtorEq] at hc<;>simp only[Ah] at h ⊢
 case call=>exact h.mono hk
 case pcall=>exact⟨h.1,h.2.mono fun o r h3=>⟨h3.1,hk _ _ h3.2⟩⟩
 case callv=>
  revert h
  split
  ·exact fun h=>⟨h.1,h.2.mono hk⟩
  ·exact fun h=>h.elim
 case inv=>
  revert h
  split
  ·split
   ·exact fun h=>h.mono hk
   ·exact fun h=>h.elim
  ·exact fun h=>h.elim
theorem PZ {so:SOp} (hc:(so.isCall||so.grows)=true) {objs:List OB} {tm:List AV} {K K':List OB->AV->Prop} (hk:∀o v,K o v->K' o v) (h:Ah P so objs tm K):Ah P so objs tm K':=by
 by_cases h0:so.isCall=true
 ·exact Uc h0 hk h
 ·cases so<;>simp only[SOp.isCall,SOp.grows,reduceCtorEq,Bool.or_self,Bool.or_true,Bool.or_false,not_true_eq_false,Bool.false_eq_true] at hc h0<;>simp only[Ah] at h ⊢
  case bslo=>
   revert h;split
   ·exact fun h=>⟨h.1,hk _ _ h.2⟩
   ·exact fun h=>h.elim
  case app=>
   revert h;split
   ·split
    ·split
     ·exact fun h=>⟨h.1,hk _ _ h.2⟩
     ·exact fun h=>h.elim
    ·exact fun h=>⟨h.1,hk _ _ h.2⟩
    ·exact fun h=>h.elim
   ·exact fun h=>h.elim
  case cappo=>
   revert h;split
   ·exact fun h=>⟨h.1,hk _ _ h.2⟩
   ·exact fun h=>h.elim
theorem Jb:∀(pre:List SO) (objs:List OB) (tm:List AV) (F:List OB->List AV->Prop),(∀so∈pre,EE so=true)->(pre.map (·.dst)).Nodup->As P pre objs tm F ->
  ∃t1,F objs t1/\t1.length=tm.length/\(∀s,(∀so∈pre,so.dst≠some s)->t1[s]? = tm[s]?) /\
   ∀A so B,pre=A++so::B->∃ti v,Ah P so.op objs ti (fun o x=>o=objs/\x=v)/\(∀s,(∃a∈A,a.dst=some s)->ti[s]? = t1[s]?)/\(∀s,(∀a∈A,a.dst≠some s)->ti[s]? = tm[s]?)/\∀d,so.dst=some d->d<tm.length->t1[d]? = some v
 | [],objs,tm,F,_,_,h=>⟨tm,h,rfl,fun s _=>rfl,fun A so B e=>by cases A<;>cases e⟩
 | so::pre,objs,tm,F,hc,hn,h=>by
  obtain⟨d,op,rfl,c1,c2⟩:=Jv (hc so (by simp));rw[zr,List.nodup_cons] at hn;simp only[As] at h;obtain⟨v,h1,h2⟩:=QO c1 c2 h;obtain⟨t1,k1,k2,k3,k4⟩:=Jb pre objs (tm.set d v) F (fun so hs=>hc so (qx _ hs)) hn.2 h2;have hd:∀so∈pre,so.dst≠some d:=fun so hs e=>hn.1 (by show some d∈_;rw[<-e];exact List.mem_map_of_mem hs);refine⟨t1,k1,by rw[k2,zf],fun s hs=>?_,fun A so B e=>?_⟩
  ·rw[k3 s fun so h=>hs so (qx _ h)];have:d≠s:=fun e=>hs ⟨some d,op,none⟩ (by simp) (by rw[e]);exact zp this
  ·cases A with
   | nil=>
    rw[qn] at e;injection e with e1 e2
    subst e1;refine⟨tm,v,h1,(fun s ⟨a,ha,_⟩=>by cases ha),(fun s _=>rfl),fun d' e hl=>?_⟩;injection e with e
    subst e;rw[k3 d hd];exact qd hl
   | cons a A=>
    rw[qy] at e;injection e with e1 e2
    subst e1;obtain⟨ti,v',m1,m2,m3,m4⟩:=k4 A so B e2;refine⟨ti,v',m1,fun s ⟨a,ha,has⟩=>?_,fun s hs=>?_,fun d' e hl=>m4 d' e (by rw[zf];exact hl)⟩
    ·by_cases hA:∃a∈A,a.dst=some s
     ·exact m2 s hA
     ·have hA':∀a∈A,a.dst≠some s:=fun a ha e=>hA ⟨a,ha,e⟩;rcases zv.1 ha with rfl|ha
      ·injection has with has
       subst has;rw[m3 _ hA',k3 _ hd]
      ·exact absurd has (hA' a ha)
    ·rw[m3 s fun a ha=>hs a (qx _ ha)];have:d≠s:=fun e=>hs ⟨some d,op,none⟩ (by simp) (by rw[e]);exact zp this
def EM (l:List SO) (k:Nat) (listed:Array Bool) (t1 tm t:List AV):Prop :=
 t.length=tm.length/\(∀s j,j<k->listed.getD j false=true->Az l j=some s->t[s]? = t1[s]?)/\∀s,(∀j,j<k->listed.getD j false=true->Az l j≠some s)->t[s]? = tm[s]?
theorem EM.step {l:List SO} {k i d:Nat} {listed:Array Bool} {t1 tm t:List AV} {v:AV} (h:EM l k listed t1 tm t) (hi:i<k) (his:i<listed.size) (hd:Az l i=some d) (hdis:∀a b,a<k->b<k->a≠b->Az l a≠none->Az l a≠Az l b) (hu:listed.getD i false=false) (hv:d<tm.length->t1[d]? = some v) (hlen:t1.length=tm.length):EM l k (listed.setIfInBounds i true) t1 tm (t.set d v):=by
 obtain⟨h1,h2,h3⟩:=h;have hset:∀j,(listed.setIfInBounds i true).getD j false=if j=i then true else listed.getD j false:=fun j=>Ga listed i j false his
 refine⟨by rw[zf];exact h1,fun s j hj hl hs=>?_,fun s hs=>?_⟩
 ·by_cases e:s=d
  ·subst e
   by_cases hlt:s<t.length
   ·rw[qd hlt,hv (by omega)]
   ·rw[qg (by rw[zf];omega),qg (by omega)]
  ·rw[zp (Ne.symm e)];rw[hset] at hl
   split at hl
   ·rename_i e2;subst e2;rw[hd] at hs;injection hs with hs
    exact absurd hs.symm e
   ·exact h2 s j hj hl hs
 ·have e:¬d=s:=fun e=>hs i hi (by rw[hset,if_pos rfl]) (by rw[hd,e]);rw[zp e];refine h3 s fun j hj hl=>hs j hj ?_;rw[hset]
  split
  ·rfl
  ·exact hl
end
section
theorem Hs {n:Nat} {p:Nat->Bool} {l:List SO} {so:SO}:so∈BZ n p l↔∃i,i<n/\p i=true/\Av l i=so:=by
 unfold BZ;simp only[jc,jv,qi,and_assoc]
theorem N5 {n i:Nat} {p:Nat->Bool} (l:List SO) (hi:i<n) (hp:p i=true):∃B:(Nat->Bool)->List SO,(∀q,q i=true->BZ n q l=BZ i q l++Av l i::B q)/\(∀q,q i=false->BZ n q l=BZ i q l++B q)/\∀q q',(∀j,i<j->q j=q' j)->B q=B q':=by
 obtain⟨m,rfl⟩:∃m,n=i+1+m:=⟨n - (i+1),by omega⟩;refine⟨fun q=>(((zi m).map (i+1+·)).filter q).map (Av l),fun q hq=>?_,fun q hq=>?_,fun q q' h=>?_⟩
 ·unfold BZ;rw[List.range_add,List.range_succ];simp[xg,hq]
 ·unfold BZ;rw[List.range_add,List.range_succ];simp[xg,hq]
 ·dsimp only
  congr 1
  refine List.filter_congr fun j hj=>h j ?_;obtain⟨x,_,rfl⟩:=jc.1 hj;omega
theorem S0 {n:Nat} {p q:Nat->Bool} (l:List SO) (h:∀i,i<n->p i=q i):BZ n p l=BZ n q l:=by
 unfold BZ
 congr 1
 exact List.filter_congr fun j hj=>h j (qi.1 hj)
theorem NK {n:Nat} {p:Nat->Bool} (l:List SO) (h:∀i,i<n->p i=false):BZ n p l=[]:=by
 unfold BZ;rw[List.filter_eq_nil_iff.2 fun j hj=>by rw[h j (qi.1 hj)];exact Bool.false_ne_true]
 rfl
theorem CF {l:List SO} {i:Nat} (hi:i<l.length):Az l i=(Av l i).dst:=by
 unfold Az Av;rw[zq hi];rfl
theorem K6 {l:List SO} {i:Nat} {so:SO} (h:l[i]? = some so):Av l i=so:=by
 unfold Av;rw[h];rfl
end
section
variable {P:Program} [Tabs P] {C:Cx} [On P C] {K:Bb}
theorem oS (id:Nat) (ops:Array Oper) (l:List SO) (hl:ops.toList.mapM (Do P ops.toList)=some l) (c:Nat) (hok:Ke l (ops.toList.map AJ) (Bj (ops.toList.map AJ)) c=true) (hm:P.follows .mixedOrders=true) {objs:List OB} {tm:List AV}
  (h:As P (BZ l.length (Ct (Bj (ops.toList.map AJ)) c) l) objs tm fun _ t1=>As P [Av l c] objs t1 fun o2 t2=>As P (BZ l.length (Ct (Bj (ops.toList.map AJ)) c) l) o2 tm (fun _ t=>t=t1)/\As P (BZ l.length (BQ (Bj (ops.toList.map AJ)) c) l) o2 t2 fun o t=>K .normal o t):∀a w,C1 C objs tm a w->(Code.region id ops true).wp P (C9 C K) a w:=by
 have hnl:ops.size=l.length:=by
  have:=(GQ _ _ _ hl).1;simpa using this
 unfold Ke at hok;simp only[Bool.and_eq_true] at hok;obtain⟨⟨⟨⟨⟨⟨⟨hd1,hd2⟩,hd3⟩,hcl⟩,hcall⟩,hcls⟩,htr⟩,hcc⟩:=hok;have hpre:Eb l (ops.toList.map AJ) (Bj (ops.toList.map AJ)) 0=true:=by
  unfold Eb;simp only[Bool.and_eq_true];exact⟨⟨⟨⟨⟨⟨by simp,hd1⟩,by simp⟩,by simp⟩,by simp⟩,by simp⟩,by simp[Hg]⟩
 have hap0:∀an,Ds l an 0=[]:=fun an=>by simp[Ds]
 simp only[Bool.and_eq_true,decide_eq_true_eq,zj,qi,Bool.or_eq_true,bne_iff_ne,ne_eq,beq_iff_eq,xk,qz] at hd1 hd2 hd3 hcl hcls htr;have hlen:ops.toList.length=l.length:=by simpa using hnl
 have hdep:∀i,i<ops.size->(∀e∈(ops.toList.map AJ).getD i [],e<i)/\∀j∈(Bj (ops.toList.map AJ)).getD i [],j∈(ops.toList.map AJ).getD i []\/∃e∈(ops.toList.map AJ).getD i [],j∈(Bj (ops.toList.map AJ)).getD e []:=fun i hi=>hd1 i (by omega);have halt:=Ms (ops.toList.map AJ) (Bj (ops.toList.map AJ)) ops.size hdep;have hfin:=II (P:=P) (C:=C) (K:=K) id ops l l hl (.inl rfl) 0 hpre hm (objs:=objs) (tm:=tm);generalize Bj (ops.toList.map AJ)=anc at *;clear hd1 hdep hpre;have hdis:∀a b,a<l.length->b<l.length->a≠b->Az l a≠none->Az l a≠Az l b:=fun a b ha hb hab hn e=>by
  rcases hd2 a ha with h0|h0
  ·exact hn h0
  ·rcases h0 b hb with h1|h1
   ·exact hab h1
   ·exact h1 e.symm
 have only:∀s j j',j<l.length->j'<l.length->Az l j=some s->Az l j'=some s->j'=j:=by
  intro s j j' h1 h2 h3 h4
  by_cases e:j'=j
  ·exact e
  ·exact absurd (h4.trans h3.symm) (hdis j' j h2 h1 e (by rw[h4];simp))
 obtain⟨cd,cop,hce,hcop⟩:=XW hcall;have hcd:Az l c=some cd:=by rw[CF hcl,hce]
 have hcc':¬c∈anc.getD c []:=fun g=>by
  have:=halt c (by omega) c g;omega
 have kind:∀i,i<l.length->i=c\/Ct anc c i=true\/BQ anc c i=true:=by
  intro i hi;unfold Ct BQ
  by_cases e:i=c
  ·exact .inl e
  ·right
   cases hq:Cg anc i c
   ·left;simp[e]
   ·right;rfl
 have preNe:∀i,Ct anc c i=true->i≠c/\BQ anc c i=false:=by
  intro i hp;unfold Ct at hp;unfold BQ;simpa using hp
 have postC:BQ anc c c=false:=by
  unfold BQ Cg;simpa using hcc'
 have postNe:∀i,BQ anc c i=true->i≠c:=fun i hp e=>by rw[e,postC] at hp;cases hp
 have hcalm:∀i,i<l.length->Ct anc c i=true->∃d op,Av l i=⟨some d,op,none⟩/\op.calm=true/\op.isCall=false:=by
  intro i hi hp;obtain⟨h1,h2⟩:=preNe i hp;rcases hcls i hi with h0|h0
  ·exact absurd h0 h1
  ·rw[if_neg (by rw[h2];exact Bool.false_ne_true)] at h0;exact Jv h0
 have FP:∀so∈BZ l.length (Ct anc c) l,EE so=true:=by
  intro so hs;obtain⟨i,hi,hp,rfl⟩:=Hs.1 hs;obtain⟨h1,h2⟩:=preNe i hp;rcases hcls i hi with h0|h0
  ·exact absurd h0 h1
  ·rwa [if_neg (by rw[h2];exact Bool.false_ne_true)] at h0
 have hnd:((BZ l.length (Ct anc c) l).map (·.dst)).Nodup:=by
  unfold BZ;rw[List.map_map];have h0:((zi l.length).filter (Ct anc c)).Nodup:=List.nodup_range.sublist List.filter_sublist;refine List.Pairwise.map _ ?_ (List.Pairwise.and_mem.1 h0);rintro a b ⟨ha,hb,hab⟩ e;rw[jv,qi] at ha hb;obtain⟨d,op,e1,_⟩:=hcalm a ha.1 ha.2;refine hdis a b ha.1 hb.1 hab ?_ ?_
  ·rw[CF ha.1,e1];simp
  ·rw[CF ha.1,CF hb.1];exact e
 obtain⟨t1,h1,hl1,ho1,hs1⟩:=Jb _ _ _ _ FP hnd h;rw[hce] at h1;simp only[As,AD] at h1;have hout:∀s,(∀j,j<l.length->Ct anc c j=true->Az l j≠some s)->t1[s]? = tm[s]?:=fun s hs=>ho1 s fun so hso e=>by
  obtain⟨i,g1,g2,rfl⟩:=Hs.1 hso;exact hs i g1 g2 (by rw[CF g1];exact e)
 have hcdp:t1[cd]? = tm[cd]?:=hout cd fun j hj hp e=>(preNe j hp).1 (only cd c j hcl hj hcd e);have agree:∀(listed:Array Bool) (x1 t:List AV) (i:Nat),i<l.length->listed.getD i false=false->(∀j∈anc.getD i [],listed.getD j false=true)->(∀j,j<l.length->listed.getD j false=true->∀e∈anc.getD j [],listed.getD e false=true)->EM l l.length listed x1 tm t ->
   ∀s∈(Av l i).looks,((∀j,j<l.length->Az l j=some s->listed.getD j false=true/\j∈anc.getD i []/\t[s]? = x1[s]?)\/(∃j,j<l.length/\Az l j=some s/\(j=i\/i∈anc.getD j [])/\listed.getD j false=false/\t[s]? = tm[s]?))/\((∀j,j<l.length->Az l j≠some s)->t[s]? = tm[s]?):=by
  intro listed x1 t i hi hun hanc hclo hmix s hs;refine⟨?_,fun hno=>hmix.2.2 s fun j g1 _=>hno j g1⟩
  by_cases hj:∃j,j<l.length/\Az l j=some s
  ·obtain⟨j,hj1,hj2⟩:=hj;have tmcase:listed.getD j false=false->t[s]? = tm[s]?:=fun hu=>
    hmix.2.2 s fun j' g1 g2 g3=>by rw[only s j j' hj1 g1 hj2 g3,hu] at g2;cases g2
   rcases hd3 i hi s hs j hj1 with ((g|g)|g)|g
   ·subst g;exact .inr ⟨j,hj1,hj2,.inl rfl,hun,tmcase hun⟩
   ·exact absurd hj2 g
   ·left;intro j' g1 g2;obtain rfl:=only s j j' hj1 g1 hj2 g2;exact⟨hanc _ g,g,hmix.2.1 s _ hj1 (hanc _ g) hj2⟩
   ·have hu:listed.getD j false=false:=by
     cases hq:listed.getD j false with
     | false=>rfl
     | true=>
      have:=hclo j hj1 hq i g;rw[hun] at this;cases this
    exact .inr ⟨j,hj1,hj2,.inr g,hu,tmcase hu⟩
  ·exact .inl fun j g1 g2=>absurd ⟨j,g1,g2⟩ hj
 have evOf:∀(i:Nat) (t ti:List AV),(∀s∈(Av l i).looks,t[s]? = ti[s]?)->∀x∈(Av l i).op.svs,x.ev t=x.ev ti:=by
  intro i t ti hs x hx
  cases x with
  | c v=>rfl
  | t s=>
   simp only[SV.ev];rw[hs s (xj _ (List.mem_filterMap.2 ⟨_,hx,rfl⟩))]
 have hval:∀(o:List OB) (x1:List AV),(∀s j,j<l.length->Ct anc c j=true->Az l j=some s->x1[s]? = t1[s]?)->(∀A so B,BZ l.length (Ct anc c) l=A++so::B->∃ti v,Ah P so.op o ti (fun o' x=>o'=o/\x=v)/\(∀s,(∃a∈A,a.dst=some s)->ti[s]? = t1[s]?)/\(∀s,(∀a∈A,a.dst≠some s)->ti[s]? = tm[s]?)/\∀d,so.dst=some d->d<tm.length->t1[d]? = some v) ->
   ∀(listed:Array Bool) (t:List AV) (i d:Nat) (op:SOp),i<l.length->Ct anc c i=true->Av l i=⟨some d,op,none⟩->listed.getD i false=false->(∀j∈anc.getD i [],listed.getD j false=true)->(∀j,j<l.length->listed.getD j false=true->∀e∈anc.getD j [],listed.getD e false=true)->EM l l.length listed x1 tm t ->
   ∃v,Ah P op o t (fun o' x=>o'=o/\x=v)/\(d<tm.length->x1[d]? = some v):=by
  intro o x1 hxe hseq listed t i d op hi hp hso hun hanc hclo hmix;obtain⟨B,hB1,_,_⟩:=N5 l hi hp;obtain⟨ti,v,m1,m2,m3,m4⟩:=hseq _ _ _ (hB1 _ hp);have hdi:Az l i=some d:=by rw[CF hi,hso]
  refine⟨v,?_,fun hlt=>by rw[hxe d i hi hp hdi];exact m4 d (by rw[hso]) hlt⟩;have hA:∀a,a∈BZ i (Ct anc c) l↔∃j,j<i/\Ct anc c j=true/\Av l j=a:=fun a=>Hs;have tiTm:∀s j,j<l.length->Az l j=some s->¬(j<i/\Ct anc c j=true)->ti[s]? = tm[s]?:=by
   intro s j hj1 hj2 hn;refine m3 s fun a ha e=>?_;obtain⟨j',g1,g2,rfl⟩:=(hA a).1 ha;have:Az l j'=some s:=by rw[CF (by omega)];exact e
   have:=only s j j' hj1 (by omega) hj2 this;subst this;exact hn ⟨g1,g2⟩
  have hlook:∀s∈(Av l i).looks,t[s]? = ti[s]?:=by
   intro s hs;obtain⟨k1,k2⟩:=agree listed x1 t i hi hun hanc hclo hmix s hs
   by_cases hj:∃j,j<l.length/\Az l j=some s
   ·obtain⟨j,hj1,hj2⟩:=hj;rcases k1 with k1|⟨j',g1,g2,g3,g4,g5⟩
    ·obtain⟨q1,q2,q3⟩:=k1 j hj1 hj2;have hji:=halt i (by omega) j q2;have hpj:Ct anc c j=true:=by
      rcases kind j hj1 with e|e|e
      ·subst e;have:BQ anc j i=true:=by unfold BQ Cg;exact qz.2 q2
       rw[(preNe i hp).2] at this;cases this
      ·exact e
      ·have:BQ anc c i=true:=by
        rcases htr i hi j hj1 with (h0|h0)|h0
        ·unfold Cg at h0;rw[qz.2 q2] at h0;cases h0
        ·rw[e] at h0;cases h0
        ·exact h0
       rw[(preNe i hp).2] at this;cases this
     rw[q3,hxe s j hj1 hpj hj2];exact(m2 s ⟨_,(hA _).2 ⟨j,hji,hpj,rfl⟩,by rw[<-CF hj1];exact hj2⟩).symm
    ·rw[g5];refine(tiTm s j' g1 g2 fun hn=>?_).symm;rcases g3 with rfl|g3
     ·omega
     ·have:=halt j' (by omega) i g3;omega
   ·rw[k2 fun j g1 g2=>hj ⟨j,g1,g2⟩];refine(m3 s fun a ha e=>?_).symm;obtain⟨j',g1,g2,rfl⟩:=(hA a).1 ha;exact hj ⟨j',by omega,by rw[CF (by omega)];exact e⟩
  have hev:=evOf i t ti hlook;rw[hso] at hev m1;rw[HY hev];exact m1
 let Bb (listed:Array Bool) (o:List OB) (t:List AV):Prop:=∃o2 ts,As P (BZ l.length (Ct anc c) l) o2 tm (fun _ t=>t=t1)/\ts.length=tm.length/\(∀s,(∀j,j<l.length->Az l j≠some s)->ts[s]? = tm[s]?)/\(∀s j,j<l.length->Ct anc c j=true->Az l j=some s->ts[s]? = t1[s]?) /\
   (∀s j,j<l.length->BQ anc c j=true->listed.getD j false=false->Az l j=some s->ts[s]? = tm[s]?)/\As P (BZ l.length (fun i=>BQ anc c i&&!listed.getD i false) l) o ts (fun o t=>K .normal o t)/\EM l l.length listed ts tm t/\((∀j,j<l.length->Ct anc c j=true->(Av l j).op.touch=true->listed.getD j false=true)\/o=o2)
 refine hfin (fun listed o t=>(∀j,j<l.length->listed.getD j false=true->∀e∈anc.getD j [],listed.getD e false=true) /\
  ((listed.getD c false=false/\o=objs/\EM l l.length listed t1 tm t)\/(listed.getD c false=true/\Bb listed o t))) (fun o t=>o=objs/\t=tm) ?_ ?_ ?_ ?_
 ·rintro listed o t hs _ h2 ⟨rfl,rfl⟩;have hall:∀j,j<l.length->listed.getD j false=false:=fun j hj=>h2 j (ze _) (by omega);refine⟨(fun j hj hl=>by rw[hall j hj] at hl;cases hl),.inl ⟨hall c hcl,rfl,rfl,(fun s j hj hl=>?_),(fun s _=>rfl)⟩⟩;rw[hall j hj] at hl;cases hl
 ·intro listed o t i so hs hso _ hin hun hanci hT;obtain⟨hclo,hT⟩:=hT;have hi:i<l.length:=by omega
  obtain rfl:=K6 hso;have hset:∀j,(listed.setIfInBounds i true).getD j false=if j=i then true else listed.getD j false:=fun j=>Ga listed i j false (by omega)
  have hclo':∀j,j<l.length->(listed.setIfInBounds i true).getD j false=true->∀e∈anc.getD j [],(listed.setIfInBounds i true).getD e false=true:=by
   intro j hj hl e he;rw[hset] at hl ⊢
   split
   ·rfl
   ·split at hl
    ·rename_i e1;subst e1;exact hanci e he
    ·exact hclo j hj hl e he
  rcases kind i hi with hic|hp|hp
  ·-- the call
   subst hic;rcases hT with ⟨hA1,rfl,hmix⟩|⟨hB1,_⟩
   ·rw[hce];simp only[As,AD];have hlook:∀s∈(Av l i).looks,t[s]? = t1[s]?:=by
     intro s hs;obtain⟨k1,k2⟩:=agree listed t1 t i hi hun hanci hclo hmix s hs
     by_cases hj:∃j,j<l.length/\Az l j=some s
     ·obtain⟨j,hj1,hj2⟩:=hj;rcases k1 with k1|⟨j',g1,g2,g3,g4,g5⟩
      ·exact(k1 j hj1 hj2).2.2
      ·rw[g5];refine(hout s fun j2 q1 q2 q3=>?_).symm;have:=only s j' j2 g1 q1 g2 q3;subst this;obtain⟨w1,w2⟩:=preNe j2 q2;rcases g3 with g3|g3
       ·exact w1 g3
       ·have:BQ anc i j2=true:=by unfold BQ Cg;exact qz.2 g3
        rw[w2] at this;cases this
     ·rw[k2 fun j g1 g2=>hj ⟨j,g1,g2⟩,hout s fun j g1 _ g2=>hj ⟨j,g1,g2⟩]
    have hev:=evOf i t t1 hlook;rw[hce] at hev;rw[HY hev];refine Uc hcop (fun o2 v hq=>?_) h1;refine⟨hclo',.inr ⟨by rw[hset,if_pos rfl],o2,t1.set cd v,hq.1,by rw[zf];exact hl1,fun s hs=>?_,fun s j hj hp hd=>?_,fun s j hj hp hu hd=>?_,?_,?_,.inr rfl⟩⟩
    ·have hne:¬cd=s:=fun e=>hs i hi (by rw[hcd,e]);rw[zp hne];exact hout s fun j g1 _=>hs j g1
    ·have hne:¬cd=s:=fun e=>(preNe j hp).1 (only s i j hi hj (by rw[hcd,e]) hd);exact zp hne
    ·have hne:¬cd=s:=fun e=>postNe j hp (only s i j hi hj (by rw[hcd,e]) hd);rw[zp hne];refine hout s fun j2 q1 q2 q3=>?_;have:=only s j j2 hj q1 hd q3;subst this;rw[(preNe j2 q2).2] at hp;cases hp
    ·rw[S0 l (q:=BQ anc i) fun j hj=>?_]
     ·exact hq.2
     ·cases hpj:BQ anc i j with
      | false=>rfl
      | true=>
       have hl0:listed.getD j false=false:=by
        cases hq2:listed.getD j false with
        | false=>rfl
        | true=>
         have:=hclo j hj hq2 i (by unfold BQ Cg at hpj;exact qz.1 hpj);rw[hun] at this;cases this
       rw[hset,if_neg (postNe j hpj),hl0];rfl
    ·have hm2:EM l l.length listed (t1.set cd v) tm t:=by
      refine⟨hmix.1,fun s j hj hl hd=>?_,hmix.2.2⟩;have hne:¬cd=s:=fun e=>by
       have:=only s i j hi hj (by rw[hcd,e]) hd;subst this;rw[hun] at hl;cases hl
      rw[zp hne];exact hmix.2.1 s j hj hl hd
     exact hm2.step hi (by omega) hcd hdis hun (fun hlt=>qd (by omega)) (by rw[zf];exact hl1)
   ·rw[hun] at hB1;cases hB1
  ·-- what does not wait for it
   obtain⟨d,op,hso2,c1,c2⟩:=hcalm i hi hp;have hdi:Az l i=some d:=by rw[CF hi,hso2]
   rcases hT with ⟨hA1,rfl,hmix⟩|⟨hB1,o2,ts,q1,q2,q3,q4,q5,q6,hmix,q7⟩
   ·obtain⟨x,g1,g2⟩:=hval o t1 (fun s j _ _ _=>rfl) hs1 listed t i d op hi hp hso2 hun hanci hclo hmix;rw[hso2];simp only[As,AD];obtain⟨y,g3,_,rfl⟩:=GS c1 c2 g1;refine g3 _ ⟨hclo',.inl ⟨?_,rfl,hmix.step hi (by omega) hdi hdis hun g2 hl1⟩⟩;rw[hset,if_neg (Ne.symm (preNe i hp).1)];exact hA1
   ·obtain⟨t1',rfl,_,_,hs2⟩:=Jb _ _ _ _ FP hnd q1;obtain⟨x,g1,g2⟩:=hval o2 ts q4 hs2 listed t i d op hi hp hso2 hun hanci hclo hmix;have g1:Ah P op o t (fun o' z=>o'=o/\z=x):=by
     rcases q7 with q7|rfl
     ·cases ht:op.touch with
      | false=>exact QN ht g1
      | true=>
       have:=q7 i hi hp (by rw[hso2];exact ht);rw[hun] at this;cases this
     ·exact g1
    rw[hso2];simp only[As,AD];obtain⟨y,g3,_,rfl⟩:=GS c1 c2 g1;refine g3 _ ⟨hclo',.inr ⟨?_,o2,ts,q1,q2,q3,q4,fun s j hj hpj hu hd=>?_,?_,hmix.step hi (by omega) hdi hdis hun g2 q2,?_⟩⟩
    ·rw[hset,if_neg (Ne.symm (preNe i hp).1)];exact hB1
    ·refine q5 s j hj hpj ?_ hd;rw[hset] at hu
     split at hu
     ·cases hu
     ·exact hu
    ·rw[S0 l (q:=fun i=>BQ anc c i&&!listed.getD i false) fun j hj=>?_]
     ·exact q6
     ·rw[hset]
      split
      ·rename_i e;subst e;rw[(preNe j hp).2];rfl
      ·rfl
    ·rcases q7 with q7|q7
     ·left;intro j hj hpj htj;rw[hset]
      split
      ·rfl
      ·exact q7 j hj hpj htj
     ·exact .inr q7
  ·-- what waits for it
   rcases hT with ⟨hA1,_⟩|⟨hB1,o2,ts,q1,q2,q3,q4,q5,q6,hmix,q7⟩
   ·have:=hanci c (by unfold BQ Cg at hp;exact qz.1 hp);rw[hA1] at this;cases this
   have hcl2:(Av l i).op.isCall=false/\(Av l i).gd=none/\(∀j,j<i->BQ anc c j=true->j∈anc.getD i [])/\((Av l i).op.calm=true\/∀j,j<l.length->Ct anc c j=true->(Av l j).op.touch=true->j∈anc.getD i []):=by
    rcases hcls i hi with h0|h0
    ·exact absurd h0 (postNe i hp)
    ·rw[if_pos hp] at h0;simp only[Bool.and_eq_true,Bool.not_eq_true',Option.isNone_iff_eq_none,zj,qi,Bool.or_eq_true] at h0;obtain⟨⟨⟨h2,h3⟩,h4⟩,h5⟩:=h0;refine⟨h2,h3,fun j hj hpj=>?_,?_⟩
     ·rcases h4 j hj with h6|h6
      ·rw[hpj] at h6;cases h6
      ·unfold Cg at h6;exact qz.1 h6
     ·rcases h5 with h5|h5
      ·exact .inl h5
      ·right;intro j hj hpj htj;rcases h5 j hj with (h6|h6)|h6
       ·rw[hpj] at h6;cases h6
       ·rw[htj] at h6;cases h6
       ·unfold Cg at h6;exact qz.1 h6
   obtain⟨k1,k2,k3,k4⟩:=hcl2;have hrem:BZ l.length (fun i=>BQ anc c i&&!listed.getD i false) l=Av l i::BZ l.length (fun j=>BQ anc c j&&!(listed.setIfInBounds i true).getD j false) l:=by
    obtain⟨B,hB1,hB2,hB3⟩:=N5 l hi hp;rw[hB1 (fun i=>BQ anc c i&&!listed.getD i false) (by rw[hp,hun];rfl),hB2 (fun j=>BQ anc c j&&!(listed.setIfInBounds i true).getD j false) (by rw[hset,if_pos rfl];simp)];rw[NK l (n:=i) fun j hj=>?_,NK l (n:=i) fun j hj=>?_,qn,qn]
    ·congr 1
     refine hB3 _ _ fun j hj=>?_;rw[hset,if_neg (by omega)]
    ·cases hpj:BQ anc c j with
     | false=>rfl
     | true=>rw[hset,if_neg (by omega),hanci j (k3 j hj hpj)];rfl
    ·cases hpj:BQ anc c j with
     | false=>rfl
     | true=>rw[hanci j (k3 j hj hpj)];rfl
   rw[hrem] at q6;have hlook:∀s∈(Av l i).looks,t[s]? = ts[s]?:=by
    intro s hs;obtain⟨w1,w2⟩:=agree listed ts t i hi hun hanci hclo hmix s hs
    by_cases hj:∃j,j<l.length/\Az l j=some s
    ·obtain⟨j,hj1,hj2⟩:=hj;rcases w1 with w1|⟨j',g1,g2,g3,g4,g5⟩
     ·exact(w1 j hj1 hj2).2.2
     ·rw[g5];refine(q5 s j' g1 ?_ g4 g2).symm;rcases g3 with rfl|g3
      ·exact hp
      ·rcases htr j' g1 i hi with (h0|h0)|h0
       ·unfold Cg at h0;rw[qz.2 g3] at h0;cases h0
       ·rw[hp] at h0;cases h0
       ·exact h0
    ·rw[w2 fun j g1 g2=>hj ⟨j,g1,g2⟩,q3 s fun j g1 g2=>hj ⟨j,g1,g2⟩]
   have hev:=evOf i t ts hlook;have hdst:Az l i=(Av l i).dst:=CF hi;generalize hSo:Av l i=so at k1 k2 k4 q6 hev hdst ⊢;obtain⟨d,op,g⟩:=so;dsimp only at k1 k2 k4 hev hdst;subst k2;simp only[As] at q6 ⊢;rw[HY hev];have fin:∀o3 v,As P (BZ l.length (fun j=>BQ anc c j&&!(listed.setIfInBounds i true).getD j false) l) o3 (AD ts d v) (fun o t=>K .normal o t)->((∀j,j<l.length->Ct anc c j=true->(Av l j).op.touch=true->listed.getD j false=true)\/o3=o2) ->
     (∀j,j<l.length->(listed.setIfInBounds i true).getD j false=true->∀e∈anc.getD j [],(listed.setIfInBounds i true).getD e false=true)/\(((listed.setIfInBounds i true).getD c false=false/\o3=objs/\EM l l.length (listed.setIfInBounds i true) t1 tm (AD t d v))\/((listed.setIfInBounds i true).getD c false=true/\Bb (listed.setIfInBounds i true) o3 (AD t d v))):=by
    intro o3 v hw hq;have hsd:∀s,d≠some s->(AD ts d v)[s]? = ts[s]?:=by
     intro s hs
     cases d with
     | none=>rfl
     | some d=>exact zp (fun e=>hs (by rw[e]))
    refine⟨hclo',.inr ⟨?_,o2,AD ts d v,q1,?_,fun s hs=>?_,fun s j hj hpj hd=>?_,fun s j hj hpj hu hd=>?_,hw,?_,?_⟩⟩
    ·rw[hset,if_neg (Ne.symm (postNe i hp))];exact hB1
    ·cases d with
     | none=>exact q2
     | some d=>rw[AD,zf];exact q2
    ·rw[hsd s (by rw[<-hdst];exact hs i hi)];exact q3 s hs
    ·rw[hsd s (fun e=>?_)]
     ·exact q4 s j hj hpj hd
     ·rw[<-hdst] at e;have:=only s i j hi hj e hd;subst this;rw[(preNe j hpj).2] at hp;cases hp
    ·rw[hset] at hu
     split at hu
     ·cases hu
     ·rename_i hji;rw[hsd s (fun e=>?_)]
      ·exact q5 s j hj hpj hu hd
      ·rw[<-hdst] at e;exact hji (only s i j hi hj e hd)
    ·cases d with
     | none=>
      refine⟨hmix.1,fun s j hj hl hd=>?_,fun s hs=>?_⟩
      ·rw[hset] at hl
       split at hl
       ·rename_i e;subst e;rw[hdst] at hd;cases hd
       ·exact hmix.2.1 s j hj hl hd
      ·refine hmix.2.2 s fun j hj hl=>hs j hj ?_;rw[hset]
       split
       ·rfl
       ·exact hl
     | some d=>
      have hm2:EM l l.length listed (ts.set d v) tm t:=by
       refine⟨hmix.1,fun s j hj hl hd=>?_,hmix.2.2⟩;have hne:¬d=s:=fun e=>by
        subst e;have:=only d i j hi hj hdst hd;subst this;rw[hun] at hl;cases hl
       rw[zp hne];exact hmix.2.1 s j hj hl hd
      exact hm2.step hi (by omega) hdst hdis hun (fun hlt=>qd (by omega)) (by rw[zf];exact q2)
    ·rcases hq with hq|hq
     ·left;intro j hj hpj htj;rw[hset]
      split
      ·rfl
      ·exact hq j hj hpj htj
     ·exact .inr hq
   cases hc:op.calm with
   | true=>
    obtain⟨v,h2,h3⟩:=GS hc k1 q6;exact h2 _ (fin _ _ h3 q7)
   | false=>
    obtain⟨o3,v,h2,h3⟩:=Sj hc q6;refine h2 _ (fin _ _ h3 (.inl fun j hj hpj htj=>?_));rcases k4 with k4|k4
    ·rw[hc] at k4;cases k4
    ·exact hanci j (k4 j hj hpj htj)
 ·intro listed o t hs hall hT;have hall:∀j,j<l.length->listed.getD j false=true:=fun j hj=>hall j (by omega);rcases hT.2 with ⟨hA1,_⟩|⟨hB1,o2,ts,q1,q2,q3,q4,q5,q6,hmix,q7⟩
  ·rw[hall c hcl] at hA1;cases hA1
  ·rw[NK l fun j hj=>by rw[hall j hj];simp] at q6;have:t=ts:=by
    refine List.ext_getElem? fun s=>?_
    by_cases hj:∃j,j<l.length/\Az l j=some s
    ·obtain⟨j,hj1,hj2⟩:=hj;exact hmix.2.1 s j hj1 (hall j hj1) hj2
    ·rw[hmix.2.2 s fun j g1 _ g3=>hj ⟨j,g1,g3⟩,q3 s fun j g1 g3=>hj ⟨j,g1,g3⟩]
   rw[this];exact q6
 ·simp only[xl,BB,hap0,CN,and_self]
end
def Bu (l:List SO) (anc:List (List Nat)) (i:Nat):Nat:=2*((zi l.length).filter fun j=>C0 (Av l j)&&Cg anc i j).length+(if C0 (Av l i)=true then 1 else 0)
def Bh (l:List SO):List Nat:=(zi l.length).filter fun j=>C0 (Av l j)
def Mb (l:List SO) (deps anc:List (List Nat)):Bool :=
 (zi l.length).all (fun i=>(deps.getD i []).all (fun e=>decide (e<i))&&(anc.getD i []).all fun j=>(deps.getD i []).contains j||(deps.getD i []).any fun e=>(anc.getD e []).contains j) &&
 (zi l.length).all (fun i=>Az l i==none||(zi l.length).all fun j=>i==j||Az l j != Az l i) &&
 (zi l.length).all (fun i=>(Av l i).looks.all fun t=>(zi l.length).all fun j=>j==i||Az l j != some t||(anc.getD i []).contains j||(anc.getD j []).contains i) &&
 (zi l.length).all (fun i=>C0 (Av l i)||EE (Av l i)) &&
 (zi l.length).all (fun i=>(zi l.length).all fun j=>!Cg anc i j||decide (Bu l anc j<=Bu l anc i)) &&
 (zi l.length).all (fun c=>!C0 (Av l c)||(zi l.length).all fun j=>j==c||decide (Bu l anc j<Bu l anc c)||Cg anc j c) &&
 (zi (Bh l).length).all (fun k=>Bu l anc ((Bh l).getD k 0)==2*k+1) &&
 (zi l.length).all (fun i=>decide (Bu l anc i<=2*(Bh l).length)&&(!C0 (Av l i)||i==(Bh l).getD (Bu l anc i / 2) 0))
def BG (l:List SO) (anc:List (List Nat)) (k:Nat):List SO:=BZ l.length (fun i=>Bu l anc i==2*k) l
def Cl (P:Program) [Tabs P]:List (List SO×List AV×List AV)->List OB->Prop
 | [],_=>True
 | e::r,o=>As P e.1 o e.2.1 (fun _ x=>x=e.2.2)/\Cl P r o
def Dh (P:Program) [Tabs P]:List (List SO×SO)->List (List SO×List AV×List AV)->List SO->List OB->List AV->(List OB->List AV->Prop)->Prop
 | [],_,last,o,t,K=>As P last o t K
 | (L,c)::r,hist,last,o,t,K=>As P L o t fun _ u=>As P [c] o u fun o' t'=>Cl P ((L,t,u)::hist) o'/\Dh P r ((L,t,u)::hist) last o' t' K
def DL (l:List SO) (anc:List (List Nat)):Nat->Nat->List (List SO×SO)
 | 0,_=>[]
 | r+1,k=>(BG l anc k,Av l ((Bh l).getD k 0))::DL l anc r (k+1)
section
variable {P:Program} [Tabs P]
theorem Sv:∀{h:List (List SO×List AV×List AV)} {o:List OB},Cl P h o->∀e∈h,As P e.1 o e.2.1 (fun _ x=>x=e.2.2)
 | [],o,_,e,he=>by cases he
 | x::h,o,hr,e,he=>by
  rcases zv.1 he with rfl|he
  ·exact hr.1
  ·exact Sv hr.2 e he
theorem Jo:∀(pre:List SO) (objs:List OB) (tm:List AV) (F:List OB->List AV->Prop),(∀so∈pre,EE so=true)->As P pre objs tm F->∃u,F objs u/\As P pre objs tm (fun _ x=>x=u)
 | [],objs,tm,F,_,h=>⟨tm,h,rfl⟩
 | so::pre,objs,tm,F,hc,h=>by
  obtain⟨d,op,rfl,c1,c2⟩:=Jv (hc so (by simp));simp only[As] at h ⊢;obtain⟨v,h1,h2⟩:=GS c1 c2 h;obtain⟨u,k1,k2⟩:=Jo pre objs _ F (fun so hs=>hc so (qx _ hs)) h2;exact⟨u,k1,h1 _ k2⟩
end
abbrev D4:=List (List SO×List AV×List AV)
def lP (l:List SO) (anc:List (List Nat)) (tm:List AV) (e:List SO×List AV×List AV) (u:List AV) (j:Nat):Prop:=e.1=BG l anc j/\e.2.1.length=tm.length/\e.2.2.length=tm.length/\(∀s i,i<l.length->Az l i=some s->Bu l anc i<2*j->e.2.1[s]? = u[s]?)/\(∀s,(∀i,i<l.length->Bu l anc i<2*j->Az l i≠some s)->e.2.1[s]? = tm[s]?)/\∀s i,i<l.length->Az l i=some s->Bu l anc i=2*j->e.2.2[s]? = u[s]?
def rQ (l:List SO) (anc:List (List Nat)) (tm:List AV) (k:Nat) (hist:D4) (u:List AV):Prop:=u.length=tm.length/\(∀j,j<=k->∃e∈hist,lP l anc tm e u j)/\∀s,(∀i,i<l.length->Bu l anc i<=2*k->Az l i≠some s)->u[s]? = tm[s]?
def Fw (P:Program) [Tabs P] (l:List SO) (anc:List (List Nat)) (m:Nat) (tm:List AV) (W:Nat->D4->List OB->List AV->Prop) (listed:Array Bool) (o:List OB) (t:List AV):Prop :=
 (∀j,j<l.length->listed.getD j false=true->∀e∈anc.getD j [],listed.getD e false=true)/\∃k hist u,k<=m/\(∀j,j<m->listed.getD ((Bh l).getD j 0) false=decide (j<k))/\Cl P hist o/\rQ l anc tm k hist u/\W k hist o u/\EM l l.length listed u tm t
def El (l:List SO) (anc:List (List Nat)):Bool :=
 (zi l.length).all (fun i=>Az l i==none||(zi l.length).all fun j=>i==j||Az l j != Az l i) &&
 (zi l.length).all (fun i=>(Av l i).looks.all fun t=>(zi l.length).all fun j=>j==i||Az l j != some t||(anc.getD i []).contains j||(anc.getD j []).contains i) &&
 (zi l.length).all (fun i=>C0 (Av l i)||EE (Av l i)) &&
 (zi l.length).all (fun i=>(zi l.length).all fun j=>!Cg anc i j||decide (Bu l anc j<=Bu l anc i)) &&
 (zi l.length).all (fun c=>!C0 (Av l c)||(zi l.length).all fun j=>j==c||decide (Bu l anc j<Bu l anc c)||Cg anc j c) &&
 (zi (Bh l).length).all (fun k=>Bu l anc ((Bh l).getD k 0)==2*k+1) &&
 (zi l.length).all (fun i=>decide (Bu l anc i<=2*(Bh l).length)&&(!C0 (Av l i)||i==(Bh l).getD (Bu l anc i / 2) 0)) &&
 (zi l.length).all (fun i=>(anc.getD i []).all fun j=>decide (j<i))
section
variable {P:Program} [Tabs P]
theorem KG (l:List SO) (anc:List (List Nat)) (hok:El l anc=true) (m:Nat) (hmm:(Bh l).length=m) (tm:List AV) (W:Nat->D4->List OB->List AV->Prop)
  (hWs:∀(k:Nat) (hist:D4) (o:List OB) (u:List AV),k<m->W k hist o u->As P [Av l ((Bh l).getD k 0)] o u (fun o' t'=>Cl P hist o'/\∃u',As P (BG l anc (k+1)) o' t' (fun _ x=>x=u')/\W (k+1) ((BG l anc (k+1),t',u')::hist) o' u')) :
  (∀(objs:List OB) (u:List AV),As P (BG l anc 0) objs tm (fun _ x=>x=u)->W 0 [(BG l anc 0,tm,u)] objs u->∀listed:Array Bool,(∀j,j<l.length->listed.getD j false=false)->Fw P l anc m tm W listed objs tm) /\
  (∀(listed:Array Bool) (o:List OB) (t:List AV) (i:Nat),l.length<=listed.size->i<l.length->listed.getD i false=false->(∀j∈anc.getD i [],listed.getD j false=true)->Fw P l anc m tm W listed o t->As P [Av l i] o t (fun o2 t2=>Fw P l anc m tm W (listed.setIfInBounds i true) o2 t2)) /\
  (∀(listed:Array Bool) (o:List OB) (t:List AV),(∀j,j<l.length->listed.getD j false=true)->Fw P l anc m tm W listed o t->∃hist,W m hist o t):=by
 unfold El at hok;simp only[Bool.and_eq_true] at hok;obtain⟨⟨⟨⟨⟨⟨⟨hd2,hd3⟩,hkd⟩,hrk⟩,hcl⟩,hci⟩,hbd⟩,hlt⟩:=hok;simp only[Bool.and_eq_true,decide_eq_true_eq,zj,qi,Bool.or_eq_true,bne_iff_ne,ne_eq,beq_iff_eq,xk,qz,Bool.not_eq_true'] at hd2 hd3 hkd hrk hcl hci hbd hlt;have halt:∀i,i<l.length->∀j∈anc.getD i [],j<i:=fun i hi j hj=>hlt i hi j hj;have ancIff:∀i j,Cg anc i j=true↔j∈anc.getD i []:=fun i j=>by unfold Cg;exact qz
 have hdis:∀a b,a<l.length->b<l.length->a≠b->Az l a≠none->Az l a≠Az l b:=fun a b ha hb hab hn e=>by
  rcases hd2 a ha with h0|h0
  ·exact hn h0
  ·rcases h0 b hb with h1|h1
   ·exact hab h1
   ·exact h1 e.symm
 have only:∀s j j',j<l.length->j'<l.length->Az l j=some s->Az l j'=some s->j'=j:=by
  intro s j j' h1 h2 h3 h4
  by_cases e:j'=j
  ·exact e
  ·exact absurd (h4.trans h3.symm) (hdis j' j h2 h1 e (by rw[h4];simp))
 have hrk':∀i j,i<l.length->j<l.length->j∈anc.getD i []->Bu l anc j<=Bu l anc i:=by
  intro i j hi hj hm;rcases hrk i hi j hj with h0|h0
  ·rw[(ancIff i j).2 hm] at h0;cases h0
  ·exact h0
 have evenOdd:∀i,Bu l anc i % 2=if C0 (Av l i)=true then 1 else 0:=by
  intro i;unfold Bu;split<;>omega
 have calmOf:∀i,i<l.length->∀j,Bu l anc i=2*j->∃d op,Av l i=⟨some d,op,none⟩/\op.calm=true/\op.isCall=false:=by
  intro i hi j hj;have:=evenOdd i;rw[hj] at this;have hn:¬C0 (Av l i)=true:=fun h=>by rw[if_pos h] at this;omega
  rcases hkd i hi with h0|h0
  ·exact absurd h0 hn
  ·exact Jv h0
 have lvCalm:∀k,∀so∈BG l anc k,EE so=true:=by
  intro k so hs;obtain⟨i,hi,hp,rfl⟩:=Hs.1 hs;have hp:Bu l anc i=2*k:=by simpa using hp
  have:=evenOdd i;have hn:¬C0 (Av l i)=true:=fun h=>by rw[if_pos h] at this;omega
  rcases hkd i hi with h0|h0
  ·exact absurd h0 hn
  ·exact h0
 have lvNd:∀k,((BG l anc k).map (·.dst)).Nodup:=by
  intro k;unfold BG BZ;rw[List.map_map];have h0:((zi l.length).filter (fun i=>Bu l anc i==2*k)).Nodup:=List.nodup_range.sublist List.filter_sublist;refine List.Pairwise.map _ ?_ (List.Pairwise.and_mem.1 h0);rintro a b ⟨ha,hb,hab⟩ e;rw[jv,qi] at ha hb;obtain⟨d,op,e1,_⟩:=calmOf a ha.1 k (by simpa using ha.2);refine hdis a b ha.1 hb.1 hab ?_ ?_
  ·rw[CF ha.1,e1];simp
  ·rw[CF ha.1,CF hb.1];exact e
 simp only[hmm] at hci hbd;have cMem:∀k,k<m->(Bh l).getD k 0<l.length/\C0 (Av l ((Bh l).getD k 0))=true:=by
  intro k hk;have h0:(Bh l).getD k 0∈Bh l:=by
   rw[jz,zq (by omega)];exact qe _
  unfold Bh at h0 ⊢;rw[jv,qi] at h0;exact h0
 let ci:Nat->Nat:=fun k=>(Bh l).getD k 0
 have ciRk:∀k,k<m->Bu l anc (ci k)=2*k+1:=fun k hk=>hci k hk;have callIs:∀i,i<l.length->C0 (Av l i)=true->∃k,k<m/\i=ci k:=by
  intro i hi hc;have h1:=(hbd i hi).1;have h2:=evenOdd i;rw[if_pos hc] at h2;rcases(hbd i hi).2 with h0|h0
  ·rw[hc] at h0;cases h0
  ·exact⟨Bu l anc i / 2,by omega,h0⟩
 have level:∀(k:Nat) (o:List OB) (tb u:List AV),tb.length=tm.length->As P (BG l anc k) o tb (fun _ x=>x=u)->u.length=tm.length/\∀s,(∀i,i<l.length->Bu l anc i=2*k->Az l i≠some s)->u[s]? = tb[s]?:=by
  intro k o tb u htb hu;obtain⟨u',rfl,h2,h3,_⟩:=Jb _ _ _ _ (lvCalm k) (lvNd k) hu;refine⟨h2.trans htb,fun s hs=>h3 s fun so hso e=>?_⟩;obtain⟨i,g1,g2,rfl⟩:=Hs.1 hso;exact hs i g1 (by simpa using g2) (by rw[CF g1];exact e)
 have agree:∀(listed:Array Bool) (x1 t:List AV) (i:Nat),i<l.length->listed.getD i false=false->(∀j∈anc.getD i [],listed.getD j false=true)->(∀j,j<l.length->listed.getD j false=true->∀e∈anc.getD j [],listed.getD e false=true)->EM l l.length listed x1 tm t ->
   ∀s∈(Av l i).looks,((∀j,j<l.length->Az l j=some s->listed.getD j false=true/\j∈anc.getD i []/\t[s]? = x1[s]?)\/(∃j,j<l.length/\Az l j=some s/\(j=i\/i∈anc.getD j [])/\listed.getD j false=false/\t[s]? = tm[s]?))/\((∀j,j<l.length->Az l j≠some s)->t[s]? = tm[s]?):=by
  intro listed x1 t i hi hun hanc hclo hmix s hs;refine⟨?_,fun hno=>hmix.2.2 s fun j g1 _=>hno j g1⟩
  by_cases hj:∃j,j<l.length/\Az l j=some s
  ·obtain⟨j,hj1,hj2⟩:=hj;have tmcase:listed.getD j false=false->t[s]? = tm[s]?:=fun hu=>
    hmix.2.2 s fun j' g1 g2 g3=>by rw[only s j j' hj1 g1 hj2 g3,hu] at g2;cases g2
   rcases hd3 i hi s hs j hj1 with ((g|g)|g)|g
   ·subst g;exact .inr ⟨j,hj1,hj2,.inl rfl,hun,tmcase hun⟩
   ·exact absurd hj2 g
   ·left;intro j' g1 g2;obtain rfl:=only s j j' hj1 g1 hj2 g2;exact⟨hanc _ g,g,hmix.2.1 s _ hj1 (hanc _ g) hj2⟩
   ·have hu:listed.getD j false=false:=by
     cases hq:listed.getD j false with
     | false=>rfl
     | true=>
      have:=hclo j hj1 hq i g;rw[hun] at this;cases this
    exact .inr ⟨j,hj1,hj2,.inr g,hu,tmcase hu⟩
  ·exact .inl fun j g1 g2=>absurd ⟨j,g1,g2⟩ hj
 have evOf:∀(i:Nat) (t ti:List AV),(∀s∈(Av l i).looks,t[s]? = ti[s]?)->∀x∈(Av l i).op.svs,x.ev t=x.ev ti:=by
  intro i t ti hs x hx
  cases x with
  | c v=>rfl
  | t s=>
   simp only[SV.ev];rw[hs s (xj _ (List.mem_filterMap.2 ⟨_,hx,rfl⟩))]
 have hge:∀i j,i<l.length->j<l.length->(j=i\/i∈anc.getD j [])->Bu l anc i<=Bu l anc j:=by
  rintro i j hi hj (rfl|h)
  ·exact zd _
  ·exact hrk' j i hj hi h
 refine⟨?_,?_,?_⟩
 ·intro objs u hu hW listed hall;obtain⟨q1,q3⟩:=level 0 objs tm u rfl hu;refine⟨(fun j hj hl=>by rw[hall j hj] at hl;cases hl),0,[(BG l anc 0,tm,u)],u,ze _,(fun j hj=>by rw[hall _ (cMem j hj).1];symm;exact decide_eq_false (by omega)),⟨hu,trivial⟩,⟨q1,?_,?_⟩,hW,rfl,(fun s j hj hl=>?_),(fun s _=>rfl)⟩
  ·intro j hj;obtain rfl:j=0:=by omega
   exact⟨_,jp ..,rfl,rfl,q1,(fun s i hi hd hr=>by omega),(fun s _=>rfl),fun s i hi hd hr=>rfl⟩
  ·intro s hs;exact q3 s fun i hi hr=>hs i hi (by omega)
  ·rw[hall j hj] at hl;cases hl
 ·intro listed o t i hs hi hun hanci hT;obtain⟨hclo,k,hist,u,hk,hck,hrc,⟨hul,hent,hout⟩,hcont,hmix⟩:=hT;have hset:∀j,(listed.setIfInBounds i true).getD j false=if j=i then true else listed.getD j false:=fun j=>Ga listed i j false (by omega)
  have hclo':∀j,j<l.length->(listed.setIfInBounds i true).getD j false=true->∀e∈anc.getD j [],(listed.setIfInBounds i true).getD e false=true:=by
   intro j hj hl e he;rw[hset] at hl ⊢
   split
   ·rfl
   ·split at hl
    ·rename_i e1;subst e1;exact hanci e he
    ·exact hclo j hj hl e he
  have low:∀j,j<l.length->(∀e∈anc.getD j [],listed.getD e false=true)->k<m->j≠ci k->Bu l anc j<=2*k:=by
   intro j hj ha hkm hne;rcases hcl (ci k) (cMem k hkm).1 with h0|h0
   ·rw[(cMem k hkm).2] at h0;cases h0
   ·rcases h0 j hj with (h1|h1)|h1
    ·exact absurd h1 hne
    ·rw[ciRk k hkm] at h1;omega
    ·have:=ha _ ((ancIff j _).1 h1);rw[hck k hkm] at this;have:=of_decide_eq_true this;omega
  by_cases hcc:C0 (Av l i)=true
  ·-- a call
   obtain⟨k',hk',rfl⟩:=callIs i hi hcc;have hkk:k'=k:=by
    have e1:=hck k' hk';rw[hun] at e1;have e1:=of_decide_eq_false e1.symm;rcases zo k k' with h0|h0
    ·have h1:=low (ci k') hi hanci (by omega) (fun e=>by
      have a1:=ciRk k' hk';have a2:=ciRk k (by omega);rw[e] at a1;omega)
     rw[ciRk k' hk'] at h1;omega
    ·omega
   subst hkk;have hcont:=hWs k' hist o u hk' hcont;obtain⟨cd,cop,hce,hcop⟩:=PM hcc;have hcd:Az l (ci k')=some cd:=by rw[CF hi,hce]
   have hlook:∀s∈(Av l (ci k')).looks,t[s]? = u[s]?:=by
    intro s hs;obtain⟨w1,w2⟩:=agree listed u t (ci k') hi hun hanci hclo hmix s hs
    by_cases hj:∃j,j<l.length/\Az l j=some s
    ·obtain⟨j,hj1,hj2⟩:=hj;rcases w1 with w1|⟨j',g1,g2,g3,g4,g5⟩
     ·exact(w1 j hj1 hj2).2.2
     ·rw[g5];refine(hout s fun i' q1 q2 q3=>?_).symm;have:=only s j' i' g1 q1 g2 q3;subst this;have:=hge (ci k') i' hi q1 g3;rw[ciRk k' hk'] at this;omega
    ·rw[w2 fun j g1 g2=>hj ⟨j,g1,g2⟩,hout s fun j g1 _ g2=>hj ⟨j,g1,g2⟩]
   have hev:=evOf (ci k') t u hlook;rw[show Av l ((Bh l).getD k' 0)=_ from hce] at hcont;rw[hce] at hev ⊢;simp only[As,AD] at hcont ⊢;rw[HY hev];refine PZ hcop (fun o2 v hq=>?_) hcont;obtain⟨hq1,u',hq2,hq3⟩:=hq;have hub:∀s,(∀i,i<l.length->Bu l anc i<2*(k'+1)->Az l i≠some s)->(u.set cd v)[s]? = tm[s]?:=by
    intro s hs;have hne:¬cd=s:=fun e=>hs (ci k') hi (by rw[ciRk k' hk'];omega) (by rw[hcd,e]);rw[zp hne];exact hout s fun i' g1 g2=>hs i' g1 (by omega)
   obtain⟨q1,q3⟩:=level (k'+1) o2 (u.set cd v) u' (by rw[zf];exact hul) hq2;have hkeep:∀s i',i'<l.length->Az l i'=some s->Bu l anc i'<=2*k'->u'[s]? = u[s]?:=by
    intro s i' g1 g2 g3;rw[q3 s fun i2 w1 w2 w3=>by
     have:=only s i' i2 g1 w1 g2 w3;subst this;omega]
    refine zp fun e=>?_;have:=only s i' (ci k') g1 hi g2 (by rw[hcd,e]);rw[<-this,ciRk k' hk'] at g3;omega
   refine⟨hclo',k'+1,(BG l anc (k'+1),u.set cd v,u')::hist,u',by omega,fun j hj=>?_,⟨hq2,hq1⟩,⟨q1,fun j hj=>?_,fun s hs=>?_⟩,hq3,?_⟩
   ·rw[hset]
    by_cases e:j=k'
    ·subst e;rw[if_pos rfl];symm;exact decide_eq_true (by omega)
    ·rw[if_neg (fun h=>e (by
      have a1:Bu l anc ((Bh l).getD j 0)=2*j+1:=ciRk j hj;have a2:=ciRk k' hk';rw[h] at a1;omega)),hck j hj]
     congr 1;apply propext;omega
   ·by_cases e:j=k'+1
    ·subst e;refine⟨_,jp ..,rfl,by rw[zf];exact hul,q1,fun s i' g1 g2 g3=>?_,hub,fun s i' g1 g2 g3=>rfl⟩;exact(q3 s fun i2 w1 w2 w3=>by
      have:=only s i' i2 g1 w1 g2 w3;subst this;omega).symm
    ·obtain⟨en,h1,h2,h3,h4,h5,h6,h7⟩:=hent j (by omega);refine⟨en,qx _ h1,h2,h3,h4,fun s i' g1 g2 g3=>?_,h6,fun s i' g1 g2 g3=>?_⟩
     ·rw[h5 s i' g1 g2 g3,hkeep s i' g1 g2 (by omega)]
     ·rw[h7 s i' g1 g2 g3,hkeep s i' g1 g2 (by omega)]
   ·rw[q3 s fun i' g1 g2=>hs i' g1 (by omega)];exact hub s fun i' g1 g2=>hs i' g1 (by omega)
   ·have hm2:EM l l.length listed u' tm t:=by
     refine⟨hmix.1,fun s j hj hl hd=>?_,hmix.2.2⟩;have hjl:=low j hj (hclo j hj hl) hk' (fun e=>by rw[e,hun] at hl;cases hl);rw[hkeep s j hj hd hjl];exact hmix.2.1 s j hj hl hd
    refine hm2.step hi (by omega) hcd hdis hun (fun hlt=>?_) q1;rw[q3 cd fun i2 w1 w2 w3=>by
     have:=only cd (ci k') i2 hi w1 hcd w3;subst this;rw[ciRk k' hk'] at w2;omega]
    exact qd (by omega)
  ·-- a calm operation
   have hrke:∃j,Bu l anc i=2*j:=by
    have:=evenOdd i;rw[if_neg hcc] at this;exact⟨Bu l anc i / 2,by omega⟩
   obtain⟨j,hj⟩:=hrke;have hjk:j<=k:=by
    by_cases hkm:k=m
    ·have:=(hbd i hi).1;omega
    ·have h1:=low i hi hanci (by omega) (fun e=>by
      have:=ciRk k (by omega);rw[<-e] at this;omega)
     omega
   obtain⟨d,op,hso2,c1,c2⟩:=calmOf i hi j hj;have hdi:Az l i=some d:=by rw[CF hi,hso2]
   obtain⟨⟨L,b,x⟩,he1,rfl,he3,he4,he5,he6,he7⟩:=hent j hjk;simp only at he3 he4 he5 he6 he7;have hrun:=Sv hrc _ he1;simp only at hrun;obtain⟨x',rfl,hxl,hxo,hseq⟩:=Jb _ _ _ _ (lvCalm j) (lvNd j) hrun;have hp:(fun i=>Bu l anc i==2*j) i=true:=by simpa using hj
   obtain⟨B,hB1,_,_⟩:=N5 (p:=fun i=>Bu l anc i==2*j) l hi hp;obtain⟨ti,v,m1,m2,m3,m4⟩:=hseq _ _ _ (hB1 _ hp);have hA:∀a,a∈BZ i (fun i=>Bu l anc i==2*j) l↔∃j',j'<i/\Bu l anc j'=2*j/\Av l j'=a:=fun a=>by
    rw[Hs];simp
   have hlook:∀s∈(Av l i).looks,t[s]? = ti[s]?:=by
    intro s hs;obtain⟨w1,w2⟩:=agree listed u t i hi hun hanci hclo hmix s hs
    by_cases hjx:∃j,j<l.length/\Az l j=some s
    ·obtain⟨j',hj1,hj2⟩:=hjx;rcases w1 with w1|⟨j2,g1,g2,g3,g4,g5⟩
     ·obtain⟨_,q2,q3⟩:=w1 j' hj1 hj2;have hji:=halt i (by omega) j' q2;have hr:=hrk' i j' hi hj1 q2;rw[q3]
      by_cases e:Bu l anc j'=2*j
      ·rw[m2 s ⟨_,(hA _).2 ⟨j',hji,e,rfl⟩,by rw[<-CF hj1];exact hj2⟩];exact(he7 s j' hj1 hj2 e).symm
      ·rw[m3 s fun a ha e2=>by
        obtain⟨j3,z1,z2,rfl⟩:=(hA a).1 ha;have:=only s j' j3 hj1 (by omega) hj2 (by rw[CF (by omega)];exact e2);subst this;exact e z2]
       exact(he5 s j' hj1 hj2 (by omega)).symm
     ·have hr:=hge i j2 hi g1 g3;rw[g5];rw[m3 s fun a ha e2=>by
       obtain⟨j3,z1,z2,rfl⟩:=(hA a).1 ha;have:=only s j2 j3 g1 (by omega) g2 (by rw[CF (by omega)];exact e2);subst this;rcases g3 with rfl|g3
       ·omega
       ·have:=halt j3 (by omega) i g3;omega]
      refine(he6 s fun i2 z1 z2 z3=>?_).symm;have:=only s j2 i2 g1 z1 g2 z3;subst this;omega
    ·rw[w2 fun j g1 g2=>hjx ⟨j,g1,g2⟩];rw[m3 s fun a ha e2=>by
      obtain⟨j3,z1,z2,rfl⟩:=(hA a).1 ha;exact hjx ⟨j3,by omega,by rw[CF (by omega)];exact e2⟩]
     exact(he6 s fun i2 z1 _ z3=>hjx ⟨i2,z1,z3⟩).symm
   have hev:=evOf i t ti hlook;have hv:d<tm.length->u[d]? = some v:=fun hlt=>by
    rw[<-he7 d i hi hdi hj];exact m4 d (by rw[hso2]) (by omega)
   rw[hso2] at hev m1 ⊢;rw[<-HY hev] at m1;simp only[As,AD];obtain⟨y,g3,_,rfl⟩:=GS c1 c2 m1;refine g3 _ ⟨hclo',k,hist,u,hk,fun j' hj'=>?_,hrc,⟨hul,hent,hout⟩,hcont,hmix.step hi (by omega) hdi hdis hun hv hul⟩;rw[hset,if_neg (fun e=>hcc (by rw[<-e];exact(cMem j' hj').2))];exact hck j' hj'
 ·intro listed o t hall hT;obtain⟨hclo,k,hist,u,hk,hck,hrc,⟨hul,hent,hout⟩,hcont,hmix⟩:=hT;have hkm:k=m:=by
   rcases zo k m with h0|h0
   ·have:=hck k h0;rw[hall _ (cMem k h0).1] at this;have:=of_decide_eq_true this.symm;omega
   ·omega
  subst hkm;have:t=u:=by
   refine List.ext_getElem? fun s=>?_
   by_cases hj:∃j,j<l.length/\Az l j=some s
   ·obtain⟨j,hj1,hj2⟩:=hj;exact hmix.2.1 s j hj1 (hall j hj1) hj2
   ·rw[hmix.2.2 s fun j g1 _ g3=>hj ⟨j,g1,g3⟩,hout s fun j g1 _ g3=>hj ⟨j,g1,g3⟩]
  rw[this];exact⟨hist,hcont⟩
def CY (d:Nat) (p:AV) (h:D4):D4:=h.map fun e=>(e.1,e.2.1.set d p,e.2.2.set d p)
theorem Iq {a b:List AV} {d s:Nat} {p:AV} (hl:a.length=b.length) (h:s≠d->a[s]? = b[s]?):(a.set d p)[s]? = (b.set d p)[s]?:=by
 by_cases e:s=d
 ·subst e;rw[zb,zb,hl,if_pos rfl,if_pos rfl]
 ·rw[zp (fun h=>e h.symm),zp (fun h=>e h.symm)];exact h e
theorem YU {l:List SO} {anc:List (List Nat)} {m:Nat} {tm:List AV} {W0 W1:Nat->D4->List OB->List AV->Prop} {listed:Array Bool} {o:List OB} {t:List AV} {d:Nat} {p:AV} {B:OB} (hd:∀i,i<l.length->Az l i≠some d)
  (hW:∀(k:Nat) (hist:D4) (u:List AV),W0 k hist o u->Cl P (CY d p hist) (o++[B])/\W1 k (CY d p hist) (o++[B]) (u.set d p)) (h:Fw P l anc m tm W0 listed o t):Fw P l anc m (tm.set d p) W1 listed (o++[B]) (t.set d p):=by
 obtain⟨hclo,k,hist,u,hk,hck,hrc,⟨hul,hent,hout⟩,hw,hmix⟩:=h;obtain⟨h1,h2⟩:=hW k hist u hw;refine⟨hclo,k,CY d p hist,u.set d p,hk,hck,h1,⟨by rw[zf,zf];exact hul,fun j hj=>?_,fun s hs=>Iq hul fun _=>hout s hs⟩,h2,?_⟩
 ·obtain⟨e,he,q1,q2,q3,q4,q5,q6⟩:=hent j hj;refine⟨(e.1,e.2.1.set d p,e.2.2.set d p),jc.2 ⟨e,he,rfl⟩,q1,by rw[zf,zf];exact q2,by rw[zf,zf];exact q3,fun s i hi hds hr=>?_,fun s hs=>Iq q2 fun _=>q5 s hs,fun s i hi hds hr=>?_⟩
  ·exact Iq (q2.trans hul.symm) fun _=>q4 s i hi hds hr
  ·exact Iq (q3.trans hul.symm) fun _=>q6 s i hi hds hr
 ·obtain⟨m1,m2,m3⟩:=hmix;exact⟨by rw[zf,zf];exact m1,fun s j hj hl hds=>Iq (m1.trans hul.symm) fun _=>m2 s j hj hl hds,fun s hs=>Iq m1 fun _=>m3 s hs⟩
section
variable (P)
def E6 (d:Nat) (T:TypeId) (z:List AV):List (List SO×SO)->D4->List SO->List OB->List AV->(List OB->List AV->Prop)->Prop
 | [],hist,last,o,t,K=>As P last o t fun _ u=>Cl P (CY d (.p o.length 0) ((last,t,u)::hist)) (o++[.box T z])/\K (o++[.box T z]) (u.set d (.p o.length 0))
 | (L,c)::r,hist,last,o,t,K=>As P L o t fun _ u=>
  (Cl P (CY d (.p o.length 0) ((L,t,u)::hist)) (o++[.box T z])/\As P [c] (o++[.box T z]) (u.set d (.p o.length 0)) fun o' t'=>Cl P (CY d (.p o.length 0) ((L,t,u)::hist)) o'/\Dh P r (CY d (.p o.length 0) ((L,t,u)::hist)) last o' t' K) /\
  As P [c] o u fun o' t'=>Cl P ((L,t,u)::hist) o'/\E6 d T z r ((L,t,u)::hist) last o' t' K
end
theorem KM {l:List SO} {anc:List (List Nat)} (hok:El l anc=true) (k:Nat):∀so∈BG l anc k,EE so=true:=by
 intro so hs;unfold El at hok;simp only[Bool.and_eq_true] at hok;obtain⟨⟨⟨⟨⟨⟨⟨_,_⟩,hkd⟩,_⟩,_⟩,_⟩,_⟩,_⟩:=hok;simp only[zj,qi,Bool.or_eq_true] at hkd;obtain⟨i,hi,hp,rfl⟩:=Hs.1 hs;have hp:Bu l anc i=2*k:=by simpa using hp
 have hn:¬C0 (Av l i)=true:=fun h=>by unfold Bu at hp;rw[if_pos h] at hp;omega
 rcases hkd i hi with h0|h0
 ·exact absurd h0 hn
 ·exact h0
theorem Rg {l:List SO} {k:Nat} (hk:k<(Bh l).length):C0 (Av l ((Bh l).getD k 0))=true:=by
 have h0:(Bh l).getD k 0∈Bh l:=by
  rw[jz,zq hk];exact qe _
 unfold Bh at h0 ⊢;rw[jv,qi] at h0;exact h0.2
theorem JW {so:SO} (h:C0 so=true\/EE so=true) {o:List OB} {t:List AV} {F F':List OB->List AV->Prop} (hk:∀o t,F o t->F' o t) (hw:As P [so] o t F):As P [so] o t F':=by
 rcases h with h|h
 ·obtain⟨d,op,rfl,h1⟩:=PM h;simp only[As] at hw ⊢;exact PZ h1 (fun o v hq=>hk _ _ hq) hw
 ·obtain⟨d,op,rfl,c1,c2⟩:=Jv h;simp only[As] at hw ⊢;obtain⟨v,h1,h2⟩:=GS c1 c2 hw;exact h1 _ (hk _ _ h2)
section
variable (P)
def Dq (l:List SO) (anc:List (List Nat)) (m:Nat) (Kf:List OB->List AV->Prop) (k:Nat) (hist:D4) (o:List OB) (u:List AV):Prop :=
 if k=m then Kf o u else As P [Av l ((Bh l).getD k 0)] o u fun o' t'=>Cl P hist o'/\Dh P (DL l anc (m - k - 1) (k+1)) hist (BG l anc m) o' t' Kf
def I2 (d:Nat) (T:TypeId) (z:List AV) (l:List SO) (anc:List (List Nat)) (m:Nat) (Kf:List OB->List AV->Prop) (k:Nat) (hist:D4) (o:List OB) (u:List AV):Prop :=
 (Cl P (CY d (.p o.length 0) hist) (o++[.box T z])/\Dq P l anc m Kf k (CY d (.p o.length 0) hist) (o++[.box T z]) (u.set d (.p o.length 0))) /\
 (k<m->As P [Av l ((Bh l).getD k 0)] o u fun o' t'=>Cl P hist o'/\E6 P d T z (DL l anc (m - k - 1) (k+1)) hist (BG l anc m) o' t' Kf)
end
theorem MC {l:List SO} {anc:List (List Nat)} (hok:El l anc=true) {m:Nat} {Kf:List OB->List AV->Prop} {k:Nat} (hk:k<=m) {hist:D4} {o:List OB} {t:List AV} (h:Dh P (DL l anc (m - k) k) hist (BG l anc m) o t Kf):∃u,As P (BG l anc k) o t (fun _ x=>x=u)/\Dq P l anc m Kf k ((BG l anc k,t,u)::hist) o u:=by
 by_cases hkm:k=m
 ·subst hkm;rw[Nat.sub_self] at h;simp only[DL,Dh] at h;obtain⟨u,h1,h2⟩:=Jo _ _ _ _ (KM hok k) h;exact⟨u,h2,by unfold Dq;rw[if_pos rfl];exact h1⟩
 ·obtain⟨r,hr⟩:∃r,m - k=r+1:=⟨m - k - 1,by omega⟩;rw[hr] at h;simp only[DL,Dh] at h;obtain⟨u,h1,h2⟩:=Jo _ _ _ _ (KM hok k) h;refine⟨u,h2,?_⟩;unfold Dq;rw[if_neg hkm,hr,Nat.add_sub_cancel];exact h1
theorem Pg {d:Nat} {T:TypeId} {z:List AV} {l:List SO} {anc:List (List Nat)} (hok:El l anc=true) {m:Nat} {Kf:List OB->List AV->Prop} {k:Nat} (hk:k<=m) {hist:D4} {o:List OB} {t:List AV} (h:E6 P d T z (DL l anc (m - k) k) hist (BG l anc m) o t Kf):∃u,As P (BG l anc k) o t (fun _ x=>x=u)/\I2 P d T z l anc m Kf k ((BG l anc k,t,u)::hist) o u:=by
 by_cases hkm:k=m
 ·subst hkm;rw[Nat.sub_self] at h;simp only[DL,E6] at h;obtain⟨u,h1,h2⟩:=Jo _ _ _ (fun _ u=>Cl P (CY d (.p o.length 0) ((BG l anc k,t,u)::hist)) (o++[.box T z])/\Kf (o++[.box T z]) (u.set d (.p o.length 0))) (KM hok k) h;refine⟨u,h2,⟨h1.1,?_⟩,fun h=>absurd h (Nat.lt_irrefl _)⟩;unfold Dq;rw[if_pos rfl];exact h1.2
 ·obtain⟨r,hr⟩:∃r,m - k=r+1:=⟨m - k - 1,by omega⟩;rw[hr] at h;simp only[DL,E6] at h;obtain⟨u,h1,h2⟩:=Jo _ _ _ (fun _ u=>(Cl P (CY d (.p o.length 0) ((BG l anc k,t,u)::hist)) (o++[.box T z])/\As P [Av l ((Bh l).getD k 0)] (o++[.box T z]) (u.set d (.p o.length 0)) fun o' t'=>Cl P (CY d (.p o.length 0) ((BG l anc k,t,u)::hist)) o'/\Dh P (DL l anc r (k+1)) (CY d (.p o.length 0) ((BG l anc k,t,u)::hist)) (BG l anc m) o' t' Kf) /\
   As P [Av l ((Bh l).getD k 0)] o u fun o' t'=>Cl P ((BG l anc k,t,u)::hist) o'/\E6 P d T z (DL l anc r (k+1)) ((BG l anc k,t,u)::hist) (BG l anc m) o' t' Kf) (KM hok k) h
  refine⟨u,h2,⟨h1.1.1,?_⟩,fun _=>?_⟩
  ·unfold Dq;rw[if_neg hkm,hr,Nat.add_sub_cancel];exact h1.1.2
  ·rw[hr,Nat.add_sub_cancel];exact h1.2
theorem Mm {l:List SO} {anc:List (List Nat)} (hok:El l anc=true) {m:Nat} (hmm:(Bh l).length=m) {Kf:List OB->List AV->Prop} (k:Nat) (hist:D4) (o:List OB) (u:List AV) (hk:k<m) (h:Dq P l anc m Kf k hist o u):As P [Av l ((Bh l).getD k 0)] o u (fun o' t'=>Cl P hist o'/\∃u',As P (BG l anc (k+1)) o' t' (fun _ x=>x=u')/\Dq P l anc m Kf (k+1) ((BG l anc (k+1),t',u')::hist) o' u'):=by
 unfold Dq at h;rw[if_neg (by omega)] at h;refine JW (.inl (Rg (by omega))) (fun o' t' hq=>⟨hq.1,MC hok (by omega) (by rw[show m - (k+1)=m - k - 1 by omega];exact hq.2)⟩) h
theorem lZ {d:Nat} {T:TypeId} {z:List AV} {l:List SO} {anc:List (List Nat)} (hok:El l anc=true) {m:Nat} (hmm:(Bh l).length=m) {Kf:List OB->List AV->Prop} (k:Nat) (hist:D4) (o:List OB) (u:List AV) (hk:k<m) (h:I2 P d T z l anc m Kf k hist o u):As P [Av l ((Bh l).getD k 0)] o u (fun o' t'=>Cl P hist o'/\∃u',As P (BG l anc (k+1)) o' t' (fun _ x=>x=u')/\I2 P d T z l anc m Kf (k+1) ((BG l anc (k+1),t',u')::hist) o' u') :=
 JW (.inl (Rg (by omega))) (fun o' t' hq=>⟨hq.1,Pg hok (by omega) (by rw[show m - (k+1)=m - k - 1 by omega];exact hq.2)⟩) (h.2 hk)
end
def OP:SO:=⟨some 1000003,.mv (.c .nil),none⟩
def Cb (l:List SO) (al:Nat):List SO:=(l.take (l.length - 1)).set al OP
def LQ (so:SO):Option (Nat×TypeId×List AV):=match so with
 | ⟨some d,.alloc T z,none⟩=>some (d,T,z)
 | _=>none
def L4 (so:SO):Bool:=match so with
 | ⟨none,.store _ (.t _) (.t _),none⟩=>true
 | _=>false
def Kd (l:List SO) (deps anc:List (List Nat)) (al d:Nat):Bool :=
 (zi l.length).all (fun i=>(deps.getD i []).all (fun e=>decide (e<i))&&(anc.getD i []).all fun j=>(deps.getD i []).contains j||(deps.getD i []).any fun e=>(anc.getD e []).contains j) &&
 decide (al+1<l.length)&&L4 (Av l (l.length - 1))&&(zi (l.length - 1)).all (fun j=>Cg anc (l.length - 1) j) &&
 (zi (l.length - 1)).all (fun i=>i==al||(Az l i != some d))&&(anc.getD al []).isEmpty &&
 El (Cb l al) anc&&decide (d<1000003)
theorem WS (l:List SO) (al:Nat):(Cb l al).length=l.length - 1:=by unfold Cb;rw[zf,zh];omega
theorem Kp {l:List SO} {al i:Nat} (hi:i<l.length - 1) (hne:i≠al):Av (Cb l al) i=Av l i:=by
 unfold Av Cb;rw[zp (fun e=>hne e.symm),xz hi]
theorem Pp {l:List SO} {al:Nat} (hi:al<l.length - 1):Av (Cb l al) al=OP:=by
 unfold Av Cb;rw[qd (by rw[zh];omega)];rfl
section
variable {P:Program} [Tabs P] {C:Cx} [On P C] {K:Bb}
theorem oR (id:Nat) (ops:Array Oper) (l:List SO) (hl:ops.toList.mapM (Do P ops.toList)=some l) (al d:Nat) (T:TypeId) (z:List AV) (hal:LQ (Av l al)=some (d,T,z)) (hok:Kd l (ops.toList.map AJ) (Bj (ops.toList.map AJ)) al d=true) (hm:P.follows .mixedOrders=true) {objs:List OB} {tm:List AV} (htl:tm.length<=1000003)
  (h:E6 P d T z (DL (Cb l al) (Bj (ops.toList.map AJ)) (Bh (Cb l al)).length 0) [] (BG (Cb l al) (Bj (ops.toList.map AJ)) (Bh (Cb l al)).length) objs tm fun o t=>As P [Av l (l.length - 1)] o t fun o t=>K .normal o t):∀a w,C1 C objs tm a w->(Code.region id ops true).wp P (C9 C K) a w:=by
 have hnl:ops.size=l.length:=by
  have:=(GQ _ _ _ hl).1;simpa using this
 unfold Kd at hok;simp only[Bool.and_eq_true] at hok;obtain⟨⟨⟨⟨⟨⟨⟨hd1,halt⟩,hst⟩,hlast⟩,hdd⟩,hae⟩,htv⟩,hdlt⟩:=hok;have hdlt:d<1000003:=of_decide_eq_true hdlt;have halt:al+1<l.length:=of_decide_eq_true halt;have hpre:Eb l (ops.toList.map AJ) (Bj (ops.toList.map AJ)) 0=true:=by
  unfold Eb;simp only[Bool.and_eq_true];exact⟨⟨⟨⟨⟨⟨by simp,hd1⟩,by simp⟩,by simp⟩,by simp⟩,by simp⟩,by simp[Hg]⟩
 have hap0:∀an,Ds l an 0=[]:=fun an=>by simp[Ds]
 simp only[zj,qi,Bool.or_eq_true,bne_iff_ne,ne_eq,beq_iff_eq] at hlast hdd;have hfin:=II (P:=P) (C:=C) (K:=K) id ops l l hl (.inl rfl) 0 hpre hm (objs:=objs) (tm:=tm);generalize Bj (ops.toList.map AJ)=anc at *;clear hd1 hpre;have hso:Av l al=⟨some d,.alloc T z,none⟩:=by
  generalize Av l al=so at hal;unfold LQ at hal
  split at hal
  ·injection hal with hal;injection hal with h1 h2;injection h2 with h2 h3;subst h1 h2 h3;rfl
  ·cases hal
 obtain⟨s1,e,u0,hstore⟩:∃s1 e u0,Av l (l.length - 1)=⟨none,.store s1 (.t e) (.t u0),none⟩:=by
  generalize Av l (l.length - 1)=so at hst;unfold L4 at hst
  split at hst
  ·exact⟨_,_,_,rfl⟩
  ·cases hst
 have hn0:=WS l al;have hd0:∀i,i<(Cb l al).length->Az (Cb l al) i≠some d\/i=al:=by
  intro i hi
  by_cases e:i=al
  ·exact .inr e
  ·left;rw[CF hi,Kp (by omega) e,<-CF (by omega)];rcases hdd i (by omega) with h0|h0
   ·exact absurd h0 e
   ·exact h0
 generalize hM:(Bh (Cb l al)).length=m at *
 let Kf:List OB->List AV->Prop:=fun o t=>As P [Av l (l.length - 1)] o t fun o t=>K .normal o t
 have hcore0:=KG (P:=P) (Cb l al) anc htv m hM tm (I2 P d T z (Cb l al) anc m Kf) (fun k hist o u hk hw=>lZ htv hM k hist o u hk hw);have hcore1:=fun q=>KG (P:=P) (Cb l al) anc htv m hM (tm.set d q) (Dq P (Cb l al) anc m Kf) (fun k hist o u hk hw=>Mm htv hM k hist o u hk hw)
 let TF:Array Bool->List OB->List AV->Prop:=fun listed o t=>
  (listed.getD (l.length - 1) false=false/\((listed.getD al false=false/\Fw P (Cb l al) anc m tm (I2 P d T z (Cb l al) anc m Kf) listed o t)\/(listed.getD al false=true/\∃q,Fw P (Cb l al) anc m (tm.set d q) (Dq P (Cb l al) anc m Kf) listed o t))) \/
  ((∀j,j<l.length->listed.getD j false=true)/\K .normal o t)
 refine hfin TF (fun o t=>o=objs/\t=tm) ?_ ?_ ?_ ?_
 ·rintro listed o t hs _ h2 ⟨rfl,rfl⟩;have hall:∀j,j<l.length->listed.getD j false=false:=fun j hj=>h2 j (ze _) (by omega);obtain⟨u,q1,q2⟩:=Pg (d:=d) (T:=T) (z:=z) htv (Kf:=Kf) (ze m) h;exact .inl ⟨hall _ (by omega),.inl ⟨hall _ (by omega),hcore0.1 o u q1 q2 listed fun j hj=>hall j (by omega)⟩⟩
 ·intro listed o t i so hs hso2 _ hin hun hanci hT;obtain rfl:=K6 hso2;have hset:∀j,(listed.setIfInBounds i true).getD j false=if j=i then true else listed.getD j false:=fun j=>Ga listed i j false (by omega)
  rcases hT with ⟨hT1,hT2⟩|⟨hT1,_⟩
  rotate_left
  ·have:=hT1 i (by omega);rw[hun] at this;cases this
  by_cases hil:i=l.length - 1
  ·-- the last one
   subst hil;have hall:∀j,j<l.length - 1->listed.getD j false=true:=fun j hj=>hanci j (by
    have:=hlast j hj;unfold Cg at this;exact qz.1 this)
   rcases hT2 with ⟨ha,_⟩|⟨_,q,hT2⟩
   ·rw[hall al (by omega)] at ha;cases ha
   obtain⟨hist,hw⟩:=(hcore1 q).2.2 listed o t (fun j hj=>hall j (by omega)) hT2;unfold Dq at hw;rw[if_pos rfl] at hw;have hw2:As P [Av l (l.length - 1)] o t (fun o t=>K .normal o t):=hw;rw[hstore] at hw2 ⊢;refine JA (d:=0) (x:=0) (y:=0) (v:=0) (fun o2 t2 hk=>?_) (.inr ⟨_,_,_,rfl⟩) hw2;refine .inr ⟨fun j hj=>?_,hk⟩;rw[hset]
   by_cases e:j=l.length - 1
   ·rw[if_pos e]
   ·rw[if_neg e];exact hall j (by omega)
  have hin2:i<l.length - 1:=by omega
  have hlst:(listed.setIfInBounds i true).getD (l.length - 1) false=false:=by rw[hset,if_neg (fun e=>hil e.symm)];exact hT1
  by_cases hia:i=al
  ·-- the allocation
   subst hia;rcases hT2 with ⟨_,hT2⟩|⟨ha,_⟩
   rotate_left
   ·rw[hun] at ha;cases ha
   rw[hso];simp only[As,Ah,AD];have h1:=hcore0.2.1 listed o t i (by omega) (by omega) hun hanci hT2;rw[Pp (by omega)] at h1;have h2:Fw P (Cb l i) anc m tm (I2 P d T z (Cb l i) anc m Kf) (listed.setIfInBounds i true) o (t.set 1000003 .nil):=h1;have htlen:t.length=tm.length:=by
    obtain⟨_,k,hist,u,_,_,_,_,_,hmix⟩:=hT2;exact hmix.1
   rw[List.set_eq_of_length_le (by omega)] at h2;have h3:=YU (W1:=Dq P (Cb l i) anc m Kf) (d:=d) (p:=.p o.length 0) (B:=.box T z) (fun j hj=>by
    rcases hd0 j hj with h0|h0
    ·exact h0
    ·subst h0;rw[CF hj,Pp (by omega)];unfold OP;intro e;have e:(1000003:Nat)=d:=by injection e
     omega) (fun k hist u hw=>hw.1) h2
   exact .inl ⟨hlst,.inr ⟨by rw[hset,if_pos rfl],_,h3⟩⟩
  have hki:C0 (Av l i)=true\/EE (Av l i)=true:=by
   have h0:=htv;unfold El at h0;simp only[Bool.and_eq_true] at h0;obtain⟨⟨⟨⟨⟨⟨⟨_,_⟩,hkd⟩,_⟩,_⟩,_⟩,_⟩,_⟩:=h0;simp only[zj,qi,Bool.or_eq_true] at hkd;have:=hkd i (by omega)
   rwa [Kp hin2 hia] at this
  rcases hT2 with ⟨ha,hT2⟩|⟨ha,q,hT2⟩
  ·have h1:=hcore0.2.1 listed o t i (by omega) (by omega) hun hanci hT2;rw[Kp hin2 hia] at h1;exact JW hki (fun o2 t2 hk=>.inl ⟨hlst,.inl ⟨by rw[hset,if_neg (fun e=>hia e.symm)];exact ha,hk⟩⟩) h1
  ·have h1:=(hcore1 q).2.1 listed o t i (by omega) (by omega) hun hanci hT2;rw[Kp hin2 hia] at h1;exact JW hki (fun o2 t2 hk=>.inl ⟨hlst,.inr ⟨by rw[hset,if_neg (fun e=>hia e.symm)];exact ha,q,hk⟩⟩) h1
 ·intro listed o t hs hall hT;rcases hT with ⟨h0,_⟩|⟨_,hk⟩
  ·rw[hall _ (by omega)] at h0;cases h0
  ·exact hk
 ·simp only[xl,BB,hap0,CN,and_self]
def DA (l:List SO):List SO:=l.take (l.length - 1)
theorem WT (l:List SO):(DA l).length=l.length - 1:=by unfold DA;rw[zh];omega
theorem Pq {l:List SO} {i:Nat} (hi:i<l.length - 1):Av (DA l) i=Av l i:=by
 unfold Av DA;rw[xz hi]
def Kg (l:List SO) (deps anc:List (List Nat)):Bool :=
 (zi l.length).all (fun i=>(deps.getD i []).all (fun e=>decide (e<i))&&(anc.getD i []).all fun j=>(deps.getD i []).contains j||(deps.getD i []).any fun e=>(anc.getD e []).contains j) &&
 decide (0<l.length)&&L4 (Av l (l.length - 1))&&(zi (l.length - 1)).all (fun j=>Cg anc (l.length - 1) j)&&El (DA l) anc
def G1 (l:List SO) (an:List (List Nat)):List (List SO×SO)×List SO:=(DL (DA l) an (Bh (DA l)).length 0,BG (DA l) an (Bh (DA l)).length++[Av l (l.length - 1)])
section
variable {P:Program} [Tabs P]
theorem QP:∀(st:List (List SO×SO)) (h:D4) (l x:List SO) (o:List OB) (t:List AV) (F:List OB->List AV->Prop),Dh P st h (l++x) o t F=Dh P st h l o t fun o t=>As P x o t F
 | [],h,l,x,o,t,F=>by simp only[Dh,KH]
 | (L,c)::st,h,l,x,o,t,F=>by simp only[Dh,QP st _ l x]
end
theorem oT (id:Nat) (ops:Array Oper) (l:List SO) (hl:ops.toList.mapM (Do P ops.toList)=some l) (hok:Mb l (ops.toList.map AJ) (Bj (ops.toList.map AJ))=true) (hm:P.follows .mixedOrders=true) {objs:List OB} {tm:List AV}
  (h:Dh P (DL l (Bj (ops.toList.map AJ)) (Bh l).length 0) [] (BG l (Bj (ops.toList.map AJ)) (Bh l).length) objs tm fun o t=>K .normal o t):∀a w,C1 C objs tm a w->(Code.region id ops true).wp P (C9 C K) a w:=by
 have hnl:ops.size=l.length:=by
  have:=(GQ _ _ _ hl).1;simpa using this
 unfold Mb at hok;simp only[Bool.and_eq_true] at hok;obtain⟨⟨⟨⟨⟨⟨⟨hd1,hd2⟩,hd3⟩,hkd⟩,hrk⟩,hcl⟩,hci⟩,hbd⟩:=hok;have hpre:Eb l (ops.toList.map AJ) (Bj (ops.toList.map AJ)) 0=true:=by
  unfold Eb;simp only[Bool.and_eq_true];exact⟨⟨⟨⟨⟨⟨by simp,hd1⟩,by simp⟩,by simp⟩,by simp⟩,by simp⟩,by simp[Hg]⟩
 have hap0:∀an,Ds l an 0=[]:=fun an=>by simp[Ds]
 simp only[Bool.and_eq_true,decide_eq_true_eq,zj,qi,Bool.or_eq_true,xk,qz] at hd1;have halt:=Ms (ops.toList.map AJ) (Bj (ops.toList.map AJ)) l.length fun i hi=>hd1 i hi;have htv:El l (Bj (ops.toList.map AJ))=true:=by
  unfold El;simp only[Bool.and_eq_true];exact⟨⟨⟨⟨⟨⟨⟨hd2,hd3⟩,hkd⟩,hrk⟩,hcl⟩,hci⟩,hbd⟩,by
   simp only[zj,qi,decide_eq_true_eq];exact halt⟩
 have hfin:=II (P:=P) (C:=C) (K:=K) id ops l l hl (.inl rfl) 0 hpre hm (objs:=objs) (tm:=tm);generalize Bj (ops.toList.map AJ)=anc at *;generalize hM:(Bh l).length=m at *;have hcore:=KG (P:=P) l anc htv m hM tm (Dq P l anc m fun o t=>K .normal o t) (fun k hist o u hk hw=>Mm htv hM k hist o u hk hw);refine hfin (fun listed o t=>Fw P l anc m tm (Dq P l anc m fun o t=>K .normal o t) listed o t) (fun o t=>o=objs/\t=tm) ?_ ?_ ?_ ?_
 ·rintro listed o t hs _ h2 ⟨rfl,rfl⟩;obtain⟨u,q1,q2⟩:=MC htv (Kf:=fun o t=>K .normal o t) (ze m) h;exact hcore.1 o u q1 q2 listed fun j hj=>h2 j (ze _) (by omega)
 ·intro listed o t i so hs hso2 _ hin hun hanci hT;obtain rfl:=K6 hso2;exact hcore.2.1 listed o t i (by omega) (by omega) hun hanci hT
 ·intro listed o t hs hall hT;obtain⟨hist,hw⟩:=hcore.2.2 listed o t (fun j hj=>hall j (by omega)) hT;unfold Dq at hw;rw[if_pos rfl] at hw;exact hw
 ·simp only[xl,BB,hap0,CN,and_self]
theorem oU (id:Nat) (ops:Array Oper) (l:List SO) (hl:ops.toList.mapM (Do P ops.toList)=some l) (hok:Kg l (ops.toList.map AJ) (Bj (ops.toList.map AJ))=true) (hm:P.follows .mixedOrders=true) {objs:List OB} {tm:List AV}
  (h0:Dh P (G1 l (Bj (ops.toList.map AJ))).1 [] (G1 l (Bj (ops.toList.map AJ))).2 objs tm fun o t=>K .normal o t):∀a w,C1 C objs tm a w->(Code.region id ops true).wp P (C9 C K) a w:=by
 have hnl:ops.size=l.length:=by
  have:=(GQ _ _ _ hl).1;simpa using this
 have h:Dh P (DL (DA l) (Bj (ops.toList.map AJ)) (Bh (DA l)).length 0) [] (BG (DA l) (Bj (ops.toList.map AJ)) (Bh (DA l)).length) objs tm fun o t=>As P [Av l (l.length - 1)] o t fun o t=>K .normal o t:=by
  unfold G1 at h0;dsimp only at h0;rw[QP] at h0;exact h0
 clear h0;unfold Kg at hok;simp only[Bool.and_eq_true] at hok;obtain⟨⟨⟨⟨hd1,hlt⟩,hst⟩,hlast⟩,htv⟩:=hok;have hlt:0<l.length:=of_decide_eq_true hlt;have hpre:Eb l (ops.toList.map AJ) (Bj (ops.toList.map AJ)) 0=true:=by
  unfold Eb;simp only[Bool.and_eq_true];exact⟨⟨⟨⟨⟨⟨by simp,hd1⟩,by simp⟩,by simp⟩,by simp⟩,by simp⟩,by simp[Hg]⟩
 have hap0:∀an,Ds l an 0=[]:=fun an=>by simp[Ds]
 simp only[zj,qi] at hlast;have hfin:=II (P:=P) (C:=C) (K:=K) id ops l l hl (.inl rfl) 0 hpre hm (objs:=objs) (tm:=tm);generalize Bj (ops.toList.map AJ)=anc at *;clear hd1 hpre;obtain⟨s1,e,u0,hstore⟩:∃s1 e u0,Av l (l.length - 1)=⟨none,.store s1 (.t e) (.t u0),none⟩:=by
  generalize Av l (l.length - 1)=so at hst;unfold L4 at hst
  split at hst
  ·exact⟨_,_,_,rfl⟩
  ·cases hst
 have hn0:=WT l;generalize hM:(Bh (DA l)).length=m at *
 let Kf:List OB->List AV->Prop:=fun o t=>As P [Av l (l.length - 1)] o t fun o t=>K .normal o t
 have hcore:=KG (P:=P) (DA l) anc htv m hM tm (Dq P (DA l) anc m Kf) (fun k hist o u hk hw=>Mm htv hM k hist o u hk hw)
 let TF:Array Bool->List OB->List AV->Prop:=fun listed o t=>
  (listed.getD (l.length - 1) false=false/\Fw P (DA l) anc m tm (Dq P (DA l) anc m Kf) listed o t) \/
  ((∀j,j<l.length->listed.getD j false=true)/\K .normal o t)
 refine hfin TF (fun o t=>o=objs/\t=tm) ?_ ?_ ?_ ?_
 ·rintro listed o t hs _ h2 ⟨rfl,rfl⟩;have hall:∀j,j<l.length->listed.getD j false=false:=fun j hj=>h2 j (ze _) (by omega);obtain⟨u,q1,q2⟩:=MC htv (Kf:=Kf) (ze m) h;exact .inl ⟨hall _ (by omega),hcore.1 o u q1 q2 listed fun j hj=>hall j (by omega)⟩
 ·intro listed o t i so hs hso2 _ hin hun hanci hT;obtain rfl:=K6 hso2;have hset:∀j,(listed.setIfInBounds i true).getD j false=if j=i then true else listed.getD j false:=fun j=>Ga listed i j false (by omega)
  rcases hT with ⟨hT1,hT2⟩|⟨hT1,_⟩
  rotate_left
  ·have:=hT1 i (by omega);rw[hun] at this;cases this
  by_cases hil:i=l.length - 1
  ·-- the last one
   subst hil;have hall:∀j,j<l.length - 1->listed.getD j false=true:=fun j hj=>hanci j (by
    have:=hlast j hj;unfold Cg at this;exact qz.1 this)
   obtain⟨hist,hw⟩:=hcore.2.2 listed o t (fun j hj=>hall j (by omega)) hT2;unfold Dq at hw;rw[if_pos rfl] at hw;have hw2:As P [Av l (l.length - 1)] o t (fun o t=>K .normal o t):=hw;rw[hstore] at hw2 ⊢;refine JA (d:=0) (x:=0) (y:=0) (v:=0) (fun o2 t2 hk=>?_) (.inr ⟨_,_,_,rfl⟩) hw2;refine .inr ⟨fun j hj=>?_,hk⟩;rw[hset]
   by_cases e:j=l.length - 1
   ·rw[if_pos e]
   ·rw[if_neg e];exact hall j (by omega)
  have hin2:i<l.length - 1:=by omega
  have hlst:(listed.setIfInBounds i true).getD (l.length - 1) false=false:=by rw[hset,if_neg (fun e=>hil e.symm)];exact hT1
  have hki:C0 (Av l i)=true\/EE (Av l i)=true:=by
   have h0:=htv;unfold El at h0;simp only[Bool.and_eq_true] at h0;obtain⟨⟨⟨⟨⟨⟨⟨_,_⟩,hkd⟩,_⟩,_⟩,_⟩,_⟩,_⟩:=h0;simp only[zj,qi,Bool.or_eq_true] at hkd;have:=hkd i (by omega)
   rwa [Pq hin2] at this
  have h1:=hcore.2.1 listed o t i (by omega) (by omega) hun hanci hT2;rw[Pq hin2] at h1;exact JW hki (fun o2 t2 hk=>.inl ⟨hlst,hk⟩) h1
 ·intro listed o t hs hall hT;rcases hT with ⟨h0,_⟩|⟨_,hk⟩
  ·rw[hall _ (by omega)] at h0;cases h0
  ·exact hk
 ·simp only[xl,BB,hap0,CN,and_self]
end
section
variable {P:Program} [Tabs P] {C:Cx} [On P C] {K:Bb}
inductive SCode where
 | skip
 | reg (l:List SO)
 | drw (l:List SO) (k:Nat) (ap:List (Nat×Nat×Option (Nat×Bool)))
 | crg (pre:List SO) (cl:SO) (post:List SO)
 | crs (st:List (List SO×SO)) (last:List SO)
 | cra (d:Nat) (T:TypeId) (z:List AV) (st:List (List SO×SO)) (last:List SO) (sr:SO)
 | seq (x y:SCode)
 | cond (c:SV) (x y:SCode)
 | blk (id:Nat) (c:SCode)
 | loop (c:SCode)
 | exit (id:Nat)
 | ret
 | dead
@[reducible] def SCode.s (l:List SO) (c:SCode):SCode:=.seq (.reg l) c
def QH (l:List SO):Bool :=
 match l.getLast? with
 | some ⟨_,.call _ args,none⟩=>args.any fun
  | .t s=>(l.any fun o=>match o with
   | ⟨some d,.fad _ _,_⟩=>d==s
   | _=>false)||l.all fun o=>!(o.dst==some s)
  | _=>false
 | _=>false
def WU (l:List SO):Bool :=
 match l.reverse with
 | ⟨_,.mv (.t d),none⟩::⟨some d',.call _ args,none⟩::_=>d==d'&&args.any fun
  | .t s=>l.any fun o=>match o with
   | ⟨some e,.app _ _ _ _ _,_⟩=>e==s
   | _=>false
  | _=>false
 | _=>false
def qS (ops:List Oper):Bool:=ops.any fun o=>match o.op with
 | .panic _=>true
 | _=>false
def oV (l:List SO):Bool:=l.any fun o=>match o with
 | ⟨some d,.trn _ _ _,none⟩=>Vq l d
 | _=>false
def Vs (l:List SO):List (List SO×Nat) :=
 (if WU l=true then [(l,l.length - 2)] else [])++(if QH l=true then [(l,l.length - 1)] else [])++[(l,Pj l),(l,l.length)]++((if QH l=true then [(l.map SO.toQ,l.length - 1)] else [])++[(l.map SO.toQ,Pj l),(l.map SO.toQ,l.length)]++((if oV l=true then [(l.map SO.toR,l.length)] else [])++[(l.map SO.toP,l.length)]))
def Me (l:List SO) (ds an:List (List Nat)):Option (List SO×Nat):=(Vs l).find? fun c=>Kl c.1 ds an c.2
theorem Zy {l:List SO} {ds an:List (List Nat)} {c:List SO×Nat} (h:Me l ds an=some c):(c.1=l\/c.1=l.map SO.toP\/c.1=l.map SO.toQ\/c.1=l.map SO.toR)/\Kl c.1 ds an c.2=true:=by
 refine⟨?_,by simpa using List.find?_some h⟩;have hm:=List.mem_of_find?_eq_some h;unfold Vs at hm;simp only[List.mem_append,zv,jk,or_false] at hm;rcases hm with ((hm|hm)|rfl|rfl)|(hm|rfl|rfl)|hm|rfl
 ·split at hm
  ·simp only[zv,jk,or_false] at hm;subst hm;exact .inl rfl
  ·simp at hm
 ·split at hm
  ·simp only[zv,jk,or_false] at hm;subst hm;exact .inl rfl
  ·simp at hm
 ·exact .inl rfl
 ·exact .inl rfl
 ·split at hm
  ·simp only[zv,jk,or_false] at hm;subst hm;exact .inr (.inr (.inl rfl))
  ·simp at hm
 ·exact .inr (.inr (.inl rfl))
 ·exact .inr (.inr (.inl rfl))
 ·split at hm
  ·simp only[zv,jk,or_false] at hm;subst hm;exact .inr (.inr (.inr rfl))
  ·simp at hm
 ·exact .inr (.inl rfl)
def Vw (l:List SO) (ds an:List (List Nat)):Option (List SO×Nat×List (Nat×Nat×Option (Nat×Bool))):=(zi l.length).findSome? fun k=>if Km l ds an k=true then (I6 l k).map fun p=>(l,l.length,[(p.1,p.2+1000000,none)]) else none
def Kk (l:List SO) (ds an:List (List Nat)):Option (List SO×Nat×List (Nat×Nat×Option (Nat×Bool))):=match Me l ds an with
 | some c=>some (c.1,c.2,Ds c.1 an c.2)
 | none=>Vw l ds an
theorem Zw {l:List SO} {ds an:List (List Nat)} {r:List SO×Nat×List (Nat×Nat×Option (Nat×Bool))} (h:Kk l ds an=some r):(∃c,Me l ds an=some c/\r=(c.1,c.2,Ds c.1 an c.2))\/(∃k d e,Km l ds an k=true/\I6 l k=some (d,e)/\r=(l,l.length,[(d,e+1000000,none)])):=by
 unfold Kk at h
 split at h
 ·rename_i c hc;injection h with h;exact .inl ⟨c,hc,h.symm⟩
 ·unfold Vw at h;obtain⟨k,_,hk⟩:=List.exists_of_findSome?_eq_some h
  split at hk
  ·rename_i hok;obtain⟨p,hp,rfl⟩:=xf.1 hk;exact .inr ⟨k,p.1,p.2,hok,hp,rfl⟩
  ·cases hk
def XO (P:Program) (ops:Array Oper) (l:List SO) (c:Nat):Bool:=(match ops[c]? with
 | some o=>match o.op with
  | .call x=>match x.argTypes[0]? with
   | some t=>match P.underlying t with
    | some (.pointer _)=>true
    | _=>false
   | _=>false
  | _=>false
 | none=>false)&&l.any fun o=>match o.op with
  | .app ..=>true
  | _=>false
def Vv (P:Program) (ops:Array Oper) (l:List SO) (ds an:List (List Nat)):Option Nat:=(zi l.length).find? fun c=>XO P ops l c&&Ke l ds an c
theorem Zx {P:Program} {ops:Array Oper} {l:List SO} {ds an:List (List Nat)} {c:Nat} (h:Vv P ops l ds an=some c):Ke l ds an c=true:=by
 have:=List.find?_some h;simp only[Bool.and_eq_true] at this;exact this.2
def Ya (P:Program) (ops:Array Oper) (l:List SO):Bool:=decide (2<=(Bh l).length)&&(Bh l).all fun c=>match ops[c]? with
 | some o=>match P.underlying o.type with
  | some (.map _ _)=>true
  | _=>false
 | none=>false
def ZE (P:Program) (ops:Array Oper) (l:List SO):Bool:=(l.any fun o=>o.op.grows)&&(zi l.length).any fun i=>(Av l i).op.isCall&&match ops[i]? with
  | some o=>match o.op with
   | .call x=>match x.argTypes[0]? with
    | some t=>match P.underlying t with
     | some (.pointer _)=>true
     | _=>false
    | _=>false
   | _=>false
  | none=>false
def Yn (l:List SO):Bool:=decide (2<=(l.filter fun o=>match o.op with
 | .call _ [.t _,.c (.i _ _)]=>true
 | _=>false).length)
def lA (P:Program) (ops:Array Oper) (l:List SO):Bool:=(zi l.length).any fun i=>(match (Av l i).op with
 | .pcall ..=>true
 | _=>false)&&match ops[i]? with
  | some o=>match o.op with
   | .call x=>match x.argTypes[0]? with
    | some t=>match P.underlying t with
     | some (.pointer _)=>true
     | _=>false
    | _=>false
   | _=>false
  | none=>false
def Ji (l:List SO) (ds an:List (List Nat)):Option (Nat×Nat×TypeId×List AV):=(zi l.length).findSome? fun al=>match LQ (Av l al) with
 | some r=>if Kd l ds an al r.1=true then some (al,r) else none
 | none=>none
theorem bG {l:List SO} {ds an:List (List Nat)} {r:Nat×Nat×TypeId×List AV} (h:Ji l ds an=some r):LQ (Av l r.1)=some (r.2.1,r.2.2.1,r.2.2.2)/\Kd l ds an r.1 r.2.1=true:=by
 unfold Ji at h;obtain⟨al,_,hk⟩:=List.exists_of_findSome?_eq_some h
 split at hk
 ·rename_i q hq
  split at hk
  ·rename_i hok;injection hk with hk;subst hk
   exact⟨hq,hok⟩
  ·cases hk
 ·cases hk
def LR (l:List SO) (an:List (List Nat)) (r:Nat×Nat×TypeId×List AV):SCode:=.cra r.2.1 r.2.2.1 r.2.2.2 (DL (Cb l r.1) an (Bh (Cb l r.1)).length 0) (BG (Cb l r.1) an (Bh (Cb l r.1)).length) (Av l (l.length - 1))
def Mf (P:Program) (ops:Array Oper) (l:List SO) (ds an:List (List Nat)):Option SCode:=if (Yn l&&Kg l ds an)=true then some (.crs (G1 l an).1 (G1 l an).2) else match Kk l ds an with
 | some c=>if lA P ops c.1=true then (match Ji l ds an with
  | some r=>some (LR l an r)
  | none=>some (.drw c.1 c.2.1 c.2.2)) else some (.drw c.1 c.2.1 c.2.2)
 | none=>(Ji l ds an).map (LR l an)
theorem RM {P:Program} {ops:Array Oper} {l:List SO} {ds an:List (List Nat)} {sc:SCode} (h:Mf P ops l ds an=some sc):(∃c,Kk l ds an=some c/\sc=.drw c.1 c.2.1 c.2.2)\/(∃r,Ji l ds an=some r/\sc=LR l an r)\/Kg l ds an=true/\sc=.crs (G1 l an).1 (G1 l an).2:=by
 unfold Mf at h
 split at h
 ·rename_i hd;injection h with h
  rw[Bool.and_eq_true] at hd;exact .inr (.inr ⟨hd.2,h.symm⟩)
 split at h
 ·rename_i c hc
  split at h
  ·split at h
   ·rename_i r hr;injection h with h;exact .inr (.inl ⟨r,hr,h.symm⟩)
   ·injection h with h;exact .inl ⟨c,hc,h.symm⟩
  ·injection h with h;exact .inl ⟨c,hc,h.symm⟩
 ·obtain⟨r,hr,rfl⟩:=xf.1 h;exact .inr (.inl ⟨r,hr,rfl⟩)
def By (P:Program):Code->Option SCode
 | .skip=>some .skip
 | .region _ ops false=>match ops.toList.mapM (Do P ops.toList) with
  | some l=>some (.reg l)
  | none=>if qS ops.toList=true then some .dead else none
 | .region _ ops true=>match ops.toList.mapM (Do P ops.toList) with
  | some l=>if P.follows .mixedOrders=true then (match Vv P ops l (ops.toList.map AJ) (Bj (ops.toList.map AJ)) with
   | some c=>some (.crg (BZ l.length (Ct (Bj (ops.toList.map AJ)) c) l) (Av l c) (BZ l.length (BQ (Bj (ops.toList.map AJ)) c) l))
   | none=>if (Ya P ops l||ZE P ops l)&&Mb l (ops.toList.map AJ) (Bj (ops.toList.map AJ)) then some (.crs (DL l (Bj (ops.toList.map AJ)) (Bh l).length 0) (BG l (Bj (ops.toList.map AJ)) (Bh l).length)) else Mf P ops l (ops.toList.map AJ) (Bj (ops.toList.map AJ))) else none
  | none=>none
 | .seq x y=>match By P x,By P y with
  | some a,some b=>some (.seq a b)
  | _,_=>none
 | .cond c x y=>match By P x,By P y with
  | some a,some b=>some (.cond (Ad c) a b)
  | _,_=>none
 | .block id c=>(By P c).map (.blk id)
 | .loop c=>(By P c).map .loop
 | .exit id=>some (.exit id)
 | .ret=>some .ret
 | .scope c=>By P c
 | .label _=>some .skip
 | _=>none
def Ex (K:Bb):Bb
 | .goto _,_,_=>False
 | e,objs,tm=>K e objs tm
omit [Tabs P] [On P C] in
theorem WP.scope {c:Code} {K:Bb} {objs:List OB} {tm:List AV} (hh:WP P C c (Ex K) objs tm):WP P C (.scope c) (Ex K) objs tm:=by
 intro a w hr;refine wp_scope_straight (wp_mono (hh a w hr) ?_);rintro e a w ⟨o,t,hk,hr⟩
 cases e<;>first|exact hk.elim|exact⟨o,t,hk,hr⟩
def OY (P:Program) (C:Cx) (sc:SCode) (K:Bb) (objs:List OB) (tm:List AV):Prop:=∀c,By P c=some sc->WP P C c K objs tm
def DO (P:Program) [Tabs P] (C:Cx):SCode->Bb->List OB->List AV->Prop
 | .skip,K,objs,tm=>K .normal objs tm
 | .reg l,K,objs,tm=>As P l objs tm fun o t=>K .normal o t
 | .drw l k ap,K,objs,tm=>BB P (l.take k) objs tm fun o t=>CN ap t/\As P (l.drop k) o t fun o t=>K .normal o t
 | .crg pre cl post,K,objs,tm=>As P pre objs tm fun _ t1=>As P [cl] objs t1 fun o2 t2=>As P pre o2 tm (fun _ t=>t=t1)/\As P post o2 t2 fun o t=>K .normal o t
 | .crs st last,K,objs,tm=>Dh P st [] last objs tm fun o t=>K .normal o t
 | .cra d T z st last sr,K,objs,tm=>tm.length<=1000003/\E6 P d T z st [] last objs tm fun o t=>As P [sr] o t fun o t=>K .normal o t
 | .seq x y,K,objs,tm=>DO P C x (D9 (fun o t=>DO P C y K o t) K) objs tm
 | .cond c x y,K,objs,tm=>match c.ev tm with
  | .b t=>(t=true->DO P C x K objs tm)/\(t=false->DO P C y K objs tm)
  | _=>False
 | .blk id c,K,objs,tm=>DO P C c (Gs id K) objs tm
 | .loop c,K,objs,tm=>OY P C (.loop c) (Ex K) objs tm
 | .exit id,K,objs,tm=>K (.exit id) objs tm
 | .ret,K,objs,tm=>K .ret objs tm
 | .dead,K,objs,tm=>False
theorem F5:∀(c:Code) (sc:SCode) (K:Bb) (objs:List OB) (tm:List AV),By P c=some sc->DO P C sc K objs tm->WP P C c (Ex K) objs tm
 | .skip,sc,K,objs,tm,ht,h=>by simp only[By,zx.injEq] at ht;subst ht;exact WP.skip h
 | .region id ops false,sc,K,objs,tm,ht,h=>by
  simp only[By] at ht
  cases h1:ops.toList.mapM (Do P ops.toList) with
  | none=>
   rw[h1] at ht;dsimp only at ht
   split at ht
   ·injection ht with ht;subst ht;exact h.elim
   ·cases ht
  | some l=>
   rw[h1] at ht;injection ht with ht;subst ht
   intro a w hr;exact wp_region_list (Pn (K:=Ex K) ops ops.toList l objs tm h1 h a w hr)
 | .region id ops true,sc,K,objs,tm,ht,h=>by
  simp only[By] at ht
  split at ht
  ·rename_i l h1
   split at ht
   ·rename_i hf
    split at ht
    ·rename_i c hc;injection ht with ht;subst ht
     intro a w hr;exact oS (K:=Ex K) id ops l h1 c (Zx hc) hf h a w hr
    split at ht
    ·rename_i hc;injection ht with ht;subst ht
     intro a w hr;rw[Bool.and_eq_true] at hc;exact oT (K:=Ex K) id ops l h1 hc.2 hf h a w hr
    rcases RM ht with ⟨c,hc,rfl⟩|⟨r,hr0,rfl⟩|⟨hc,rfl⟩
    rotate_left
    ·obtain⟨r1,r2⟩:=bG hr0;intro a w hr;exact oR (K:=Ex K) id ops l h1 r.1 r.2.1 r.2.2.1 r.2.2.2 r1 r2 hf h.1 h.2 a w hr
    ·intro a w hr;exact oU (K:=Ex K) id ops l h1 hc hf h a w hr
    intro a w hr;rcases Zw hc with ⟨c',hc',rfl⟩|⟨k,d,e,k1,k2,rfl⟩
    ·obtain⟨c1,c2⟩:=Zy hc';exact VO (K:=Ex K) id ops l c'.1 h1 c1 _ c2 hf h a w hr
    ·exact VU (K:=Ex K) id ops l h1 k d e k1 k2 hf h a w hr
   ·cases ht
  ·cases ht
 | .seq x y,sc,K,objs,tm,ht,h=>by
  simp only[By] at ht
  split at ht
  ·rename_i a b ha hb;injection ht with ht;subst ht
   refine WP.seq (WP.mono ?_ (F5 x a _ objs tm ha h));intro e o t hk
   cases e with
   | normal=>exact F5 y b K o t hb hk
   | _=>exact hk
  ·cases ht
 | .cond c x y,sc,K,objs,tm,ht,h=>by
  simp only[By] at ht
  split at ht
  ·rename_i a b ha hb;injection ht with ht;subst ht
   simp only[DO] at h
   split at h
   ·rename_i t hc;exact WP.cond hc (fun e=>F5 x a K objs tm ha (h.1 e)) (fun e=>F5 y b K objs tm hb (h.2 e))
   ·exact h.elim
  ·cases ht
 | .block id c,sc,K,objs,tm,ht,h=>by
  simp only[By] at ht
  cases h1:By P c with
  | none=>rw[h1] at ht;cases ht
  | some a=>rw[h1] at ht;injection ht with ht;subst ht;refine WP.block (WP.mono ?_ (F5 c a _ objs tm h1 h));intro e o t hk;cases e with
   | exit id'=>simp only[Ex,Gs] at hk ⊢;exact hk
   | _=>exact hk
 | .loop c,sc,K,objs,tm,ht,h=>by
  have ht':=ht;simp only[By] at ht
  cases h1:By P c with
  | none=>rw[h1] at ht;cases ht
  | some a=>rw[h1] at ht;injection ht with ht;subst ht;exact h _ ht'
 | .exit id,sc,K,objs,tm,ht,h=>by simp only[By,zx.injEq] at ht;subst ht;exact WP.exit h
 | .ret,sc,K,objs,tm,ht,h=>by simp only[By,zx.injEq] at ht;subst ht;exact WP.ret h
 | .rangeFunc ..,sc,K,objs,tm,ht,h=>by simp[By] at ht
 | .scope c,sc,K,objs,tm,ht,h=>by simp only[By] at ht;exact WP.scope (F5 c sc K objs tm ht h)
 | .label _,sc,K,objs,tm,ht,h=>by simp only[By,zx.injEq] at ht;subst ht;exact fun a w hr=>wp_label ⟨_,_,h,hr⟩
 | .goto _,sc,K,objs,tm,ht,h=>by simp[By] at ht
 | .refuse _,sc,K,objs,tm,ht,h=>by simp[By] at ht
theorem Pm (c:Code) (sc:SCode) (K:Bb) (objs:List OB) (tm:List AV) (ht:By P c=some sc) (h:DO P C sc K objs tm):WP P C c K objs tm :=
 WP.mono (fun e o t hk=>by cases e<;>first|exact hk.elim|exact hk) (F5 c sc K objs tm ht h)
theorem YZ {sc:SCode} {objs:List OB} {tm:List AV} (J:Nat->List OB->List AV->Prop) (n:Nat) (h0:J n objs tm)
  (round:∀n objs tm,J n objs tm->DO P C sc (D9 (fun o t=>∃m,m<n/\J m o t) K) objs tm):OY P C (.loop sc) (Ex K) objs tm:=by
 intro c ht
 induction c with
 | scope c ih=>simp only[By] at ht;exact WP.scope (ih ht)
 | loop c _=>
  simp only[By] at ht
  cases h1:By P c with
  | none=>rw[h1] at ht;cases ht
  | some a=>
   rw[h1] at ht;injection ht with ht;injection ht with ht;subst ht
   refine WP.loop J n h0 fun n o t hj=>WP.mono ?_ (F5 c a _ o t h1 (round n o t hj));intro e o t hk
   cases e with
   | normal=>exact hk
   | _=>exact hk
 | region id ops draw=>
  cases draw
  ·simp only[By] at ht;split at ht
   ·cases ht
   ·split at ht<;>cases ht
  ·simp only[By] at ht
   split at ht
   ·split at ht
    ·split at ht
     ·cases ht
     split at ht
     ·cases ht
     ·rcases RM ht with ⟨c,_,e⟩|⟨r,_,e⟩|⟨_,e⟩
      ·cases e
      ·unfold LR at e;cases e
      ·cases e
    ·cases ht
   ·cases ht
 | seq x y _ _=>simp only[By] at ht;split at ht<;>cases ht
 | cond c x y _ _=>simp only[By] at ht;split at ht<;>cases ht
 | block id c _=>simp only[By] at ht;cases h1:By P c<;>(rw[h1] at ht;cases ht)
 | _=>simp[By] at ht
end
mutual
/-- the value as it is given away: rows of the call's own last from now on -/
def Bt (objs:List OB):Nat->AV->Option AV
 | d,.agg cs=>(CR objs d cs).map .agg
 | d,.tup cs=>(CR objs d cs).map .tup
 | 0,.orow _ _=>none
 | d+1,.orow b gen=>match objs[b]? with
  | some (.orow _ _ gen' n xs)=>if gen'=gen then (CR objs d xs).map (.row n) else none
  | _=>none
 | _,x=>if x.plain=true then some x else none
def CR (objs:List OB):Nat->List AV->Option (List AV)
 | _,[]=>some []
 | d,x::xs=>match Bt objs d x,CR objs d xs with
  | some y,some ys=>some (y::ys)
  | _,_=>none
end
def Ak.rows (I:Ak) (G:Gh) (objs:List OB) (w:World):Ak:=fun g o v=>I g o v\/(w.cell? ⟨g,o,none⟩=some v/\∃b E sz gen n xs,objs[b]? = some (.orow E sz gen n xs)/\G.own b=some g)
mutual
theorem MP {G:Gh} {I:Ak} {objs:List OB} {w:World} (hm:MemOk G I objs w) (d:Nat) (ih:∀d',d=d'+1->∀(xs rs:List AV) (ys:List Value),CR objs d' xs=some rs->Ac G I xs ys->Ac Gh.none (I.rows G objs w) rs ys/\AE rs=true) :
  ∀(x r:AV) (y:Value),Bt objs d x=some r->Ab G I x y->Ab Gh.none (I.rows G objs w) r y/\r.plain=true
 | .agg cs,r,y,hp,h=>by
  simp only[Bt,xf] at hp;obtain⟨rs,h1,rfl⟩:=hp;simp only[Ab] at h ⊢;obtain⟨ys,e1,e2,e3⟩:=h;obtain⟨k1,k2⟩:=Jr hm d ih cs rs ys h1 e2;exact⟨⟨ys,e1,k1,e3⟩,by simpa[AV.plain] using k2⟩
 | .tup cs,r,y,hp,h=>by
  simp only[Bt,xf] at hp;obtain⟨rs,h1,rfl⟩:=hp;simp only[Ab] at h ⊢;obtain⟨ys,e1,e2⟩:=h;obtain⟨k1,k2⟩:=Jr hm d ih cs rs ys h1 e2;exact⟨⟨ys,e1,k1⟩,by simpa[AV.plain] using k2⟩
 | .orow b gen,r,y,hp,h=>by
  cases d with
  | zero=>simp[Bt] at hp
  | succ d=>
   simp only[Bt] at hp
   split at hp
   ·rename_i E sz gen' n xs hb
    split at hp
    ·rename_i hg;subst hg;simp only[xf] at hp;obtain⟨rs,h1,rfl⟩:=hp;simp only[Ab] at h ⊢;obtain⟨g',v,k1,k2,k3,_⟩:=h;obtain⟨v',vs,m1,m2,m3,m4,m5⟩:=hm.row b E sz gen' n xs hb;rw[k1] at m1;injection m1 with m1;injection m1 with m1 m6
     have hv:=k3 m1.symm;subst m1 m6 hv;obtain⟨q1,q2⟩:=ih d rfl xs rs vs h1 m3;refine⟨?_,by simpa[AV.plain] using q2⟩;have hown:=FL m5 k1;rcases m2.2 with ⟨rfl,rfl⟩|⟨g,cap,cur,rfl,hx1,hx2,hx3,hx4⟩
     ·have hvs:vs=[]:=qh (by simpa using m2.1);subst hvs;exact⟨none,0,[],rfl,⟨zd _,by intro _ e;cases e⟩,q1,by simp,by simp⟩
     ·refine⟨some ⟨g,0,none⟩,cap,vs,rfl,⟨hx3,by rintro _ ⟨⟩ _;rfl⟩,q1,m4,fun j u hj=>⟨g,0,rfl,.inr ⟨?_,b,E,sz,_,n,xs,hb,hown⟩⟩⟩;have:=m2.cells (g:=g) rfl j u hj
      rwa [B9] at this
    ·cases hp
   ·cases hp
 | .p b off,r,y,hp,h=>by cases d<;>simp[Bt,AV.plain] at hp
 | .porow b gen j,r,y,hp,h=>by cases d<;>simp[Bt,AV.plain] at hp
 | .bsl b off n,r,y,hp,h=>by cases d<;>simp[Bt,AV.plain] at hp
 | .m b,r,y,hp,h=>by cases d<;>simp[Bt,AV.plain] at hp
 | .ip T b off,r,y,hp,h=>by cases d<;>simp[Bt,AV.plain] at hp
 | .s l,r,y,hp,h=>by
  have e:r=.s l:=by cases d<;>simp[Bt,AV.plain] at hp<;>exact hp.symm
  subst e;exact⟨Ab.plain (fun _ _ _ h=>.inl h) _ _ rfl h,rfl⟩
 | .i k n,r,y,hp,h=>by
  have e:r=.i k n:=by cases d<;>simp[Bt,AV.plain] at hp<;>exact hp.symm
  subst e;exact⟨Ab.plain (fun _ _ _ h=>.inl h) _ _ rfl h,rfl⟩
 | .b x,r,y,hp,h=>by
  have e:r=.b x:=by cases d<;>simp[Bt,AV.plain] at hp<;>exact hp.symm
  subst e;exact⟨Ab.plain (fun _ _ _ h=>.inl h) _ _ rfl h,rfl⟩
 | .nil,r,y,hp,h=>by
  have e:r=.nil:=by cases d<;>simp[Bt,AV.plain] at hp<;>exact hp.symm
  subst e;exact⟨Ab.plain (fun _ _ _ h=>.inl h) _ _ rfl h,rfl⟩
 | .zn z,r,y,hp,h=>by
  have e:r=.zn z:=by cases d<;>simp[Bt,AV.plain] at hp<;>exact hp.symm
  subst e;exact⟨Ab.plain (fun _ _ _ h=>.inl h) _ _ rfl h,rfl⟩
 | .o v,r,y,hp,h=>by
  have e:r=.o v:=by cases d<;>simp[Bt,AV.plain] at hp<;>exact hp.symm
  subst e;exact⟨Ab.plain (fun _ _ _ h=>.inl h) _ _ rfl h,rfl⟩
 | .u,r,y,hp,h=>by
  have e:r=.u:=by cases d<;>simp[Bt,AV.plain] at hp<;>exact hp.symm
  subst e;exact⟨Ab.plain (fun _ _ _ h=>.inl h) _ _ rfl h,rfl⟩
 | .row n xs,r,y,hp,h=>by
  have e:(AV.row n xs).plain=true/\r=.row n xs:=by
   cases d<;>(simp only[Bt] at hp;split at hp<;>first|(rename_i hq;injection hp with hp;exact⟨hq,hp.symm⟩)|cases hp)
  obtain⟨e1,rfl⟩:=e;exact⟨Ab.plain (fun _ _ _ h=>.inl h) _ _ e1 h,e1⟩
 | .prow xs j,r,y,hp,h=>by
  have e:(AV.prow xs j).plain=true/\r=.prow xs j:=by
   cases d<;>(simp only[Bt] at hp;split at hp<;>first|(rename_i hq;injection hp with hp;exact⟨hq,hp.symm⟩)|cases hp)
  obtain⟨e1,rfl⟩:=e;exact⟨Ab.plain (fun _ _ _ h=>.inl h) _ _ e1 h,e1⟩
 | .crow n xs,r,y,hp,h=>by
  have e:(AV.crow n xs).plain=true/\r=.crow n xs:=by
   cases d<;>(simp only[Bt] at hp;split at hp<;>first|(rename_i hq;injection hp with hp;exact⟨hq,hp.symm⟩)|cases hp)
  obtain⟨e1,rfl⟩:=e;exact⟨Ab.plain (fun _ _ _ h=>.inl h) _ _ e1 h,e1⟩
 | .fn f fs cs,r,y,hp,h=>by
  have e:(AV.fn f fs cs).plain=true/\r=.fn f fs cs:=by
   cases d<;>(simp only[Bt] at hp;split at hp<;>first|(rename_i hq;injection hp with hp;exact⟨hq,hp.symm⟩)|cases hp)
  obtain⟨e1,rfl⟩:=e;exact⟨Ab.plain (fun _ _ _ h=>.inl h) _ _ e1 h,e1⟩
theorem Jr {G:Gh} {I:Ak} {objs:List OB} {w:World} (hm:MemOk G I objs w) (d:Nat) (ih:∀d',d=d'+1->∀(xs rs:List AV) (ys:List Value),CR objs d' xs=some rs->Ac G I xs ys->Ac Gh.none (I.rows G objs w) rs ys/\AE rs=true) :
  ∀(xs rs:List AV) (ys:List Value),CR objs d xs=some rs->Ac G I xs ys->Ac Gh.none (I.rows G objs w) rs ys/\AE rs=true
 | [],rs,ys,hp,h=>by
  simp only[CR,zx.injEq] at hp;subst hp;simp only[Ac] at h ⊢;exact⟨h,rfl⟩
 | x::xs,rs,ys,hp,h=>by
  simp only[CR] at hp
  split at hp
  ·rename_i r rs' h1 h2;injection hp with hp;subst hp
   simp only[Ac] at h ⊢;obtain⟨y,ys',e1,e2,e3⟩:=h;obtain⟨k1,k2⟩:=MP hm d ih x r y h1 e2;obtain⟨k3,k4⟩:=Jr hm d ih xs rs' ys' h2 e3;exact⟨⟨y,ys',e1,k1,k3⟩,by simp[AE,k2,k4]⟩
  ·cases hp
end
theorem QE {G:Gh} {I:Ak} {objs:List OB} {w:World} (hm:MemOk G I objs w):∀(d:Nat) (xs rs:List AV) (ys:List Value),CR objs d xs=some rs->Ac G I xs ys->Ac Gh.none (I.rows G objs w) rs ys/\AE rs=true
 | 0=>Jr hm 0 (fun d' e=>by omega)
 | d+1=>Jr hm (d+1) (fun d' e=>by
   obtain rfl:d=d':=by omega
   exact QE hm d)
theorem pR {G:Gh} {I:Ak} {objs:List OB} {w:World} (hm:MemOk G I objs w) (d:Nat) (x r:AV) (y:Value) (hp:Bt objs d x=some r) (h:Ab G I x y):Ab Gh.none (I.rows G objs w) r y/\r.plain=true:=by
 cases d with
 | zero=>exact MP hm 0 (fun d' e=>by omega) x r y hp h
 | succ d=>exact MP hm (d+1) (fun d' e=>by
   obtain rfl:d=d':=by omega
   exact QE hm d) x r y hp h
inductive SRes where
 | tmp (t:Nat)
 | cell1 (t:Nat)
 | celln (t sz:Nat)
def FB (P:Program):ResultVar->Option SRes
 | .tmp t=>some (.tmp t)
 | .cell a t=>match P.underlying t,P.info? t with
  | some d,some i=>some (if d.isRow=true then .celln a i.size else .cell1 a)
  | _,_=>none
def GB (objs:List OB) (tm:List AV):SRes->Option AV
 | .tmp t=>tm[t]?
 | .cell1 t=>match tm[t]? with
  | some (.p b off)=>match objs[b]? with
   | some (.box _ cs)=>cs[off]?
   | _=>none
  | _=>none
 | .celln t sz=>match tm[t]? with
  | some (.p b off)=>match objs[b]? with
   | some (.box _ cs)=>if off+sz<=cs.length then some (.agg ((cs.drop off).take sz)) else none
   | _=>none
  | _=>none
def EC (objs:List OB) (tm:List AV):List SRes->Option (List AV)
 | []=>some []
 | r::rs=>match GB objs tm r,EC objs tm rs with
  | some x,some xs=>some (x::xs)
  | _,_=>none
def Fe:List AV->AV
 | [x]=>x
 | xs=>.tup xs
def G9 (tmps:Array Value):ResultVar->Sem Value
 | .tmp t=>pure (tmps.getD t undef)
 | .cell b t=>do loadVar t (<-asAddr (tmps.getD b undef))
theorem N1 (fn:Func) (tmps:Array Value):results fn tmps=(fn.results.mapM (G9 tmps)) >>= fun vs=>pure (if h:vs.size=1 then vs[0] else .tuple vs):=by
 unfold results
 congr 2
section
variable {P:Program}
theorem Zd {G:Gh} {I:Ak} {objs:List OB} {tm:List AV} {a:Act} {w:World} (hm:MemOk G I objs w) (hd:Ac G I tm a.tmps.toList) (r:ResultVar) (s:SRes) (x:AV) (hs:FB P r=some s) (hx:GB objs tm s=some x) :
  ∃y,(G9 a.tmps r).run P w=.ok y w/\Ab G I x y:=by
 cases r with
 | tmp t=>
  simp only[FB,zx.injEq] at hs;subst hs;simp only[GB] at hx;obtain⟨y,h1,h2⟩:=Ac.get t hd hx;refine⟨y,?_,h2⟩;rw[Array.getElem?_toList] at h1;simp only[G9,Array.getD_eq_getD_getElem?,h1,ja];rfl
 | cell b t=>
  simp only[FB] at hs
  split at hs
  ·rename_i d i hu hi;injection hs with hs;subst hs
   have getp:∀bb off,tm[b]? = some (.p bb off)->∃g,G.blk bb=some g/\a.tmps.getD b undef=.pointer (some ⟨g,off,none⟩):=by
    intro bb off ht;obtain⟨y,h1,h2⟩:=Ac.get b hd ht;simp only[Ab] at h2;obtain⟨g,hg,rfl⟩:=h2;rw[Array.getElem?_toList] at h1;exact⟨g,hg,by simp[Array.getD_eq_getD_getElem?,h1]⟩
   rcases hr:d.isRow with _|_
   ·simp only[hr,Bool.false_eq_true,if_false,GB] at hx
    split at hx
    ·rename_i bb off ht
     split at hx
     ·rename_i T cs hb;obtain⟨g,hg,hv⟩:=getp bb off ht;obtain⟨g',ys,k1,k2,k3,k4⟩:=hm.box bb T cs hb;obtain rfl:g=g':=zx.inj (hg.symm.trans k1);obtain⟨y,hy,hyd⟩:=Ac.get off k3 hx;refine⟨y,?_,hyd⟩;have hcell:w.cell? ⟨g,off,none⟩=some y:=by rw[cell_of_row w g off _ T (0,0) k2];simpa using hy
      simp[G9,hv,asAddr,loadVar,JF hu,hr,load,Sem.run,hcell]
     ·cases hx
    ·cases hx
   ·simp only[hr,if_true,GB] at hx
    split at hx
    ·rename_i bb off ht
     split at hx
     ·rename_i T cs hb
      split at hx
      ·rename_i hlen;injection hx with hx;subst hx
       obtain⟨g,hg,hv⟩:=getp bb off ht;obtain⟨g',ys,k1,k2,k3,k4⟩:=hm.box bb T cs hb;obtain rfl:g=g':=zx.inj (hg.symm.trans k1);have hl:=k3.length;refine⟨.agg ((ys.drop off).take i.size).toArray,?_,?_⟩
       ·have:=run_loadVar_mid (P:=P) w g off t ((ys.drop off).take i.size) d (by
         intro j v hj;rw[cell_of_row w g (off+j) _ T (0,0) k2];rw[List.getElem?_take] at hj
         split at hj
         ·simpa[ju] using hj
         ·cases hj) hu hr (by rw[hi];simp;omega)
        simp[G9,hv,asAddr,this]
       ·simp only[Ab];exact⟨_,rfl,Ac.take i.size (Ac.drop off k3),fun u hu=>k4 u (List.mem_of_mem_drop (List.mem_of_mem_take hu))⟩
      ·cases hx
     ·cases hx
    ·cases hx
  ·cases hs
theorem Sw {G:Gh} {I:Ak} {objs:List OB} {tm:List AV} {a:Act} {w:World} (hm:MemOk G I objs w) (hd:Ac G I tm a.tmps.toList):∀(rs:List ResultVar) (ss:List SRes) (xs:List AV),rs.mapM (FB P)=some ss->EC objs tm ss=some xs ->
  ∃ys,(rs.mapM (G9 a.tmps)).run P w=.ok ys w/\Ac G I xs ys
 | [],ss,xs,hs,hx=>by
  simp at hs;subst hs;simp only[EC,zx.injEq] at hx;subst hx;exact⟨[],by simp,Ac.nil⟩
 | r::rs,ss,xs,hs,hx=>by
  simp only[List.mapM_cons,Option.bind_eq_bind,Option.pure_def] at hs
  cases h1:FB P r with
  | none=>simp[h1] at hs
  | some s=>
   cases h2:rs.mapM (FB P) with
   | none=>simp[h1,h2] at hs
   | some ss'=>
    simp[h1,h2] at hs;subst hs;simp only[EC] at hx
    split at hx
    ·rename_i x xs' hx1 hx2;injection hx with hx;subst hx
     obtain⟨y,k1,k2⟩:=Zd hm hd r s x h1 hx1;obtain⟨ys,k3,k4⟩:=Sw hm hd rs ss' xs' h2 hx2;exact⟨y::ys,by simp only[List.mapM_cons,Sem.run_bind,k1,Result.andThen_ok,k3,Sem.run_pure],Ac.cons k2 k4⟩
    ·cases hx
theorem Of {fn:Func} {G:Gh} {I:Ak} {objs:List OB} {tm:List AV} {a:Act} {w:World} (hm:MemOk G I objs w) (hd:Ac G I tm a.tmps.toList) (ss:List SRes) (xs:List AV) (hs:fn.results.toList.mapM (FB P)=some ss) (hx:EC objs tm ss=some xs) :
  ∃y,(results fn a.tmps).run P w=.ok y w/\Ab G I (Fe xs) y:=by
 obtain⟨ys,h1,h2⟩:=Sw hm hd _ ss xs hs hx;have hl:=h2.length;have hr:(fn.results.mapM (G9 a.tmps)).run P w=.ok ys.toArray w:=by
  rw[Array.mapM_eq_mapM_toList,Sem.run_map,h1];rfl
 match xs,ys,h2,hl with
 | [x],[y],h2,_=>
  simp only[Ac] at h2;obtain⟨y',ys',e,h3,h4⟩:=h2;injection e with e1 e2;subst e1
  refine⟨y,?_,h3⟩;rw[N1,Sem.run_bind,hr];simp
 | [],[],h2,_=>
  refine⟨.tuple #[],?_,?_⟩
  ·rw[N1,Sem.run_bind,hr];simp
  ·simp only[Fe,Ab];exact⟨[],rfl,Ac.nil⟩
 | x::x'::xs,y::y'::ys,h2,_=>
  refine⟨.tuple (y::y'::ys).toArray,?_,?_⟩
  ·rw[N1,Sem.run_bind,hr];simp
  ·simp only[Fe,Ab];exact⟨_,rfl,h2⟩
 | [],y::ys,h2,hl=>exact absurd hl (by simp)
 | x::xs,[],h2,hl=>exact absurd hl (by simp)
 | [x],y::y'::ys,h2,hl=>exact absurd hl (by simp)
 | x::x'::xs,[y],h2,hl=>exact absurd hl (by simp)
def GA (ss:List SRes) (K:AV->Prop) (objs:List OB) (tm:List AV):Prop :=
 match (EC objs tm ss).bind (fun xs=>Bt objs 5 (Fe xs)) with
 | some r=>K r
 | none=>False
def J1 (ss:List SRes) (K:AV->Prop):Bb
 | .normal,objs,tm=>GA ss K objs tm
 | .ret,objs,tm=>GA ss K objs tm
 | _,_,_=>False
structure FnIs (P:Program) (f:FuncId) (n:Nat) (ss:List SRes) (sc:SCode):Prop where
 is:∃fn c,P.funcs[f]? = some fn/\fn.body=some c/\fn.ntmps=n/\fn.results.toList.mapM (FB P)=some ss/\By P c=some sc
theorem nK [Tabs P] {f:FuncId} {n:Nat} {ss:List SRes} {sc:SCode} (hf:FnIs P f n ss sc) {args:List AV} {objs:List OB} {K:List OB->AV->Prop} (hp:AE args=true)
  (h:∀(C:Cx) [On P C],DO P C sc (J1 ss (fun r=>K objs r)) [] (args++qo (n - args.length) (.o undef))):Ai P f args objs K:=by
 intro C hOn G I w hin hm ys hd;obtain⟨fn,c,h1,h2,h3,h4,h5⟩:=hf.is
 let C':Cx:=⟨w,fun _=>False,I,Gh.none⟩
 haveI hOn':On P C':=⟨hin.tab (P:=P),fun _ h=>h⟩
 have hwp:=Pm (C:=C') c sc _ [] _ h5 (h C');have hlen:=hd.length;have hrel:C1 C' [] (args++qo (n - args.length) (.o undef)) { tmps:=ys.toArray++Array.replicate (fn.ntmps - ys.toArray.size) undef,defers:=[] } w:=by
  refine⟨Gh.none,I,⟨rfl,rfl,rfl,zd _,fun _ _ _=>rfl,fun _ _ _ h=>h,fun _ _ _ h=>.inl h,fun b g hb=>by simp[Gh.own,Gh.none] at hb,Gh.le.refl _⟩,
   ⟨hm.imm,by simp,by simp,by simp,fun b b' g hb=>by simp[Gh.own,Gh.none] at hb,fun b g hb=>by simp[Gh.own,Gh.none] at hb,fun b g o v hb=>by simp[Gh.own,Gh.none] at hb,fun b _=>⟨rfl,rfl⟩⟩,?_,rfl⟩
  simp only[Array.toList_append,Array.toList_replicate,h3,xo];refine Ac.append (Ac.plain (Ak.le.refl I) _ _ hp hd) ?_;rw[hlen];have:∀k,Ac Gh.none I (qo k (.o undef)) (qo k undef):=by
   intro k
   induction k with
   | zero=>exact Ac.nil
   | succ k ih=>exact Ac.cons (by simp[Ab]) ih
  exact this _
 refine calls_of_wp h1 h2 (wp_mono (hwp _ _ hrel) ?_);rintro e a' w' ⟨objs',tm',hk,G',I',hin',hm',hd',hdef⟩;have key:GA ss (fun r=>K objs r) objs' tm' ->
   a'.defers=[]/\∃v,(results fn a'.tmps).run P w'=.ok v w'/\∃y objs'' r G'' I'',Ending.returned v=.returned y/\K objs'' r/\G.le G''/\Ak.le I I''/\In C G'' I'' w'/\MemOk G'' I'' objs'' w'/\Ab G'' I'' r y:=by
  intro hk;unfold GA at hk
  split at hk
  ·rename_i r hr0;obtain⟨xs,hxs,hr⟩:=Option.bind_eq_some_iff.1 hr0
   ·obtain⟨y,hy,hyd⟩:=Of (P:=P) (fn:=fn) hm' hd' ss xs h4 hxs;obtain⟨p1,p2⟩:=pR hm' 5 _ r y hr hyd;have hg:w.grownBy w' none:=⟨hin'.os,hin'.tape,hin'.output,hin'.size,fun k hk _=>hin'.block k hk (fun h=>h)⟩;have hle:Ak.le I (I'.rows G' objs' w'):=fun g o v hi=>.inl (hin'.imm g o v hi);have hnew:∀g o v,I'.rows G' objs' w' g o v->I g o v\/w.heap.size<=g:=by
     rintro g o v (hi|⟨_,b,E,sz,gen,n,xs,hb,ho⟩)
     ·rcases hin'.news g o v hi with h|h|h
      ·exact .inl h
      ·exact h.elim
      ·exact .inr h
     ·rcases hin'.blk b g ho with h|h
      ·exact h.elim
      ·exact .inr h
    refine⟨hdef,y,hy,y,objs,r,G,I'.rows G' objs' w',rfl,hk,Gh.le.refl G,hle,(hin.evolve hg (by simp)).imm_more hle ?_,(hm.evolve hg).imm_more hle ?_ ?_,Ab.plain (Ak.le.refl _) r y p2 p1⟩
    ·intro g o v hi;rcases hnew g o v hi with h|h
     ·exact .inl h
     ·exact .inr (.inr (Nat.le_trans hin.size h))
    ·rintro g o v (hi|⟨hc,_⟩)
     ·exact hm'.imm g o v hi
     ·exact hc
    ·intro b g o v hb hi;rcases hnew g o v hi with h|h
     ·exact hm.apart b g o v hb h
     ·have:=hm.lt b g hb;omega
  ·exact hk.elim
 cases e with
 | normal=>exact key hk
 | ret=>exact key hk
 | _=>exact hk.elim
def Fy (ss:List SRes) (K:List OB->AV->Prop) (objs:List OB) (tm:List AV):Prop :=
 match EC objs tm ss with
 | some xs=>K objs (Fe xs)
 | none=>False
def Ic (ss:List SRes) (K:List OB->AV->Prop):Bb
 | .normal,objs,tm=>Fy ss K objs tm
 | .ret,objs,tm=>Fy ss K objs tm
 | _,_,_=>False
theorem nJ [Tabs P] {f:FuncId} {n:Nat} {ss:List SRes} {sc:SCode} (hf:FnIs P f n ss sc) {args:List AV} {objs:List OB} {K:List OB->AV->Prop}
  (h:∀(C:Cx) [On P C],DO P C sc (Ic ss K) objs (args++qo (n - args.length) (.o undef))):Ai P f args objs K:=by
 intro C hOn G I w hin hm ys hd;obtain⟨fn,c,h1,h2,h3,h4,h5⟩:=hf.is
 let C':Cx:=⟨C.w,C.own,I,G⟩
 haveI hOn':On P C':=⟨hOn.tab,hOn.own⟩
 have hwp:=Pm (C:=C') c sc _ objs _ h5 (h C');have hlen:=hd.length;have hrel:C1 C' objs (args++qo (n - args.length) (.o undef)) { tmps:=ys.toArray++Array.replicate (fn.ntmps - ys.toArray.size) undef,defers:=[] } w:=by
  refine⟨G,I,⟨hin.os,hin.tape,hin.output,hin.size,hin.block,fun _ _ _ h=>h,fun _ _ _ h=>.inl h,hin.blk,Gh.le.refl G⟩,hm,?_,rfl⟩;simp only[Array.toList_append,Array.toList_replicate,h3,xo];refine Ac.append hd ?_;rw[hlen];have:∀k,Ac G I (qo k (.o undef)) (qo k undef):=by
   intro k
   induction k with
   | zero=>exact Ac.nil
   | succ k ih=>exact Ac.cons (by simp[Ab]) ih
  exact this _
 refine calls_of_wp h1 h2 (wp_mono (hwp _ _ hrel) ?_);rintro e a' w' ⟨objs',tm',hk,G',I',hin',hm',hd',hdef⟩;have key:Fy ss K objs' tm' ->
   a'.defers=[]/\∃v,(results fn a'.tmps).run P w'=.ok v w'/\∃y objs'' r G'' I'',Ending.returned v=.returned y/\K objs'' r/\G.le G''/\Ak.le I I''/\In C G'' I'' w'/\MemOk G'' I'' objs'' w'/\Ab G'' I'' r y:=by
  intro hk;unfold Fy at hk
  split at hk
  ·rename_i xs hxs;obtain⟨y,hy,hyd⟩:=Of (P:=P) (fn:=fn) hm' hd' ss xs h4 hxs;refine⟨hdef,y,hy,y,objs',_,G',I',rfl,hk,hin'.gh,hin'.imm,⟨hin'.os,hin'.tape,hin'.output,hin'.size,hin'.block,fun g o v hi=>hin'.imm g o v (hin.imm g o v hi),fun g o v hi=>?_,hin'.blk,hin.gh.trans hin'.gh⟩,hm',hyd⟩;rcases hin'.news g o v hi with h|h
   ·exact hin.news g o v h
   ·exact .inr h
  ·exact hk.elim
 cases e with
 | normal=>exact key hk
 | ret=>exact key hk
 | _=>exact hk.elim
theorem law_ok [Tabs P] {f:FuncId} {args:List AV} {ys:List Value} {w:World} (hd:Ac Gh.none (fun g o v=>w.cell? ⟨g,o,none⟩=some v) args ys) (hT:Tabs.T (P:=P) w) (h:Ai P f args [] (fun _ r=>r=.b true)) :
  Calls P f ys.toArray w fun e w'=>e=.returned (.bool true)/\Below w.heap.size w w':=by
 haveI:On P ⟨w,fun _=>False,fun g o v=>w.cell? ⟨g,o,none⟩=some v,Gh.none⟩:=⟨hT,fun _ h=>h⟩
 have hc:=h ⟨w,fun _=>False,fun g o v=>w.cell? ⟨g,o,none⟩=some v,Gh.none⟩ Gh.none (fun g o v=>w.cell? ⟨g,o,none⟩=some v) w
  ⟨rfl,rfl,rfl,zd _,fun _ _ _=>rfl,fun _ _ _ h=>h,fun _ _ _ h=>.inl h,fun b g hb=>by simp[Gh.own,Gh.none] at hb,Gh.le.refl _⟩
  ⟨fun _ _ _ h=>h,by simp,by simp,by simp,fun b b' g hb=>by simp[Gh.own,Gh.none] at hb,fun b g hb=>by simp[Gh.own,Gh.none] at hb,fun b g o v hb=>by simp[Gh.own,Gh.none] at hb,fun b _=>⟨rfl,rfl⟩⟩ ys hd
 refine hc.mono ?_;rintro e w' ⟨y,objs',r,G',I',rfl,rfl,_,_,hin,_,hy⟩;simp only[Ab] at hy;subst hy;exact⟨rfl,hin.os,hin.tape,hin.output,hin.size,fun k hk=>hin.block k hk (fun h=>h)⟩
end
inductive IT where
 | code (c:SCode)
 | ops (l:List SO)
 | dops (l:List SO)
 | ap (l:List (Nat×Nat×Option (Nat×Bool)))
 | blk (id:Nat)
def D5 (P:Program) [Tabs P] (C:Cx) (F:Bb):List IT->Bb
 | []=>F
 | .code c::k=>D9 (fun o t=>DO P C c (D5 P C F k) o t) (D5 P C F k)
 | .ops l::k=>D9 (fun o t=>As P l o t fun o t=>D5 P C F k .normal o t) (D5 P C F k)
 | .dops l::k=>D9 (fun o t=>BB P l o t fun o t=>D5 P C F k .normal o t) (D5 P C F k)
 | .ap l::k=>D9 (fun o t=>CN l t/\D5 P C F k .normal o t) (D5 P C F k)
 | .blk id::k=>Gs id (D5 P C F k)
def run (P:Program) [Tabs P] (C:Cx) (k:List IT) (objs:List OB) (tm:List AV) (F:Bb):Prop:=D5 P C F k .normal objs tm
def Eu (P:Program) [Tabs P] (C:Cx) (id:Nat) (k:List IT) (objs:List OB) (tm:List AV) (F:Bb):Prop:=D5 P C F k (.exit id) objs tm
def Ka (P:Program) [Tabs P] (C:Cx) (J:Nat->List OB->List AV->Prop) (n:Nat) (k:List IT) (F:Bb):Bb:=D9 (fun o t=>∃m,m<n/\J m o t) (D5 P C F k)
def EL (tm:List AV):List SV->List AV
 | []=>[]
 | x::xs=>x.ev tm::EL tm xs
theorem Hf (tm:List AV):∀l:List SV,EL tm l=l.map fun x=>x.ev tm
 | []=>rfl
 | x::l=>by rw[EL,Hf tm l];rfl
section
variable {P:Program} [Tabs P] {C:Cx} {F:Bb} {k:List IT} {r:List SO} {objs:List OB} {tm:List AV} {d:Option Nat}
theorem pY:run P C [] objs tm F=F .normal objs tm:=Eq.trans rfl rfl
theorem qB (x y:SCode):run P C (.code (.seq x y)::k) objs tm F=run P C (.code x::.code y::k) objs tm F:=Eq.trans rfl rfl
theorem Xq:run P C (.code .skip::k) objs tm F=run P C k objs tm F:=Eq.trans rfl rfl
theorem pZ (l:List SO):run P C (.code (.reg l)::k) objs tm F=run P C (.ops l::k) objs tm F:=Eq.trans rfl rfl
theorem lT (l:List (Nat×Nat×Option (Nat×Bool))):run P C (.ap l::k) objs tm F=(CN l tm/\run P C k objs tm F):=Eq.trans rfl rfl
theorem pX (l:List SO) (n:Nat) (ap:List (Nat×Nat×Option (Nat×Bool))):run P C (.code (.drw l n ap)::k) objs tm F=run P C (.dops (l.take n)::.ap ap::.ops (l.drop n)::k) objs tm F:=Eq.trans rfl rfl
theorem pU (pre:List SO) (cl:SO) (post:List SO):run P C (.code (.crg pre cl post)::k) objs tm F=run P C [.ops pre] objs tm (fun _ _ t1=>run P C [.ops [cl]] objs t1 (fun _ o2 t2=>run P C [.ops pre] o2 tm (fun _ _ t=>t=t1)/\run P C (.ops post::k) o2 t2 F)):=Eq.trans rfl rfl
def FO (P:Program) [Tabs P] (C:Cx):List (List SO×List AV×List AV)->List OB->Prop
 | [],_=>True
 | e::r,o=>run P C [.ops e.1] o e.2.1 (fun _ _ x=>x=e.2.2)/\FO P C r o
def IX (P:Program) [Tabs P] (C:Cx) (st:List (List SO×SO)) (hist:List (List SO×List AV×List AV)) (last:List SO) (k:List IT) (objs:List OB) (tm:List AV) (F:Bb):Prop:=Dh P st hist last objs tm fun o t=>run P C k o t F
theorem Kt:∀(h:List (List SO×List AV×List AV)) (o:List OB),Cl P h o=FO P C h o
 | [],o=>rfl
 | e::h,o=>by
  unfold Cl FO;rw[Kt h o]
  rfl
theorem pV (st:List (List SO×SO)) (last:List SO):run P C (.code (.crs st last)::k) objs tm F=IX P C st [] last k objs tm F:=Eq.trans rfl rfl
theorem lY (h:List (List SO×List AV×List AV)) (last:List SO):IX P C [] h last k objs tm F=run P C (.ops last::k) objs tm F:=Eq.trans rfl rfl
theorem lX (L:List SO) (c:SO) (st:List (List SO×SO)) (h:List (List SO×List AV×List AV)) (last:List SO):IX P C ((L,c)::st) h last k objs tm F=run P C [.ops L] objs tm (fun _ _ u=>run P C [.ops [c]] objs u (fun _ o' t'=>FO P C ((L,tm,u)::h) o'/\IX P C st ((L,tm,u)::h) last k o' t' F)):=by
 rw[show IX P C ((L,c)::st) h last k objs tm F=As P L objs tm (fun _ u=>As P [c] objs u fun o' t'=>Cl P ((L,tm,u)::h) o'/\Dh P st ((L,tm,u)::h) last o' t' fun o t=>run P C k o t F) from rfl];simp only[Kt (C:=C)]
 rfl
def IY (P:Program) [Tabs P] (C:Cx) (d:Nat) (T:TypeId) (z:List AV) (sr:SO) (st:List (List SO×SO)) (hist:List (List SO×List AV×List AV)) (last:List SO) (k:List IT) (objs:List OB) (tm:List AV) (F:Bb):Prop:=E6 P d T z st hist last objs tm fun o t=>As P [sr] o t fun o t=>run P C k o t F
theorem pT (d:Nat) (T:TypeId) (z:List AV) (st:List (List SO×SO)) (last:List SO) (sr:SO):run P C (.code (.cra d T z st last sr)::k) objs tm F=(tm.length<=1000003/\IY P C d T z sr st [] last k objs tm F):=Eq.trans rfl rfl
theorem lW (d:Nat) (T:TypeId) (z:List AV) (sr:SO) (h:List (List SO×List AV×List AV)) (last:List SO):IY P C d T z sr [] h last k objs tm F=run P C [.ops last] objs tm (fun _ _ u=>FO P C (CY d (.p objs.length 0) ((last,tm,u)::h)) (objs++[.box T z])/\run P C (.ops [sr]::k) (objs++[.box T z]) (u.set d (.p objs.length 0)) F):=by
 rw[show IY P C d T z sr [] h last k objs tm F=As P last objs tm (fun _ u=>Cl P (CY d (.p objs.length 0) ((last,tm,u)::h)) (objs++[.box T z])/\As P [sr] (objs++[.box T z]) (u.set d (.p objs.length 0)) fun o t=>run P C k o t F) from rfl];simp only[Kt (C:=C)]
 rfl
theorem lV (d:Nat) (T:TypeId) (z:List AV) (sr:SO) (L:List SO) (c:SO) (st:List (List SO×SO)) (h:List (List SO×List AV×List AV)) (last:List SO):IY P C d T z sr ((L,c)::st) h last k objs tm F=run P C [.ops L] objs tm (fun _ _ u=>(FO P C (CY d (.p objs.length 0) ((L,tm,u)::h)) (objs++[.box T z])/\run P C [.ops [c]] (objs++[.box T z]) (u.set d (.p objs.length 0)) (fun _ o' t'=>FO P C (CY d (.p objs.length 0) ((L,tm,u)::h)) o'/\IX P C st (CY d (.p objs.length 0) ((L,tm,u)::h)) last (.ops [sr]::k) o' t' F))/\run P C [.ops [c]] objs u (fun _ o' t'=>FO P C ((L,tm,u)::h) o'/\IY P C d T z sr st ((L,tm,u)::h) last k o' t' F)):=by
 rw[show IY P C d T z sr ((L,c)::st) h last k objs tm F=As P L objs tm (fun _ u=>(Cl P (CY d (.p objs.length 0) ((L,tm,u)::h)) (objs++[.box T z])/\As P [c] (objs++[.box T z]) (u.set d (.p objs.length 0)) (fun o' t'=>Cl P (CY d (.p objs.length 0) ((L,tm,u)::h)) o'/\Dh P st (CY d (.p objs.length 0) ((L,tm,u)::h)) last o' t' fun o t=>As P [sr] o t fun o t=>run P C k o t F))/\As P [c] objs u (fun o' t'=>Cl P ((L,tm,u)::h) o'/\E6 P d T z st ((L,tm,u)::h) last o' t' fun o t=>As P [sr] o t fun o t=>run P C k o t F)) from rfl];simp only[Kt (C:=C)]
 rfl
theorem C6 (id:Nat) (c:SCode):run P C (.code (.blk id c)::k) objs tm F=run P C (.code c::.blk id::k) objs tm F:=Eq.trans rfl rfl
theorem Zh (id:Nat):run P C (.blk id::k) objs tm F=run P C k objs tm F:=Eq.trans rfl rfl
theorem dR:run P C (.ops []::k) objs tm F=run P C k objs tm F:=Eq.trans rfl rfl
theorem eW:run P C (.dops []::k) objs tm F=run P C k objs tm F:=Eq.trans rfl rfl
theorem GO:∀(k:List IT),D5 P C F k .ret objs tm=F .ret objs tm
 | []=>rfl
 | .code c::k=>GO k
 | .ops l::k=>GO k
 | .dops l::k=>GO k
 | .ap l::k=>GO k
 | .blk id::k=>GO k
theorem qA:run P C (.code .ret::k) objs tm F=F .ret objs tm:=GO k
theorem Xo:run P C (.code .dead::k) objs tm F=False:=Eq.trans rfl rfl
theorem Xp (id:Nat):run P C (.code (.exit id)::k) objs tm F=Eu P C id k objs tm F:=Eq.trans rfl rfl
theorem Xj (id:Nat):Eu P C id [] objs tm F=F (.exit id) objs tm:=Eq.trans rfl rfl
theorem Y0 (id:Nat) (c:SCode):Eu P C id (.code c::k) objs tm F=Eu P C id k objs tm F:=Eq.trans rfl rfl
theorem Xk (id:Nat) (l:List SO):Eu P C id (.ops l::k) objs tm F=Eu P C id k objs tm F:=Eq.trans rfl rfl
theorem Y1 (id:Nat) (l:List SO):Eu P C id (.dops l::k) objs tm F=Eu P C id k objs tm F:=Eq.trans rfl rfl
theorem V7 (id:Nat) (l:List (Nat×Nat×Option (Nat×Bool))):Eu P C id (.ap l::k) objs tm F=Eu P C id k objs tm F:=Eq.trans rfl rfl
theorem Xi (id id':Nat):Eu P C id (.blk id'::k) objs tm F=if id=id' then run P C k objs tm F else Eu P C id k objs tm F:=Eq.trans rfl rfl
theorem fN (J:Nat->List OB->List AV->Prop) (n:Nat):Ka P C J n k F .normal objs tm=∃m,m<n/\J m objs tm:=Eq.trans rfl rfl
theorem bS (J:Nat->List OB->List AV->Prop) (n id:Nat):Ka P C J n k F (.exit id) objs tm=Eu P C id k objs tm F:=Eq.trans rfl rfl
theorem bB (J:Nat->List OB->List AV->Prop) (n:Nat):Ka P C J n k F .ret objs tm=F .ret objs tm:=GO k
theorem BI [On P C] {c:SCode} (J:Nat->List OB->List AV->Prop) (n:Nat) (h0:J n objs tm) (round:∀n objs tm,J n objs tm->run P C [.code c] objs tm (Ka P C J n k F)):run P C (.code (.loop c)::k) objs tm F :=
 YZ J n h0 round
def nxt (P:Program) [Tabs P] (C:Cx) (d:Option Nat) (r:List SO) (k:List IT) (tm:List AV) (F:Bb) (o:List OB) (v:AV):Prop:=run P C (.ops r::k) o (AD tm d v) F
theorem rC (o:List OB) (v:AV):nxt P C d r k tm F o v=run P C (.ops r::k) o (AD tm d v) F:=Eq.trans rfl rfl
theorem lU (op:SOp):run P C (.ops (⟨d,op,none⟩::r)::k) objs tm F=Ah P op objs tm (nxt P C d r k tm F):=Eq.trans rfl rfl
section
variable (objs) (N:List OB->AV->Prop)
def kO:Option AV->Prop
 | some v=>N objs v
 | none=>False
theorem mQ (c:Prop) [Decidable c] (v:AV):kO objs N (if c then some v else none)=(c/\N objs v):=by
 by_cases h:c<;>simp[h,kO]
theorem mP (x:Option AV):(∃v,x=some v/\N objs v)=kO objs N x:=by cases x<;>simp[kO]
theorem lI (x:Option AV):(match x with|some v=>N objs v|none=>False)=kO objs N x:=by cases x<;>rfl
def Mi (x y:AV):AV->Prop
 | .b t=>(t=true->N objs x)/\(t=false->N objs y)
 | _=>False
theorem WR (x y:AV):Mi objs N x y (.b true)=N objs x:=propext ⟨fun h=>h.1 rfl,fun h=>⟨fun _=>h,fun e=>absurd e.symm Bool.false_ne_true⟩⟩
theorem WQ (x y:AV):Mi objs N x y (.b false)=N objs y:=propext ⟨fun h=>h.2 rfl,fun h=>⟨fun e=>absurd e Bool.false_ne_true,fun _=>h⟩⟩
theorem V6 (c x y:SV):Ah P (.pick c x y) objs tm N=Mi objs N (x.ev tm) (y.ev tm) (c.ev tm):=Eq.trans rfl rfl
def L0:AV->Prop
 | .p b off=>match objs[b]? with
  | some (.box _ cs)=>kO objs N cs[off]?
  | _=>False
 | .prow xs j=>kO objs N xs[j]?
 | .porow b gen j=>match objs[b]? with
  | some (.orow _ _ gen' _ xs)=>gen'=gen/\kO objs N xs[j]?
  | _=>False
 | _=>False
theorem Xg (x:SV):Ah P (.load1 x) objs tm N=L0 objs N (x.ev tm):=by
 simp only[Ah,mP,lI]
 cases x.ev tm<;>rfl
def Ey (z:Int):IntKind->Prop
 | .i64=>(-9223372036854775808<=z/\z<=9223372036854775807)/\N objs (.i .i64 z)
 | .i8=>N objs (.i .i8 (IntKind.wrap .i8 z))
 | .i16=>N objs (.i .i16 (IntKind.wrap .i16 z))
 | .i32=>N objs (.i .i32 (IntKind.wrap .i32 z))
 | .u8=>N objs (.i .u8 (IntKind.wrap .u8 z))
 | .u16=>N objs (.i .u16 (IntKind.wrap .u16 z))
 | .u32=>N objs (.i .u32 (IntKind.wrap .u32 z))
 | .u64=>N objs (.i .u64 (IntKind.wrap .u64 z))
theorem PV (q:IntKind) (z:Int):EA q z (fun z=>N objs (.i q z))=Ey objs N z q:=by cases q<;>rfl
def Vk:AV->Prop
 | .i q n=>Ey objs N (0 - n) q
 | _=>False
theorem mF (x:SV):Ah P (.neg x) objs tm N=Vk objs N (x.ev tm):=by
 simp only[Ah,PV]
 cases x.ev tm<;>rfl
def E7 (q:IntKind) (m n:Int):BinOp->Prop
 | .add=>Ey objs N (m+n) q
 | .sub=>Ey objs N (m - n) q
 | .mul=>Ey objs N (m*n) q
 | .quo=>n≠0/\Ey objs N (m.tdiv n) q
 | .rem=>n≠0/\N objs (.i q (m.tmod n))
 | .eql=>N objs (.b (decide (m=n)))
 | .neq=>N objs (.b (decide (¬m=n)))
 | .lss=>N objs (.b (decide (m<n)))
 | .leq=>N objs (.b (decide (m<=n)))
 | .gtr=>N objs (.b (decide (n<m)))
 | .geq=>N objs (.b (decide (n<=m)))
 | _=>False
def L6 (l m:List UInt8):BinOp->Prop
 | .add=>l.length+m.length<=9223372036854775807/\N objs (.s (l++m))
 | .eql=>N objs (.b (decide (l=m)))
 | .neq=>N objs (.b (decide (¬l=m)))
 | _=>False
def LZ (op:BinOp) (x y:AV):Prop:=Fx op x y fun v=>N objs v
theorem mD (op:BinOp) (x y:SV):Ah P (.bin op x y) objs tm N=LZ objs N op (x.ev tm) (y.ev tm):=Eq.trans rfl rfl
theorem nY (op:BinOp) (q:IntKind) (m n:Int):LZ objs N op (.i q m) (.i q n)=E7 objs N q m n op:=by
 simp only[LZ,Fx,PV,true_and]
 cases op<;>rfl
theorem nZ (op:BinOp) (l m:List UInt8):LZ objs N op (.s l) (.s m)=L6 objs N l m op:=by cases op<;>rfl
def I9:AV->Prop
 | .row n _=>N objs (.i .i64 n)
 | .nil=>N objs (.i .i64 0)
 | .orow b gen=>match objs[b]? with
  | some (.orow _ _ gen' n _)=>gen'=gen/\N objs (.i .i64 n)
  | _=>False
 | .zn _=>N objs (.i .i64 0)
 | _=>False
theorem V5 (x:SV):Ah P (.lenr x) objs tm N=I9 objs N (x.ev tm):=by simp only[Ah];cases x.ev tm<;>rfl
def ON (E sz by' m:Nat) (ys:List AV):AV->Prop
 | .orow b gen=>match objs[b]? with
  | some (.orow E' sz' gen' n xs)=>((E'=E/\sz'=sz/\gen'=gen)/\ys.length=m*sz/\(n+m)*by'<=140737488355328/\n+m<=140737488355328)/\N (objs.set b (.orow E sz (gen+1) (n+m) (xs++ys))) (.orow b (gen+1))
  | _=>False
 | .nil=>(ys.length=m*sz/\m*by'<=140737488355328/\m<=140737488355328)/\N (objs++[.orow E sz 0 m ys]) (.orow objs.length 0)
 | _=>False
def Vy (E sz by':Nat) (v:AV):Option (Nat×List AV)->Prop
 | some (m,ys)=>ON objs N E sz by' m ys v
 | none=>False
theorem mC (E sz by':Nat) (x y:SV):Ah P (.app E sz by' x y) objs tm N=Vy objs N E sz by' (x.ev tm) (Dk objs (y.ev tm)):=by
 simp only[Ah]
 cases Dk objs (y.ev tm)<;>rfl
def OR (E:Nat) (l:List UInt8):AV->Prop
 | .orow b gen=>match objs[b]? with
  | some (.orow E' sz' gen' n xs)=>((E'=E/\sz'=1/\gen'=gen)/\n+l.length<=140737488355328)/\N (objs.set b (.orow E 1 (gen+1) (n+l.length) (xs++Bf l))) (.orow b (gen+1))
  | _=>False
 | .nil=>l.length<=140737488355328/\N (objs++[.orow E 1 0 l.length (Bf l)]) (.orow objs.length 0)
 | _=>False
def Vj (E:Nat) (v:AV):AV->Prop
 | .s l=>OR objs N E l v
 | _=>False
theorem V2 (E:Nat) (x y:SV):Ah P (.apps E x y) objs tm N=Vj objs N E (x.ev tm) (y.ev tm):=by
 simp only[Ah]
 cases y.ev tm<;>rfl
def lE (c:Option OB) (gen:Nat):Prop:=match c with
 | some (.orow _ sz gen' _ xs)=>(gen'=gen/\sz=1)/\∃l,xs=Bf l/\N objs (.s l)
 | _=>False
def lF (c:Option OB) (off n:Nat):Prop:=match c with
 | some (.box _ cs)=>∃l,((cs.drop off).take n=Bf l/\l.length=n)/\N objs (.s l)
 | _=>False
def IZ:AV->Prop
 | .orow b gen=>lE objs N objs[b]? gen
 | .row n xs=>∃l,(xs=Bf l/\n=l.length)/\N objs (.s l)
 | .nil=>N objs (.s [])
 | .bsl b off n=>lF objs N objs[b]? off n
 | _=>False
theorem V4 (x:SV):Ah P (.cvbs x) objs tm N=IZ objs N (x.ev tm):=by
 simp only[Ah]
 cases x.ev tm<;>try rfl
 all_goals simp only[IZ]
 all_goals
  generalize objs[_]? = q
  cases q with
  | none=>rfl
  | some ob=>cases ob<;>rfl
theorem lN (q:PQ) (xs:List SV):Ah P (.pu q xs) objs tm N=kO objs N (pq q (EL tm xs)):=by
 simp only[Ah,Hf]
 cases pq q (xs.map fun x=>x.ev tm)<;>rfl
def Mh (P:Program) [Tabs P] (f:Nat) (args:List AV):Prop:=Ai P f args objs N
theorem V3 (f:Nat) (args:List SV):Ah P (.call f args) objs tm N=Mh objs N P f (EL tm args):=by simp only[Ah,Mh,Hf]
def Gr (P : Program) (f : Nat) : Prop := ∃ fn, P.funcs[f]? = some fn ∧ fn.body.isSome = true ∧ fn.name ≠ "runtime.NumGoroutine"
def Po (P:Program) [Tabs P] (args:List AV):AV->Prop
 | .fn f fs cs=>Gr P f/\Ai P f (fs++args++cs) objs N
 | _=>False
theorem XG (x:SV) (args:List SV):Ah P (.callv x args) objs tm N=Po objs N P (EL tm args) (x.ev tm):=by
 simp only[Ah,Hf]
 cases x.ev tm<;>rfl
def OO (P:Program) [Tabs P] (tab:List (Nat×Nat)) (args:List AV):AV->Prop
 | .ip T b off=>match tab.lookup T with
  | some f=>Ai P f (.p b off::args) objs N
  | none=>False
 | _=>False
theorem mE (tab:List (Nat×Nat)) (x:SV) (args:List SV):Ah P (.inv tab x args) objs tm N=OO objs N P tab (EL tm args) (x.ev tm):=by
 simp only[Ah,Hf]
 cases x.ev tm<;>rfl
end
section
variable {N:List OB->AV->Prop}
theorem WO (l:List UInt8) (n:Nat) (hn:n=l.length) (h:N objs (.s l)):IZ objs N (.row n (Bf l)):=⟨l,⟨rfl,hn⟩,h⟩
theorem Ag {f:Nat} {args:List AV} (h:Ai P f args objs N):Mh objs N P f args:=h
theorem He {f:Nat} {fs cs args:List AV} (hf:Gr P f) (h:Ai P f (fs++args++cs) objs N):Po objs N P args (.fn f fs cs):=⟨hf,h⟩
theorem G7 {f T b off:Nat} {tab:List (Nat×Nat)} {args:List AV} (hf:tab.lookup T=some f) (h:Ai P f (.p b off::args) objs N):OO objs N P tab args (.ip T b off):=by
 simp only[OO,hf];exact h
end
theorem qW (q:IntKind) (a b:Int):pq (.bits .and) [.i q a,.i q b]=some (.i q (q.wrap (BitVec.ofInt q.bits a &&& BitVec.ofInt q.bits b).toNat)):=by simp[pq,Ih]
theorem nC (q:IntKind) (a b:Int):pq (.bits .or) [.i q a,.i q b]=some (.i q (q.wrap (BitVec.ofInt q.bits a ||| BitVec.ofInt q.bits b).toNat)):=by simp[pq,Ih]
theorem pP (q:IntKind) (a b:Int):pq (.bits .xor) [.i q a,.i q b]=some (.i q (q.wrap (BitVec.ofInt q.bits a ^^^ BitVec.ofInt q.bits b).toNat)):=by simp[pq,Ih]
theorem pI (q q':IntKind) (a b:Int):pq .shl [.i q a,.i q' b]=if 0<=b then some (.i q (q.wrap (a*2 ^ (min b.toNat q.bits)))) else none:=Eq.trans rfl rfl
theorem pJ (q q':IntKind) (a b:Int):pq .shr [.i q a,.i q' b]=if 0<=b then some (.i q (a.fdiv (2 ^ (min b.toNat q.bits)))) else none:=Eq.trans rfl rfl
theorem nA (q:IntKind) (a b:Int):pq .mn [.i q a,.i q b]=some (.i q (if b<a then b else a)):=by simp[pq]
theorem nB (q:IntKind) (a b:Int):pq .mx [.i q a,.i q b]=some (.i q (if a<b then b else a)):=by simp[pq]
theorem pH (sz n:Nat) (xs:List AV) (q:IntKind) (a:Int):pq (.rsl sz) [.row n xs,.i q a]=if 0<=a/\a<=n then some (.row (n - a.toNat) ((xs.take (n*sz)).drop (a.toNat*sz))) else none:=Eq.trans rfl rfl
theorem XL (sz:Nat) (q:IntKind) (a:Int):pq (.rsl sz) [.nil,.i q a]=if a=0 then some .nil else none:=Eq.trans rfl rfl
theorem XK (sz n:Nat) (xs:List AV) (q:IntKind) (a:Int):pq (.rslh sz) [.row n xs,.i q a]=if 0<=a/\a<=n then some (.row a.toNat (xs.take (a.toNat*sz))) else none:=Eq.trans rfl rfl
theorem Zz (sz:Nat) (q:IntKind) (a:Int):pq (.rslh sz) [.nil,.i q a]=if a=0 then some .nil else none:=Eq.trans rfl rfl
theorem XJ (sz n:Nat) (xs:List AV) (q q':IntKind) (a b:Int):pq (.rslb sz) [.row n xs,.i q a,.i q' b]=if 0<=a/\a<=b/\b<=n then some (.row (b.toNat - a.toNat) ((xs.take (b.toNat*sz)).drop (a.toNat*sz))) else none:=Eq.trans rfl rfl
theorem qX (sz len b off:Nat) (q:IntKind) (a:Int):pq (.asl sz len) [.p b off,.i q a]=if 0<=a/\a<len then some (.bsl b (off+a.toNat*sz) (len - a.toNat)) else none:=Eq.trans rfl rfl
theorem XI (sz len b off:Nat) (q:IntKind) (a:Int):pq (.aslh sz len) [.p b off,.i q a]=if 0<=a/\a<=len/\0<len then some (.bsl b off a.toNat) else none:=Eq.trans rfl rfl
theorem XH (sz len b off:Nat) (q q':IntKind) (a c:Int):pq (.aslb sz len) [.p b off,.i q a,.i q' c]=if 0<=a/\a<=c/\c<=len/\a<len then some (.bsl b (off+a.toNat*sz) (c.toNat - a.toNat)) else none:=Eq.trans rfl rfl
theorem pL (ne:Bool):pq (.snil ne) [.nil,.nil]=some (.b (!ne)):=Eq.trans rfl rfl
theorem pN (ne b:Bool):pq (.snil ne) [.zn b,.nil]=some (.b (if ne then !b else b)):=Eq.trans rfl rfl
theorem pM (ne:Bool) (n:Nat) (x:AV) (xs:List AV):pq (.snil ne) [.row n (x::xs),.nil]=some (.b ne):=Eq.trans rfl rfl
theorem pK (n:Nat) (xs:List AV) (q q':IntKind):pq .sl3 [.row n xs,.i q n,.i q' n]=some (.crow n xs):=by simp[pq]
theorem pD (n:Nat) (z:List AV) (pl:List (Nat×Nat)) (xs:List AV):pq (.lit n z pl) xs=(D7 z (Gx pl xs)).map (.crow n):=by
 simp only[pq]
theorem V8 (a b:Nat) (pl:List (Nat×Nat)) (x:AV) (xs:List AV):Gx ((a,b)::pl) (x::xs)=(a,b,x)::Gx pl xs:=Eq.trans rfl rfl
theorem V9 (xs:List AV):Gx [] xs=[]:=by cases xs<;>rfl
theorem XM (q q':IntKind):pq .sl3 [.nil,.i q 0,.i q' 0]=some (.crow 0 []):=by simp[pq]
theorem pG (T b off:Nat):pq (.mki T) [.p b off]=some (.ip T b off):=Eq.trans rfl rfl
theorem pF (T:Nat) (q:IntKind) (n:Int):pq (.mki T) [.i q n]=some (.o (.iface T (.int q n))):=Eq.trans rfl rfl
theorem pO (T:Nat) (q:IntKind) (n:Int):pq (.tas T) [.o (.iface T (.int q n))]=some (.tup [.i q n,.b true]):=by simp[pq]
theorem pE (l m:List UInt8):pq (.scmp .lss) [.s l,.s m]=some (.b (AG l m)):=Eq.trans rfl rfl
theorem rA (l m:List UInt8):pq (.scmp .leq) [.s l,.s m]=some (.b (AG l m||l==m)):=Eq.trans rfl rfl
theorem qZ (l m:List UInt8):pq (.scmp .gtr) [.s l,.s m]=some (.b (!AG l m&&!(l==m))):=Eq.trans rfl rfl
theorem qY (l m:List UInt8):pq (.scmp .geq) [.s l,.s m]=some (.b (!AG l m)):=Eq.trans rfl rfl
def kG (P:Program) [Tabs P] (C:Cx) (v:AV) (op:SOp) (t:Nat) (w:Bool) (d:Option Nat) (r:List SO) (k:List IT) (objs:List OB) (tm:List AV) (F:Bb):Prop :=
 match v with
 | .b x=>(x=w->run P C (.ops (⟨d,op,none⟩::r)::k) objs (tm.set t (.b w)) F)/\(x=!w->run P C (.ops r::k) objs (AD (tm.set t (.b (!w))) d (.o undef)) F)
 | .o (.tuple _)=>run P C (.ops r::k) objs (AD tm d (.o undef)) F
 | _=>False
def GY (P:Program) [Tabs P] (C:Cx) (v:AV) (op:SOp) (t:Nat) (w:Bool) (d:Option Nat) (r:List SO) (k:List IT) (objs:List OB) (tm:List AV) (F:Bb):Prop :=
 match v with
 | .b x=>(x=w->run P C (.dops (⟨d,op,none⟩::r)::k) objs (tm.set t (.b w)) F)/\(x=!w->run P C (.dops r::k) objs (AD (tm.set t (.b (!w))) d (.o undef)) F)
 | .o (.tuple _)=>run P C (.dops r::k) objs (AD tm d (.o undef)) F
 | _=>False
theorem mO (op:SOp) (t:Nat):kG P C (.b true) op t true d r k objs tm F=run P C (.ops (⟨d,op,none⟩::r)::k) objs (tm.set t (.b true)) F:=propext ⟨fun h=>h.1 rfl,fun h=>⟨fun _=>h,fun e=>absurd e (by decide)⟩⟩
theorem mN (op:SOp) (t:Nat):kG P C (.b true) op t false d r k objs tm F=run P C (.ops r::k) objs (AD (tm.set t (.b true)) d (.o undef)) F:=propext ⟨fun h=>h.2 rfl,fun h=>⟨fun e=>absurd e (by decide),fun _=>h⟩⟩
theorem mM (op:SOp) (t:Nat):kG P C (.b false) op t true d r k objs tm F=run P C (.ops r::k) objs (AD (tm.set t (.b false)) d (.o undef)) F:=propext ⟨fun h=>h.2 rfl,fun h=>⟨fun e=>absurd e (by decide),fun _=>h⟩⟩
theorem mL (op:SOp) (t:Nat):kG P C (.b false) op t false d r k objs tm F=run P C (.ops (⟨d,op,none⟩::r)::k) objs (tm.set t (.b false)) F:=propext ⟨fun h=>h.1 rfl,fun h=>⟨fun _=>h,fun e=>absurd e (by decide)⟩⟩
theorem lG (op:SOp) (t:Nat) (w:Bool):kG P C (.o undef) op t w d r k objs tm F=run P C (.ops r::k) objs (AD tm d (.o undef)) F:=Eq.trans rfl rfl
theorem lH (op:SOp) (t:Nat) (w:Bool) (vs:Array Value):kG P C (.o (.tuple vs)) op t w d r k objs tm F=run P C (.ops r::k) objs (AD tm d (.o undef)) F:=Eq.trans rfl rfl
theorem oD (op:SOp) (t:Nat):GY P C (.b true) op t true d r k objs tm F=run P C (.dops (⟨d,op,none⟩::r)::k) objs (tm.set t (.b true)) F:=propext ⟨fun h=>h.1 rfl,fun h=>⟨fun _=>h,fun e=>absurd e (by decide)⟩⟩
theorem oC (op:SOp) (t:Nat):GY P C (.b true) op t false d r k objs tm F=run P C (.dops r::k) objs (AD (tm.set t (.b true)) d (.o undef)) F:=propext ⟨fun h=>h.2 rfl,fun h=>⟨fun e=>absurd e (by decide),fun _=>h⟩⟩
theorem oB (op:SOp) (t:Nat):GY P C (.b false) op t true d r k objs tm F=run P C (.dops r::k) objs (AD (tm.set t (.b false)) d (.o undef)) F:=propext ⟨fun h=>h.2 rfl,fun h=>⟨fun e=>absurd e (by decide),fun _=>h⟩⟩
theorem oA (op:SOp) (t:Nat):GY P C (.b false) op t false d r k objs tm F=run P C (.dops (⟨d,op,none⟩::r)::k) objs (tm.set t (.b false)) F:=propext ⟨fun h=>h.1 rfl,fun h=>⟨fun _=>h,fun e=>absurd e (by decide)⟩⟩
theorem mJ (op:SOp) (t:Nat) (w:Bool):GY P C (.o undef) op t w d r k objs tm F=run P C (.dops r::k) objs (AD tm d (.o undef)) F:=Eq.trans rfl rfl
theorem mK (op:SOp) (t:Nat) (w:Bool) (vs:Array Value):GY P C (.o (.tuple vs)) op t w d r k objs tm F=run P C (.dops r::k) objs (AD tm d (.o undef)) F:=Eq.trans rfl rfl
theorem Zg (op:SOp) (t:Nat) (w:Bool):run P C (.ops (⟨d,op,some (t,w)⟩::r)::k) objs tm F=kG P C ((tm[t]?).getD .u) op t w d r k objs tm F:=by
 show As P _ _ _ _=_;simp only[As,kG]
 cases (tm[t]?).getD .u<;>try rfl
 try (case o v=>cases v<;>rfl)
theorem aE (op:SOp) (t:Nat) (w:Bool):run P C (.dops (⟨d,op,some (t,w)⟩::r)::k) objs tm F=GY P C ((tm[t]?).getD .u) op t w d r k objs tm F:=by
 show BB P _ _ _ _=_;simp only[BB,GY]
 cases (tm[t]?).getD .u<;>try rfl
 try (case o v=>cases v<;>rfl)
def kC (P:Program) [Tabs P] (C:Cx) (v:AV) (x y:SCode) (k:List IT) (objs:List OB) (tm:List AV) (F:Bb):Prop :=
 match v with
 | .b t=>(t=true->run P C (.code x::k) objs tm F)/\(t=false->run P C (.code y::k) objs tm F)
 | _=>False
theorem lD (x y:SCode):kC P C (.b true) x y k objs tm F=run P C (.code x::k) objs tm F:=propext ⟨fun h=>h.1 rfl,fun h=>⟨fun _=>h,fun e=>absurd e (by decide)⟩⟩
theorem lC (x y:SCode):kC P C (.b false) x y k objs tm F=run P C (.code y::k) objs tm F:=propext ⟨fun h=>h.2 rfl,fun h=>⟨fun e=>absurd e (by decide),fun _=>h⟩⟩
theorem Xn (c:SV) (x y:SCode):run P C (.code (.cond c x y)::k) objs tm F=kC P C (c.ev tm) x y k objs tm F:=by
 show DO P C _ _ _ _=_;simp only[DO,kC]
 cases c.ev tm<;>rfl
def Kn (P:Program) [Tabs P] (C:Cx) (f:Nat) (args:List AV) (d:Option Nat) (r:List SO) (k:List IT) (objs:List OB) (tm:List AV) (F:Bb):Prop:=∃v,(Ai P f args objs fun o x=>o=objs/\x=v)/\run P C (.dops r::k) objs (AD tm d v) F
theorem Zf (f:Nat) (args:List SV):run P C (.dops (⟨d,.call f args,none⟩::r)::k) objs tm F=Kn P C f (EL tm args) d r k objs tm F:=by
 show BB P _ _ _ _=_;simp only[BB,Ah,Kn,Hf,SOp.isCall,if_true];rfl
def Ko (P:Program) [Tabs P] (C:Cx) (f:Nat) (args:List AV) (d:Option Nat) (r:List SO) (k:List IT) (objs:List OB) (tm:List AV) (F:Bb):Prop:=∃v,(AE args=true/\Ai P f args [] fun _ x=>x.plain=true/\objs=objs/\x=v)/\run P C (.dops r::k) objs (AD tm d v) F
theorem Rt (f:Nat) (args:List SV):run P C (.dops (⟨d,.pcall f args,none⟩::r)::k) objs tm F=Ko P C f (EL tm args) d r k objs tm F:=by
 show BB P (⟨d,.pcall f args,none⟩::r) objs tm _=_;simp only[BB,Ah,Ko,Hf,SOp.isCall,if_true];rfl
theorem Fj {f:Nat} {args:List AV} {v:AV} (h:Ai P f args [] fun _ x=>x=v) (hp:AE args=true) (hv:v.plain=true) (hr:run P C (.dops r::k) objs (AD tm d v) F):Ko P C f args d r k objs tm F :=
 ⟨v,⟨hp,h.mono fun _ x e=>by subst e;exact⟨hv,rfl,rfl⟩⟩,hr⟩
theorem Br {f:Nat} {args:List AV} {v:AV} (h:Ai P f args objs fun o x=>o=objs/\x=v) (hr:run P C (.dops r::k) objs (AD tm d v) F):Kn P C f args d r k objs tm F:=⟨v,h,hr⟩
section
variable (P) [Tabs P] (C) (d r k objs tm F)
def dT (op:SOp):Prop:=run P C (.ops [⟨d,op,none⟩]::.dops r::k) objs tm F
def dS:SOp->Prop
 | .call f a=>Kn P C f (EL tm a) d r k objs tm F
 | .pcall f a=>Ko P C f (EL tm a) d r k objs tm F
 | .mv x=>dT P C F k r objs tm d (.mv x)
 | .pick x y z=>dT P C F k r objs tm d (.pick x y z)
 | .alloc x y=>dT P C F k r objs tm d (.alloc x y)
 | .box x y=>dT P C F k r objs tm d (.box x y)
 | .build x y=>dT P C F k r objs tm d (.build x y)
 | .bslice x y z=>dT P C F k r objs tm d (.bslice x y z)
 | .bslo x y z v w=>dT P C F k r objs tm d (.bslo x y z v w)
 | .load1 x=>dT P C F k r objs tm d (.load1 x)
 | .loadn x y=>dT P C F k r objs tm d (.loadn x y)
 | .store x y z=>dT P C F k r objs tm d (.store x y z)
 | .nck x=>dT P C F k r objs tm d (.nck x)
 | .bin x y z=>dT P C F k r objs tm d (.bin x y z)
 | .beq x y z=>dT P C F k r objs tm d (.beq x y z)
 | .eqs x y z v=>dT P C F k r objs tm d (.eqs x y z v)
 | .not x=>dT P C F k r objs tm d (.not x)
 | .neg x=>dT P C F k r objs tm d (.neg x)
 | .cvi x y=>dT P C F k r objs tm d (.cvi x y)
 | .cvs x=>dT P C F k r objs tm d (.cvs x)
 | .cvbs x=>dT P C F k r objs tm d (.cvbs x)
 | .slcs x y z=>dT P C F k r objs tm d (.slcs x y z)
 | .fad x y=>dT P C F k r objs tm d (.fad x y)
 | .fld1 x y=>dT P C F k r objs tm d (.fld1 x y)
 | .fldn x y z=>dT P C F k r objs tm d (.fldn x y z)
 | .iad x y z=>dT P C F k r objs tm d (.iad x y z)
 | .iada x y z v=>dT P C F k r objs tm d (.iada x y z v)
 | .iadr x y z=>dT P C F k r objs tm d (.iadr x y z)
 | .idx x y=>dT P C F k r objs tm d (.idx x y)
 | .ext x y=>dT P C F k r objs tm d (.ext x y)
 | .app x y z v w=>dT P C F k r objs tm d (.app x y z v w)
 | .apps x y z=>dT P C F k r objs tm d (.apps x y z)
 | .lens x=>dT P C F k r objs tm d (.lens x)
 | .lenr x=>dT P C F k r objs tm d (.lenr x)
 | .mks x y z v w=>dT P C F k r objs tm d (.mks x y z v w)
 | .mkz x y z v w=>dT P C F k r objs tm d (.mkz x y z v w)
 | .capp x y z v=>dT P C F k r objs tm d (.capp x y z v)
 | .cappo x y z v w=>dT P C F k r objs tm d (.cappo x y z v w)
 | .trn x y z=>dT P C F k r objs tm d (.trn x y z)
 | .mkf x y z=>dT P C F k r objs tm d (.mkf x y z)
 | .pu x y=>dT P C F k r objs tm d (.pu x y)
 | .mkm0=>dT P C F k r objs tm d (.mkm0)
 | .mkm1 x=>dT P C F k r objs tm d (.mkm1 x)
 | .lk x y z v=>dT P C F k r objs tm d (.lk x y z v)
 | .mup x y z=>dT P C F k r objs tm d (.mup x y z)
 | .mph x y z v w=>dT P C F k r objs tm d (.mph x y z v w)
 | op=>BB P (⟨d,op,none⟩::r) objs tm fun o t=>D5 P C F k .normal o t
end
theorem nG (op:SOp):dT P C F k r objs tm d op=run P C (.ops [⟨d,op,none⟩]::.dops r::k) objs tm F:=Eq.trans rfl rfl
theorem pW (op:SOp):run P C (.dops (⟨d,op,none⟩::r)::k) objs tm F=dS P C F k r objs tm d op:=by
 cases op
 case call f a=>exact Zf f a
 case pcall f a=>exact Rt f a
 all_goals rfl
theorem AI {f:FuncId} {n:Nat} {ss:List SRes} {sc:SCode} (hf:FnIs P f n ss sc) {args:List AV} {objs:List OB} {K:List OB->AV->Prop} (hp:AE args=true)
  (h:∀(C:Cx) [On P C],run P C [.code sc] [] (args++qo (n - args.length) (.o undef)) (J1 ss fun r=>K objs r)):Ai P f args objs K :=
 nK hf hp h
theorem CE {f:FuncId} {n:Nat} {ss:List SRes} {sc:SCode} (hf:FnIs P f n ss sc) {args:List AV} {objs:List OB} {K:List OB->AV->Prop}
  (h:∀(C:Cx) [On P C],run P C [.code sc] objs (args++qo (n - args.length) (.o undef)) (Ic ss K)):Ai P f args objs K :=
 nJ hf h
theorem oY (ss:List SRes) (K:List OB->AV->Prop):Ic ss K .normal objs tm=Fy ss K objs tm:=Eq.trans rfl rfl
theorem oZ (ss:List SRes) (K:List OB->AV->Prop):Ic ss K .ret objs tm=Fy ss K objs tm:=Eq.trans rfl rfl
def Vm (K:List OB->AV->Prop) (objs:List OB):Option (List AV)->Prop
 | some xs=>K objs (Fe xs)
 | none=>False
theorem qQ (K:List OB->AV->Prop) (xs:List AV):Vm K objs (some xs)=K objs (Fe xs):=Eq.trans rfl rfl
theorem WD (ss:List SRes) (K:List OB->AV->Prop):Fy ss K objs tm=Vm K objs (EC objs tm ss):=by
 unfold Fy
 cases EC objs tm ss<;>rfl
theorem pA (ss:List SRes) (K:AV->Prop):J1 ss K .normal objs tm=GA ss K objs tm:=Eq.trans rfl rfl
theorem pB (ss:List SRes) (K:AV->Prop):J1 ss K .ret objs tm=GA ss K objs tm:=Eq.trans rfl rfl
def Vn (K:AV->Prop):Option AV->Prop
 | some r=>K r
 | none=>False
theorem qR (K:AV->Prop) (r:AV):Vn K (some r)=K r:=Eq.trans rfl rfl
theorem WE (ss:List SRes) (K:AV->Prop):GA ss K objs tm=Vn K ((EC objs tm ss).bind fun xs=>Bt objs 5 (Fe xs)):=by
 unfold GA
 cases (EC objs tm ss).bind (fun xs=>Bt objs 5 (Fe xs))<;>rfl
end
end Go.Proofs.YtbeoijfmfkifeaaGreatDoor.Sx
