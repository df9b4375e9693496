/- The texts that the proofs of these statements reach, in their order, as few files. -/
import Derived.Shelf.Strings.Builder1
import Derived.Shelf.Strings.Builder2
import Derived.Shelf.Small.Utf8
import Derived.Shelf.Small.Strs
import Derived.Shelf.Small.Wraps
import Derived.Shelf.Strings.BuilderF
import Derived.Shelf.Strings.BuilderK
import Derived.Shelf.Utf8.RuneCount
import Derived.Shelf.Strings.Builder2Cap
import Derived.Shelf.Strconv.Itoa0
import Derived.Shelf.Strconv.Itoa1
import Derived.Shelf.LaysM
import Derived.Shelf.Strconv.Itoa2
import Derived.Shelf.Strconv.Itoa3
import Derived.Shelf.Strings.Search1
import Derived.Shelf.Strings.Search2
import Derived.Shelf.Strings.Search3
import Derived.Shelf.Strings.Cut
import Derived.Shelf.Strings.Count
import Derived.Shelf.Strings.Shaped
import Derived.Shelf.Strings.Prefix
import Derived.Shelf.Strings.Split
import Derived.Shelf.Strings.Replace
import Derived.Shelf.Strings.SplitShaped
import Derived.Shelf.Unicode.Decode
import Derived.Shelf.Strings.Runes
import Derived.Shelf.Strings.RuneCount
import Derived.Shelf.Strings.IndexAny
import Derived.Shelf.Strings.AsciiSet
import Derived.Shelf.Strings.IndexAnyAll
import Derived.Shelf.Strings.Explode
import Derived.Shelf.Unicode.DecodeSlow
import Derived.Shelf.Unicode.DecodeAny
import Derived.Shelf.Strings.BuilderCap
import Derived.Test.YtnnipcgblooemaaGreatDoorProg
import Derived.WalkKit
import Derived.WalkLawsBesides
import Derived.WalkSmall
import Derived.WalkSpells
import Derived.Lib.Hide
import Derived.Lib.IndexAny
import Derived.ShutString
import Derived.Lib.Strings
import Derived.Deep.QuietTactic
import Derived.BigQuiet
import Derived.Test.YtnnipcgblooemaaGreatDoorFn1
set_option linter.unusedVariables false
set_option linter.unusedSimpArgs false
set_option maxRecDepth 100000
namespace Go.Proofs.YtnnipcgblooemaaGreatDoor.Sx
open Go.RowKit
structure SO where
 dst:Option Nat
 op:SOp
 gd:Option (Nat×Bool)
def zaD (tm:List AV):Option Nat→AV→List AV
 | none,_=>tm
 | some d,v=>tm.set d v
theorem zdC {G:Gh} {I:Imm} {tm:List AV} {a:Act} {v:AV} {y:Value} (h:zao G I tm a.tmps.toList) (hv:Den G I v y) (dst:Option Nat):zao G I (zaD tm dst v) (a.put dst y).tmps.toList:=by
 cases dst with
 | none=>exact h
 | some d=>simp only[zaD,Act.put,Array.toList_setIfInBounds];exact zao.set d h hv
theorem zcj (a:Act) (dst:Option Nat) (y:Value):(a.put dst y).defers=a.defers:=by cases dst<;>rfl
def wpR (P:Program) [Tabs P]:List SO→List OB→List AV→(List OB→List AV→Prop)→Prop
 | [],objs,tm,K=>K objs tm
 | ⟨dst,op,none⟩::r,objs,tm,K=>wpS P op objs tm fun objs' v=>wpR P r objs' (zaD tm dst v) K
 | ⟨dst,op,some (t,want)⟩::r,objs,tm,K=>
  match (tm[t]?).getD .u with
  | .b x=>(x=want→wpS P op objs (tm.set t (.b want)) fun objs' v=>wpR P r objs' (zaD (tm.set t (.b want)) dst v) K)∧(x=!want→wpR P r objs (zaD (tm.set t (.b (!want))) dst (.o undef)) K)
  | .o (.tuple vs)=>wpR P r objs (zaD tm dst (.o undef)) K
  | _=>False
def movedTo (ops:List Oper):Option Nat→Bool
 | none=>false
 | some d=>ops.any fun o=>match o.op with
  | .assign (.tmp t)=>t==d
  | _=>false
def litOf (P:Program) (ops:List Oper) (o:Oper) (so:SOp):SOp :=
 match so,o.op with
 | .bslice len z ps,.buildSlice t _ _=>match P.underlying t with
  | some (.slice e)=>match P.info? e with
   | some ie=>if movedTo ops o.dst=true then .bslo e ie.size len z ps else .bslice len z ps
   | none=>.bslice len z ps
  | _=>.bslice len z ps
 | so,_=>so
def trO (P:Program) (ops:List Oper) (o:Oper):Option SO :=
 match trOp P o.op with
 | none=>none
 | some so=>match o.guard with
  | none=>some ⟨o.dst,litOf P ops o so,none⟩
  | some (j,want)=>match (ops[j]?).bind (·.dst) with
   | some t=>some ⟨o.dst,litOf P ops o so,some (t,want)⟩
   | none=>none
section
variable {P:Program} [Tabs P] {C:Cx} [On P C] {type:TypeId} {objs:List OB} {tm:List AV} {K:List OB→AV→Prop}
theorem ziG (ops:List Oper) (o:Oper) (so:SOp) (ht:trOp P o.op=some so) (h:wpS P (litOf P ops o so) objs tm K):zbQ P C o.op type objs tm K:=by
 unfold litOf at h
 split at h
 ·rename_i len z ps t ln parts ho
  split at h
  ·rename_i e hu
   split at h
   ·rename_i ie hie
    split at h
    ·rw[ho] at ht ⊢
     have ht0:zoN P (.buildSlice t ln parts)=some (.bslice len z ps):=ht
     simp only[zoN,hu,hie] at ht0
     split at ht0
     ·rename_i z' ps' hz hps
      split at ht0
      ·rename_i h1
       injection ht0 with ht0
       injection ht0 with e1 e2 e3
       subst e1 e2 e3
       simp only[wpS] at h
       split at h
       ·rename_i cs hf;exact ok_bslo _ e _ _ ie z' hu hie hz h1.1.1 h1.1.2 _ rfl h1.2 ps' hps cs hf h.1 h.2
       ·exact h.elim
      ·split at ht0<;>cases ht0
     ·cases ht0
    ·exact zlV o.op _ ht h
   ·exact zlV o.op _ ht h
  ·exact zlV o.op _ ht h
 ·exact zlV o.op _ ht h
end
theorem zao.set_same {G:Gh} {I:Imm} {tm:List AV} {ys:List Value} (t:Nat) (x:AV) (h:zao G I tm ys) (hx:∀y,ys[t]? = some y→Den G I x y):zao G I (tm.set t x) ys:=by
 rcases Nat.lt_or_ge t tm.length with hl|hl
 ·have hl2:t<ys.length:=by rw[←h.length];exact hl
  have hy:ys[t]? = some ys[t]:=List.getElem?_eq_getElem hl2
  have:=zao.set t h (hx _ hy)
  rwa [List.set_getElem_self] at this
 ·rw[List.set_eq_of_length_le hl];exact h
section
variable {P:Program} [Tabs P] {C:Cx} [On P C] {K:zbu}
theorem ziH (ops:Array Oper) (o:Oper) (so0 so:SO) (hd0:so.dst=so0.dst) (hg0:so.gd=so0.gd) (hcv:∀objs tm K,wpS P so.op objs tm K→wpS P so0.op objs tm K) (rest:List SO) (objs:List OB) (tm:List AV) (K':List OB→List AV→Prop) (N:Act→World→Prop) (Q:Exit→Act→World→Prop) (h1:trO P ops.toList o=some so0) (h:wpR P (so::rest) objs tm K') (a:Act) (w:World) (hr:Rel C objs tm a w)
  (hN:∀objs tm a w,wpR P rest objs tm K'→Rel C objs tm a w→N a w):if Region.wanted o (yielded ops a.tmps) then o.wp P a w N Q else N (a.put o.dst undef) w:=by
 obtain⟨d1,op1,g1⟩:=so
 dsimp only at hd0 hg0 hcv
 subst hd0 hg0
 unfold trO at h1
 split at h1
 ·cases h1
 ·rename_i op hop
  obtain⟨G,I,hin,hm,hd,hdef⟩:=hr
  split at h1
  ·rename_i hg
   injection h1 with h1;subst h1
   dsimp only at h hcv ⊢
   simp only[wpR] at h
   rw[if_pos (by simp[Region.wanted,hg])]
   refine ziG (C:=C) (type:=o.type) ops.toList o op hop (hcv _ _ _ h) G I a w hin hm hd o _ _ rfl rfl ?_
   intro objs' v y G' I' w' hk l1 l2 l3 l4 l5
   exact hN objs' _ _ _ hk ⟨G',I',l3,l4,zdC (zao.mono l1 l2 _ _ hd) l5 o.dst,by rw[zcj];exact hdef⟩
  ·rename_i j want hg
   split at h1
   ·rename_i t hj
    injection h1 with h1;subst h1
    dsimp only at h hcv ⊢
    have hj':(ops[j]?).bind (·.dst)=some t:=by simpa using hj
    simp only[wpR] at h
    have hval:∀v,tm[t]? = some v→∃y,a.tmps[t]? = some y∧Den G I v y:=by
     intro v hv
     obtain⟨y,h3,h4⟩:=zao.get t hd hv
     exact⟨y,by simpa using h3,h4⟩
    cases htm:tm[t]? with
    | none=>rw[htm] at h;exact h.elim
    | some v=>
     rw[htm] at h
     obtain⟨y,hy,hyd⟩:=hval v htm
     have hyl:a.tmps.toList[t]? = some y:=by simpa using hy
     simp only[Option.getD_some] at h
     split at h
     ·rename_i x
      simp only[Den] at hyd;subst hyd
      have hyi:yielded ops a.tmps j=some x:=by simp[yielded,hj',hy]
      have hset:∀b,x=b→zao G I (tm.set t (.b b)) a.tmps.toList:=by
       rintro b rfl
       exact zao.set_same t _ hd (fun y' hy'=>by rw[hyl] at hy';injection hy' with hy';subst hy';simp[Den])
      by_cases hx:x=want
      ·rw[if_pos (by simp[Region.wanted,hg,hyi,hx])]
       refine ziG (C:=C) (type:=o.type) ops.toList o op hop (hcv _ _ _ (h.1 hx)) G I a w hin hm (hset _ hx) o _ _ rfl rfl ?_
       intro objs' v y G' I' w' hk l1 l2 l3 l4 l5
       exact hN objs' _ _ _ hk ⟨G',I',l3,l4,zdC (zao.mono l1 l2 _ _ (hset _ hx)) l5 o.dst,by rw[zcj];exact hdef⟩
      ·have hx':x=!want:=by cases x<;>cases want<;>first|rfl|exact absurd rfl hx
       rw[if_neg (by simp[Region.wanted,hg,hyi,hx])]
       exact hN objs _ _ _ (h.2 hx') ⟨G,I,hin,hm,zdC (hset _ hx') (by simp[Den]) o.dst,by rw[zcj];exact hdef⟩
     ·rename_i vs
      simp only[Den] at hyd;subst hyd
      have hyi:yielded ops a.tmps j=none:=by simp[yielded,hj',hy]
      rw[if_neg (by simp[Region.wanted,hg,hyi])]
      exact hN objs _ _ _ h ⟨G,I,hin,hm,zdC hd (by simp[Den]) o.dst,by rw[zcj];exact hdef⟩
     ·exact h.elim
   ·cases h1
theorem wpR_ok (ops:Array Oper):∀(l:List Oper) (sos:List SO) (objs:List OB) (tm:List AV),l.mapM (trO P ops.toList)=some sos→wpR P sos objs tm (fun o t=>K .normal o t)→∀a w,Rel C objs tm a w→wpList P ops (zip C K) l a w
 | [],sos,objs,tm,ht,h,a,w,hr=>by
  simp at ht;subst ht
  exact⟨objs,tm,h,hr⟩
 | o::l,sos,objs,tm,ht,h,a,w,hr=>by
  simp only[List.mapM_cons,Option.bind_eq_bind,Option.pure_def] at ht
  cases h1:trO P ops.toList o with
  | none=>simp[h1] at ht
  | some so=>
   cases h2:l.mapM (trO P ops.toList) with
   | none=>simp[h1,h2] at ht
   | some rest=>
    simp[h1,h2] at ht
    subst ht
    have:=ziH ops o so so rfl rfl (fun _ _ _ h=>h) rest objs tm _ (wpList P ops (zip C K) l) (zip C K) h1 h a w hr (fun objs tm a w hk hr=>wpR_ok ops l rest objs tm h2 hk a w hr)
    unfold wpList
    split
    ·rename_i hw;rw[if_pos hw] at this;exact .inl this
    ·rename_i hw;rw[if_neg hw] at this;exact this
end
def SOp.svs:SOp→List SV
 | .mv x=>[x]
 | .pick c x y=>[c,x,y]
 | .alloc _ _=>[]
 | .mkm0=>[]
 | .mkm1 x=>[x]
 | .lk _ _ x y=>[x,y]
 | .mup x y v=>[x,y,v]
 | .box _ x=>[x]
 | .build _ ps=>ps.map (·.2.2)
 | .bslice _ _ ps=>ps.map (·.2.2)
 | .bslo _ _ _ _ ps=>ps.map (·.2.2)
 | .load1 x | .loadn _ x | .nck x | .not x | .neg x | .cvi _ x | .cvs x | .cvbs x | .fad _ x | .fld1 _ x | .fldn _ _ x | .ext x _ | .lens x | .lenr x=>[x]
 | .store _ x y | .bin _ x y | .beq _ x y | .eqs _ _ x y | .iad _ x y | .iada _ _ x y | .iadr _ x y | .idx x y | .app _ _ _ x y | .apps _ x y | .mks _ _ _ x y | .trn _ x y=>[x,y]
 | .slcs x lo hi=>x::lo.toList++hi.toList
 | .call _ args=>args
 | .pcall _ args=>args
 | .callv x args=>x::args
 | .mkf _ fs cs=>fs++cs
 | .pu _ xs=>xs
theorem zdz {tm tm':List AV} {l:List SV} (h:∀x∈l,x.ev tm=x.ev tm'):l.map (fun x=>x.ev tm)=l.map (fun x=>x.ev tm'):=List.map_congr_left h
theorem ps_congr {tm tm':List AV} {l:List (Nat×Nat×SV)} (h:∀x∈l.map (·.2.2),x.ev tm=x.ev tm'):l.map (fun p=>(p.1,p.2.1,p.2.2.ev tm))=l.map (fun p=>(p.1,p.2.1,p.2.2.ev tm')) :=
 List.map_congr_left fun p hp=>by rw[h p.2.2 (List.mem_map_of_mem hp)]
theorem zh3 {tm tm':List AV} (d:Int) (o:Option SV) (h:∀x∈o.toList,x.ev tm=x.ev tm'):zk4 tm d o=zk4 tm' d o:=by
 cases o with
 | none=>rfl
 | some x=>simp only[zk4,h x (by simp)]
theorem zjC {P:Program} [Tabs P] {so:SOp} {objs:List OB} {tm tm':List AV} {K:List OB→AV→Prop} (h:∀x∈so.svs,x.ev tm=x.ev tm'):wpS P so objs tm K=wpS P so objs tm' K:=by
 cases so<;>simp only[SOp.svs,List.mem_cons,List.not_mem_nil,or_false,forall_eq_or_imp,forall_eq,List.cons_append,List.nil_append] at h<;>first
  | (simp only[wpS,h];done)
  | (simp only[wpS];rw[ps_congr h];done)
  | (simp only[wpS];rw[zdz h];done)
  | (simp only[wpS,h.1];rw[zdz h.2];done)
  | (simp only[wpS];rw[zdz (fun x hx=>h x (List.mem_append_left _ hx)),zdz (fun x hx=>h x (List.mem_append_right _ hx))];done)
  | (have e1:=fun d=>zh3 (tm:=tm) (tm':=tm') d _ (fun x hx=>h.2 x (List.mem_append_left _ hx));have e2:=fun d=>zh3 (tm:=tm) (tm':=tm') d _ (fun x hx=>h.2 x (List.mem_append_right _ hx));simp only[wpS,h.1,e1,e2];done)
  | rfl
  | skip
def SOp.calm:SOp→Bool
 | .alloc .. | .box .. | .bslo .. | .store .. | .app .. | .apps .. | .mks .. | .trn .. | .mkm0 | .mkm1 .. | .mup ..=>false
 | _=>true
def SOp.isCall:SOp→Bool
 | .call .. | .pcall .. | .callv ..=>true
 | _=>false
theorem zlW {P:Program} [Tabs P] {so:SOp} {objs:List OB} {tm:List AV} {W:List OB→AV→Prop} (hc:so.calm=true) (hn:so.isCall=false) (h:wpS P so objs tm W):∃v,(∀K:List OB→AV→Prop,K objs v→wpS P so objs tm K)∧W objs v:=by
 cases so<;>simp only[SOp.calm,SOp.isCall,reduceCtorEq] at hc hn<;>simp only[wpS] at h ⊢
 case pick c x y=>
  split at h
  ·rename_i t _
   cases t
   ·exact⟨_,fun K hk=>⟨fun e=>absurd e Bool.false_ne_true,fun _=>hk⟩,h.2 rfl⟩
   ·exact⟨_,fun K hk=>⟨fun _=>hk,fun e=>absurd e.symm Bool.false_ne_true⟩,h.1 rfl⟩
  ·exact h.elim
 case load1 x=>
  split at h
  ·split at h
   ·split at h
    ·exact⟨_,fun K hk=>hk,h⟩
    ·exact h.elim
   ·exact h.elim
  ·obtain⟨v,h1,h2⟩:=h
   exact⟨v,fun K hk=>⟨v,h1,hk⟩,h2⟩
  ·split at h
   ·obtain⟨h0,v,h1,h2⟩:=h
    exact⟨v,fun K hk=>⟨h0,v,h1,hk⟩,h2⟩
   ·exact h.elim
  ·exact h.elim
 case cvbs x=>
  split at h
  ·split at h
   ·obtain⟨h0,l,h1,h2⟩:=h
    exact⟨_,fun K hk=>⟨h0,l,h1,hk⟩,h2⟩
   ·exact h.elim
  ·obtain⟨l,h1,h2⟩:=h
   exact⟨_,fun K hk=>⟨l,h1,hk⟩,h2⟩
  ·exact⟨_,fun K hk=>hk,h⟩
  ·split at h
   ·obtain⟨l,h1,h2⟩:=h
    exact⟨_,fun K hk=>⟨l,h1,hk⟩,h2⟩
   ·exact h.elim
  ·exact h.elim
 case bin op x y=>
  unfold binK at h
  unfold binK
  split at h
  ·obtain⟨hk,h⟩:=h
   subst hk
   have key:∀(k:IntKind) (r:Int),arK k r (fun r=>W objs (.i k r))→∃v,(∀K:List OB→AV→Prop,K objs v→arK k r fun r=>K objs (.i k r))∧W objs v:=by
    intro k r h
    cases k<;>simp only[arK] at h ⊢<;>first|exact⟨_,fun K hk=>⟨h.1,hk⟩,h.2⟩|exact⟨_,fun K hk=>hk,h⟩
   split at h
   ·obtain⟨v,h1,h2⟩:=key _ _ h;exact⟨v,fun K hk=>⟨rfl,h1 K hk⟩,h2⟩
   ·obtain⟨v,h1,h2⟩:=key _ _ h;exact⟨v,fun K hk=>⟨rfl,h1 K hk⟩,h2⟩
   ·obtain⟨v,h1,h2⟩:=key _ _ h;exact⟨v,fun K hk=>⟨rfl,h1 K hk⟩,h2⟩
   ·obtain⟨v,h1,h2⟩:=key _ _ h.2;exact⟨v,fun K hk=>⟨rfl,h.1,h1 K hk⟩,h2⟩
   ·exact⟨_,fun K hk=>⟨rfl,h.1,hk⟩,h.2⟩
   all_goals first|exact⟨_,fun K hk=>⟨rfl,hk⟩,h⟩|exact h.elim
  ·split at h
   ·exact⟨_,fun K hk=>⟨h.1,hk⟩,h.2⟩
   all_goals first|exact⟨_,fun K hk=>hk,h⟩|exact h.elim
  ·exact h.elim
 case neg x=>
  split at h
  ·rename_i k n _
   cases k<;>simp only[arK] at h ⊢<;>first|exact⟨_,fun K hk=>⟨h.1,hk⟩,h.2⟩|exact⟨_,fun K hk=>hk,h⟩
  ·exact h.elim
 all_goals first
  | exact⟨_,fun K hk=>hk,h⟩
  | (split at h<;>first|exact⟨_,fun K hk=>hk,h⟩|exact⟨_,fun K hk=>⟨h.1,hk⟩,h.2⟩|exact h.elim|(split at h<;>first|exact⟨_,fun K hk=>hk,h⟩|exact⟨_,fun K hk=>⟨h.1,hk⟩,h.2⟩|exact h.elim))
theorem wpS_det {P:Program} [Tabs P] {so:SOp} {objs:List OB} {tm:List AV} {W:List OB→AV→Prop} (hc:so.calm=true) (hn:so.isCall=false) (h:wpS P so objs tm W):∃v,wpS P so objs tm (fun o x=>o=objs∧x=v)∧W objs v:=by
 obtain⟨v,h1,h2⟩:=zlW hc hn h
 exact⟨v,h1 _ ⟨rfl,rfl⟩,h2⟩
def SOp.touch:SOp→Bool
 | .alloc .. | .box .. | .bslo .. | .store .. | .app .. | .apps .. | .mks .. | .trn .. | .mkm0 | .mkm1 .. | .mup .. | .lk .. | .load1 .. | .loadn .. | .cvbs .. | .call .. | .callv .. | .lenr .. | .iad ..=>true
 | _=>false
theorem zeW {so:SOp} (h:so.calm=false):so.touch=true∧so.isCall=false:=by
 cases so<;>simp[SOp.calm,SOp.touch,SOp.isCall] at h ⊢
theorem zoG {P:Program} [Tabs P] {so:SOp} {objs cur:List OB} {tm:List AV} {v:AV} (ht:so.touch=false) (h:wpS P so objs tm (fun o x=>o=objs∧x=v)):wpS P so cur tm (fun o x=>o=cur∧x=v):=by
 by_cases hn:so.isCall=true
 ·cases so<;>simp only[SOp.isCall,SOp.touch,reduceCtorEq,Bool.true_eq_false,Bool.false_eq_true] at hn ht
  case pcall f args=>
   simp only[wpS] at h ⊢
   exact⟨h.1,h.2.mono fun o r h2=>⟨h2.1,by trivial,h2.2.2⟩⟩
 ·simp only[Bool.not_eq_true] at hn
  have hc:so.calm=true:=by cases so<;>simp[SOp.touch,SOp.calm] at ht ⊢
  have key:∀K:List OB→AV→Prop,wpS P so objs tm K→wpS P so cur tm (fun _ x=>K objs x):=by
   intro K h
   cases so<;>simp only[SOp.touch,SOp.isCall,reduceCtorEq] at ht hn<;>exact h
  have h1:=key _ h
  obtain⟨x,h2,h3⟩:=zlW hc hn h1
  obtain⟨_,rfl⟩:=h3
  exact h2 _ ⟨rfl,rfl⟩
theorem zoF {P:Program} [Tabs P] {so:SOp} {objs:List OB} {tm:List AV} {W:List OB→AV→Prop} (hc:so.calm=false) (h:wpS P so objs tm W):∃o' v,(∀K:List OB→AV→Prop,K o' v→wpS P so objs tm K)∧W o' v:=by
 cases so<;>simp only[SOp.calm,reduceCtorEq] at hc<;>simp only[wpS] at h ⊢
 case alloc T z=>exact⟨_,_,fun K hk=>hk,h⟩
 case mkm0=>exact⟨_,_,fun K hk=>hk,h⟩
 case mkm1 x=>
  split at h
  ·exact⟨_,_,fun K hk=>hk,h⟩
  ·exact h.elim
 case mup x y v=>
  split at h
  ·split at h
   ·exact⟨_,_,fun K hk=>⟨h.1,hk⟩,h.2⟩
   ·exact h.elim
  ·exact h.elim
 case box T x=>exact⟨_,_,fun K hk=>⟨h.1,hk⟩,h.2⟩
 case bslo E sz len z ps=>
  split at h
  ·exact⟨_,_,fun K hk=>⟨h.1,hk⟩,h.2⟩
  ·exact h.elim
 case store sz x y=>
  split at h
  ·split at h
   ·exact⟨_,_,fun K hk=>⟨h.1,hk⟩,h.2⟩
   ·exact h.elim
  ·split at h
   ·exact⟨_,_,fun K hk=>⟨h.1,hk⟩,h.2⟩
   ·exact h.elim
  ·exact h.elim
 case trn sz x y=>
  split at h
  ·exact⟨_,_,fun K hk=>⟨h.1,hk⟩,h.2⟩
  ·exact⟨_,_,fun K hk=>⟨h.1,hk⟩,h.2⟩
  ·split at h
   ·exact⟨_,_,fun K hk=>⟨h.1,hk⟩,h.2⟩
   ·exact h.elim
  ·exact h.elim
 case app E sz by' x y=>
  split at h
  ·split at h
   ·split at h
    ·exact⟨_,_,fun K hk=>⟨h.1,hk⟩,h.2⟩
    ·exact h.elim
   ·exact⟨_,_,fun K hk=>⟨h.1,hk⟩,h.2⟩
   ·exact h.elim
  ·exact h.elim
 case apps E x y=>
  split at h
  ·split at h
   ·split at h
    ·exact⟨_,_,fun K hk=>⟨h.1,hk⟩,h.2⟩
    ·exact h.elim
   ·exact⟨_,_,fun K hk=>⟨h.1,hk⟩,h.2⟩
   ·exact h.elim
  ·exact h.elim
 case mks E sz by' x y=>
  split at h
  ·exact⟨_,_,fun K hk=>⟨h.1,hk⟩,h.2⟩
  ·exact h.elim
def Fact (P:Program) [Tabs P] (objs:List OB) (o:SO) (v:AV) (o':List OB) (tm:List AV):Prop :=
 (o.op.calm=true→o'=objs) ∧
 match o.gd with
 | none=>wpS P o.op objs tm fun y x=>y=o'∧x=v
 | some (t,want)=>(tm[t]? = some (.b want)∧wpS P o.op objs tm fun y x=>y=o'∧x=v)∨((tm[t]? = some (.b (!want))∨∃vs,tm[t]? = some (.o (.tuple vs)))∧v=.o undef∧o'=objs)
def zrP (P:Program) [Tabs P]:List OB→List SO→List AV→List (List OB)→List AV→Prop
 | _,[],[],[],_=>True
 | objs,o::r,v::vs,o'::os,tm=>Fact P objs o v o' tm∧zrP P o' r vs os (zaD tm o.dst v)
 | _,_,_,_,_=>False
def asg (p:Nat→Bool):Nat→List SO→List AV→List AV→List AV
 | k,o::r,v::vs,tm=>asg p (k+1) r vs (if p k=true then zaD tm o.dst v else tm)
 | _,_,_,tm=>tm
def obA (p:Nat→Bool):Nat→List SO→List (List OB)→List OB→List OB
 | k,o::r,o'::os,cur=>obA p (k+1) r os (if (p k&&!o.op.calm)=true then o' else cur)
 | _,_,_,cur=>cur
def wpD (P:Program) [Tabs P]:List SO→List OB→List AV→(List OB→List AV→Prop)→Prop
 | [],objs,tm,K=>K objs tm
 | ⟨dst,op,none⟩::r,objs,tm,K=>
  if op.isCall=true then ∃v,wpS P op objs tm (fun o x=>o=objs∧x=v)∧wpD P r objs (zaD tm dst v) K
  else wpS P op objs tm fun o v=>wpD P r o (zaD tm dst v) K
 | ⟨dst,op,some (t,want)⟩::r,objs,tm,K=>
  match (tm[t]?).getD .u with
  | .b x=>(x=want→if op.isCall=true then ∃v,wpS P op objs (tm.set t (.b want)) (fun o x=>o=objs∧x=v)∧wpD P r objs (zaD (tm.set t (.b want)) dst v) K
    else wpS P op objs (tm.set t (.b want)) fun o v=>wpD P r o (zaD (tm.set t (.b want)) dst v) K) ∧
   (x=!want→wpD P r objs (zaD (tm.set t (.b (!want))) dst (.o undef)) K)
  | .o (.tuple _)=>wpD P r objs (zaD tm dst (.o undef)) K
  | _=>False
theorem set_same {tm:List AV} {t:Nat} {x:AV} (h:tm[t]? = some x):tm.set t x=tm:=by
 obtain⟨hl,he⟩:=List.getElem?_eq_some_iff.1 h
 rw[←he,List.set_getElem_self]
theorem zoH {P:Program} [Tabs P] {op:SOp} {objs:List OB} {tm:List AV} {W:List OB→AV→Prop} (h:if op.isCall=true then ∃v,wpS P op objs tm (fun o x=>o=objs∧x=v)∧W objs v else wpS P op objs tm W):∃v o',(op.calm=true→o'=objs)∧wpS P op objs tm (fun o x=>o=o'∧x=v)∧W o' v:=by
 by_cases hi:op.isCall=true
 ·rw[if_pos hi] at h
  obtain⟨v,h1,h2⟩:=h
  exact⟨v,objs,fun _=>rfl,h1,h2⟩
 ·rw[if_neg hi] at h
  cases hc:op.calm with
  | true=>
   obtain⟨v,h1,h2⟩:=wpS_det hc (by simpa using hi) h
   exact⟨v,objs,fun _=>rfl,h1,h2⟩
  | false=>
   obtain⟨o',v,h1,h2⟩:=zoF hc h
   exact⟨v,o',(fun e=>by cases e),h1 _ ⟨rfl,rfl⟩,h2⟩
theorem zdI {P:Program} [Tabs P]:∀(l:List SO) (objs:List OB) (tm:List AV) (K:List OB→List AV→Prop),wpD P l objs tm K→∃vs os,zrP P objs l vs os tm∧K (obA (fun _=>true) 0 l os objs) (asg (fun _=>true) 0 l vs tm)
 | [],objs,tm,K,h=>⟨[],[],trivial,h⟩
 | ⟨dst,op,gd⟩::r,objs,tm,K,h=>by
  have shift:∀(l:List SO) (vs tm:List AV) (k j:Nat),asg (fun _=>true) k l vs tm=asg (fun _=>true) j l vs tm:=by
   intro l
   induction l with
   | nil=>intro vs tm k j;rfl
   | cons o l ih=>
    intro vs tm k j
    cases vs with
    | nil=>rfl
    | cons v vs=>simp only[asg];exact ih vs _ _ _
  have shiftO:∀(l:List SO) (os:List (List OB)) (cur:List OB) (k j:Nat),obA (fun _=>true) k l os cur=obA (fun _=>true) j l os cur:=by
   intro l
   induction l with
   | nil=>intro os cur k j;rfl
   | cons o l ih=>
    intro os cur k j
    cases os with
    | nil=>rfl
    | cons v os=>simp only[obA];exact ih os _ _ _
  have nxt:∀(o':List OB),(op.calm=true→o'=objs)→(if (true&&!op.calm)=true then o' else objs)=o':=by
   intro o' h
   cases hc:op.calm with
   | true=>simp[h hc]
   | false=>simp
  cases gd with
  | none=>
   simp only[wpD] at h
   obtain⟨v,o',hco,h1,h2⟩:=zoH (W:=fun o v=>wpD P r o (zaD tm dst v) K) h
   obtain⟨vs,os,k1,k2⟩:=zdI r _ _ K h2
   refine⟨v::vs,o'::os,⟨⟨hco,h1⟩,k1⟩,?_⟩
   simp only[asg,obA,if_true]
   rw[nxt o' hco,shift r vs _ _ 0,shiftO r os _ _ 0];exact k2
  | some g=>
   obtain⟨t,want⟩:=g
   simp only[wpD] at h
   cases ht:tm[t]? with
   | none=>rw[ht] at h;exact h.elim
   | some y=>
    rw[ht] at h
    simp only[Option.getD_some] at h
    split at h
    ·rename_i x
     by_cases hx:x=want
     ·subst hx
      have h':=h.1 rfl
      rw[set_same ht] at h'
      obtain⟨v,o',hco,h1,h2⟩:=zoH (W:=fun o v=>wpD P r o (zaD tm dst v) K) h'
      obtain⟨vs,os,k1,k2⟩:=zdI r _ _ K h2
      refine⟨v::vs,o'::os,⟨⟨hco,.inl ⟨ht,h1⟩⟩,k1⟩,?_⟩
      simp only[asg,obA,if_true]
      rw[nxt o' hco,shift r vs _ _ 0,shiftO r os _ _ 0];exact k2
     ·have hx':x=!want:=by cases x<;>cases want<;>first|rfl|exact absurd rfl hx
      subst hx'
      have h':=h.2 rfl
      rw[set_same ht] at h'
      obtain⟨vs,os,k1,k2⟩:=zdI r _ _ K h'
      refine⟨_::vs,objs::os,⟨⟨fun _=>rfl,.inr ⟨.inl ht,rfl,rfl⟩⟩,k1⟩,?_⟩
      simp only[asg,obA,if_true]
      rw[nxt objs (fun _=>rfl),shift r vs _ _ 0,shiftO r os _ _ 0];exact k2
    ·obtain⟨vs,os,k1,k2⟩:=zdI r _ _ K h
     refine⟨_::vs,objs::os,⟨⟨fun _=>rfl,.inr ⟨.inr ⟨_,ht⟩,rfl,rfl⟩⟩,k1⟩,?_⟩
     simp only[asg,obA,if_true]
     rw[nxt objs (fun _=>rfl),shift r vs _ _ 0,shiftO r os _ _ 0];exact k2
    ·exact h.elim
theorem zbZ (p q:Nat→Bool):∀(l:List SO) (os:List (List OB)) (cur:List OB) (k:Nat),(∀j o,l[j]? = some o→o.op.calm=false→p (k+j)=q (k+j))→obA p k l os cur=obA q k l os cur
 | [],os,cur,k,h=>by cases os<;>rfl
 | o::r,[],cur,k,h=>rfl
 | o::r,o'::os,cur,k,h=>by
  simp only[obA]
  have e:(p k&&!o.op.calm)=(q k&&!o.op.calm):=by
   cases hc:o.op.calm with
   | true=>simp
   | false=>have:=h 0 o rfl hc;simp only[Nat.add_zero] at this;rw[this]
  rw[e]
  exact zbZ p q r os _ (k+1) (fun j o2 hj hc=>by
   have:=h (j+1) o2 (by simpa using hj) hc
   rwa [show k+1+j=k+(j+1) by omega])
theorem zeL (p:Nat→Bool) (l:List SO) (os:List (List OB)) (cur:List OB) (k:Nat) (h:∀j o,l[j]? = some o→o.op.calm=false→p (k+j)=false):obA p k l os cur=cur:=by
 induction l generalizing os k with
 | nil=>cases os<;>rfl
 | cons o r ih=>
  cases os with
  | nil=>rfl
  | cons o' os=>
   simp only[obA]
   have e:(p k&&!o.op.calm)=false:=by
    cases hc:o.op.calm with
    | true=>simp
    | false=>have:=h 0 o rfl hc;simp only[Nat.add_zero] at this;simp[this]
   rw[e,if_neg Bool.false_ne_true]
   exact ih os (k+1) (fun j o2 hj hc=>by
    have:=h (j+1) o2 (by simpa using hj) hc
    rwa [show k+1+j=k+(j+1) by omega])
theorem zi5 (p:Nat→Bool):∀(l:List SO) (os:List (List OB)) (cur:List OB) (k i:Nat) (o:SO) (o':List OB),l[i]? = some o→os[i]? = some o'→o.op.calm=false→(∀j o2,l[j]? = some o2→i<j→o2.op.calm=false→p (k+j)=false)→obA (fun x=>p x||x==k+i) k l os cur=o'
 | [],os,cur,k,i,o,o',ho,hv,hc,hl=>by simp at ho
 | o0::r,[],cur,k,i,o,o',ho,hv,hc,hl=>by simp at hv
 | o0::r,v0::os,cur,k,0,o,o',ho,hv,hc,hl=>by
  simp at ho hv;subst ho hv
  simp only[obA,hc,Nat.add_zero,beq_self_eq_true,Bool.or_true,Bool.not_false,Bool.and_self,if_true]
  refine zeL _ r os _ (k+1) (fun j o2 hj hc2=>?_)
  have:=hl (j+1) o2 (by simpa using hj) (by omega) hc2
  rw[show k+1+j=k+(j+1) by omega,this]
  simp
 | o0::r,v0::os,cur,k,i+1,o,o',ho,hv,hc,hl=>by
  simp only[List.getElem?_cons_succ] at ho hv
  simp only[obA]
  have e2:(fun x=>p x||x==k+(i+1))=(fun x=>p x||x==k+1+i):=by
   funext x;rw[show k+(i+1)=k+1+i by omega]
  generalize (if ((p k||k==k+(i+1))&&!o0.op.calm)=true then v0 else cur)=cur'
  rw[e2]
  exact zi5 p r os _ (k+1) i o o' ho hv hc (fun j o2 hj hij hc2=>by
   have:=hl (j+1) o2 (by simpa using hj) (by omega) hc2
   rwa [show k+1+j=k+(j+1) by omega])
theorem zeE (p q:Nat→Bool) (t:Nat):∀(l:List SO) (vs tm tm':List AV) (k:Nat),tm[t]? = tm'[t]?→tm.length=tm'.length→(∀j o,l[j]? = some o→o.dst=some t→p (k+j)=q (k+j))→(asg p k l vs tm)[t]? = (asg q k l vs tm')[t]?
 | [],vs,tm,tm',k,h,hl,hp=>by cases vs<;>simpa[asg] using h
 | o::r,[],tm,tm',k,h,hl,hp=>by simpa[asg] using h
 | o::r,v::vs,tm,tm',k,h,hl,hp=>by
  simp only[asg]
  have hstep:∀(b:Bool) (x:List AV),(if b=true then zaD x o.dst v else x).length=x.length:=by
   intro b x;cases b<;>cases hd:o.dst<;>simp[zaD]
  refine zeE p q t r vs _ _ (k+1) ?_ (by rw[hstep,hstep,hl]) (fun j o' hj ho'=>by
   have:=hp (j+1) o' (by simpa using hj) ho'
   rwa [show k+1+j=k+(j+1) by omega])
  cases hd:o.dst with
  | none=>cases p k<;>cases q k<;>simpa[zaD] using h
  | some d=>
   by_cases e:d=t
   ·subst e
    have:=hp 0 o rfl hd
    simp only[Nat.add_zero] at this
    rw[this]
    cases q k
    ·simpa using h
    ·simp only[if_true,zaD,List.getElem?_set_self',h]
   ·cases p k<;>cases q k<;>simp[zaD,List.getElem?_set_ne e,h]
theorem zrD (p:Nat→Bool) (d:Nat) (v:AV):∀(l:List SO) (vs tm:List AV) (k:Nat),(∀o∈l,o.dst≠some d)→asg p k l vs (tm.set d v)=(asg p k l vs tm).set d v
 | [],vs,tm,k,h=>by cases vs<;>rfl
 | o::r,[],tm,k,h=>rfl
 | o::r,z::vs,tm,k,h=>by
  simp only[asg]
  rw[←zrD p d v r vs _ (k+1) (fun o' ho'=>h o' (List.mem_cons_of_mem _ ho'))]
  congr 1
  cases p k
  ·rfl
  ·simp only[if_true]
   cases hd:o.dst with
   | none=>rfl
   | some e=>
    have:e≠d:=fun e'=>h o (List.mem_cons_self ..) (by rw[hd,e'])
    simp only[zaD]
    rw[List.set_comm _ _ this]
theorem zeX (p q:Nat→Bool):∀(l:List SO) (vs tm:List AV) (k:Nat),(∀j,j<l.length→p (k+j)=q (k+j))→asg p k l vs tm=asg q k l vs tm
 | [],vs,tm,k,h=>by cases vs<;>rfl
 | o::r,[],tm,k,h=>rfl
 | o::r,z::vs,tm,k,h=>by
  simp only[asg]
  have:=h 0 (by simp)
  simp only[Nat.add_zero] at this
  rw[this]
  exact zeX p q r vs _ (k+1) (fun j hj=>by
   have:=h (j+1) (by simp;omega)
   rwa [show k+1+j=k+(j+1) by omega])
theorem zef (p:Nat→Bool):∀(l:List SO) (vs tm:List AV) (k i:Nat) (o:SO) (v:AV),l[i]? = some o→vs[i]? = some v→p (k+i)=false→(∀j o',l[j]? = some o'→j≠i→o'.dst≠o.dst∨o.dst=none) →
  zaD (asg p k l vs tm) o.dst v=asg (fun x=>p x||x==k+i) k l vs tm
 | [],vs,tm,k,i,o,v,ho,hv,hp,hd=>by simp at ho
 | o0::r,[],tm,k,i,o,v,ho,hv,hp,hd=>by simp at hv
 | o0::r,v0::vs,tm,k,0,o,v,ho,hv,hp,hd=>by
  simp at ho hv hp;subst ho hv
  simp only[asg,hp,Bool.false_eq_true,if_false,Nat.add_zero,beq_self_eq_true,Bool.or_true,if_true]
  have e1:asg (fun x=>p x||x==k) (k+1) r vs (zaD tm o0.dst v0)=asg p (k+1) r vs (zaD tm o0.dst v0) :=
   zeX _ _ r vs _ (k+1) (fun j hj=>by
    have:(k+1+j==k)=false:=by simp;omega
    rw[this,Bool.or_false])
  rw[e1]
  cases h0:o0.dst with
  | none=>rfl
  | some d=>
   simp only[zaD]
   rw[zrD p d v0 r vs tm (k+1)]
   intro o' ho' hd'
   obtain⟨j,hj⟩:=List.mem_iff_getElem?.1 ho'
   rcases hd (j+1) o' (by simpa using hj) (by omega) with h1|h1
   ·exact h1 (by rw[hd',h0])
   ·rw[h0] at h1;cases h1
 | o0::r,v0::vs,tm,k,i+1,o,v,ho,hv,hp,hd=>by
  simp only[List.getElem?_cons_succ] at ho hv
  simp only[asg]
  have e0:(p k||k==k+(i+1))=p k:=by
   have:(k==k+(i+1))=false:=by simp
   rw[this,Bool.or_false]
  have e2:(fun x=>p x||x==k+(i+1))=(fun x=>p x||x==k+1+i):=by
   funext x;rw[show k+(i+1)=k+1+i by omega]
  simp only[e0]
  rw[zef p r vs _ (k+1) i o v ho hv (by rwa [show k+1+i=k+(i+1) by omega]) (fun j o' hj hji=>hd (j+1) o' (by simpa using hj) (by omega)),e2]
theorem zjk {P:Program} [Tabs P]:∀(l:List SO) (objs:List OB) (vs:List AV) (os:List (List OB)) (tm:List AV) (k i:Nat) (o:SO),zrP P objs l vs os tm→l[i]? = some o→∃v o',vs[i]? = some v∧os[i]? = some o'∧Fact P (obA (fun x=>decide (x<k+i)) k l os objs) o v o' (asg (fun x=>decide (x<k+i)) k l vs tm)
 | [],objs,vs,os,tm,k,i,o,h,ho=>by simp at ho
 | o0::r,objs,[],os,tm,k,i,o,h,ho=>by cases os<;>exact h.elim
 | o0::r,objs,v::vs,[],tm,k,i,o,h,ho=>h.elim
 | o0::r,objs,v0::vs,p0::os,tm,k,0,o,h,ho=>by
  simp at ho;subst ho
  refine⟨v0,p0,rfl,rfl,?_⟩
  have e1:asg (fun x=>decide (x<k+0)) k (o0::r) (v0::vs) tm=tm:=by
   have nil:∀(l:List SO) (vs tm:List AV) (j:Nat),k≤j→asg (fun x=>decide (x<k+0)) j l vs tm=tm:=by
    intro l
    induction l with
    | nil=>intro vs tm j hj;cases vs<;>rfl
    | cons o l ih=>
     intro vs tm j hj
     cases vs with
     | nil=>rfl
     | cons v vs=>
      simp only[asg]
      rw[if_neg (by simp;omega)]
      exact ih vs tm (j+1) (by omega)
   exact nil _ _ _ k (Nat.le_refl _)
  rw[e1,zeL _ _ _ _ _ (fun j o hj hc=>by simp)]
  exact h.1
 | o0::r,objs,v0::vs,p0::os,tm,k,i+1,o,h,ho=>by
  obtain⟨v,o',h1,h2,h3⟩:=zjk r p0 vs os _ (k+1) i o h.2 (by simpa using ho)
  refine⟨v,o',by simpa using h1,by simpa using h2,?_⟩
  simp only[asg,obA]
  have e:(if (decide (k<k+(i+1))&&!o0.op.calm)=true then p0 else objs)=p0:=by
   cases hc:o0.op.calm with
   | true=>simp[h.1.1 hc]
   | false=>simp
  have e9:(if decide (k<k+(i+1))=true then zaD tm o0.dst v0 else tm)=zaD tm o0.dst v0:=if_pos (by simp)
  rw[e,e9,show k+(i+1)=k+1+i by omega]
  exact h3
def zb6 (o:Oper):List Nat:=(o.after.toList.filter (Region.binds .any)).map (·.on)
def zoz (deps:List (List Nat)):List (List Nat):=deps.foldl (fun acc d=>acc++[(d++d.flatMap fun e=>acc.getD e []).eraseDups]) []
def SV.tmp?:SV→Option Nat
 | .t n=>some n
 | _=>none
def SO.looks (o:SO):List Nat:=o.op.svs.filterMap SV.tmp?++(match o.gd with|some (t,_)=>[t] | none=>[])
def tailAt (l:List SO):Nat:=l.findIdx fun o=>!o.op.calm||o.dst.isNone
def zbL (l:List SO) (j:Nat):Option Nat:=(l[j]?).bind (·.dst)
def zdf (l:List SO) (j:Nat):Bool:=((l[j]?).map (·.op.touch)).getD false
def zde (l:List SO) (j:Nat):Bool:=((l[j]?).map (fun o=>!o.op.calm)).getD false
def adrL (l:List SO) (i:Nat):Option Nat :=
 match l[i]? with
 | some ⟨_,.load1 (.t s),none⟩=>some s
 | some ⟨_,.loadn _ (.t s),none⟩=>some s
 | _=>none
def adrS (l:List SO) (j:Nat):Option Nat :=
 match l[j]? with
 | some ⟨_,.store _ (.t s) _,none⟩=>some s
 | some ⟨some d,.alloc _ _,none⟩=>some d
 | some ⟨some d,.app _ _ _ _ _,none⟩=>some d
 | some ⟨some d,.apps _ _ _,none⟩=>some d
 | some ⟨some d,.bslo _ _ _ _ _,none⟩=>some d
 | _=>none
def zgf (l:List SO) (j:Nat):Nat :=
 match l[j]? with
 | some ⟨some _,.alloc _ _,none⟩=>j+1
 | some ⟨some _,.app _ _ _ _ _,none⟩=>j+1
 | some ⟨some _,.apps _ _ _,none⟩=>j+1
 | some ⟨some _,.bslo _ _ _ _ _,none⟩=>j+1
 | _=>j
def zcW (l:List SO) (k i j:Nat):Bool :=
 match adrL l i,adrS l j with
 | some s,some s'=>(List.range k).all (fun m=>decide (m<i)||zbL l m != some s)&&(List.range k).all fun m=>decide (m<zgf l j)||zbL l m != some s'
 | _,_=>false
def zrE (l:List SO) (anc:List (List Nat)) (i j:Nat):Option (Nat×Nat) :=
 if (zdf l i&&zde l j&&!(j==i)&&!(if j<i then (anc.getD i []).contains j else (anc.getD j []).contains i))=true then
  match adrL l i,adrS l j with
  | some s,some s'=>some (s,s')
  | _,_=>none
 else none
def ze2 (l:List SO) (anc:List (List Nat)) (k:Nat):List (Nat×Nat):=(List.range k).flatMap fun i=>(List.range k).filterMap fun j=>zrE l anc i j
def zfi:Option AV→Option AV→Prop
 | some (.p b _),some (.p b' _)=>¬b=b'
 | some (.p b _),some (.orow b' _)=>¬b=b'
 | some (.p b _),some (.porow b' _ _)=>¬b=b'
 | some (.prow _ _),some (.p _ _)=>True
 | some (.prow _ _),some (.orow _ _)=>True
 | some (.prow _ _),some (.porow _ _ _)=>True
 | _,_=>False
def apS:Option AV→Option AV→Prop
 | some (.porow b _ _),some (.porow b' _ _)=>¬b=b'
 | some (.porow b _ _),some (.p b' _)=>¬b=b'
 | _,_=>False
def zjB:List (Nat×Nat)→List AV→Prop
 | [],_=>True
 | (s,s')::r,tm=>(if s'<1000000 then zfi tm[s]? tm[s']? else apS tm[s]? tm[s' - 1000000]?)∧zjB r tm
theorem zju:∀(r:List (Nat×Nat)) (tm:List AV) (s s':Nat),zjB r tm→(s,s')∈r→s'<1000000→zfi tm[s]? tm[s']?
 | [],tm,s,s',h,hm,hs=>by cases hm
 | (x,y)::r,tm,s,s',h,hm,hs=>by
  rcases List.mem_cons.1 hm with e|hm
  ·cases e
   have:=h.1
   rwa [if_pos hs] at this
  ·exact zju r tm s s' h.2 hm hs
def zoZ (l:List SO) (k:Nat):Bool:=(List.range k).all fun j=>match adrS l j with
 | some s=>decide (s<1000000)
 | none=>true
theorem zjM {l:List SO} {k j s:Nat} (h:zoZ l k=true) (hj:j<k) (hs:adrS l j=some s):s<1000000:=by
 have:=List.all_eq_true.1 h j (List.mem_range.2 hj)
 rw[hs] at this
 exact of_decide_eq_true this
def znr (l:List SO) (deps anc:List (List Nat)) (k:Nat):Bool :=
 decide (k≤l.length) &&
 (List.range l.length).all (fun i=>(deps.getD i []).all (fun e=>decide (e<i))&&(anc.getD i []).all fun j=>(deps.getD i []).contains j||(deps.getD i []).any fun e=>(anc.getD e []).contains j) &&
 (List.range k).all (fun i=>zbL l i==none||(List.range k).all fun j=>i==j||zbL l j != zbL l i) &&
 (List.range k).all (fun i=>(((l[i]?).map (·.looks)).getD []).all fun t=>(List.range k).all fun j=>j==i||zbL l j != some t||(anc.getD i []).contains j||(anc.getD j []).contains i) &&
 (List.range k).all (fun i=>!zdf l i||(List.range k).all fun j=>!zde l j||j==i||(if j<i then (anc.getD i []).contains j else (anc.getD j []).contains i)||zcW l k i j) &&
 ((List.range l.length).all fun j=>decide (j<k)||(List.range j).all fun i=>(anc.getD j []).contains i)&&zoZ l k
def zjm (l:List SO) (deps anc:List (List Nat)) (k:Nat):Bool :=
 decide (k≤l.length) &&
 (List.range l.length).all (fun i=>(deps.getD i []).all (fun e=>decide (e<i))&&(anc.getD i []).all fun j=>(deps.getD i []).contains j||(deps.getD i []).any fun e=>(anc.getD e []).contains j) &&
 (List.range k).all (fun i=>zbL l i==none||(List.range k).all fun j=>i==j||zbL l j != zbL l i) &&
 (List.range k).all (fun i=>(((l[i]?).map (·.looks)).getD []).all fun t=>(List.range k).all fun j=>j==i||zbL l j != some t||(anc.getD i []).contains j||(anc.getD j []).contains i) &&
 (List.range k).all (fun i=>!zdf l i||(List.range k).all fun j=>!zde l j||j==i||(if j<i then (anc.getD i []).contains j else (anc.getD j []).contains i)||zcW l k i j) &&
 ((List.range l.length).all fun j=>decide (j<k)||(List.range k).all fun i=>(anc.getD j []).contains i)&&zoZ l k
section
variable {P:Program} [Tabs P] {C:Cx} [On P C] {K:zbu}
theorem zcl (deps anc:List (List Nat)) (n:Nat) (h1:∀i,i<n→(∀e∈deps.getD i [],e<i)∧∀j∈anc.getD i [],j∈deps.getD i []∨∃e∈deps.getD i [],j∈anc.getD e []) (p:Nat→Bool) (hc:∀i,i<n→p i=true→∀e∈deps.getD i [],p e=true) :
  ∀i,i<n→(∀e∈deps.getD i [],p e=true)→∀j∈anc.getD i [],p j=true:=by
 intro i
 induction i using Nat.strongRecOn with
 | _ i ih=>
  intro hi hd j hj
  rcases(h1 i hi).2 j hj with h2|⟨e,he,h2⟩
  ·exact hd j h2
  ·have hlt:=(h1 i hi).1 e he
   exact ih e hlt (by omega) (hc e (by omega) (hd e he)) j h2
theorem anc_lt (deps anc:List (List Nat)) (n:Nat) (h1:∀i,i<n→(∀e∈deps.getD i [],e<i)∧∀j∈anc.getD i [],j∈deps.getD i []∨∃e∈deps.getD i [],j∈anc.getD e []):∀i,i<n→∀j∈anc.getD i [],j<i:=by
 intro i
 induction i using Nat.strongRecOn with
 | _ i ih=>
  intro hi j hj
  rcases(h1 i hi).2 j hj with h2|⟨e,he,h2⟩
  ·exact(h1 i hi).1 j h2
  ·have hlt:=(h1 i hi).1 e he
   have:=ih e hlt (by omega) j h2
   omega
theorem zmv {P:Program} [Tabs P] (b:Nat) (q:Nat→Bool):∀(l:List SO) (objs:List OB) (vs:List AV) (os:List (List OB)) (tm:List AV) (k:Nat),zrP P objs l vs os tm →
  (∀j m o o2,l[j]? = some o→l[m]? = some o2→j<m→o.op.calm=false→o2.op.calm=false→q (k+m)=true→q (k+j)=true) →
  (∀j o v o' t ob,l[j]? = some o→o.op.calm=false→q (k+j)=true→os[j]? = some o'→vs[j]? = some v→Fact P ob o v o' t→t=asg (fun x=>decide (x<k+j)) k l vs tm→o'[b]? = ob[b]?) →
  (obA q k l os objs)[b]? = objs[b]?
 | [],objs,vs,os,tm,k,h,hc,hk=>by cases os<;>rfl
 | o::r,objs,[],os,tm,k,h,hc,hk=>by cases os<;>exact h.elim
 | o::r,objs,v::vs,[],tm,k,h,hc,hk=>h.elim
 | o::r,objs,v::vs,o'::os,tm,k,h,hc,hk=>by
  simp only[obA]
  have e0:asg (fun x=>decide (x<k+0)) k (o::r) (v::vs) tm=tm:=by
   have nil:∀(l:List SO) (vs tm:List AV) (j:Nat),k≤j→asg (fun x=>decide (x<k+0)) j l vs tm=tm:=by
    intro l
    induction l with
    | nil=>intro vs tm j hj;cases vs<;>rfl
    | cons o l ih=>
     intro vs tm j hj
     cases vs with
     | nil=>rfl
     | cons v vs=>
      simp only[asg]
      rw[if_neg (by simp;omega)]
      exact ih vs tm (j+1) (by omega)
   exact nil _ _ _ k (Nat.le_refl _)
  have next:(obA q (k+1) r os o')[b]? = o'[b]?:=by
   refine zmv b q r o' vs os _ (k+1) h.2 (fun j m o1 o2 h1 h2 h3 h4 h5 h6=>?_) (fun j o1 v1 o1' t ob h1 h2 h3 h4 h5 h6 h7=>?_)
   ·have:=hc (j+1) (m+1) o1 o2 (by simpa using h1) (by simpa using h2) (by omega) h4 h5 (by rwa [show k+(m+1)=k+1+m by omega])
    rwa [show k+1+j=k+(j+1) by omega]
   ·refine hk (j+1) o1 v1 o1' t ob (by simpa using h1) h2 (by rwa [show k+(j+1)=k+1+j by omega]) (by simpa using h4) (by simpa using h5) h6 ?_
    rw[h7]
    simp only[asg]
    rw[if_pos (by simp),show k+(j+1)=k+1+j by omega]
  cases hcm:o.op.calm with
  | true=>
   simp only[Bool.not_true,Bool.and_false,Bool.false_eq_true,if_false]
   have:=h.1.1 hcm;subst this;exact next
  | false=>
   cases hq:q k with
   | true=>
    simp only[Bool.not_false,Bool.and_self,if_true]
    rw[next]
    exact hk 0 o v o' tm objs rfl hcm (by simpa using hq) rfl rfl h.1 e0.symm
   | false=>
    simp only[Bool.false_and,Bool.false_eq_true,if_false]
    rw[zeL]
    intro j o2 hj h2
    cases hx:q (k+1+j) with
    | false=>rfl
    | true=>
     have:=hc 0 (j+1) o o2 rfl (by simpa using hj) (by omega) hcm h2 (by rwa [show k+(j+1)=k+1+j by omega])
     rw[Nat.add_zero,hq] at this;cases this
theorem zho {P:Program} [Tabs P] (b:Nat) (p q:Nat→Bool):∀(l:List SO) (objs:List OB) (vs:List AV) (os:List (List OB)) (tm:List AV) (k:Nat),zrP P objs l vs os tm →
  (∀j m o o2,l[j]? = some o→l[m]? = some o2→j<m→o.op.calm=false→o2.op.calm=false→q (k+m)=true→q (k+j)=true) →
  (∀j m o o2,l[j]? = some o→l[m]? = some o2→j<m→o.op.calm=false→o2.op.calm=false→p (k+m)=true→p (k+j)=true) →
  (∀j o,l[j]? = some o→o.op.calm=false→p (k+j)=true→q (k+j)=true) →
  (∀j o v o' t ob,l[j]? = some o→o.op.calm=false→p (k+j)=false→q (k+j)=true→os[j]? = some o'→vs[j]? = some v→Fact P ob o v o' t→t=asg (fun x=>decide (x<k+j)) k l vs tm→o'[b]? = ob[b]?) →
  (obA p k l os objs)[b]? = (obA q k l os objs)[b]?
 | [],objs,vs,os,tm,k,h,hq,hp,hs,hk=>by cases os<;>rfl
 | o::r,objs,[],os,tm,k,h,hq,hp,hs,hk=>by cases os<;>exact h.elim
 | o::r,objs,v::vs,[],tm,k,h,hq,hp,hs,hk=>h.elim
 | o::r,objs,v::vs,o'::os,tm,k,h,hq,hp,hs,hk=>by
  have zip:∀(z:Nat→Bool),(∀j m o1 o2,(o::r)[j]? = some o1→(o::r)[m]? = some o2→j<m→o1.op.calm=false→o2.op.calm=false→z (k+m)=true→z (k+j)=true)→∀j m o1 o2,r[j]? = some o1→r[m]? = some o2→j<m→o1.op.calm=false→o2.op.calm=false→z (k+1+m)=true→z (k+1+j)=true:=by
   intro z hz j m o1 o2 h1 h2 h3 h4 h5 h6
   have:=hz (j+1) (m+1) o1 o2 (by simpa using h1) (by simpa using h2) (by omega) h4 h5 (by rwa [show k+(m+1)=k+1+m by omega])
   rwa [show k+1+j=k+(j+1) by omega]
  have next:(obA p (k+1) r os o')[b]? = (obA q (k+1) r os o')[b]?:=by
   refine zho b p q r o' vs os _ (k+1) h.2 (zip q hq) (zip p hp) (fun j o1 h1 h2 h3=>?_) (fun j o1 v1 o1' t ob h1 h2 h3 h3' h4 h5 h6 h7=>?_)
   ·have:=hs (j+1) o1 (by simpa using h1) h2 (by rwa [show k+(j+1)=k+1+j by omega])
    rwa [show k+1+j=k+(j+1) by omega]
   ·refine hk (j+1) o1 v1 o1' t ob (by simpa using h1) h2 (by rwa [show k+(j+1)=k+1+j by omega]) (by rwa [show k+(j+1)=k+1+j by omega]) (by simpa using h4) (by simpa using h5) h6 ?_
    rw[h7]
    simp only[asg]
    rw[if_pos (by simp),show k+(j+1)=k+1+j by omega]
  cases hcm:o.op.calm with
  | true=>
   have e:=h.1.1 hcm
   subst e
   simp only[obA,hcm,Bool.not_true,Bool.and_false,Bool.false_eq_true,if_false]
   exact next
  | false=>
   cases hpk:p k with
   | true=>
    have hqk:q k=true:=hs 0 o rfl hcm (by simpa using hpk)
    simp only[obA,hcm,hpk,hqk,Bool.not_false,Bool.and_self,if_true]
    exact next
   | false=>
    have hpn:∀j o2,(o::r)[j]? = some o2→o2.op.calm=false→p (k+j)=false:=by
     intro j o2 hj h2
     cases j with
     | zero=>simpa using hpk
     | succ j=>
      cases hx:p (k+(j+1)) with
      | false=>rfl
      | true=>
       have:=hp 0 (j+1) o o2 rfl hj (by omega) hcm h2 hx
       rw[Nat.add_zero,hpk] at this;cases this
    rw[zeL p (o::r) (o'::os) objs k hpn]
    symm
    exact zmv b q (o::r) objs (v::vs) (o'::os) tm k h hq (fun j o1 v1 o1' t ob h1 h2 h3 h4 h5 h6 h7=>hk j o1 v1 o1' t ob h1 h2 (hpn j o1 h1 h2) h3 h4 h5 h6 h7)
theorem zmC {P:Program} [Tabs P] {op:SOp} {s:Nat} {obi cur:List OB} {tm:List AV} {v:AV} (hop:op=.load1 (.t s)∨∃sz,op=.loadn sz (.t s)) (hb:∀b off,tm[s]? = some (.p b off)→cur[b]? = obi[b]?) (hp:∃b off,tm[s]? = some (.p b off))
  (h:wpS P op obi tm (fun y x=>y=obi∧x=v)):wpS P op cur tm (fun y x=>y=cur∧x=v):=by
 obtain⟨b,off,hp⟩:=hp
 have hb:=hb b off hp
 rcases hop with rfl|⟨sz,rfl⟩
 ·simp only[wpS,SV.ev,hp,Option.getD_some,hb] at h ⊢
  split at h
  ·split at h
   ·exact⟨trivial,h.2⟩
   ·exact h
  ·exact h
 ·simp only[wpS,SV.ev,hp,Option.getD_some,hb] at h ⊢
  split at h
  ·exact⟨h.1,trivial,h.2.2⟩
  ·exact h
theorem zki {P:Program} [Tabs P] {op:SOp} {s:Nat} {obi cur:List OB} {tm:List AV} {v:AV} (hop:op=.load1 (.t s)∨∃sz,op=.loadn sz (.t s)) (hp:∃xs q,tm[s]? = some (.prow xs q))
  (h:wpS P op obi tm (fun y x=>y=obi∧x=v)):wpS P op cur tm (fun y x=>y=cur∧x=v):=by
 obtain⟨xs,q,hp⟩:=hp
 rcases hop with rfl|⟨sz,rfl⟩
 ·simp only[wpS,SV.ev,hp,Option.getD_some] at h ⊢
  obtain⟨v',h1,_,h2⟩:=h
  exact⟨v',h1,trivial,h2⟩
 ·simp only[wpS,SV.ev,hp,Option.getD_some] at h ⊢
  exact⟨h.1,trivial,h.2.2⟩
theorem zjK {P:Program} [Tabs P] {sz s:Nat} {y:SV} {ob o':List OB} {tm:List AV} {v:AV} {b:Nat} (hb:∀b' off,tm[s]? = some (.p b' off)→¬b=b') (hq:∀b' g j,tm[s]? = some (.porow b' g j)→¬b=b') (h:wpS P (.store sz (.t s) y) ob tm (fun z x=>z=o'∧x=v)):o'[b]? = ob[b]?:=by
 simp only[wpS,SV.ev] at h
 cases ht:tm[s]? with
 | none=>rw[ht] at h;exact h.elim
 | some a=>
  rw[ht] at h
  simp only[Option.getD_some] at h
  split at h
  ·rename_i b' off
   split at h
   ·obtain⟨_,rfl,_⟩:=h
    have:=hb b' off ht
    rw[List.getElem?_set_ne (fun e=>this e.symm)]
   ·exact h.elim
  ·rename_i b' g j
   split at h
   ·obtain⟨_,rfl,_⟩:=h
    have:=hq b' g j ht
    rw[List.getElem?_set_ne (fun e=>this e.symm)]
   ·exact h.elim
  ·exact h.elim
theorem zl8 {P:Program} [Tabs P] {op:SOp} {ob o':List OB} {tm:List AV} {v:AV} (hop:(∃E sz by' x y,op=.app E sz by' x y)∨(∃E x y,op=.apps E x y)∨(∃E sz n z ps,op=.bslo E sz n z ps)) (h:wpS P op ob tm (fun z x=>z=o'∧x=v)) :
  ∃b g,v=.orow b g∧∀c,¬c=b→o'[c]? = ob[c]?:=by
 have new:∀x:OB,∀c,¬c=ob.length→(ob++[x])[c]? = ob[c]?:=by
  intro x c hc
  rcases Nat.lt_or_ge c ob.length with h6|h6
  ·exact List.getElem?_append_left h6
  ·rw[List.getElem?_eq_none (by simp;omega),List.getElem?_eq_none h6]
 rcases hop with ⟨E,sz,by',x,y,rfl⟩|⟨E,x,y,rfl⟩|⟨E,sz,n,z,ps,rfl⟩
 ·simp only[wpS] at h
  split at h
  ·split at h
   ·split at h
    ·obtain⟨_,rfl,rfl⟩:=h
     exact⟨_,_,rfl,fun c hc=>List.getElem?_set_ne (fun e=>hc e.symm)⟩
    ·exact h.elim
   ·obtain⟨_,rfl,rfl⟩:=h
    exact⟨_,_,rfl,new _⟩
   ·exact h.elim
  ·exact h.elim
 ·simp only[wpS] at h
  split at h
  ·split at h
   ·split at h
    ·obtain⟨_,rfl,rfl⟩:=h
     exact⟨_,_,rfl,fun c hc=>List.getElem?_set_ne (fun e=>hc e.symm)⟩
    ·exact h.elim
   ·obtain⟨_,rfl,rfl⟩:=h
    exact⟨_,_,rfl,new _⟩
   ·exact h.elim
  ·exact h.elim
 ·simp only[wpS] at h
  split at h
  ·obtain⟨_,rfl,rfl⟩:=h
   exact⟨_,_,rfl,new _⟩
  ·exact h.elim
theorem zkD (ops:Array Oper) (o:Oper) (so0 so:SO) (hd0:so.dst=so0.dst) (hg0:so.gd=so0.gd) (hcv:∀objs tm K,wpS P so.op objs tm K→wpS P so0.op objs tm K) (obi cur o':List OB) (tm tmi:List AV) (v:AV) (N:Act→World→Prop) (Q:Exit→Act→World→Prop) (h1:trO P ops.toList o=some so0) (h:Fact P obi so v o' tmi)
  (hstep:wpS P so.op obi tm (fun y x=>y=o'∧x=v)→wpS P so.op cur tm (fun y x=>y=(if so.op.calm=true then cur else o')∧x=v)) (hskip:o'=obi→(if so.op.calm=true then cur else o')=cur) (hag:∀t∈so.looks,tm[t]? = tmi[t]?) (a:Act) (w:World) (hr:Rel C cur tm a w)
  (hN:∀a w,Rel C (if so.op.calm=true then cur else o') (zaD tm so.dst v) a w→N a w):if Region.wanted o (yielded ops a.tmps) then o.wp P a w N Q else N (a.put o.dst undef) w:=by
 obtain⟨d1,op1,g1⟩:=so
 dsimp only at hd0 hg0 hcv
 subst hd0 hg0
 obtain⟨hco,h⟩:=h
 have hev:∀x∈op1.svs,x.ev tm=x.ev tmi:=by
  intro x hx
  cases x with
  | c v=>rfl
  | t n=>
   simp only[SV.ev]
   rw[hag n (List.mem_append_left _ (List.mem_filterMap.2 ⟨_,hx,rfl⟩))]
 unfold trO at h1
 split at h1
 ·cases h1
 ·rename_i op hop
  obtain⟨G,I,hin,hm,hd,hdef⟩:=hr
  split at h1
  ·rename_i hg
   injection h1 with h1;subst h1
   dsimp only at h hstep hskip hev hN hcv ⊢
   rw[if_pos (by simp[Region.wanted,hg])]
   rw[←zjC hev] at h
   have h:=hstep h
   refine ziG (C:=C) (type:=o.type) ops.toList o op hop (hcv _ _ _ h) G I a w hin hm hd o _ _ rfl rfl ?_
   rintro objs' v' y G' I' w' ⟨rfl,rfl⟩ l1 l2 l3 l4 l5
   exact hN _ _ ⟨G',I',l3,l4,zdC (zao.mono l1 l2 _ _ hd) l5 o.dst,by rw[zcj];exact hdef⟩
  ·rename_i j want hg
   split at h1
   ·rename_i t hj
    injection h1 with h1;subst h1
    have hj':(ops[j]?).bind (·.dst)=some t:=by simpa using hj
    dsimp only at h hstep hskip hev hN hcv ⊢
    have hat:=hag t (List.mem_append_right _ (List.mem_singleton_self t))
    have hval:∀v,tm[t]? = some v→∃y,a.tmps[t]? = some y∧Den G I v y:=by
     intro v hv
     obtain⟨y,h3,h4⟩:=zao.get t hd hv
     exact⟨y,by simpa using h3,h4⟩
    rcases h with ⟨h2,h3⟩|⟨h2|⟨vs,h2⟩,rfl,he⟩
    ·obtain⟨y,hy,hyd⟩:=hval _ (hat.trans h2)
     simp only[Den] at hyd;subst hyd
     have hyi:yielded ops a.tmps j=some want:=by simp[yielded,hj',hy]
     rw[if_pos (by simp[Region.wanted,hg,hyi])]
     rw[←zjC hev] at h3
     have h3:=hstep h3
     refine ziG (C:=C) (type:=o.type) ops.toList o op hop (hcv _ _ _ h3) G I a w hin hm hd o _ _ rfl rfl ?_
     rintro objs' v' y G' I' w' ⟨rfl,rfl⟩ l1 l2 l3 l4 l5
     exact hN _ _ ⟨G',I',l3,l4,zdC (zao.mono l1 l2 _ _ hd) l5 o.dst,by rw[zcj];exact hdef⟩
    ·obtain⟨y,hy,hyd⟩:=hval _ (hat.trans h2)
     simp only[Den] at hyd;subst hyd
     have hyi:yielded ops a.tmps j=some (!want):=by simp[yielded,hj',hy]
     rw[if_neg (by cases want<;>simp[Region.wanted,hg,hyi])]
     rw[hskip he] at hN
     exact hN _ _ ⟨G,I,hin,hm,zdC hd (by simp[Den]) o.dst,by rw[zcj];exact hdef⟩
    ·obtain⟨y,hy,hyd⟩:=hval _ (hat.trans h2)
     simp only[Den] at hyd;subst hyd
     have hyi:yielded ops a.tmps j=none:=by simp[yielded,hj',hy]
     rw[if_neg (by simp[Region.wanted,hg,hyi])]
     rw[hskip he] at hN
     exact hN _ _ ⟨G,I,hin,hm,zdC hd (by simp[Den]) o.dst,by rw[zcj];exact hdef⟩
   ·cases h1
theorem zcP {ops:Array Oper} {listed:Array Bool} {i:Nat} (hs:listed.size=ops.size):i∈Region.ready .any ops listed↔i<ops.size∧listed.getD i true=false∧∀e∈(ops.toList.map zb6).getD i [],listed.getD e false=true:=by
 unfold Region.ready
 rw[List.mem_filter,List.mem_range]
 constructor
 ·rintro⟨h1,h2⟩
  simp only[Bool.and_eq_true,Bool.not_eq_true'] at h2
  refine⟨h1,h2.1,fun e he=>?_⟩
  rw[Array.getElem?_eq_getElem h1] at h2
  simp only[Option.map_some,Option.getD_some,Array.all_eq_true'] at h2
  have hg:(ops.toList.map zb6).getD i []=zb6 ops[i]:=by
   rw[List.getD_eq_getElem?_getD,List.getElem?_map,List.getElem?_eq_getElem (by simpa using h1)];rfl
  rw[hg] at he
  unfold zb6 at he
  obtain⟨ed,hed,rfl⟩:=List.mem_map.1 he
  obtain⟨hm,hb⟩:=List.mem_filter.1 hed
  have:=h2.2 ed (by simpa using hm)
  simpa[hb] using this
 ·rintro⟨h1,h2,h3⟩
  refine⟨h1,?_⟩
  simp only[Bool.and_eq_true,Bool.not_eq_true']
  refine⟨h2,?_⟩
  rw[Array.getElem?_eq_getElem h1]
  simp only[Option.map_some,Option.getD_some,Array.all_eq_true']
  intro ed hed
  have hg:(ops.toList.map zb6).getD i []=zb6 ops[i]:=by
   rw[List.getD_eq_getElem?_getD,List.getElem?_map,List.getElem?_eq_getElem (by simpa using h1)];rfl
  cases hb:Region.binds .any ed with
  | false=>simp
  | true=>
   simp only[Bool.not_true,Bool.false_or]
   refine h3 ed.on ?_
   rw[hg]
   exact List.mem_map.2 ⟨ed,List.mem_filter.2 ⟨by simpa using hed,hb⟩,rfl⟩
theorem zgK {α β:Type} (f:α→Option β):∀(l:List α) (r:List β),l.mapM f=some r→l.length=r.length∧∀(i:Nat) (x:α),l[i]? = some x→∃y,r[i]? = some y∧f x=some y
 | [],r,h=>by simp at h;subst h;simp
 | x::l,r,h=>by
  simp only[List.mapM_cons,Option.bind_eq_bind,Option.pure_def] at h
  cases h1:f x with
  | none=>simp[h1] at h
  | some y=>
   cases h2:l.mapM f with
   | none=>simp[h1,h2] at h
   | some r'=>
    simp[h1,h2] at h
    subst h
    obtain⟨h3,h4⟩:=zgK f l r' h2
    refine⟨by simp[h3],fun i z hz=>?_⟩
    cases i with
    | zero=>simp at hz;subst hz;exact⟨y,rfl,h1⟩
    | succ i=>simpa using h4 i z (by simpa using hz)
theorem zfF (listed:Array Bool) (i j:Nat) (d:Bool) (hi:i<listed.size):(listed.setIfInBounds i true).getD j d=if j=i then true else listed.getD j d:=by
 simp only[Array.getD_eq_getD_getElem?,Array.getElem?_setIfInBounds]
 by_cases e:j=i
 ·subst e;simp[hi]
 ·rw[if_neg (fun e'=>e e'.symm),if_neg e]
def SO.toP:SO→SO
 | ⟨d,.call f args,g⟩=>⟨d,.pcall f args,g⟩
 | ⟨d,.iad sz x y,g⟩=>⟨d,.iadr sz x y,g⟩
 | ⟨d,.trn sz x y,g⟩=>⟨d,.pu (.rslh sz) [x,y],g⟩
 | o=>o
def SO.toQ:SO→SO
 | ⟨d,.iad sz x y,g⟩=>⟨d,.iadr sz x y,g⟩
 | o=>o
theorem zqO {sz:Nat} {x y:SV} {objs:List OB} {tm:List AV} {K:List OB→AV→Prop} (h:wpS P (.iadr sz x y) objs tm K):wpS P (.iad sz x y) objs tm K:=by
 simp only[wpS] at h ⊢
 revert h
 cases x.ev tm<;>try exact fun h=>h.elim
 cases y.ev tm<;>first|exact fun h=>h|exact fun h=>h.elim
theorem rslh_up {sz:Nat} {x y:SV} {objs:List OB} {tm:List AV} {K:List OB→AV→Prop} (h:wpS P (.pu (.rslh sz) [x,y]) objs tm K):wpS P (.trn sz x y) objs tm K:=by
 simp only[wpS,List.map_cons,List.map_nil] at h ⊢
 revert h
 cases x.ev tm<;>try (intro h;simp[pq] at h;done)
 ·cases y.ev tm<;>try (intro h;simp[pq] at h;done)
  intro h
  simp only[pq] at h
  split at h
  ·rename_i v hv
   split at hv
   ·rename_i hc
    injection hv with hv;subst hv
    exact⟨hc,h⟩
   ·cases hv
  ·exact h.elim
 ·cases y.ev tm<;>try (intro h;simp[pq] at h;done)
  intro h
  simp only[pq] at h
  split at h
  ·rename_i v hv
   split at hv
   ·rename_i hc
    injection hv with hv;subst hv
    exact⟨hc,h⟩
   ·cases hv
  ·exact h.elim
theorem zoO (o:SO):o.toQ.dst=o.dst:=by obtain⟨d,op,g⟩:=o;cases op<;>rfl
theorem toQ_gd (o:SO):o.toQ.gd=o.gd:=by obtain⟨d,op,g⟩:=o;cases op<;>rfl
theorem toQ_up (o:SO) (objs:List OB) (tm:List AV) (K:List OB→AV→Prop) (h:wpS P o.toQ.op objs tm K):wpS P o.op objs tm K:=by
 obtain⟨d,op,g⟩:=o
 cases op<;>first|exact h|exact zqO h
theorem zoP (o:SO):o.toP.dst=o.dst:=by obtain⟨d,op,g⟩:=o;cases op<;>rfl
theorem toP_gd (o:SO):o.toP.gd=o.gd:=by obtain⟨d,op,g⟩:=o;cases op<;>rfl
theorem toP_up (o:SO) (objs:List OB) (tm:List AV) (K:List OB→AV→Prop) (h:wpS P o.toP.op objs tm K):wpS P o.op objs tm K:=by
 obtain⟨d,op,g⟩:=o
 cases op<;>try exact h
 case call f args=>
  simp only[SO.toP,wpS] at h ⊢
  exact zrx h.1 h.2
 case iad sz x y=>exact zqO h
 case trn sz x y=>exact rslh_up h
theorem draw_ok (id:Nat) (ops:Array Oper) (l0 l:List SO) (hl:ops.toList.mapM (trO P ops.toList)=some l0) (hlp:l=l0∨l=l0.map SO.toP∨l=l0.map SO.toQ) (k:Nat) (hok:znr l (ops.toList.map zb6) (zoz (ops.toList.map zb6)) k=true) (hm:P.follows .mixedOrders=true) {objs:List OB} {tm:List AV}
  (h:wpD P (l.take k) objs tm (fun o t=>zjB (ze2 l (zoz (ops.toList.map zb6)) k) t∧wpR P (l.drop k) o t (fun o t=>K .normal o t))):∀a w,Rel C objs tm a w→(Code.region id ops true).wp P (zip C K) a w:=by
 intro a w hr
 obtain⟨hlen0,hget0⟩:=zgK _ _ _ hl
 have hlen:ops.toList.length=l.length:=by
  rcases hlp with rfl|rfl|rfl
  ·exact hlen0
  ·rw[List.length_map];exact hlen0
  ·rw[List.length_map];exact hlen0
 have hget:∀(i:Nat) (x:Oper),ops.toList[i]? = some x→∃y,l[i]? = some y∧∃y0,trO P ops.toList x=some y0∧y.dst=y0.dst∧y.gd=y0.gd∧∀objs tm K,wpS P y.op objs tm K→wpS P y0.op objs tm K:=by
  intro i x hx
  obtain⟨y0,h1,h2⟩:=hget0 i x hx
  rcases hlp with rfl|rfl|rfl
  ·exact⟨y0,h1,y0,h2,rfl,rfl,fun _ _ _ h=>h⟩
  ·exact⟨y0.toP,by rw[List.getElem?_map,h1];rfl,y0,h2,zoP y0,toP_gd y0,fun objs tm K h=>toP_up y0 objs tm K h⟩
  ·exact⟨y0.toQ,by rw[List.getElem?_map,h1];rfl,y0,h2,zoO y0,toQ_gd y0,fun objs tm K h=>toQ_up y0 objs tm K h⟩
 have hnl:ops.size=l.length:=by simpa using hlen
 generalize hdeps:ops.toList.map zb6=deps at hok h
 generalize zoz deps=anc at hok h
 simp only[znr,Bool.and_eq_true,decide_eq_true_eq,List.all_eq_true,List.mem_range,Bool.or_eq_true,bne_iff_ne,ne_eq,beq_iff_eq,List.any_eq_true,List.contains_iff_mem] at hok
 obtain⟨⟨⟨⟨⟨⟨hk,hd1⟩,hd2⟩,hd3⟩,hm1⟩,hd4⟩,hsm⟩:=hok
 obtain⟨vs,os,hfacts,hAp,hK⟩:=zdI _ _ _ _ h
 have hdep:∀i,i<ops.size→(∀e∈deps.getD i [],e<i)∧∀j∈anc.getD i [],j∈deps.getD i []∨∃e∈deps.getD i [],j∈anc.getD e []:=fun i hi=>hd1 i (by omega)
 have halt:=anc_lt deps anc ops.size hdep
 have htk:(l.take k).length=k:=by rw[List.length_take];omega
 let Inv:Array Bool→Act→World→Prop:=fun listed a w=>
  listed.size=ops.size∧(∀i,i<ops.size→listed.getD i false=true→∀e∈deps.getD i [],listed.getD e false=true) ∧
  (((∀j,k≤j→j<ops.size→listed.getD j false=false)∧Rel C (obA (fun x=>listed.getD x false) 0 (l.take k) os objs) (asg (fun x=>listed.getD x false) 0 (l.take k) vs tm) a w) ∨
   (∃m,k<m∧m≤ops.size∧(∀j,j<ops.size→listed.getD j false=decide (j<m))∧∃objs' tm',Rel C objs' tm' a w∧wpR P (l.drop m) objs' tm' (fun o t=>K .normal o t)))
 have hgd:∀(listed:Array Bool) (i:Nat),i<listed.size→listed.getD i true=listed.getD i false:=by
  intro listed i hi
  simp[Array.getD_eq_getD_getElem?,hi]
 have fin:∀listed a w,Inv listed a w→(∀i,i<ops.size→listed.getD i false=true)→zip C K .normal a w:=by
  rintro listed a w ⟨hs,hc,hA|⟨m,hm1,hm2,hm3,objs',tm',hr',hw⟩⟩ hall
  ·have hkn:k=ops.size:=by
    rcases Nat.lt_or_ge k ops.size with h0|h0
    ·have h1:=hA.1 k (Nat.le_refl _) h0
     rw[hall k h0] at h1;cases h1
    ·omega
   have hdr:l.drop k=[]:=List.drop_eq_nil_of_le (by omega)
   rw[hdr] at hK
   refine⟨_,_,hK,?_⟩
   rw[zbZ (fun _=>true) (fun x=>listed.getD x false) (l.take k) os objs 0 (fun j o hj _=>by
    rw[Nat.zero_add];exact(hall j (by have:=(List.getElem?_eq_some_iff.1 hj).1;rw[htk] at this;omega)).symm),zeX (fun _=>true) (fun x=>listed.getD x false) _ vs tm 0 (fun j hj=>by
    rw[Nat.zero_add];exact(hall j (by rw[htk] at hj;omega)).symm)]
   exact hA.2
  ·have hmn:m=ops.size:=by
    rcases Nat.lt_or_ge m ops.size with h0|h0
    ·have h1:=hm3 m h0
     rw[hall m h0] at h1;simp at h1
    ·omega
   have hdr:l.drop m=[]:=List.drop_eq_nil_of_le (by omega)
   rw[hdr] at hw
   exact⟨objs',tm',hw,hr'⟩
 have step:∀listed a w i,Inv listed a w→i∈Region.ready .any ops listed→wpOp P ops (zip C K) i (fun a w=>Inv (listed.setIfInBounds i true) a w) a w:=by
  intro listed a w i hinv hi
  obtain⟨hs,hc,hAB⟩:=hinv
  obtain⟨hin,hun,hrd⟩:=(zcP hs).1 hi
  rw[hdeps] at hrd
  rw[hgd listed i (by omega)] at hun
  have hanc:=zcl deps anc ops.size hdep (fun x=>listed.getD x false) hc i hin hrd
  have ho:ops[i]? = some ops[i]:=Array.getElem?_eq_getElem hin
  obtain⟨so,hso,so0,htr,hd0,hg0,hcv⟩:=hget i ops[i] (by rw[List.getElem?_eq_getElem (by simpa using hin)];simp)
  have hs':(listed.setIfInBounds i true).size=ops.size:=by rw[Array.size_setIfInBounds];exact hs
  have hset:∀j,(listed.setIfInBounds i true).getD j false=if j=i then true else listed.getD j false:=fun j=>zfF listed i j false (by omega)
  have hc':∀x,x<ops.size→(listed.setIfInBounds i true).getD x false=true→∀e∈deps.getD x [],(listed.setIfInBounds i true).getD e false=true:=by
   intro x hx hlx e he
   rw[hset] at hlx ⊢
   split
   ·rfl
   ·split at hlx
    ·rename_i e1;subst e1;exact hrd e he
    ·exact hc x hx hlx e he
  suffices hsuf:if Region.wanted ops[i] (yielded ops a.tmps) then ops[i].wp P a w (fun a w=>Inv (listed.setIfInBounds i true) a w) (zip C K) else Inv (listed.setIfInBounds i true) (a.put ops[i].dst undef) w by
   unfold wpOp
   rw[ho]
   show if Region.wanted ops[i] (yielded ops a.tmps)=true then _ else _
   split
   ·rename_i hw;rw[if_pos hw] at hsuf;exact .inl hsuf
   ·rename_i hw;rw[if_neg hw] at hsuf;exact hsuf
  have tail:∀objs' tm',k≤i→(∀j,j<i→listed.getD j false=true)→(∀j,i≤j→j<ops.size→listed.getD j false=false)→Rel C objs' tm' a w→wpR P (l.drop i) objs' tm' (fun o t=>K .normal o t) →
    if Region.wanted ops[i] (yielded ops a.tmps) then ops[i].wp P a w (fun a w=>Inv (listed.setIfInBounds i true) a w) (zip C K) else Inv (listed.setIfInBounds i true) (a.put ops[i].dst undef) w:=by
   intro objs' tm' hki hlo hhi hr' hw
   have hdr:l.drop i=so::l.drop (i+1):=by
    rw[List.drop_eq_getElem_cons (by omega)]
    congr 1
    have:=List.getElem?_eq_some_iff.1 hso
    exact this.2
   rw[hdr] at hw
   refine ziH ops ops[i] so0 so hd0 hg0 hcv (l.drop (i+1)) objs' tm' _ _ _ htr hw a w hr' ?_
   intro o2 t2 a2 w2 hw2 hr2
   refine⟨hs',hc',.inr ⟨i+1,by omega,by omega,fun j hj=>?_,o2,t2,hr2,hw2⟩⟩
   rw[hset]
   split
   ·rename_i e;simp[e]
   ·rename_i e
    rcases Nat.lt_or_ge j i with h0|h0
    ·rw[hlo j h0];simp;omega
    ·rw[hhi j h0 hj];simp;omega
  rcases Nat.lt_or_ge i k with hik|hik
  ·-- a step of the part whose order is open
   rcases hAB with ⟨hA1,hA2⟩|⟨m,hm1,hm2,hm3,_⟩
   ·have hti:(l.take k)[i]? = some so:=by rw[List.getElem?_take_of_lt hik];exact hso
    obtain⟨v,o',hv,hov,hf⟩:=zjk (l.take k) objs vs os tm 0 i so hfacts hti
    have hlook:=hd3 i hik
    rw[hso] at hlook
    simp only[Option.map_some,Option.getD_some] at hlook
    have hag:∀t∈so.looks,(asg (fun x=>listed.getD x false) 0 (l.take k) vs tm)[t]? = (asg (fun x=>decide (x<0+i)) 0 (l.take k) vs tm)[t]?:=by
     intro t ht
     refine zeE _ _ t _ vs tm tm 0 rfl rfl ?_
     intro j o' hj ho'
     simp only[Nat.zero_add]
     have hjk:j<k:=by
      rcases Nat.lt_or_ge j k with h0|h0
      ·exact h0
      ·rw[List.getElem?_eq_none (by rw[htk];exact h0)] at hj;cases hj
     have hdst:zbL l j=some t:=by
      unfold zbL
      rw[List.getElem?_take_of_lt hjk] at hj
      rw[hj];exact ho'
     rcases hlook t ht j hjk with ((h1|h1)|h1)|h1
     ·subst h1;rw[hun];simp
     ·exact absurd hdst h1
     ·have h2:=hanc j h1
      have h3:=halt i hin j h1
      rw[h2];simp[h3]
     ·have h3:=halt j (by omega) i h1
      have h2:listed.getD j false=false:=by
       cases hq:listed.getD j false with
       | false=>rfl
       | true=>
        have:=zcl deps anc ops.size hdep (fun x=>listed.getD x false) hc j (by omega) (hc j (by omega) hq) i h1
        rw[hun] at this;cases this
      rw[h2];symm;simp;omega
    have hord:∀i2 j o2 o3,l[i2]? = some o3→o3.op.touch=true→i2<k→l[j]? = some o2→o2.op.calm=false→j<k→j≠i2→(if j<i2 then j∈anc.getD i2 [] else i2∈anc.getD j [])∨(zcW l k i2 j=true∧¬(if j<i2 then j∈anc.getD i2 [] else i2∈anc.getD j [])):=by
     intro i2 j o2 o3 hi2 ht2 hik2 hj hcj hjk hji
     have wj:zde l j=true:=by simp[zde,hj,hcj]
     have ti:zdf l i2=true:=by simp[zdf,hi2,ht2]
     by_cases hc0:(if j<i2 then j∈anc.getD i2 [] else i2∈anc.getD j [])
     ·exact .inl hc0
     ·right
      refine⟨?_,hc0⟩
      rcases hm1 i2 hik2 with h0|h0
      ·rw[ti] at h0;cases h0
      ·rcases h0 j hjk with ((h0|h0)|h0)|h0
       ·rw[wj] at h0;cases h0
       ·exact absurd h0 hji
       ·exfalso;apply hc0
        split at h0<;>rename_i hlt
        ·rw[if_pos hlt];simpa using h0
        ·rw[if_neg hlt];simpa using h0
       ·exact h0
    have hdone:∀i2 j,i2<ops.size→j<ops.size→listed.getD i2 false=false→(∀x∈anc.getD i2 [],listed.getD x false=true)→(if j<i2 then j∈anc.getD i2 [] else i2∈anc.getD j [])→listed.getD j false=decide (j<i2):=by
     intro i2 j hi2 hj hu2 ha2 hcond
     split at hcond
     ·rename_i hlt;rw[ha2 j hcond];simp[hlt]
     ·rename_i hlt
      have h2:listed.getD j false=false:=by
       cases hq:listed.getD j false with
       | false=>rfl
       | true=>
        have:=zcl deps anc ops.size hdep (fun x=>listed.getD x false) hc j hj (hc j hj hq) i2 hcond
        rw[hu2] at this;cases this
      rw[h2];simp[hlt]
    have hlk:∀{j:Nat} {o2:SO},(l.take k)[j]? = some o2→j<k∧l[j]? = some o2:=by
     intro j o2 hj
     have hjk:j<k:=by
      rcases Nat.lt_or_ge j k with h0|h0
      ·exact h0
      ·rw[List.getElem?_eq_none (by rw[htk];exact h0)] at hj;cases hj
     rw[List.getElem?_take_of_lt hjk] at hj
     exact⟨hjk,hj⟩
    have hww:∀j m o1 o2,l[j]? = some o1→l[m]? = some o2→j<m→m<k→o1.op.calm=false→o2.op.calm=false→j∈anc.getD m []:=by
     intro j m o1 o2 h1 h2 hjm hmk hc1 hc2
     rcases hord m j o1 o2 h2 (zeW hc2).1 hmk h1 hc1 (by omega) (by omega) with h0|⟨h0,_⟩
     ·rw[if_pos hjm] at h0;exact h0
     ·exfalso
      unfold zcW adrL at h0
      rw[h2] at h0
      obtain⟨d2,op2,g2⟩:=o2
      cases op2<;>first|(exact absurd hc2 (fun e=>Bool.noConfusion e))|(simp at h0;done)|(cases h0;done)
    have hmem:∀j o2,(l.take k)[j]? = some o2→o2.op.calm=false→so.op.calm=false→j≠i→listed.getD j false=decide (j<i):=by
     intro j o2 hj hcj hci hji
     obtain⟨hjk,hj⟩:=hlk hj
     refine hdone i j hin (by omega) hun hanc ?_
     rcases Nat.lt_or_ge j i with h0|h0
     ·rw[if_pos h0];exact hww j i o2 so hj hso h0 hik hcj hci
     ·rw[if_neg (by omega)];exact hww i j so o2 hso hj (by omega) hjk hci hcj
    have hclosed:∀j m o1 o2,(l.take k)[j]? = some o1→(l.take k)[m]? = some o2→j<m→o1.op.calm=false→o2.op.calm=false→listed.getD (0+m) false=true→listed.getD (0+j) false=true:=by
     intro j m o1 o2 h1 h2 hjm hc1 hc2 hlm
     rw[Nat.zero_add] at hlm ⊢
     obtain⟨hjk,h1⟩:=hlk h1
     obtain⟨hmk,h2⟩:=hlk h2
     exact zcl deps anc ops.size hdep (fun x=>listed.getD x false) hc m (by omega) (hc m (by omega) hlm) j (hww j m o1 o2 h1 h2 hjm hmk hc1 hc2)
    have hclosed2:∀j m o1 o2,(l.take k)[j]? = some o1→(l.take k)[m]? = some o2→j<m→o1.op.calm=false→o2.op.calm=false→decide (0+m<0+i)=true→decide (0+j<0+i)=true:=by
     intro j m o1 o2 _ _ hjm _ _ h;simp at h ⊢;omega
    have hskip:o'=obA (fun x=>decide (x<0+i)) 0 (l.take k) os objs→(if so.op.calm=true then obA (fun x=>listed.getD x false) 0 (l.take k) os objs else o')=obA (fun x=>listed.getD x false) 0 (l.take k) os objs:=by
     intro e
     cases hci:so.op.calm with
     | true=>rw[if_pos rfl]
     | false=>
      rw[if_neg Bool.false_ne_true,e]
      refine zbZ _ _ _ _ _ 0 (fun j o2 hj hcj=>?_)
      rw[Nat.zero_add,Nat.zero_add]
      by_cases hji:j=i
      ·subst hji;rw[hun];simp
      ·exact(hmem j o2 hj hcj hci hji).symm
    have hstep:wpS P so.op (obA (fun x=>decide (x<0+i)) 0 (l.take k) os objs) (asg (fun x=>listed.getD x false) 0 (l.take k) vs tm) (fun y x=>y=o'∧x=v)→wpS P so.op (obA (fun x=>listed.getD x false) 0 (l.take k) os objs) (asg (fun x=>listed.getD x false) 0 (l.take k) vs tm) (fun y x=>y=(if so.op.calm=true then obA (fun x=>listed.getD x false) 0 (l.take k) os objs else o')∧x=v):=by
     intro h
     cases ht:so.op.touch with
     | false=>
      have hci:so.op.calm=true:=by
       cases hq:so.op.calm with
       | true=>rfl
       | false=>rw[(zeW hq).1] at ht;cases ht
      rw[if_pos hci]
      rw[hf.1 hci] at h
      exact zoG ht h
     | true=>
      by_cases hall:∀j o2,(l.take k)[j]? = some o2→o2.op.calm=false→j≠i→(if j<i then j∈anc.getD i [] else i∈anc.getD j [])
      ·have ecur:obA (fun x=>listed.getD x false) 0 (l.take k) os objs=obA (fun x=>decide (x<0+i)) 0 (l.take k) os objs:=by
        refine zbZ _ _ _ _ _ 0 (fun j o2 hj hcj=>?_)
        rw[Nat.zero_add,Nat.zero_add]
        by_cases hji:j=i
        ·subst hji;rw[hun];simp
        ·exact hdone i j hin (by have:=(hlk hj).1;omega) hun hanc (hall j o2 hj hcj hji)
       rw[ecur]
       cases hci:so.op.calm with
       | true=>rw[if_pos rfl];rw[hf.1 hci] at h;exact h
       | false=>rw[if_neg Bool.false_ne_true];exact h
      ·-- some store is apart
       simp only[Classical.not_forall] at hall
       obtain⟨j0,o0,hj0,hc0,hji0,hno0⟩:=hall
       have hl0:=hlk hj0
       have hap0:zcW l k i j0=true:=by
        rcases hord i j0 o0 so hso ht hik hl0.2 hc0 hl0.1 hji0 with h0|h0
        ·exact absurd h0 hno0
        ·exact h0.1
       obtain⟨s,hs0,hop,hci⟩:∃s,adrL l i=some s∧(so.op=.load1 (.t s)∨∃sz,so.op=.loadn sz (.t s))∧so.op.calm=true:=by
        unfold zcW at hap0
        split at hap0
        ·rename_i s s' h1 h2
         refine⟨s,h1,?_⟩
         unfold adrL at h1
         rw[hso] at h1
         split at h1
         ·rename_i e;cases e;cases h1;exact⟨.inl rfl,rfl⟩
         ·rename_i e;cases e;cases h1;exact⟨.inr ⟨_,rfl⟩,rfl⟩
         ·cases h1
        ·cases hap0
       have hgd0:so.gd=none:=by
        unfold adrL at hs0
        rw[hso] at hs0
        split at hs0
        ·rename_i e;cases e;rfl
        ·rename_i e;cases e;rfl
        ·cases hs0
       have hfin:∀{m s1:Nat},((List.range k).all (fun x=>decide (x<m)||zbL l x != some s1))=true→∀p:Nat→Bool,(∀x,x<m→(∃o2,(l.take k)[x]? = some o2∧o2.dst=some s1)→p x=true)→(asg p 0 (l.take k) vs tm)[s1]? = (asg (fun _=>true) 0 (l.take k) vs tm)[s1]?:=by
        intro m s1 hst p hp
        refine zeE _ _ s1 _ vs tm tm 0 rfl rfl ?_
        intro x o2 hx hd
        rw[Nat.zero_add]
        have hx2:=hlk hx
        have:=List.all_eq_true.1 hst x (List.mem_range.2 hx2.1)
        simp only[Bool.or_eq_true,decide_eq_true_eq,bne_iff_ne,ne_eq] at this
        rcases this with h1|h1
        ·exact hp x h1 ⟨o2,hx,hd⟩
        ·exfalso;apply h1;unfold zbL;rw[hx2.2];exact hd
       have hapst:∀j,zcW l k i j=true→∃s',adrS l j=some s'∧((List.range k).all (fun x=>decide (x<i)||zbL l x != some s))=true∧((List.range k).all (fun x=>decide (x<zgf l j)||zbL l x != some s'))=true:=by
        intro j hj
        unfold zcW at hj
        rw[hs0] at hj
        split at hj
        ·rename_i s1 s' h1 h2
         cases h1
         simp only[Bool.and_eq_true] at hj
         exact⟨s',h2,hj.1,hj.2⟩
        ·cases hj
       have hsL:(asg (fun x=>listed.getD x false) 0 (l.take k) vs tm)[s]? = (asg (fun _=>true) 0 (l.take k) vs tm)[s]?:=by
        obtain⟨s',_,hst,_⟩:=hapst j0 hap0
        refine hfin hst _ (fun x hx ⟨o2,ho2,hd2⟩=>?_)
        have hx2:=hlk ho2
        have hsl:s∈so.looks:=by
         unfold SO.looks
         refine List.mem_append_left _ ?_
         rcases hop with e|⟨sz,e⟩<;>rw[e]<;>simp[SOp.svs,SV.tmp?]
        have hdst:zbL l x=some s:=by unfold zbL;rw[hx2.2];exact hd2
        rcases hlook s hsl x hx2.1 with ((h1|h1)|h1)|h1
        ·omega
        ·exact absurd hdst h1
        ·exact hanc x h1
        ·have:=halt x (by omega) i h1;omega
       have hApP:∀j o2,(l.take k)[j]? = some o2→o2.op.calm=false→j≠i→¬(if j<i then j∈anc.getD i [] else i∈anc.getD j [])→∃s',adrS l j=some s'∧((List.range k).all (fun x=>decide (x<zgf l j)||zbL l x != some s'))=true∧zfi (asg (fun _=>true) 0 (l.take k) vs tm)[s]? (asg (fun _=>true) 0 (l.take k) vs tm)[s']?:=by
        intro j o2 hj hcj hji hno
        have hl2:=hlk hj
        have hap:zcW l k i j=true:=by
         rcases hord i j o2 so hso ht hik hl2.2 hcj hl2.1 hji with h0|h0
         ·exact absurd h0 hno
         ·exact h0.1
        obtain⟨s',h1,_,h2⟩:=hapst j hap
        refine⟨s',h1,h2,zju _ _ s s' hAp ?_ (zjM hsm hl2.1 h1)⟩
        unfold ze2
        refine List.mem_flatMap.2 ⟨i,List.mem_range.2 hik,List.mem_filterMap.2 ⟨j,List.mem_range.2 hl2.1,?_⟩⟩
        unfold zrE
        have wj:zde l j=true:=by simp[zde,hl2.2,hcj]
        have ti:zdf l i=true:=by simp[zdf,hso,ht]
        have hcond:(if j<i then (anc.getD i []).contains j else (anc.getD j []).contains i)=false:=by
         split<;>rename_i hlt
         ·rw[if_pos hlt] at hno;simpa using hno
         ·rw[if_neg hlt] at hno;simpa using hno
        have hji':(j==i)=false:=by simpa using hji
        rw[wj,ti,hcond,hji',hs0,h1]
        simp
       have hpp:(∃b off,(asg (fun x=>listed.getD x false) 0 (l.take k) vs tm)[s]? = some (.p b off))∨∃xs q,(asg (fun x=>listed.getD x false) 0 (l.take k) vs tm)[s]? = some (.prow xs q):=by
        obtain⟨s',_,_,h1⟩:=hApP j0 o0 hj0 hc0 hji0 hno0
        rw[hsL]
        unfold zfi at h1
        split at h1
        all_goals first
         | exact h1.elim
         | (rename_i e1 e2;exact .inl ⟨_,_,e1⟩)
         | (rename_i e1 e2;exact .inr ⟨_,_,e1⟩)
       rw[if_pos hci]
       rw[hf.1 hci] at h
       rcases hpp with hpp|hpp
       case inr=>exact zki hop hpp h
       refine zmC hop (fun b off hbo=>?_) hpp h
       rw[hsL] at hbo
       have keepb:∀j o2 v2 o2' t ob,(l.take k)[j]? = some o2→o2.op.calm=false→j≠i→¬(if j<i then j∈anc.getD i [] else i∈anc.getD j [])→vs[j]? = some v2→Fact P ob o2 v2 o2' t→t=asg (fun x=>decide (x<0+j)) 0 (l.take k) vs tm→o2'[b]? = ob[b]?:=by
        intro j o2 v2 o2' t ob hj hcj hji hno hv2 hfj ht2
        obtain⟨s',h1,h2,h3⟩:=hApP j o2 hj hcj hji hno
        have hl2:=hlk hj
        have hkind:(∃sz y,o2.op=.store sz (.t s') y∧o2.gd=none∧zgf l j=j)∨(∃T z,o2.op=.alloc T z∧o2.gd=none∧o2.dst=some s'∧zgf l j=j+1)∨(((∃E sz by' x y,o2.op=.app E sz by' x y)∨(∃E x y,o2.op=.apps E x y)∨(∃E sz n z ps,o2.op=.bslo E sz n z ps))∧o2.gd=none∧o2.dst=some s'∧zgf l j=j+1):=by
         unfold adrS at h1
         unfold zgf
         rw[hl2.2] at h1 ⊢
         split at h1
         ·rename_i e;cases e;cases h1
          refine .inl ⟨_,_,rfl,rfl,?_⟩
          split
          ·rename_i q;cases q
          ·rename_i q;cases q
          ·rename_i q;cases q
          ·rename_i q;cases q
          ·rfl
         ·rename_i e;cases e;cases h1;exact .inr (.inl ⟨_,_,rfl,rfl,rfl,rfl⟩)
         ·rename_i e;cases e;cases h1;exact .inr (.inr ⟨.inl ⟨_,_,_,_,_,rfl⟩,rfl,rfl,rfl⟩)
         ·rename_i e;cases e;cases h1;exact .inr (.inr ⟨.inr (.inl ⟨_,_,_,rfl⟩),rfl,rfl,rfl⟩)
         ·rename_i e;cases e;cases h1;exact .inr (.inr ⟨.inr (.inr ⟨_,_,_,_,_,rfl⟩),rfl,rfl,rfl⟩)
         ·cases h1
        have hfj2:=hfj.2
        rcases hkind with ⟨sz,y,e2,hg2,hat⟩|⟨T,z,e2,hg2,hds,hat⟩|⟨hrk,hg2,hds,hat⟩
        ·rw[hg2,e2] at hfj2
         rw[hat] at h2
         refine zjK (fun b' off' hb'=>?_) (fun b' g' j' hb'=>?_) hfj2
         ·rw[ht2] at hb'
          rw[hfin h2 (fun x=>decide (x<0+j)) (fun x hx _=>by simpa using hx)] at hb'
          rw[hbo,hb'] at h3
          exact h3
         ·rw[ht2] at hb'
          rw[hfin h2 (fun x=>decide (x<0+j)) (fun x hx _=>by simpa using hx)] at hb'
          rw[hbo,hb'] at h3
          exact h3
        ·rw[hg2,e2] at hfj2
         rw[hat] at h2
         simp only[wpS] at hfj2
         obtain⟨g1,g2⟩:=hfj2
         have hdj:=hd2 j hl2.1
         have hst:=zef (fun x=>decide (x<0+j)) (l.take k) vs tm 0 j o2 v2 hj hv2 (by simp) (by
          intro j' o' hj' hjj
          have hl3:=hlk hj'
          rcases hdj with hdj|hdj
          ·right
           unfold zbL at hdj
           rw[hl2.2] at hdj;exact hdj
          ·rcases hdj j' hl3.1 with h5|h5
           ·exact absurd h5.symm hjj
           ·left
            intro e
            apply h5
            unfold zbL
            rw[hl3.2,hl2.2];exact e)
         have hfs:=hfin h2 (fun x=>decide (x<0+j)||x==0+j) (fun x hx _=>by
          simp only[Nat.zero_add,Bool.or_eq_true,decide_eq_true_eq,beq_iff_eq];omega)
         rw[←hst,hds] at hfs
         have hne:¬b=ob.length:=by
          intro eb
          simp only[zaD] at hfs
          have hlt2:s'<(asg (fun x=>decide (x<0+j)) 0 (l.take k) vs tm).length:=by
           rcases Nat.lt_or_ge s' (asg (fun x=>decide (x<0+j)) 0 (l.take k) vs tm).length with h6|h6
           ·exact h6
           ·exfalso
            have hn:(asg (fun _=>true) 0 (l.take k) vs tm)[s']? = none:=by
             rw[←hfs]
             exact List.getElem?_eq_none (by simp only[List.length_set];exact h6)
            rw[hn,hbo] at h3
            exact h3
          rw[List.getElem?_set_self hlt2,←g2] at hfs
          rw[hbo,←hfs] at h3
          exact h3 eb
         rw[←g1]
         rcases Nat.lt_or_ge b ob.length with h6|h6
         ·rw[List.getElem?_append_left h6]
         ·rw[List.getElem?_eq_none (by simp;omega),List.getElem?_eq_none h6]
        ·rw[hg2] at hfj2
         rw[hat] at h2
         obtain⟨b',g',hv',hkeep⟩:=zl8 hrk hfj2
         have hdj:=hd2 j hl2.1
         have hst:=zef (fun x=>decide (x<0+j)) (l.take k) vs tm 0 j o2 v2 hj hv2 (by simp) (by
          intro j' o' hj' hjj
          have hl3:=hlk hj'
          rcases hdj with hdj|hdj
          ·right
           unfold zbL at hdj
           rw[hl2.2] at hdj;exact hdj
          ·rcases hdj j' hl3.1 with h5|h5
           ·exact absurd h5.symm hjj
           ·left
            intro e
            apply h5
            unfold zbL
            rw[hl3.2,hl2.2];exact e)
         have hfs:=hfin h2 (fun x=>decide (x<0+j)||x==0+j) (fun x hx _=>by
          simp only[Nat.zero_add,Bool.or_eq_true,decide_eq_true_eq,beq_iff_eq];omega)
         rw[←hst,hds] at hfs
         have hne:¬b=b':=by
          have hlt2:s'<(asg (fun x=>decide (x<0+j)) 0 (l.take k) vs tm).length:=by
           unfold zfi at h3
           rcases Nat.lt_or_ge s' (asg (fun x=>decide (x<0+j)) 0 (l.take k) vs tm).length with h6|h6
           ·exact h6
           ·exfalso
            have hn:(asg (fun _=>true) 0 (l.take k) vs tm)[s']? = none:=by
             rw[←hfs]
             exact List.getElem?_eq_none (by simp only[zaD,List.length_set];exact h6)
            rw[hn] at h3
            rw[hbo] at h3
            exact h3
          simp only[zaD] at hfs
          rw[List.getElem?_set_self hlt2,hv'] at hfs
          rw[hbo,←hfs] at h3
          exact h3
         exact hkeep b hne
       by_cases hmore:∃j o2,(l.take k)[j]? = some o2∧o2.op.calm=false∧i≤j∧listed.getD j false=true
       ·obtain⟨j1,o1,hj1,hc1,hij1,hl1⟩:=hmore
        symm
        refine zho b (fun x=>decide (x<0+i)) (fun x=>listed.getD x false) (l.take k) objs vs os tm 0 hfacts hclosed hclosed2 (fun j o2 hj hcj hlt=>?_) (fun j o2 v2 o2' t ob hj hcj hp hq _ hv2 hfj ht2=>?_)
        ·simp at hlt
         exact hclosed j j1 o2 o1 hj hj1 (by omega) hcj hc1 (by simpa using hl1)
        ·have hji:j≠i:=by rintro rfl;rw[Nat.zero_add,hun] at hq;cases hq
         refine keepb j o2 v2 o2' t ob hj hcj hji (fun hcd=>?_) hv2 hfj ht2
         have:=hdone i j hin (by have:=(hlk hj).1;omega) hun hanc hcd
         simp only[Nat.zero_add] at hq hp
         rw[hq] at this
         rw[←this] at hp;cases hp
       ·refine zho b (fun x=>listed.getD x false) (fun x=>decide (x<0+i)) (l.take k) objs vs os tm 0 hfacts hclosed2 hclosed (fun j o2 hj hcj hlt=>?_) (fun j o2 v2 o2' t ob hj hcj hp hq _ hv2 hfj ht2=>?_)
        ·simp only[Nat.zero_add] at hlt ⊢
         rcases Nat.lt_or_ge j i with h0|h0
         ·simpa using h0
         ·exact absurd ⟨j,o2,hj,hcj,h0,hlt⟩ hmore
        ·simp at hq
         refine keepb j o2 v2 o2' t ob hj hcj (by omega) (fun hcd=>?_) hv2 hfj ht2
         have:=hdone i j hin (by have:=(hlk hj).1;omega) hun hanc hcd
         simp only[Nat.zero_add] at hp
         rw[hp] at this
         simp at this;omega
    refine zkD ops ops[i] so0 so hd0 hg0 hcv _ _ o' _ _ v _ _ htr hf hstep hskip hag a w hA2 ?_
    intro a2 w2 hr2
    refine⟨hs',hc',.inl ⟨fun j hj hjn=>by rw[hset,if_neg (by omega)];exact hA1 j hj hjn,?_⟩⟩
    have hdi:=hd2 i hik
    rw[zef (fun x=>listed.getD x false) (l.take k) vs tm 0 i so v hti hv (by simpa using hun) (by
     intro j o' hj hji
     have hjk:j<k:=by
      rcases Nat.lt_or_ge j k with h0|h0
      ·exact h0
      ·rw[List.getElem?_eq_none (by rw[htk];exact h0)] at hj;cases hj
     rw[List.getElem?_take_of_lt hjk] at hj
     rcases hdi with hdi|hdi
     ·right
      unfold zbL at hdi
      rw[hso] at hdi;exact hdi
     ·rcases hdi j hjk with h1|h1
      ·exact absurd h1.symm hji
      ·left
       intro e
       apply h1
       unfold zbL
       rw[hj,hso];exact e)] at hr2
    have e2:(fun x=>listed.getD x false||x==0+i)=fun x=>(listed.setIfInBounds i true).getD x false:=by
     funext x
     rw[hset,Nat.zero_add]
     by_cases e:x=i
     ·simp[e]
     ·have:(x==i)=false:=by simp[e]
      rw[if_neg e,this,Bool.or_false]
    rw[e2] at hr2
    have e3:(if so.op.calm=true then obA (fun x=>listed.getD x false) 0 (l.take k) os objs else o')=obA (fun x=>(listed.setIfInBounds i true).getD x false) 0 (l.take k) os objs:=by
     rw[←e2]
     cases hc2:so.op.calm with
     | true=>
      rw[if_pos rfl]
      refine zbZ _ _ _ _ _ 0 (fun j o2 hj hcj=>?_)
      rw[Nat.zero_add]
      have:j≠i:=by
       rintro rfl
       rw[hti] at hj;cases hj
       rw[hc2] at hcj;cases hcj
      have:(j==0+i)=false:=by simp;omega
      rw[this,Bool.or_false]
     | false=>
      rw[if_neg Bool.false_ne_true]
      refine(zi5 (fun x=>listed.getD x false) (l.take k) os objs 0 i so o' hti hov hc2 (fun j o2 hj hij hcj=>?_)).symm
      rw[Nat.zero_add,hmem j o2 hj hcj hc2 (by omega)]
      simp;omega
    rw[e3] at hr2
    exact hr2
   ·exfalso
    have:=hm3 i hin
    rw[hun] at this
    simp at this;omega
  ·-- a step of the tail
   have hall:∀j,j<i→listed.getD j false=true:=by
    intro j hj
    rcases hd4 i (by omega) with h0|h0
    ·omega
    ·exact hanc j (h0 j hj)
   rcases hAB with ⟨hA1,hA2⟩|⟨m,hm1,hm2,hm3,objs',tm',hr',hw⟩
   ·have hik2:i=k:=by
     rcases Nat.lt_or_ge k i with h0|h0
     ·have:=hA1 k (Nat.le_refl _) (by omega)
      rw[hall k h0] at this;cases this
     ·omega
    refine tail _ _ hik hall (fun j hj hjn=>hA1 j (by omega) hjn) hA2 ?_
    rw[zbZ (fun x=>listed.getD x false) (fun _=>true) (l.take k) os objs 0 (fun j o hj _=>by
     rw[Nat.zero_add];exact hall j (by have:=(List.getElem?_eq_some_iff.1 hj).1;rw[htk] at this;omega)),zeX (fun x=>listed.getD x false) (fun _=>true) _ vs tm 0 (fun j hj=>by
     rw[Nat.zero_add];exact hall j (by rw[htk] at hj;omega)),hik2]
    exact hK
   ·have him:i=m:=by
     have h1:=hm3 i hin
     rw[hun] at h1
     rcases Nat.lt_or_ge m i with h0|h0
     ·have h2:=hm3 m (by omega)
      rw[hall m h0] at h2;simp at h2
     ·simp at h1;omega
    subst him
    exact tail objs' tm' hik hall (fun j hj hjn=>by rw[hm3 j hjn];simp;omega) hr' hw
 have main:∀(fuel:Nat) (S:List Nat) (listed:Array Bool) (a:Act) (w:World),S.length=fuel→(∀i,i<ops.size→listed.getD i false=false→i∈S)→Inv listed a w→wpAny P .any ops (zip C K) fuel listed a w:=by
  intro fuel
  induction fuel with
  | zero=>
   intro S listed a w hS hcov hinv
   have hS0:S=[]:=List.eq_nil_of_length_eq_zero hS
   have hall:∀i,i<ops.size→listed.getD i false=true:=by
    intro i hi
    cases hq:listed.getD i false with
    | true=>rfl
    | false=>have:=hcov i hi hq;rw[hS0] at this;cases this
   refine⟨?_,fin listed a w hinv hall⟩
   apply List.eq_nil_iff_forall_not_mem.2
   intro i hi
   obtain⟨hin,hun,_⟩:=(zcP hinv.1).1 hi
   rw[hgd listed i (by rw[hinv.1];exact hin),hall i hin] at hun;cases hun
  | succ fuel ih=>
   intro S listed a w hS hcov hinv
   refine⟨fun hnil=>?_,fun i hi=>?_⟩
   ·refine fin listed a w hinv ?_
    intro i
    induction i using Nat.strongRecOn with
    | _ i ih2=>
     intro hi
     cases hq:listed.getD i false with
     | true=>rfl
     | false=>
      have:i∈Region.ready .any ops listed:=(zcP hinv.1).2 ⟨hi,by rw[hgd listed i (by rw[hinv.1];exact hi)];exact hq,fun e he=>by
       rw[hdeps] at he
       have:=(hdep i hi).1 e he
       exact ih2 e this (by omega)⟩
      rw[hnil] at this;cases this
   ·refine wpOp_mono (fun a' w' hI=>?_) (step listed a w i hinv hi)
    obtain⟨hin,hun,_⟩:=(zcP hinv.1).1 hi
    rw[hgd listed i (by rw[hinv.1];exact hin)] at hun
    have hiS:=hcov i hin hun
    refine ih (S.erase i) _ a' w' (by rw[List.length_erase_of_mem hiS,hS];rfl) ?_ hI
    intro j hj hjn
    rw[zfF listed i j false (by rw[hinv.1];exact hin)] at hjn
    split at hjn
    ·cases hjn
    ·rename_i e
     exact(List.mem_erase_of_ne e).2 (hcov j hj hjn)
 refine wp_region_any hm (main ops.size (List.range ops.size) _ a _ (by simp) (fun i hi _=>List.mem_range.2 hi) ?_)
 have hrep:∀(j:Nat),(Array.replicate ops.size false).getD j false=false:=by
  intro j
  simp only[Array.getD_eq_getD_getElem?,Array.getElem?_replicate]
  split<;>rfl
 refine⟨by simp,⟨fun i _ hi=>absurd hi (by rw[hrep];exact Bool.false_ne_true),.inl ⟨fun j _ _=>hrep j,?_⟩⟩⟩
 have e0:asg (fun x=>(Array.replicate ops.size false).getD x false) 0 (l.take k) vs tm=tm:=by
  have:∀(l:List SO) (vs tm:List AV) (j:Nat),asg (fun x=>(Array.replicate ops.size false).getD x false) j l vs tm=tm:=by
   intro l
   induction l with
   | nil=>intro vs tm j;cases vs<;>rfl
   | cons o l ih=>
    intro vs tm j
    cases vs with
    | nil=>rfl
    | cons v vs=>
     simp only[asg]
     rw[if_neg (by rw[hrep];exact Bool.false_ne_true)]
     exact ih vs tm (j+1)
  exact this _ _ _ _
 rw[e0,zeL _ _ _ _ _ (fun j _ _ _=>hrep _)]
 obtain⟨G,I,h1,h2,h3,h4⟩:=hr
 exact⟨G,I,⟨h1.os,h1.tape,h1.output,h1.size,h1.block,h1.imm,h1.news,h1.blk,h1.gh⟩,⟨h2.imm,h2.box,h2.row,h2.map,h2.inj,h2.lt,h2.apart,h2.fresh⟩,h3,h4⟩
end
section
variable {P:Program} [Tabs P] {C:Cx} [On P C] {K:zbu}
theorem draw_gen (id:Nat) (ops:Array Oper) (l0 l:List SO) (hl:ops.toList.mapM (trO P ops.toList)=some l0) (hlp:l=l0∨l=l0.map SO.toP∨l=l0.map SO.toQ) (k:Nat) (hok:zjm l (ops.toList.map zb6) (zoz (ops.toList.map zb6)) k=true) (hm:P.follows .mixedOrders=true) {objs:List OB} {tm:List AV} (T:Array Bool→List OB→List AV→Prop) (Kf:List OB→List AV→Prop)
  (hT0:∀(listed:Array Bool) (o:List OB) (t:List AV),listed.size=ops.size→(∀j,j<k→listed.getD j false=true)→(∀j,k≤j→j<ops.size→listed.getD j false=false)→wpR P (l.drop k) o t Kf→T listed o t)
  (hTs:∀(listed:Array Bool) (o:List OB) (t:List AV) (i:Nat) (so:SO),listed.size=ops.size→l[i]? = some so→k≤i→i<ops.size→listed.getD i false=false→(∀j∈(zoz (ops.toList.map zb6)).getD i [],listed.getD j false=true)→T listed o t→wpR P [so] o t (fun o2 t2=>T (listed.setIfInBounds i true) o2 t2))
  (hTf:∀(listed:Array Bool) (o:List OB) (t:List AV),listed.size=ops.size→(∀j,j<ops.size→listed.getD j false=true)→T listed o t→K .normal o t)
  (h:wpD P (l.take k) objs tm (fun o t=>zjB (ze2 l (zoz (ops.toList.map zb6)) k) t∧wpR P (l.drop k) o t Kf)):∀a w,Rel C objs tm a w→(Code.region id ops true).wp P (zip C K) a w:=by
 intro a w hr
 obtain⟨hlen0,hget0⟩:=zgK _ _ _ hl
 have hlen:ops.toList.length=l.length:=by
  rcases hlp with rfl|rfl|rfl
  ·exact hlen0
  ·rw[List.length_map];exact hlen0
  ·rw[List.length_map];exact hlen0
 have hget:∀(i:Nat) (x:Oper),ops.toList[i]? = some x→∃y,l[i]? = some y∧∃y0,trO P ops.toList x=some y0∧y.dst=y0.dst∧y.gd=y0.gd∧∀objs tm K,wpS P y.op objs tm K→wpS P y0.op objs tm K:=by
  intro i x hx
  obtain⟨y0,h1,h2⟩:=hget0 i x hx
  rcases hlp with rfl|rfl|rfl
  ·exact⟨y0,h1,y0,h2,rfl,rfl,fun _ _ _ h=>h⟩
  ·exact⟨y0.toP,by rw[List.getElem?_map,h1];rfl,y0,h2,zoP y0,toP_gd y0,fun objs tm K h=>toP_up y0 objs tm K h⟩
  ·exact⟨y0.toQ,by rw[List.getElem?_map,h1];rfl,y0,h2,zoO y0,toQ_gd y0,fun objs tm K h=>toQ_up y0 objs tm K h⟩
 have hnl:ops.size=l.length:=by simpa using hlen
 generalize hdeps:ops.toList.map zb6=deps at hok h hTs
 generalize zoz deps=anc at hok h hTs
 simp only[zjm,Bool.and_eq_true,decide_eq_true_eq,List.all_eq_true,List.mem_range,Bool.or_eq_true,bne_iff_ne,ne_eq,beq_iff_eq,List.any_eq_true,List.contains_iff_mem] at hok
 obtain⟨⟨⟨⟨⟨⟨hk,hd1⟩,hd2⟩,hd3⟩,hm1⟩,hd4⟩,hsm⟩:=hok
 obtain⟨vs,os,hfacts,hAp,hK⟩:=zdI _ _ _ _ h
 have hdep:∀i,i<ops.size→(∀e∈deps.getD i [],e<i)∧∀j∈anc.getD i [],j∈deps.getD i []∨∃e∈deps.getD i [],j∈anc.getD e []:=fun i hi=>hd1 i (by omega)
 have halt:=anc_lt deps anc ops.size hdep
 have htk:(l.take k).length=k:=by rw[List.length_take];omega
 let Inv:Array Bool→Act→World→Prop:=fun listed a w=>
  listed.size=ops.size∧(∀i,i<ops.size→listed.getD i false=true→∀e∈deps.getD i [],listed.getD e false=true) ∧
  (((∀j,k≤j→j<ops.size→listed.getD j false=false)∧Rel C (obA (fun x=>listed.getD x false) 0 (l.take k) os objs) (asg (fun x=>listed.getD x false) 0 (l.take k) vs tm) a w) ∨
   ((∀j,j<k→listed.getD j false=true)∧∃objs' tm',Rel C objs' tm' a w∧T listed objs' tm'))
 have hgd:∀(listed:Array Bool) (i:Nat),i<listed.size→listed.getD i true=listed.getD i false:=by
  intro listed i hi
  simp[Array.getD_eq_getD_getElem?,hi]
 have fin:∀listed a w,Inv listed a w→(∀i,i<ops.size→listed.getD i false=true)→zip C K .normal a w:=by
  rintro listed a w ⟨hs,hc,hA|⟨hm1,objs',tm',hr',hw⟩⟩ hall
  ·have hT:=hT0 listed (obA (fun x=>listed.getD x false) 0 (l.take k) os objs) (asg (fun x=>listed.getD x false) 0 (l.take k) vs tm) hs (fun j hj=>hall j (by omega)) hA.1 (by
    rw[zbZ (fun x=>listed.getD x false) (fun _=>true) (l.take k) os objs 0 (fun j o hj _=>by
     rw[Nat.zero_add];exact(hall j (by have:=(List.getElem?_eq_some_iff.1 hj).1;rw[htk] at this;omega))),zeX (fun x=>listed.getD x false) (fun _=>true) _ vs tm 0 (fun j hj=>by
     rw[Nat.zero_add];exact(hall j (by rw[htk] at hj;omega)))]
    exact hK)
   exact⟨_,_,hTf listed _ _ hs hall hT,hA.2⟩
  ·exact⟨objs',tm',hTf listed _ _ hs hall hw,hr'⟩
 have step:∀listed a w i,Inv listed a w→i∈Region.ready .any ops listed→wpOp P ops (zip C K) i (fun a w=>Inv (listed.setIfInBounds i true) a w) a w:=by
  intro listed a w i hinv hi
  obtain⟨hs,hc,hAB⟩:=hinv
  obtain⟨hin,hun,hrd⟩:=(zcP hs).1 hi
  rw[hdeps] at hrd
  rw[hgd listed i (by omega)] at hun
  have hanc:=zcl deps anc ops.size hdep (fun x=>listed.getD x false) hc i hin hrd
  have ho:ops[i]? = some ops[i]:=Array.getElem?_eq_getElem hin
  obtain⟨so,hso,so0,htr,hd0,hg0,hcv⟩:=hget i ops[i] (by rw[List.getElem?_eq_getElem (by simpa using hin)];simp)
  have hs':(listed.setIfInBounds i true).size=ops.size:=by rw[Array.size_setIfInBounds];exact hs
  have hset:∀j,(listed.setIfInBounds i true).getD j false=if j=i then true else listed.getD j false:=fun j=>zfF listed i j false (by omega)
  have hc':∀x,x<ops.size→(listed.setIfInBounds i true).getD x false=true→∀e∈deps.getD x [],(listed.setIfInBounds i true).getD e false=true:=by
   intro x hx hlx e he
   rw[hset] at hlx ⊢
   split
   ·rfl
   ·split at hlx
    ·rename_i e1;subst e1;exact hrd e he
    ·exact hc x hx hlx e he
  suffices hsuf:if Region.wanted ops[i] (yielded ops a.tmps) then ops[i].wp P a w (fun a w=>Inv (listed.setIfInBounds i true) a w) (zip C K) else Inv (listed.setIfInBounds i true) (a.put ops[i].dst undef) w by
   unfold wpOp
   rw[ho]
   show if Region.wanted ops[i] (yielded ops a.tmps)=true then _ else _
   split
   ·rename_i hw;rw[if_pos hw] at hsuf;exact .inl hsuf
   ·rename_i hw;rw[if_neg hw] at hsuf;exact hsuf
  have tail:∀objs' tm',k≤i→(∀j,j<k→listed.getD j false=true)→Rel C objs' tm' a w→T listed objs' tm' →
    if Region.wanted ops[i] (yielded ops a.tmps) then ops[i].wp P a w (fun a w=>Inv (listed.setIfInBounds i true) a w) (zip C K) else Inv (listed.setIfInBounds i true) (a.put ops[i].dst undef) w:=by
   intro objs' tm' hki hlo hr' hw
   refine ziH ops ops[i] so0 so hd0 hg0 hcv [] objs' tm' _ _ _ htr (hTs listed objs' tm' i so hs hso hki hin hun hanc hw) a w hr' ?_
   intro o2 t2 a2 w2 hw2 hr2
   refine⟨hs',hc',.inr ⟨fun j hj=>?_,o2,t2,hr2,hw2⟩⟩
   rw[hset]
   split
   ·rfl
   ·exact hlo j hj
  rcases Nat.lt_or_ge i k with hik|hik
  ·-- a step of the part whose order is open
   rcases hAB with ⟨hA1,hA2⟩|⟨hm3,_⟩
   ·have hti:(l.take k)[i]? = some so:=by rw[List.getElem?_take_of_lt hik];exact hso
    obtain⟨v,o',hv,hov,hf⟩:=zjk (l.take k) objs vs os tm 0 i so hfacts hti
    have hlook:=hd3 i hik
    rw[hso] at hlook
    simp only[Option.map_some,Option.getD_some] at hlook
    have hag:∀t∈so.looks,(asg (fun x=>listed.getD x false) 0 (l.take k) vs tm)[t]? = (asg (fun x=>decide (x<0+i)) 0 (l.take k) vs tm)[t]?:=by
     intro t ht
     refine zeE _ _ t _ vs tm tm 0 rfl rfl ?_
     intro j o' hj ho'
     simp only[Nat.zero_add]
     have hjk:j<k:=by
      rcases Nat.lt_or_ge j k with h0|h0
      ·exact h0
      ·rw[List.getElem?_eq_none (by rw[htk];exact h0)] at hj;cases hj
     have hdst:zbL l j=some t:=by
      unfold zbL
      rw[List.getElem?_take_of_lt hjk] at hj
      rw[hj];exact ho'
     rcases hlook t ht j hjk with ((h1|h1)|h1)|h1
     ·subst h1;rw[hun];simp
     ·exact absurd hdst h1
     ·have h2:=hanc j h1
      have h3:=halt i hin j h1
      rw[h2];simp[h3]
     ·have h3:=halt j (by omega) i h1
      have h2:listed.getD j false=false:=by
       cases hq:listed.getD j false with
       | false=>rfl
       | true=>
        have:=zcl deps anc ops.size hdep (fun x=>listed.getD x false) hc j (by omega) (hc j (by omega) hq) i h1
        rw[hun] at this;cases this
      rw[h2];symm;simp;omega
    have hord:∀i2 j o2 o3,l[i2]? = some o3→o3.op.touch=true→i2<k→l[j]? = some o2→o2.op.calm=false→j<k→j≠i2→(if j<i2 then j∈anc.getD i2 [] else i2∈anc.getD j [])∨(zcW l k i2 j=true∧¬(if j<i2 then j∈anc.getD i2 [] else i2∈anc.getD j [])):=by
     intro i2 j o2 o3 hi2 ht2 hik2 hj hcj hjk hji
     have wj:zde l j=true:=by simp[zde,hj,hcj]
     have ti:zdf l i2=true:=by simp[zdf,hi2,ht2]
     by_cases hc0:(if j<i2 then j∈anc.getD i2 [] else i2∈anc.getD j [])
     ·exact .inl hc0
     ·right
      refine⟨?_,hc0⟩
      rcases hm1 i2 hik2 with h0|h0
      ·rw[ti] at h0;cases h0
      ·rcases h0 j hjk with ((h0|h0)|h0)|h0
       ·rw[wj] at h0;cases h0
       ·exact absurd h0 hji
       ·exfalso;apply hc0
        split at h0<;>rename_i hlt
        ·rw[if_pos hlt];simpa using h0
        ·rw[if_neg hlt];simpa using h0
       ·exact h0
    have hdone:∀i2 j,i2<ops.size→j<ops.size→listed.getD i2 false=false→(∀x∈anc.getD i2 [],listed.getD x false=true)→(if j<i2 then j∈anc.getD i2 [] else i2∈anc.getD j [])→listed.getD j false=decide (j<i2):=by
     intro i2 j hi2 hj hu2 ha2 hcond
     split at hcond
     ·rename_i hlt;rw[ha2 j hcond];simp[hlt]
     ·rename_i hlt
      have h2:listed.getD j false=false:=by
       cases hq:listed.getD j false with
       | false=>rfl
       | true=>
        have:=zcl deps anc ops.size hdep (fun x=>listed.getD x false) hc j hj (hc j hj hq) i2 hcond
        rw[hu2] at this;cases this
      rw[h2];simp[hlt]
    have hlk:∀{j:Nat} {o2:SO},(l.take k)[j]? = some o2→j<k∧l[j]? = some o2:=by
     intro j o2 hj
     have hjk:j<k:=by
      rcases Nat.lt_or_ge j k with h0|h0
      ·exact h0
      ·rw[List.getElem?_eq_none (by rw[htk];exact h0)] at hj;cases hj
     rw[List.getElem?_take_of_lt hjk] at hj
     exact⟨hjk,hj⟩
    have hww:∀j m o1 o2,l[j]? = some o1→l[m]? = some o2→j<m→m<k→o1.op.calm=false→o2.op.calm=false→j∈anc.getD m []:=by
     intro j m o1 o2 h1 h2 hjm hmk hc1 hc2
     rcases hord m j o1 o2 h2 (zeW hc2).1 hmk h1 hc1 (by omega) (by omega) with h0|⟨h0,_⟩
     ·rw[if_pos hjm] at h0;exact h0
     ·exfalso
      unfold zcW adrL at h0
      rw[h2] at h0
      obtain⟨d2,op2,g2⟩:=o2
      cases op2<;>first|(exact absurd hc2 (fun e=>Bool.noConfusion e))|(simp at h0;done)|(cases h0;done)
    have hmem:∀j o2,(l.take k)[j]? = some o2→o2.op.calm=false→so.op.calm=false→j≠i→listed.getD j false=decide (j<i):=by
     intro j o2 hj hcj hci hji
     obtain⟨hjk,hj⟩:=hlk hj
     refine hdone i j hin (by omega) hun hanc ?_
     rcases Nat.lt_or_ge j i with h0|h0
     ·rw[if_pos h0];exact hww j i o2 so hj hso h0 hik hcj hci
     ·rw[if_neg (by omega)];exact hww i j so o2 hso hj (by omega) hjk hci hcj
    have hclosed:∀j m o1 o2,(l.take k)[j]? = some o1→(l.take k)[m]? = some o2→j<m→o1.op.calm=false→o2.op.calm=false→listed.getD (0+m) false=true→listed.getD (0+j) false=true:=by
     intro j m o1 o2 h1 h2 hjm hc1 hc2 hlm
     rw[Nat.zero_add] at hlm ⊢
     obtain⟨hjk,h1⟩:=hlk h1
     obtain⟨hmk,h2⟩:=hlk h2
     exact zcl deps anc ops.size hdep (fun x=>listed.getD x false) hc m (by omega) (hc m (by omega) hlm) j (hww j m o1 o2 h1 h2 hjm hmk hc1 hc2)
    have hclosed2:∀j m o1 o2,(l.take k)[j]? = some o1→(l.take k)[m]? = some o2→j<m→o1.op.calm=false→o2.op.calm=false→decide (0+m<0+i)=true→decide (0+j<0+i)=true:=by
     intro j m o1 o2 _ _ hjm _ _ h;simp at h ⊢;omega
    have hskip:o'=obA (fun x=>decide (x<0+i)) 0 (l.take k) os objs→(if so.op.calm=true then obA (fun x=>listed.getD x false) 0 (l.take k) os objs else o')=obA (fun x=>listed.getD x false) 0 (l.take k) os objs:=by
     intro e
     cases hci:so.op.calm with
     | true=>rw[if_pos rfl]
     | false=>
      rw[if_neg Bool.false_ne_true,e]
      refine zbZ _ _ _ _ _ 0 (fun j o2 hj hcj=>?_)
      rw[Nat.zero_add,Nat.zero_add]
      by_cases hji:j=i
      ·subst hji;rw[hun];simp
      ·exact(hmem j o2 hj hcj hci hji).symm
    have hstep:wpS P so.op (obA (fun x=>decide (x<0+i)) 0 (l.take k) os objs) (asg (fun x=>listed.getD x false) 0 (l.take k) vs tm) (fun y x=>y=o'∧x=v)→wpS P so.op (obA (fun x=>listed.getD x false) 0 (l.take k) os objs) (asg (fun x=>listed.getD x false) 0 (l.take k) vs tm) (fun y x=>y=(if so.op.calm=true then obA (fun x=>listed.getD x false) 0 (l.take k) os objs else o')∧x=v):=by
     intro h
     cases ht:so.op.touch with
     | false=>
      have hci:so.op.calm=true:=by
       cases hq:so.op.calm with
       | true=>rfl
       | false=>rw[(zeW hq).1] at ht;cases ht
      rw[if_pos hci]
      rw[hf.1 hci] at h
      exact zoG ht h
     | true=>
      by_cases hall:∀j o2,(l.take k)[j]? = some o2→o2.op.calm=false→j≠i→(if j<i then j∈anc.getD i [] else i∈anc.getD j [])
      ·have ecur:obA (fun x=>listed.getD x false) 0 (l.take k) os objs=obA (fun x=>decide (x<0+i)) 0 (l.take k) os objs:=by
        refine zbZ _ _ _ _ _ 0 (fun j o2 hj hcj=>?_)
        rw[Nat.zero_add,Nat.zero_add]
        by_cases hji:j=i
        ·subst hji;rw[hun];simp
        ·exact hdone i j hin (by have:=(hlk hj).1;omega) hun hanc (hall j o2 hj hcj hji)
       rw[ecur]
       cases hci:so.op.calm with
       | true=>rw[if_pos rfl];rw[hf.1 hci] at h;exact h
       | false=>rw[if_neg Bool.false_ne_true];exact h
      ·-- some store is apart
       simp only[Classical.not_forall] at hall
       obtain⟨j0,o0,hj0,hc0,hji0,hno0⟩:=hall
       have hl0:=hlk hj0
       have hap0:zcW l k i j0=true:=by
        rcases hord i j0 o0 so hso ht hik hl0.2 hc0 hl0.1 hji0 with h0|h0
        ·exact absurd h0 hno0
        ·exact h0.1
       obtain⟨s,hs0,hop,hci⟩:∃s,adrL l i=some s∧(so.op=.load1 (.t s)∨∃sz,so.op=.loadn sz (.t s))∧so.op.calm=true:=by
        unfold zcW at hap0
        split at hap0
        ·rename_i s s' h1 h2
         refine⟨s,h1,?_⟩
         unfold adrL at h1
         rw[hso] at h1
         split at h1
         ·rename_i e;cases e;cases h1;exact⟨.inl rfl,rfl⟩
         ·rename_i e;cases e;cases h1;exact⟨.inr ⟨_,rfl⟩,rfl⟩
         ·cases h1
        ·cases hap0
       have hgd0:so.gd=none:=by
        unfold adrL at hs0
        rw[hso] at hs0
        split at hs0
        ·rename_i e;cases e;rfl
        ·rename_i e;cases e;rfl
        ·cases hs0
       have hfin:∀{m s1:Nat},((List.range k).all (fun x=>decide (x<m)||zbL l x != some s1))=true→∀p:Nat→Bool,(∀x,x<m→(∃o2,(l.take k)[x]? = some o2∧o2.dst=some s1)→p x=true)→(asg p 0 (l.take k) vs tm)[s1]? = (asg (fun _=>true) 0 (l.take k) vs tm)[s1]?:=by
        intro m s1 hst p hp
        refine zeE _ _ s1 _ vs tm tm 0 rfl rfl ?_
        intro x o2 hx hd
        rw[Nat.zero_add]
        have hx2:=hlk hx
        have:=List.all_eq_true.1 hst x (List.mem_range.2 hx2.1)
        simp only[Bool.or_eq_true,decide_eq_true_eq,bne_iff_ne,ne_eq] at this
        rcases this with h1|h1
        ·exact hp x h1 ⟨o2,hx,hd⟩
        ·exfalso;apply h1;unfold zbL;rw[hx2.2];exact hd
       have hapst:∀j,zcW l k i j=true→∃s',adrS l j=some s'∧((List.range k).all (fun x=>decide (x<i)||zbL l x != some s))=true∧((List.range k).all (fun x=>decide (x<zgf l j)||zbL l x != some s'))=true:=by
        intro j hj
        unfold zcW at hj
        rw[hs0] at hj
        split at hj
        ·rename_i s1 s' h1 h2
         cases h1
         simp only[Bool.and_eq_true] at hj
         exact⟨s',h2,hj.1,hj.2⟩
        ·cases hj
       have hsL:(asg (fun x=>listed.getD x false) 0 (l.take k) vs tm)[s]? = (asg (fun _=>true) 0 (l.take k) vs tm)[s]?:=by
        obtain⟨s',_,hst,_⟩:=hapst j0 hap0
        refine hfin hst _ (fun x hx ⟨o2,ho2,hd2⟩=>?_)
        have hx2:=hlk ho2
        have hsl:s∈so.looks:=by
         unfold SO.looks
         refine List.mem_append_left _ ?_
         rcases hop with e|⟨sz,e⟩<;>rw[e]<;>simp[SOp.svs,SV.tmp?]
        have hdst:zbL l x=some s:=by unfold zbL;rw[hx2.2];exact hd2
        rcases hlook s hsl x hx2.1 with ((h1|h1)|h1)|h1
        ·omega
        ·exact absurd hdst h1
        ·exact hanc x h1
        ·have:=halt x (by omega) i h1;omega
       have hApP:∀j o2,(l.take k)[j]? = some o2→o2.op.calm=false→j≠i→¬(if j<i then j∈anc.getD i [] else i∈anc.getD j [])→∃s',adrS l j=some s'∧((List.range k).all (fun x=>decide (x<zgf l j)||zbL l x != some s'))=true∧zfi (asg (fun _=>true) 0 (l.take k) vs tm)[s]? (asg (fun _=>true) 0 (l.take k) vs tm)[s']?:=by
        intro j o2 hj hcj hji hno
        have hl2:=hlk hj
        have hap:zcW l k i j=true:=by
         rcases hord i j o2 so hso ht hik hl2.2 hcj hl2.1 hji with h0|h0
         ·exact absurd h0 hno
         ·exact h0.1
        obtain⟨s',h1,_,h2⟩:=hapst j hap
        refine⟨s',h1,h2,zju _ _ s s' hAp ?_ (zjM hsm hl2.1 h1)⟩
        unfold ze2
        refine List.mem_flatMap.2 ⟨i,List.mem_range.2 hik,List.mem_filterMap.2 ⟨j,List.mem_range.2 hl2.1,?_⟩⟩
        unfold zrE
        have wj:zde l j=true:=by simp[zde,hl2.2,hcj]
        have ti:zdf l i=true:=by simp[zdf,hso,ht]
        have hcond:(if j<i then (anc.getD i []).contains j else (anc.getD j []).contains i)=false:=by
         split<;>rename_i hlt
         ·rw[if_pos hlt] at hno;simpa using hno
         ·rw[if_neg hlt] at hno;simpa using hno
        have hji':(j==i)=false:=by simpa using hji
        rw[wj,ti,hcond,hji',hs0,h1]
        simp
       have hpp:(∃b off,(asg (fun x=>listed.getD x false) 0 (l.take k) vs tm)[s]? = some (.p b off))∨∃xs q,(asg (fun x=>listed.getD x false) 0 (l.take k) vs tm)[s]? = some (.prow xs q):=by
        obtain⟨s',_,_,h1⟩:=hApP j0 o0 hj0 hc0 hji0 hno0
        rw[hsL]
        unfold zfi at h1
        split at h1
        all_goals first
         | exact h1.elim
         | (rename_i e1 e2;exact .inl ⟨_,_,e1⟩)
         | (rename_i e1 e2;exact .inr ⟨_,_,e1⟩)
       rw[if_pos hci]
       rw[hf.1 hci] at h
       rcases hpp with hpp|hpp
       case inr=>exact zki hop hpp h
       refine zmC hop (fun b off hbo=>?_) hpp h
       rw[hsL] at hbo
       have keepb:∀j o2 v2 o2' t ob,(l.take k)[j]? = some o2→o2.op.calm=false→j≠i→¬(if j<i then j∈anc.getD i [] else i∈anc.getD j [])→vs[j]? = some v2→Fact P ob o2 v2 o2' t→t=asg (fun x=>decide (x<0+j)) 0 (l.take k) vs tm→o2'[b]? = ob[b]?:=by
        intro j o2 v2 o2' t ob hj hcj hji hno hv2 hfj ht2
        obtain⟨s',h1,h2,h3⟩:=hApP j o2 hj hcj hji hno
        have hl2:=hlk hj
        have hkind:(∃sz y,o2.op=.store sz (.t s') y∧o2.gd=none∧zgf l j=j)∨(∃T z,o2.op=.alloc T z∧o2.gd=none∧o2.dst=some s'∧zgf l j=j+1)∨(((∃E sz by' x y,o2.op=.app E sz by' x y)∨(∃E x y,o2.op=.apps E x y)∨(∃E sz n z ps,o2.op=.bslo E sz n z ps))∧o2.gd=none∧o2.dst=some s'∧zgf l j=j+1):=by
         unfold adrS at h1
         unfold zgf
         rw[hl2.2] at h1 ⊢
         split at h1
         ·rename_i e;cases e;cases h1
          refine .inl ⟨_,_,rfl,rfl,?_⟩
          split
          ·rename_i q;cases q
          ·rename_i q;cases q
          ·rename_i q;cases q
          ·rename_i q;cases q
          ·rfl
         ·rename_i e;cases e;cases h1;exact .inr (.inl ⟨_,_,rfl,rfl,rfl,rfl⟩)
         ·rename_i e;cases e;cases h1;exact .inr (.inr ⟨.inl ⟨_,_,_,_,_,rfl⟩,rfl,rfl,rfl⟩)
         ·rename_i e;cases e;cases h1;exact .inr (.inr ⟨.inr (.inl ⟨_,_,_,rfl⟩),rfl,rfl,rfl⟩)
         ·rename_i e;cases e;cases h1;exact .inr (.inr ⟨.inr (.inr ⟨_,_,_,_,_,rfl⟩),rfl,rfl,rfl⟩)
         ·cases h1
        have hfj2:=hfj.2
        rcases hkind with ⟨sz,y,e2,hg2,hat⟩|⟨T,z,e2,hg2,hds,hat⟩|⟨hrk,hg2,hds,hat⟩
        ·rw[hg2,e2] at hfj2
         rw[hat] at h2
         refine zjK (fun b' off' hb'=>?_) (fun b' g' j' hb'=>?_) hfj2
         ·rw[ht2] at hb'
          rw[hfin h2 (fun x=>decide (x<0+j)) (fun x hx _=>by simpa using hx)] at hb'
          rw[hbo,hb'] at h3
          exact h3
         ·rw[ht2] at hb'
          rw[hfin h2 (fun x=>decide (x<0+j)) (fun x hx _=>by simpa using hx)] at hb'
          rw[hbo,hb'] at h3
          exact h3
        ·rw[hg2,e2] at hfj2
         rw[hat] at h2
         simp only[wpS] at hfj2
         obtain⟨g1,g2⟩:=hfj2
         have hdj:=hd2 j hl2.1
         have hst:=zef (fun x=>decide (x<0+j)) (l.take k) vs tm 0 j o2 v2 hj hv2 (by simp) (by
          intro j' o' hj' hjj
          have hl3:=hlk hj'
          rcases hdj with hdj|hdj
          ·right
           unfold zbL at hdj
           rw[hl2.2] at hdj;exact hdj
          ·rcases hdj j' hl3.1 with h5|h5
           ·exact absurd h5.symm hjj
           ·left
            intro e
            apply h5
            unfold zbL
            rw[hl3.2,hl2.2];exact e)
         have hfs:=hfin h2 (fun x=>decide (x<0+j)||x==0+j) (fun x hx _=>by
          simp only[Nat.zero_add,Bool.or_eq_true,decide_eq_true_eq,beq_iff_eq];omega)
         rw[←hst,hds] at hfs
         have hne:¬b=ob.length:=by
          intro eb
          simp only[zaD] at hfs
          have hlt2:s'<(asg (fun x=>decide (x<0+j)) 0 (l.take k) vs tm).length:=by
           rcases Nat.lt_or_ge s' (asg (fun x=>decide (x<0+j)) 0 (l.take k) vs tm).length with h6|h6
           ·exact h6
           ·exfalso
            have hn:(asg (fun _=>true) 0 (l.take k) vs tm)[s']? = none:=by
             rw[←hfs]
             exact List.getElem?_eq_none (by simp only[List.length_set];exact h6)
            rw[hn,hbo] at h3
            exact h3
          rw[List.getElem?_set_self hlt2,←g2] at hfs
          rw[hbo,←hfs] at h3
          exact h3 eb
         rw[←g1]
         rcases Nat.lt_or_ge b ob.length with h6|h6
         ·rw[List.getElem?_append_left h6]
         ·rw[List.getElem?_eq_none (by simp;omega),List.getElem?_eq_none h6]
        ·rw[hg2] at hfj2
         rw[hat] at h2
         obtain⟨b',g',hv',hkeep⟩:=zl8 hrk hfj2
         have hdj:=hd2 j hl2.1
         have hst:=zef (fun x=>decide (x<0+j)) (l.take k) vs tm 0 j o2 v2 hj hv2 (by simp) (by
          intro j' o' hj' hjj
          have hl3:=hlk hj'
          rcases hdj with hdj|hdj
          ·right
           unfold zbL at hdj
           rw[hl2.2] at hdj;exact hdj
          ·rcases hdj j' hl3.1 with h5|h5
           ·exact absurd h5.symm hjj
           ·left
            intro e
            apply h5
            unfold zbL
            rw[hl3.2,hl2.2];exact e)
         have hfs:=hfin h2 (fun x=>decide (x<0+j)||x==0+j) (fun x hx _=>by
          simp only[Nat.zero_add,Bool.or_eq_true,decide_eq_true_eq,beq_iff_eq];omega)
         rw[←hst,hds] at hfs
         have hne:¬b=b':=by
          have hlt2:s'<(asg (fun x=>decide (x<0+j)) 0 (l.take k) vs tm).length:=by
           unfold zfi at h3
           rcases Nat.lt_or_ge s' (asg (fun x=>decide (x<0+j)) 0 (l.take k) vs tm).length with h6|h6
           ·exact h6
           ·exfalso
            have hn:(asg (fun _=>true) 0 (l.take k) vs tm)[s']? = none:=by
             rw[←hfs]
             exact List.getElem?_eq_none (by simp only[zaD,List.length_set];exact h6)
            rw[hn] at h3
            rw[hbo] at h3
            exact h3
          simp only[zaD] at hfs
          rw[List.getElem?_set_self hlt2,hv'] at hfs
          rw[hbo,←hfs] at h3
          exact h3
         exact hkeep b hne
       by_cases hmore:∃j o2,(l.take k)[j]? = some o2∧o2.op.calm=false∧i≤j∧listed.getD j false=true
       ·obtain⟨j1,o1,hj1,hc1,hij1,hl1⟩:=hmore
        symm
        refine zho b (fun x=>decide (x<0+i)) (fun x=>listed.getD x false) (l.take k) objs vs os tm 0 hfacts hclosed hclosed2 (fun j o2 hj hcj hlt=>?_) (fun j o2 v2 o2' t ob hj hcj hp hq _ hv2 hfj ht2=>?_)
        ·simp at hlt
         exact hclosed j j1 o2 o1 hj hj1 (by omega) hcj hc1 (by simpa using hl1)
        ·have hji:j≠i:=by rintro rfl;rw[Nat.zero_add,hun] at hq;cases hq
         refine keepb j o2 v2 o2' t ob hj hcj hji (fun hcd=>?_) hv2 hfj ht2
         have:=hdone i j hin (by have:=(hlk hj).1;omega) hun hanc hcd
         simp only[Nat.zero_add] at hq hp
         rw[hq] at this
         rw[←this] at hp;cases hp
       ·refine zho b (fun x=>listed.getD x false) (fun x=>decide (x<0+i)) (l.take k) objs vs os tm 0 hfacts hclosed2 hclosed (fun j o2 hj hcj hlt=>?_) (fun j o2 v2 o2' t ob hj hcj hp hq _ hv2 hfj ht2=>?_)
        ·simp only[Nat.zero_add] at hlt ⊢
         rcases Nat.lt_or_ge j i with h0|h0
         ·simpa using h0
         ·exact absurd ⟨j,o2,hj,hcj,h0,hlt⟩ hmore
        ·simp at hq
         refine keepb j o2 v2 o2' t ob hj hcj (by omega) (fun hcd=>?_) hv2 hfj ht2
         have:=hdone i j hin (by have:=(hlk hj).1;omega) hun hanc hcd
         simp only[Nat.zero_add] at hp
         rw[hp] at this
         simp at this;omega
    refine zkD ops ops[i] so0 so hd0 hg0 hcv _ _ o' _ _ v _ _ htr hf hstep hskip hag a w hA2 ?_
    intro a2 w2 hr2
    refine⟨hs',hc',.inl ⟨fun j hj hjn=>by rw[hset,if_neg (by omega)];exact hA1 j hj hjn,?_⟩⟩
    have hdi:=hd2 i hik
    rw[zef (fun x=>listed.getD x false) (l.take k) vs tm 0 i so v hti hv (by simpa using hun) (by
     intro j o' hj hji
     have hjk:j<k:=by
      rcases Nat.lt_or_ge j k with h0|h0
      ·exact h0
      ·rw[List.getElem?_eq_none (by rw[htk];exact h0)] at hj;cases hj
     rw[List.getElem?_take_of_lt hjk] at hj
     rcases hdi with hdi|hdi
     ·right
      unfold zbL at hdi
      rw[hso] at hdi;exact hdi
     ·rcases hdi j hjk with h1|h1
      ·exact absurd h1.symm hji
      ·left
       intro e
       apply h1
       unfold zbL
       rw[hj,hso];exact e)] at hr2
    have e2:(fun x=>listed.getD x false||x==0+i)=fun x=>(listed.setIfInBounds i true).getD x false:=by
     funext x
     rw[hset,Nat.zero_add]
     by_cases e:x=i
     ·simp[e]
     ·have:(x==i)=false:=by simp[e]
      rw[if_neg e,this,Bool.or_false]
    rw[e2] at hr2
    have e3:(if so.op.calm=true then obA (fun x=>listed.getD x false) 0 (l.take k) os objs else o')=obA (fun x=>(listed.setIfInBounds i true).getD x false) 0 (l.take k) os objs:=by
     rw[←e2]
     cases hc2:so.op.calm with
     | true=>
      rw[if_pos rfl]
      refine zbZ _ _ _ _ _ 0 (fun j o2 hj hcj=>?_)
      rw[Nat.zero_add]
      have:j≠i:=by
       rintro rfl
       rw[hti] at hj;cases hj
       rw[hc2] at hcj;cases hcj
      have:(j==0+i)=false:=by simp;omega
      rw[this,Bool.or_false]
     | false=>
      rw[if_neg Bool.false_ne_true]
      refine(zi5 (fun x=>listed.getD x false) (l.take k) os objs 0 i so o' hti hov hc2 (fun j o2 hj hij hcj=>?_)).symm
      rw[Nat.zero_add,hmem j o2 hj hcj hc2 (by omega)]
      simp;omega
    rw[e3] at hr2
    exact hr2
   ·exfalso
    have:=hm3 i hik
    rw[hun] at this
    cases this
  ·-- a step of the tail
   have hall:∀j,j<k→listed.getD j false=true:=by
    intro j hj
    rcases hd4 i (by omega) with h0|h0
    ·omega
    ·exact hanc j (h0 j hj)
   rcases hAB with ⟨hA1,hA2⟩|⟨hm3,objs',tm',hr',hw⟩
   ·refine tail _ _ hik hall hA2 (hT0 listed _ _ hs hall hA1 ?_)
    rw[zbZ (fun x=>listed.getD x false) (fun _=>true) (l.take k) os objs 0 (fun j o hj _=>by
     rw[Nat.zero_add];exact hall j (by have:=(List.getElem?_eq_some_iff.1 hj).1;rw[htk] at this;omega)),zeX (fun x=>listed.getD x false) (fun _=>true) _ vs tm 0 (fun j hj=>by
     rw[Nat.zero_add];exact hall j (by rw[htk] at hj;omega))]
    exact hK
   ·exact tail objs' tm' hik hall hr' hw
 have main:∀(fuel:Nat) (S:List Nat) (listed:Array Bool) (a:Act) (w:World),S.length=fuel→(∀i,i<ops.size→listed.getD i false=false→i∈S)→Inv listed a w→wpAny P .any ops (zip C K) fuel listed a w:=by
  intro fuel
  induction fuel with
  | zero=>
   intro S listed a w hS hcov hinv
   have hS0:S=[]:=List.eq_nil_of_length_eq_zero hS
   have hall:∀i,i<ops.size→listed.getD i false=true:=by
    intro i hi
    cases hq:listed.getD i false with
    | true=>rfl
    | false=>have:=hcov i hi hq;rw[hS0] at this;cases this
   refine⟨?_,fin listed a w hinv hall⟩
   apply List.eq_nil_iff_forall_not_mem.2
   intro i hi
   obtain⟨hin,hun,_⟩:=(zcP hinv.1).1 hi
   rw[hgd listed i (by rw[hinv.1];exact hin),hall i hin] at hun;cases hun
  | succ fuel ih=>
   intro S listed a w hS hcov hinv
   refine⟨fun hnil=>?_,fun i hi=>?_⟩
   ·refine fin listed a w hinv ?_
    intro i
    induction i using Nat.strongRecOn with
    | _ i ih2=>
     intro hi
     cases hq:listed.getD i false with
     | true=>rfl
     | false=>
      have:i∈Region.ready .any ops listed:=(zcP hinv.1).2 ⟨hi,by rw[hgd listed i (by rw[hinv.1];exact hi)];exact hq,fun e he=>by
       rw[hdeps] at he
       have:=(hdep i hi).1 e he
       exact ih2 e this (by omega)⟩
      rw[hnil] at this;cases this
   ·refine wpOp_mono (fun a' w' hI=>?_) (step listed a w i hinv hi)
    obtain⟨hin,hun,_⟩:=(zcP hinv.1).1 hi
    rw[hgd listed i (by rw[hinv.1];exact hin)] at hun
    have hiS:=hcov i hin hun
    refine ih (S.erase i) _ a' w' (by rw[List.length_erase_of_mem hiS,hS];rfl) ?_ hI
    intro j hj hjn
    rw[zfF listed i j false (by rw[hinv.1];exact hin)] at hjn
    split at hjn
    ·cases hjn
    ·rename_i e
     exact(List.mem_erase_of_ne e).2 (hcov j hj hjn)
 refine wp_region_any hm (main ops.size (List.range ops.size) _ a _ (by simp) (fun i hi _=>List.mem_range.2 hi) ?_)
 have hrep:∀(j:Nat),(Array.replicate ops.size false).getD j false=false:=by
  intro j
  simp only[Array.getD_eq_getD_getElem?,Array.getElem?_replicate]
  split<;>rfl
 refine⟨by simp,⟨fun i _ hi=>absurd hi (by rw[hrep];exact Bool.false_ne_true),.inl ⟨fun j _ _=>hrep j,?_⟩⟩⟩
 have e0:asg (fun x=>(Array.replicate ops.size false).getD x false) 0 (l.take k) vs tm=tm:=by
  have:∀(l:List SO) (vs tm:List AV) (j:Nat),asg (fun x=>(Array.replicate ops.size false).getD x false) j l vs tm=tm:=by
   intro l
   induction l with
   | nil=>intro vs tm j;cases vs<;>rfl
   | cons o l ih=>
    intro vs tm j
    cases vs with
    | nil=>rfl
    | cons v vs=>
     simp only[asg]
     rw[if_neg (by rw[hrep];exact Bool.false_ne_true)]
     exact ih vs tm (j+1)
  exact this _ _ _ _
 rw[e0,zeL _ _ _ _ _ (fun j _ _ _=>hrep _)]
 obtain⟨G,I,h1,h2,h3,h4⟩:=hr
 exact⟨G,I,⟨h1.os,h1.tape,h1.output,h1.size,h1.block,h1.imm,h1.news,h1.blk,h1.gh⟩,⟨h2.imm,h2.box,h2.row,h2.map,h2.inj,h2.lt,h2.apart,h2.fresh⟩,h3,h4⟩
def fkB (d x y v:Nat) (so:SO):Bool:=match so with
 | ⟨some q,.nck (.t a),none⟩=>(decide (q≠d)&&decide (q≠x)&&decide (q≠y)&&decide (q≠v))&&decide (a≠d)
 | ⟨some q,.fad _ (.t a),none⟩=>(decide (q≠d)&&decide (q≠x)&&decide (q≠y)&&decide (q≠v))&&decide (a≠d)
 | _=>false
def zqW (l:List SO) (k:Nat):Option (Nat×Nat):=match l.drop k with
 | ⟨some d,.iad _ (.t x) (.t y),none⟩::⟨none,.store _ (.t d') (.t v),none⟩::rest=>match rest.reverse with
  | ⟨none,.store _ (.t e) (.t u),none⟩::rB=>if (d=d'∧e≠d∧u≠d∧v≠d∧x≠d∧y≠d)∧rB.all (fkB d x y v)=true then some (d,e) else none
  | _=>none
 | _=>none
def zqX (anc:List (List Nat)) (k n:Nat):Bool :=
 (anc.getD (k+1) []).contains k&&(List.range n).all fun j=>decide (j<k+2)||(List.range j).all fun i=>decide (i<k+2)||(anc.getD j []).contains i
def zm1 (l:List SO) (deps anc:List (List Nat)) (k:Nat):Bool :=
 zjm l deps anc k&&(ze2 l anc k).isEmpty&&zqX anc k l.length&&(l.drop k).all (fun o=>!o.op.isCall)
theorem forkF_is {l:List SO} {k d e:Nat} (h:zqW l k=some (d,e)):∃(sz x y sz' v s1 u:Nat) (Bs:List SO),
  l=l.take k++⟨some d,.iad sz (.t x) (.t y),none⟩::⟨none,.store sz' (.t d) (.t v),none⟩::(Bs++[⟨none,.store s1 (.t e) (.t u),none⟩])∧e≠d∧u≠d∧v≠d∧x≠d∧y≠d∧∀so∈Bs,fkB d x y v so=true:=by
 unfold zqW at h
 split at h
 ·rename_i d0 sz x y sz' d' v rest hl
  split at h
  ·rename_i s1 e0 u rB hr
   split at h
   ·rename_i hc
    injection h with h;injection h with h1 h2
    subst h1 h2
    obtain⟨⟨rfl,c2,c3,c4,c5,c6⟩,c7⟩:=hc
    refine⟨sz,x,y,sz',v,s1,u,rB.reverse,?_,c2,c3,c4,c5,c6,fun so hso=>List.all_eq_true.1 c7 so (List.mem_reverse.1 hso)⟩
    have hrest:rest=rB.reverse++[⟨none,.store s1 (.t e0) (.t u),none⟩]:=by
     have:=congrArg List.reverse hr
     simpa using this
    rw[←hrest,←hl,List.take_append_drop]
   ·cases h
  ·cases h
 ·cases h
section
variable (P)
def rF (l:List SO) (d e:Nat) (Kf:List OB→List AV→Prop) (b:Nat) (o:List OB) (t:List AV):Prop:=wpR P (l.drop b) o t fun o t=>apS t[d]? t[e]?∧Kf o t
end
def pQ (P:Program) [Tabs P] (l:List SO) (d e x y v sz sz':Nat) (Kf:List OB→List AV→Prop) (dn:Bool) (b:Nat) (o:List OB) (t:List AV):Prop :=
 ∃(bi g E n:Nat) (xs:List AV) (ik:IntKind) (m:Int) (yv:AV),o[bi]? = some (.orow E sz g n xs)∧t[v]? = some yv∧(yv.flat=true∧yv.cells.length=sz'∧m.toNat*sz+sz'≤xs.length)∧d<t.length ∧
  (dn=true→t[d]? = some (.porow bi g (m.toNat*sz)))∧(dn=false→t[x]? = some (.orow bi g)∧t[y]? = some (.i ik m)∧0≤m∧m<n) ∧
  rF P l d e Kf b (o.set bi (.orow E sz g n (zbE xs (m.toNat*sz) yv.cells))) (t.set d (.porow bi g (m.toNat*sz)))
theorem zjN {α:Type} (l:List α) (i j:Nat) (a b:α) (h:i≠j):(l.set i a).set j b=(l.set j b).set i a:=List.set_comm a b h
theorem getD_some {o:Option AV} {x:AV} (h:o.getD .u=x) (hx:x≠.u):o=some x:=by
 cases o with
 | none=>exact absurd h.symm hx
 | some z=>exact congrArg some h
theorem pQ_B {l:List SO} {d e x y v sz sz':Nat} {Kf:List OB→List AV→Prop} {dn:Bool} {b:Nat} {o:List OB} {t:List AV} {so:SO} (hl:l.drop b=so::l.drop (b+1)) (hso:fkB d x y v so=true) (h:pQ P l d e x y v sz sz' Kf dn b o t) :
  wpR P [so] o t fun o2 t2=>pQ P l d e x y v sz sz' Kf dn (b+1) o2 t2:=by
 obtain⟨bi,g,E,n,xs,ik,m,yv,h1,h2,h3,h4,h5,h6,h7⟩:=h
 unfold rF at h7
 rw[hl] at h7
 have fin:∀(q:Nat) (w:AV),q≠d→q≠x→q≠y→q≠v→rF P l d e Kf (b+1) (o.set bi (.orow E sz g n (zbE xs (m.toNat*sz) yv.cells))) ((t.set d (.porow bi g (m.toNat*sz))).set q w)→pQ P l d e x y v sz sz' Kf dn (b+1) o (t.set q w):=by
  intro q w q1 q2 q3 q4 hr
  refine⟨bi,g,E,n,xs,ik,m,yv,h1,by rw[List.getElem?_set_ne q4];exact h2,h3,by rw[List.length_set];exact h4,fun hd=>by rw[List.getElem?_set_ne q1];exact h5 hd,fun hd=>by rw[List.getElem?_set_ne q2,List.getElem?_set_ne q3];exact h6 hd,?_⟩
  rw[zjN _ _ _ _ _ q1]
  exact hr
 unfold fkB at hso
 split at hso
 ·rename_i q a
  simp only[Bool.and_eq_true,decide_eq_true_eq] at hso
  obtain⟨⟨⟨⟨q1,q2⟩,q3⟩,q4⟩,qa⟩:=hso
  simp only[wpR,wpS,SV.ev,List.getElem?_set_ne (Ne.symm qa)] at h7 ⊢
  revert h7
  split
  all_goals first|exact fun h=>h.elim|exact fun h=>fin q _ q1 q2 q3 q4 h
 ·rename_i q off a
  simp only[Bool.and_eq_true,decide_eq_true_eq] at hso
  obtain⟨⟨⟨⟨q1,q2⟩,q3⟩,q4⟩,qa⟩:=hso
  simp only[wpR,wpS,SV.ev,List.getElem?_set_ne (Ne.symm qa)] at h7 ⊢
  revert h7
  split
  all_goals first|exact fun h=>h.elim|exact fun h=>fin q _ q1 q2 q3 q4 h
 ·cases hso
theorem pQ_E {l:List SO} {d e x y v sz sz' s1 u:Nat} {Kf:List OB→List AV→Prop} {dn:Bool} {b:Nat} {o:List OB} {t:List AV} (he:e≠d) (hu:u≠d) (hl:l.drop b=[⟨none,.store s1 (.t e) (.t u),none⟩]) (hl2:l.drop (b+1)=[]) (h:pQ P l d e x y v sz sz' Kf dn b o t) :
  wpR P [⟨none,.store s1 (.t e) (.t u),none⟩] o t fun o2 t2=>pQ P l d e x y v sz sz' Kf dn (b+1) o2 t2:=by
 obtain⟨bi,g,E,n,xs,ik,m,yv,h1,h2,h3,h4,h5,h6,h7⟩:=h
 unfold rF at h7
 rw[hl] at h7
 have fin:∀(b0:Nat) (Y:OB),¬bi=b0→(apS (t.set d (.porow bi g (m.toNat*sz)))[d]? (t.set d (.porow bi g (m.toNat*sz)))[e]?∧Kf ((o.set bi (.orow E sz g n (zbE xs (m.toNat*sz) yv.cells))).set b0 Y) (t.set d (.porow bi g (m.toNat*sz))))→pQ P l d e x y v sz sz' Kf dn (b+1) (o.set b0 Y) t:=by
  intro b0 Y hb hr
  refine⟨bi,g,E,n,xs,ik,m,yv,by rw[List.getElem?_set_ne (fun h=>hb h.symm)];exact h1,h2,h3,h4,h5,h6,?_⟩
  unfold rF
  rw[hl2,zjN _ _ _ _ _ (fun h=>hb h.symm)]
  exact hr
 have hd:(t.set d (.porow bi g (m.toNat*sz)))[d]? = some (.porow bi g (m.toNat*sz)):=List.getElem?_set_self h4
 have hte:(t.set d (.porow bi g (m.toNat*sz)))[e]? = t[e]?:=List.getElem?_set_ne (Ne.symm he)
 simp only[wpR,wpS,SV.ev,zaD,List.getElem?_set_ne (Ne.symm he),List.getElem?_set_ne (Ne.symm hu)] at h7 ⊢
 revert h7
 split
 ·rename_i b0 off hp
  have hp':=getD_some hp (by intro h;cases h)
  have key:∀{q:Prop},(apS (t.set d (.porow bi g (m.toNat*sz)))[d]? t[e]?∧q)→¬bi=b0:=by
   intro q hq
   rw[hd,hp'] at hq
   exact hq.1
  split
  ·rename_i T cs hb
   rintro⟨c1,c2⟩
   have hne:=key c2
   rw[List.getElem?_set_ne hne] at hb
   rw[hb]
   exact⟨c1,fin b0 _ hne (by rw[hte];exact c2)⟩
  ·exact fun h=>h.elim
 ·rename_i b0 g0 j0 hp
  have hp':=getD_some hp (by intro h;cases h)
  have key:∀{q:Prop},(apS (t.set d (.porow bi g (m.toNat*sz)))[d]? t[e]?∧q)→¬bi=b0:=by
   intro q hq
   rw[hd,hp'] at hq
   exact hq.1
  split
  ·rename_i E0 s0 g1 n0 xs0 hb
   rintro⟨c1,c2⟩
   have hne:=key c2
   rw[List.getElem?_set_ne hne] at hb
   rw[hb]
   exact⟨c1,fin b0 _ hne (by rw[hte];exact c2)⟩
  ·exact fun h=>h.elim
 ·exact fun h=>h.elim
theorem zgT {d x y v:Nat} {so:SO} {o:List OB} {t:List AV} {F F':List OB→List AV→Prop} (hk:∀o t,F o t→F' o t) (hso:fkB d x y v so=true∨∃s1 e u,so=⟨none,.store s1 (.t e) (.t u),none⟩) (h:wpR P [so] o t F):wpR P [so] o t F':=by
 rcases hso with hso|⟨s1,e,u,rfl⟩
 ·unfold fkB at hso
  split at hso
  ·simp only[wpR,wpS] at h ⊢
   revert h
   split
   all_goals first|exact fun h=>h.elim|exact fun h=>hk _ _ h
  ·simp only[wpR,wpS] at h ⊢
   revert h
   split
   all_goals first|exact fun h=>h.elim|exact fun h=>hk _ _ h
  ·cases hso
 ·simp only[wpR,wpS] at h ⊢
  revert h
  split
  ·split
   ·exact fun h=>⟨h.1,hk _ _ h.2⟩
   ·exact fun h=>h.elim
  ·split
   ·exact fun h=>⟨h.1,hk _ _ h.2⟩
   ·exact fun h=>h.elim
  ·exact fun h=>h.elim
theorem zk3:∀(a b:List SO) (objs:List OB) (tm:List AV) (F:List OB→List AV→Prop),wpD P (a++b) objs tm F=wpD P a objs tm (fun o t=>wpD P b o t F)
 | [],b,objs,tm,F=>rfl
 | ⟨dst,op,none⟩::a,b,objs,tm,F=>by
  simp only[List.cons_append,wpD,zk3 a b]
 | ⟨dst,op,some (t,want)⟩::a,b,objs,tm,F=>by
  simp only[List.cons_append,wpD,zk3 a b]
theorem wpD_R:∀(b:List SO) (objs:List OB) (tm:List AV) (F:List OB→List AV→Prop),b.all (fun o=>!o.op.isCall)=true→wpD P b objs tm F=wpR P b objs tm F
 | [],objs,tm,F,h=>rfl
 | ⟨dst,op,none⟩::a,objs,tm,F,h=>by
  rw[List.all_cons,Bool.and_eq_true,Bool.not_eq_true'] at h
  have h1:¬op.isCall=true:=by rw[show op.isCall=false from h.1];exact Bool.false_ne_true
  simp only[wpD,wpR,if_neg h1,fun o t=>wpD_R a o t F h.2]
 | ⟨dst,op,some (t,want)⟩::a,objs,tm,F,h=>by
  rw[List.all_cons,Bool.and_eq_true,Bool.not_eq_true'] at h
  have h1:¬op.isCall=true:=by rw[show op.isCall=false from h.1];exact Bool.false_ne_true
  simp only[wpD,wpR,if_neg h1,fun o t=>wpD_R a o t F h.2]
  all_goals (cases (tm[t]?).getD .u<;>first|rfl|(rename_i v;cases v<;>rfl))
theorem fork_ok (id:Nat) (ops:Array Oper) (l:List SO) (hl:ops.toList.mapM (trO P ops.toList)=some l) (k d e:Nat) (hok:zm1 l (ops.toList.map zb6) (zoz (ops.toList.map zb6)) k=true) (hf:zqW l k=some (d,e)) (hm:P.follows .mixedOrders=true) {objs:List OB} {tm:List AV}
  (h:wpD P (l.take l.length) objs tm (fun o t=>zjB [(d,e+1000000)] t∧wpR P (l.drop l.length) o t fun o t=>K .normal o t)):∀a w,Rel C objs tm a w→(Code.region id ops true).wp P (zip C K) a w:=by
 obtain⟨sz,x,y,sz',v,s1,u,Bs,hdec,he,hu,hv,hx,hy,hB⟩:=forkF_is hf
 have hnl:ops.size=l.length:=by
  have:=(zgK _ _ _ hl).1
  simpa using this
 unfold zm1 at hok
 simp only[Bool.and_eq_true] at hok
 obtain⟨⟨⟨hpre,hap⟩,hanc⟩,hcalls⟩:=hok
 have hk:k≤l.length:=by
  unfold zjm at hpre
  simp only[Bool.and_eq_true,decide_eq_true_eq] at hpre
  exact hpre.1.1.1.1.1.1
 have hap:ze2 l (zoz (ops.toList.map zb6)) k=[]:=List.isEmpty_iff.1 hap
 have htk:(l.take k).length=k:=by rw[List.length_take];omega
 have hdk:l.drop k=⟨some d,.iad sz (.t x) (.t y),none⟩::⟨none,.store sz' (.t d) (.t v),none⟩::(Bs++[⟨none,.store s1 (.t e) (.t u),none⟩]):=by
  have:=List.take_append_drop k l
  rw[hdec] at this
  rw[List.take_append_of_le_length (by rw[htk];exact Nat.le_refl _),List.take_take,Nat.min_self] at this
  have h2:=List.append_cancel_left this
  rw[←hdec] at h2
  exact h2
 have hlen:l.length=k+2+Bs.length+1:=by
  have:=congrArg List.length hdk
  rw[List.length_drop] at this
  simp only[List.length_cons,List.length_append,List.length_nil] at this
  omega
 have hd2:l.drop (k+2)=Bs++[⟨none,.store s1 (.t e) (.t u),none⟩]:=by
  rw[←List.drop_drop,hdk];rfl
 have hat:∀i so,l[i]? = some so→l.drop i=so::l.drop (i+1):=fun i so hi=>by
  obtain⟨h1,h2⟩:=List.getElem?_eq_some_iff.1 hi
  rw[List.drop_eq_getElem_cons h1,h2]
 have hBat:∀i so,l[i]? = some so→k+2≤i→(so∈Bs)∨(so=⟨none,.store s1 (.t e) (.t u),none⟩∧i+1=l.length):=by
  intro i so hi hki
  have h1:(l.drop (k+2))[i - (k+2)]? = some so:=by rw[List.getElem?_drop,show k+2+(i - (k+2))=i by omega];exact hi
  rw[hd2] at h1
  rcases Nat.lt_or_ge (i - (k+2)) Bs.length with h2|h2
  ·rw[List.getElem?_append_left h2] at h1
   exact .inl (List.mem_of_getElem? h1)
  ·rw[List.getElem?_append_right h2] at h1
   have hlt:=(List.getElem?_eq_some_iff.1 hi).1
   rw[show i - (k+2) - Bs.length=0 by omega] at h1
   simp only[List.getElem?_cons_zero,Option.some.injEq] at h1
   exact .inr ⟨h1.symm,by omega⟩
 rw[List.take_length,List.drop_length] at h
 let Kf:List OB→List AV→Prop:=fun o t=>K .normal o t
 have h':wpD P (l.take k) objs tm (fun o t=>zjB (ze2 l (zoz (ops.toList.map zb6)) k) t∧wpR P (l.drop k) o t (fun o t=>apS t[d]? t[e]?∧Kf o t)):=by
  have h0:=h
  rw[←List.take_append_drop k l,zk3] at h0
  have hR:∀o t,wpD P (l.drop k) o t (fun o t=>zjB [(d,e+1000000)] t∧wpR P [] o t fun o t=>K .normal o t)=(zjB (ze2 l (zoz (ops.toList.map zb6)) k) t∧wpR P (l.drop k) o t (fun o t=>apS t[d]? t[e]?∧Kf o t)):=by
   intro o t
   rw[wpD_R _ _ _ _ hcalls,hap]
   have hz:∀o t,(zjB [(d,e+1000000)] t∧wpR P [] o t fun o t=>K .normal o t)=(apS t[d]? t[e]?∧Kf o t):=by
    intro o t
    simp only[zjB,wpR,if_neg (show ¬e+1000000<1000000 by omega),Nat.add_sub_cancel,and_true]
    rfl
   rw[show (fun o t=>zjB [(d,e+1000000)] t∧wpR P [] o t fun o t=>K .normal o t)=(fun o t=>apS t[d]? t[e]?∧Kf o t) from funext fun o=>funext fun t=>hz o t]
   simp only[zjB,true_and]
  simpa only[hR] using h0
 refine draw_gen id ops l l hl (.inl rfl) k hpre hm (fun listed o t=>∃st b,st≤2∧k+2≤b∧b≤l.length∧(∀j,k≤j→j<l.length→listed.getD j false=decide (j<k+st∨(k+2≤j∧j<b)))∧(st=0→pQ P l d e x y v sz sz' Kf false b o t)∧(st=1→pQ P l d e x y v sz sz' Kf true b o t)∧(st=2→rF P l d e Kf b o t)) _ ?_ ?_ ?_ h'
 ·intro listed o t hs h1 h2 hw
  refine⟨0,k+2,by omega,Nat.le_refl _,by omega,fun j hj hjn=>?_,fun _=>?_,(fun h=>by cases h),(fun h=>by cases h)⟩
  ·rw[h2 j hj (by omega)]
   symm
   exact decide_eq_false (by omega)
  ·rw[hdk] at hw
   simp only[wpR] at hw
   rw[show wpS P (.iad sz (.t x) (.t y)) o t=fun K=>match (SV.t x).ev t,(SV.t y).ev t with
    | .row n xs,.i _ i=>(0≤i∧i<n∧n*sz≤xs.length)∧K o (.prow xs (i.toNat*sz))
    | .orow b gen,.i _ i=>match o[b]? with
     | some (.orow _ s gen' n _)=>(gen'=gen∧s=sz∧0≤i∧i<n)∧K o (.porow b gen (i.toNat*sz))
     | _=>False
    | _,_=>False from rfl] at hw
   have noset:∀p:AV,(∀b g j,p≠.porow b g j)→(∀b j,p≠.p b j)→∀F,¬wpS P (.store sz' (.t d) (.t v)) o (t.set d p) F:=by
    intro p hp hp2 F hF
    simp only[wpS,SV.ev] at hF
    rcases Nat.lt_or_ge d t.length with hlt|hge
    ·rw[List.getElem?_set_self hlt,Option.getD_some] at hF
     cases p<;>first|exact hF|exact hp _ _ _ rfl|exact hp2 _ _ rfl
    ·rw[List.getElem?_eq_none (by rw[List.length_set];exact hge)] at hF
     exact hF
   split at hw
   ·exact absurd hw.2 (noset _ (by intro _ _ _ h;cases h) (by intro _ _ h;cases h) _)
   ·rename_i bi g ik m hxv hyv
    split at hw
    ·rename_i E s g' n xs hb
     obtain⟨⟨rfl,rfl,c3,c4⟩,hw⟩:=hw
     simp only[wpS,SV.ev,zaD] at hw
     have hdl:d<t.length:=by
      rcases Nat.lt_or_ge d t.length with hlt|hge
      ·exact hlt
      ·exfalso
       rw[List.getElem?_eq_none (by rw[List.length_set];exact hge)] at hw
       exact hw
     rw[List.getElem?_set_self hdl,Option.getD_some] at hw
     simp only[hb,List.getElem?_set_ne (Ne.symm hv)] at hw
     obtain⟨⟨_,q1,q2,q3⟩,hw⟩:=hw
     have hxs:t[x]? = some (.orow bi g'):=getD_some hxv (by intro h;cases h)
     have hys:t[y]? = some (.i ik m):=getD_some hyv (by intro h;cases h)
     obtain⟨yv,hyv2⟩:∃yv,t[v]? = some yv:=by
      cases hq:t[v]? with
      | none=>rw[hq] at q1;cases q1
      | some z=>exact⟨z,rfl⟩
     rw[hyv2,Option.getD_some] at q1 q2 hw
     refine⟨bi,g',E,n,xs,ik,m,yv,hb,hyv2,⟨q1,q2,q3⟩,hdl,(fun h=>by cases h),fun _=>⟨hxs,hys,c3,c4⟩,?_⟩
     unfold rF
     rw[hd2]
     exact hw
    ·exact hw.elim
   ·exact hw.elim
 ·intro listed o t i so hs hi hki hin hun hanci hT
  obtain⟨st,b,hst,hb1,hb2,hlist,t0,t1,t2⟩:=hT
  have hset:∀j,(listed.setIfInBounds i true).getD j false=if j=i then true else listed.getD j false:=fun j=>zfF listed i j false (by omega)
  have hui:=hlist i hki (by omega)
  rw[hun] at hui
  have hui:¬(i<k+st∨(k+2≤i∧i<b)):=of_decide_eq_false hui.symm
  unfold zqX at hanc
  rw[Bool.and_eq_true] at hanc
  obtain⟨ha1,ha2⟩:=hanc
  by_cases ck:i=k
  ·subst ck
   have hst0:st=0:=by omega
   subst hst0
   obtain⟨bi,g,E,n,xs,ik,m,yv,h1,h2,h3,h4,h5,h6,h7⟩:=t0 rfl
   obtain⟨hx1,hy1,hm1,hm2⟩:=h6 rfl
   have hso:so=⟨some d,.iad sz (.t x) (.t y),none⟩:=by
    have:=hat i so hi
    rw[hdk] at this
    exact(List.cons.inj this).1.symm
   subst hso
   simp only[wpR,wpS,SV.ev,hx1,hy1,Option.getD_some,h1,zaD]
   refine⟨⟨trivial,trivial,hm1,hm2⟩,1,b,by omega,hb1,hb2,fun j hj hjn=>?_,(fun h=>by cases h),fun _=>?_,(fun h=>by cases h)⟩
   ·rw[hset]
    split
    ·rename_i e1;symm;exact decide_eq_true (by omega)
    ·rw[hlist j hj hjn];congr 1;apply propext;omega
   ·refine⟨bi,g,E,n,xs,ik,m,yv,h1,by rw[List.getElem?_set_ne (Ne.symm hv)];exact h2,h3,by rw[List.length_set];exact h4,fun _=>List.getElem?_set_self h4,(fun h=>by cases h),?_⟩
    rw[List.set_set]
    exact h7
  by_cases ck1:i=k+1
  ·subst ck1
   have hk1:listed.getD k false=true:=hanci k (List.contains_iff_mem.1 ha1)
   rw[hlist k (Nat.le_refl _) (by omega)] at hk1
   have hk1:=of_decide_eq_true hk1
   have hst1:st=1:=by omega
   subst hst1
   obtain⟨bi,g,E,n,xs,ik,m,yv,h1,h2,h3,h4,h5,h6,h7⟩:=t1 rfl
   have hd1:=h5 rfl
   have hso:so=⟨none,.store sz' (.t d) (.t v),none⟩:=by
    have:=hat (k+1) so hi
    rw[←List.drop_drop,hdk] at this
    exact(List.cons.inj this).1.symm
   subst hso
   simp only[wpR,wpS,SV.ev,hd1,h2,Option.getD_some,h1,zaD]
   refine⟨⟨trivial,h3⟩,2,b,by omega,hb1,hb2,fun j hj hjn=>?_,(fun h=>by cases h),(fun h=>by cases h),fun _=>?_⟩
   ·rw[hset]
    split
    ·rename_i e1;symm;exact decide_eq_true (by omega)
    ·rw[hlist j hj hjn];congr 1;apply propext;omega
   ·rw[set_same hd1] at h7
    exact h7
  have hi2:k+2≤i:=by omega
  have hib:i=b:=by
   rcases Nat.lt_or_ge b i with h0|h0
   ·exfalso
    have h1:=List.all_eq_true.1 ha2 i (List.mem_range.2 (by omega))
    simp only[Bool.or_eq_true,decide_eq_true_eq,List.all_eq_true,List.mem_range,List.contains_iff_mem] at h1
    rcases h1 with h1|h1
    ·omega
    ·rcases h1 b h0 with h2|h2
     ·omega
     ·have h3:=hanci b h2
      rw[hlist b (by omega) (by omega)] at h3
      have:=of_decide_eq_true h3
      omega
   ·omega
  subst hib
  have hdi:=hat i so hi
  have hlist':∀j,k≤j→j<l.length→(listed.setIfInBounds i true).getD j false=decide (j<k+st∨(k+2≤j∧j<i+1)):=by
   intro j hj hjn
   rw[hset]
   split
   ·rename_i e1;symm;exact decide_eq_true (by omega)
   ·rw[hlist j hj hjn];congr 1;apply propext;omega
  have goPQ:∀dn,pQ P l d e x y v sz sz' Kf dn i o t→wpR P [so] o t fun o2 t2=>pQ P l d e x y v sz sz' Kf dn (i+1) o2 t2:=by
   intro dn hq
   rcases hBat i so hi hi2 with hmem|⟨rfl,hlast⟩
   ·exact pQ_B hdi (hB so hmem) hq
   ·have hnil:l.drop (i+1)=[]:=List.drop_eq_nil_of_le (by omega)
    rw[hnil] at hdi
    exact pQ_E he hu hdi hnil hq
  have hnone:fkB d x y v so=true∨∃s1 e u,so=⟨none,.store s1 (.t e) (.t u),none⟩:=by
   rcases hBat i so hi hi2 with hmem|⟨rfl,_⟩
   ·exact .inl (hB so hmem)
   ·exact .inr ⟨_,_,_,rfl⟩
  have hst3:st=0∨st=1∨st=2:=by omega
  rcases hst3 with rfl|rfl|rfl
  ·refine zgT (fun o2 t2 hq=>⟨0,i+1,by omega,by omega,by omega,hlist',fun _=>hq,(fun h=>by cases h),(fun h=>by cases h)⟩) hnone (goPQ false (t0 rfl))
  ·refine zgT (fun o2 t2 hq=>⟨1,i+1,by omega,by omega,by omega,hlist',(fun h=>by cases h),fun _=>hq,(fun h=>by cases h)⟩) hnone (goPQ true (t1 rfl))
  ·refine zgT (fun o2 t2 hq=>⟨2,i+1,by omega,by omega,by omega,hlist',(fun h=>by cases h),(fun h=>by cases h),fun _=>hq⟩) hnone ?_
   have h2:=t2 rfl
   unfold rF at h2
   rw[hdi] at h2
   rcases hnone with hso|⟨s2,e2,u2,rfl⟩
   ·unfold fkB at hso
    split at hso
    ·exact h2
    ·exact h2
    ·cases hso
   ·exact h2
 ·intro listed o t hs hall hT
  obtain⟨st,b,hst,hb1,hb2,hlist,t0,t1,t2⟩:=hT
  have e1:=hlist (k+1) (by omega) (by omega)
  rw[hall (k+1) (by omega)] at e1
  have e1:=of_decide_eq_true e1.symm
  have hst2:st=2:=by omega
  subst hst2
  have hbn:b=l.length:=by
   rcases Nat.lt_or_ge b l.length with h0|h0
   ·have e2:=hlist b (by omega) h0
    rw[hall b (by omega)] at e2
    have e2:=of_decide_eq_true e2.symm
    omega
   ·omega
  subst hbn
  have h2:=t2 rfl
  unfold rF at h2
  rw[List.drop_length] at h2
  exact h2.2
end
section
variable {P:Program} [Tabs P] {C:Cx} [On P C] {K:zbu}
inductive SCode where
 | skip
 | reg (l:List SO)
 | drw (l:List SO) (k:Nat) (ap:List (Nat×Nat))
 | seq (x y:SCode)
 | cond (c:SV) (x y:SCode)
 | blk (id:Nat) (c:SCode)
 | loop (c:SCode)
 | exit (id:Nat)
 | ret
 | dead
def zqe (l:List SO):Bool :=
 match l.getLast? with
 | some ⟨_,.call _ args,none⟩=>args.any fun
  | .t s=>(l.any fun o=>match o with
   | ⟨some d,.fad _ _,_⟩=>d==s
   | _=>false)||l.all fun o=>!(o.dst==some s)
  | _=>false
 | _=>false
def lastApp (l:List SO):Bool :=
 match l.reverse with
 | ⟨_,.mv (.t d),none⟩::⟨some d',.call _ args,none⟩::_=>d==d'&&args.any fun
  | .t s=>l.any fun o=>match o with
   | ⟨some e,.app _ _ _ _ _,_⟩=>e==s
   | _=>false
  | _=>false
 | _=>false
def panics (ops:List Oper):Bool:=ops.any fun o=>match o.op with
 | .panic _=>true
 | _=>false
def cands (l:List SO):List (List SO×Nat) :=
 (if lastApp l=true then [(l,l.length - 2)] else [])++(if zqe l=true then [(l,l.length - 1)] else [])++[(l,tailAt l),(l,l.length)]++((if zqe l=true then [(l.map SO.toQ,l.length - 1)] else [])++[(l.map SO.toQ,tailAt l),(l.map SO.toQ,l.length),(l.map SO.toP,l.length)])
def pickD (l:List SO) (ds an:List (List Nat)):Option (List SO×Nat):=(cands l).find? fun c=>znr c.1 ds an c.2
theorem pickD_ok {l:List SO} {ds an:List (List Nat)} {c:List SO×Nat} (h:pickD l ds an=some c):(c.1=l∨c.1=l.map SO.toP∨c.1=l.map SO.toQ)∧znr c.1 ds an c.2=true:=by
 refine⟨?_,by simpa using List.find?_some h⟩
 have hm:=List.mem_of_find?_eq_some h
 unfold cands at hm
 simp only[List.mem_append,List.mem_cons,List.not_mem_nil,or_false] at hm
 rcases hm with ((hm|hm)|rfl|rfl)|hm|rfl|rfl|rfl
 ·split at hm
  ·simp only[List.mem_cons,List.not_mem_nil,or_false] at hm;subst hm;exact .inl rfl
  ·simp at hm
 ·split at hm
  ·simp only[List.mem_cons,List.not_mem_nil,or_false] at hm;subst hm;exact .inl rfl
  ·simp at hm
 ·exact .inl rfl
 ·exact .inl rfl
 ·split at hm
  ·simp only[List.mem_cons,List.not_mem_nil,or_false] at hm;subst hm;exact .inr (.inr rfl)
  ·simp at hm
 ·exact .inr (.inr rfl)
 ·exact .inr (.inr rfl)
 ·exact .inr (.inl rfl)
def pickF (l:List SO) (ds an:List (List Nat)):Option (List SO×Nat×List (Nat×Nat)):=(List.range l.length).findSome? fun k=>if zm1 l ds an k=true then (zqW l k).map fun p=>(l,l.length,[(p.1,p.2+1000000)]) else none
def pickA (l:List SO) (ds an:List (List Nat)):Option (List SO×Nat×List (Nat×Nat)):=match pickD l ds an with
 | some c=>some (c.1,c.2,ze2 c.1 an c.2)
 | none=>pickF l ds an
theorem pickA_ok {l:List SO} {ds an:List (List Nat)} {r:List SO×Nat×List (Nat×Nat)} (h:pickA l ds an=some r):(∃c,pickD l ds an=some c∧r=(c.1,c.2,ze2 c.1 an c.2))∨(∃k d e,zm1 l ds an k=true∧zqW l k=some (d,e)∧r=(l,l.length,[(d,e+1000000)])):=by
 unfold pickA at h
 split at h
 ·rename_i c hc
  injection h with h;exact .inl ⟨c,hc,h.symm⟩
 ·unfold pickF at h
  obtain⟨k,_,hk⟩:=List.exists_of_findSome?_eq_some h
  split at hk
  ·rename_i hok
   obtain⟨p,hp,rfl⟩:=Option.map_eq_some_iff.1 hk
   exact .inr ⟨k,p.1,p.2,hok,hp,rfl⟩
  ·cases hk
def trC (P:Program):Code→Option SCode
 | .skip=>some .skip
 | .region _ ops false=>match ops.toList.mapM (trO P ops.toList) with
  | some l=>some (.reg l)
  | none=>if panics ops.toList=true then some .dead else none
 | .region _ ops true=>match ops.toList.mapM (trO P ops.toList) with
  | some l=>if P.follows .mixedOrders=true then (pickA l (ops.toList.map zb6) (zoz (ops.toList.map zb6))).map fun c=>.drw c.1 c.2.1 c.2.2 else none
  | none=>none
 | .seq x y=>match trC P x,trC P y with
  | some a,some b=>some (.seq a b)
  | _,_=>none
 | .cond c x y=>match trC P x,trC P y with
  | some a,some b=>some (.cond (zas c) a b)
  | _,_=>none
 | .block id c=>(trC P c).map (.blk id)
 | .loop c=>(trC P c).map .loop
 | .exit id=>some (.exit id)
 | .ret=>some .ret
 | .scope c=>trC P c
 | .label _=>some .skip
 | _=>none
def ngK (K:zbu):zbu
 | .goto _,_,_=>False
 | e,objs,tm=>K e objs tm
omit [Tabs P] [On P C] in
theorem WP.scope {c:Code} {K:zbu} {objs:List OB} {tm:List AV} (hh:WP P C c (ngK K) objs tm):WP P C (.scope c) (ngK K) objs tm:=by
 intro a w hr
 refine wp_scope_straight (wp_mono (hh a w hr) ?_)
 rintro e a w ⟨o,t,hk,hr⟩
 cases e<;>first|exact hk.elim|exact⟨o,t,hk,hr⟩
def WPS (P:Program) (C:Cx) (sc:SCode) (K:zbu) (objs:List OB) (tm:List AV):Prop:=∀c,trC P c=some sc→WP P C c K objs tm
def wpC (P:Program) [Tabs P] (C:Cx):SCode→zbu→List OB→List AV→Prop
 | .skip,K,objs,tm=>K .normal objs tm
 | .reg l,K,objs,tm=>wpR P l objs tm fun o t=>K .normal o t
 | .drw l k ap,K,objs,tm=>wpD P (l.take k) objs tm fun o t=>zjB ap t∧wpR P (l.drop k) o t fun o t=>K .normal o t
 | .seq x y,K,objs,tm=>wpC P C x (zgz (fun o t=>wpC P C y K o t) K) objs tm
 | .cond c x y,K,objs,tm=>match c.ev tm with
  | .b t=>(t=true→wpC P C x K objs tm)∧(t=false→wpC P C y K objs tm)
  | _=>False
 | .blk id c,K,objs,tm=>wpC P C c (blkK id K) objs tm
 | .loop c,K,objs,tm=>WPS P C (.loop c) (ngK K) objs tm
 | .exit id,K,objs,tm=>K (.exit id) objs tm
 | .ret,K,objs,tm=>K .ret objs tm
 | .dead,K,objs,tm=>False
theorem zgg:∀(c:Code) (sc:SCode) (K:zbu) (objs:List OB) (tm:List AV),trC P c=some sc→wpC P C sc K objs tm→WP P C c (ngK K) objs tm
 | .skip,sc,K,objs,tm,ht,h=>by simp only[trC,Option.some.injEq] at ht;subst ht;exact WP.skip h
 | .region id ops false,sc,K,objs,tm,ht,h=>by
  simp only[trC] at ht
  cases h1:ops.toList.mapM (trO P ops.toList) with
  | none=>
   rw[h1] at ht
   dsimp only at ht
   split at ht
   ·injection ht with ht;subst ht;exact h.elim
   ·cases ht
  | some l=>
   rw[h1] at ht;injection ht with ht;subst ht
   intro a w hr
   exact wp_region_list (wpR_ok (K:=ngK K) ops ops.toList l objs tm h1 h a w hr)
 | .region id ops true,sc,K,objs,tm,ht,h=>by
  simp only[trC] at ht
  split at ht
  ·rename_i l h1
   split at ht
   ·rename_i hf
    simp only[Option.map_eq_some_iff] at ht
    obtain⟨c,hc,rfl⟩:=ht
    intro a w hr
    rcases pickA_ok hc with ⟨c',hc',rfl⟩|⟨k,d,e,k1,k2,rfl⟩
    ·obtain⟨c1,c2⟩:=pickD_ok hc'
     exact draw_ok (K:=ngK K) id ops l c'.1 h1 c1 _ c2 hf h a w hr
    ·exact fork_ok (K:=ngK K) id ops l h1 k d e k1 k2 hf h a w hr
   ·cases ht
  ·cases ht
 | .seq x y,sc,K,objs,tm,ht,h=>by
  simp only[trC] at ht
  split at ht
  ·rename_i a b ha hb
   injection ht with ht;subst ht
   refine WP.seq (WP.mono ?_ (zgg x a _ objs tm ha h))
   intro e o t hk
   cases e with
   | normal=>exact zgg y b K o t hb hk
   | _=>exact hk
  ·cases ht
 | .cond c x y,sc,K,objs,tm,ht,h=>by
  simp only[trC] at ht
  split at ht
  ·rename_i a b ha hb
   injection ht with ht;subst ht
   simp only[wpC] at h
   split at h
   ·rename_i t hc
    exact WP.cond hc (fun e=>zgg x a K objs tm ha (h.1 e)) (fun e=>zgg y b K objs tm hb (h.2 e))
   ·exact h.elim
  ·cases ht
 | .block id c,sc,K,objs,tm,ht,h=>by
  simp only[trC] at ht
  cases h1:trC P c with
  | none=>rw[h1] at ht;cases ht
  | some a=>rw[h1] at ht;injection ht with ht;subst ht;refine WP.block (WP.mono ?_ (zgg c a _ objs tm h1 h));intro e o t hk;cases e with
   | exit id'=>simp only[ngK,blkK] at hk ⊢;exact hk
   | _=>exact hk
 | .loop c,sc,K,objs,tm,ht,h=>by
  have ht':=ht
  simp only[trC] at ht
  cases h1:trC P c with
  | none=>rw[h1] at ht;cases ht
  | some a=>rw[h1] at ht;injection ht with ht;subst ht;exact h _ ht'
 | .exit id,sc,K,objs,tm,ht,h=>by simp only[trC,Option.some.injEq] at ht;subst ht;exact WP.exit h
 | .ret,sc,K,objs,tm,ht,h=>by simp only[trC,Option.some.injEq] at ht;subst ht;exact WP.ret h
 | .rangeFunc ..,sc,K,objs,tm,ht,h=>by simp[trC] at ht
 | .scope c,sc,K,objs,tm,ht,h=>by simp only[trC] at ht;exact WP.scope (zgg c sc K objs tm ht h)
 | .label _,sc,K,objs,tm,ht,h=>by simp only[trC,Option.some.injEq] at ht;subst ht;exact fun a w hr=>wp_label ⟨_,_,h,hr⟩
 | .goto _,sc,K,objs,tm,ht,h=>by simp[trC] at ht
 | .refuse _,sc,K,objs,tm,ht,h=>by simp[trC] at ht
theorem wpC_ok (c:Code) (sc:SCode) (K:zbu) (objs:List OB) (tm:List AV) (ht:trC P c=some sc) (h:wpC P C sc K objs tm):WP P C c K objs tm :=
 WP.mono (fun e o t hk=>by cases e<;>first|exact hk.elim|exact hk) (zgg c sc K objs tm ht h)
theorem wps_loop {sc:SCode} {objs:List OB} {tm:List AV} (J:Nat→List OB→List AV→Prop) (n:Nat) (h0:J n objs tm)
  (round:∀n objs tm,J n objs tm→wpC P C sc (zgz (fun o t=>∃m,m<n∧J m o t) K) objs tm):WPS P C (.loop sc) (ngK K) objs tm:=by
 intro c ht
 induction c with
 | scope c ih=>simp only[trC] at ht;exact WP.scope (ih ht)
 | loop c _=>
  simp only[trC] at ht
  cases h1:trC P c with
  | none=>rw[h1] at ht;cases ht
  | some a=>
   rw[h1] at ht;injection ht with ht;injection ht with ht;subst ht
   refine WP.loop J n h0 fun n o t hj=>WP.mono ?_ (zgg c a _ o t h1 (round n o t hj))
   intro e o t hk
   cases e with
   | normal=>exact hk
   | _=>exact hk
 | region id ops draw=>
  cases draw
  ·simp only[trC] at ht;split at ht
   ·cases ht
   ·split at ht<;>cases ht
  ·simp only[trC] at ht
   split at ht
   ·split at ht
    ·simp only[Option.map_eq_some_iff,reduceCtorEq,and_false,exists_false] at ht
    ·cases ht
   ·cases ht
 | seq x y _ _=>simp only[trC] at ht;split at ht<;>cases ht
 | cond c x y _ _=>simp only[trC] at ht;split at ht<;>cases ht
 | block id c _=>simp only[trC] at ht;cases h1:trC P c<;>(rw[h1] at ht;cases ht)
 | _=>simp[trC] at ht
end
mutual
/-- the value as it is given away: rows of the call's own last from now on -/
def pub (objs:List OB):Nat→AV→Option AV
 | d,.agg cs=>(zhg objs d cs).map .agg
 | d,.tup cs=>(zhg objs d cs).map .tup
 | 0,.orow _ _=>none
 | d+1,.orow b gen=>match objs[b]? with
  | some (.orow _ _ gen' n xs)=>if gen'=gen then (zhg objs d xs).map (.row n) else none
  | _=>none
 | _,x=>if x.plain=true then some x else none
def zhg (objs:List OB):Nat→List AV→Option (List AV)
 | _,[]=>some []
 | d,x::xs=>match pub objs d x,zhg objs d xs with
  | some y,some ys=>some (y::ys)
  | _,_=>none
end
def Imm.rows (I:Imm) (G:Gh) (objs:List OB) (w:World):Imm:=fun g o v=>I g o v∨(w.cell? ⟨g,o,none⟩=some v∧∃b E sz gen n xs,objs[b]? = some (.orow E sz gen n xs)∧G.own b=some g)
mutual
theorem zli {G:Gh} {I:Imm} {objs:List OB} {w:World} (hm:MemOk G I objs w) (d:Nat) (ih:∀d',d=d'+1→∀(xs rs:List AV) (ys:List Value),zhg objs d' xs=some rs→zao G I xs ys→zao Gh.none (I.rows G objs w) rs ys∧zaK rs=true) :
  ∀(x r:AV) (y:Value),pub objs d x=some r→Den G I x y→Den Gh.none (I.rows G objs w) r y∧r.plain=true
 | .agg cs,r,y,hp,h=>by
  simp only[pub,Option.map_eq_some_iff] at hp
  obtain⟨rs,h1,rfl⟩:=hp
  simp only[Den] at h ⊢
  obtain⟨ys,e1,e2,e3⟩:=h
  obtain⟨k1,k2⟩:=zfy hm d ih cs rs ys h1 e2
  exact⟨⟨ys,e1,k1,e3⟩,by simpa[AV.plain] using k2⟩
 | .tup cs,r,y,hp,h=>by
  simp only[pub,Option.map_eq_some_iff] at hp
  obtain⟨rs,h1,rfl⟩:=hp
  simp only[Den] at h ⊢
  obtain⟨ys,e1,e2⟩:=h
  obtain⟨k1,k2⟩:=zfy hm d ih cs rs ys h1 e2
  exact⟨⟨ys,e1,k1⟩,by simpa[AV.plain] using k2⟩
 | .orow b gen,r,y,hp,h=>by
  cases d with
  | zero=>simp[pub] at hp
  | succ d=>
   simp only[pub] at hp
   split at hp
   ·rename_i E sz gen' n xs hb
    split at hp
    ·rename_i hg
     subst hg
     simp only[Option.map_eq_some_iff] at hp
     obtain⟨rs,h1,rfl⟩:=hp
     simp only[Den] at h ⊢
     obtain⟨g',v,k1,k2,k3,_⟩:=h
     obtain⟨v',vs,m1,m2,m3,m4,m5⟩:=hm.row b E sz gen' n xs hb
     rw[k1] at m1;injection m1 with m1;injection m1 with m1 m6
     have hv:=k3 m1.symm
     subst m1 m6 hv
     obtain⟨q1,q2⟩:=ih d rfl xs rs vs h1 m3
     refine⟨?_,by simpa[AV.plain] using q2⟩
     have hown:=zbS m5 k1
     rcases m2.2 with ⟨rfl,rfl⟩|⟨g,cap,cur,rfl,hx1,hx2,hx3,hx4⟩
     ·have hvs:vs=[]:=List.eq_nil_of_length_eq_zero (by simpa using m2.1)
      subst hvs
      exact⟨none,0,[],rfl,⟨Nat.le_refl _,by intro _ e;cases e⟩,q1,by simp,by simp⟩
     ·refine⟨some ⟨g,0,none⟩,cap,vs,rfl,⟨hx3,by rintro _ ⟨⟩ _;rfl⟩,q1,m4,fun j u hj=>⟨g,0,rfl,.inr ⟨?_,b,E,sz,_,n,xs,hb,hown⟩⟩⟩
      have:=m2.cells (g:=g) rfl j u hj
      rwa [zaO] at this
    ·cases hp
   ·cases hp
 | .p b off,r,y,hp,h=>by cases d<;>simp[pub,AV.plain] at hp
 | .porow b gen j,r,y,hp,h=>by cases d<;>simp[pub,AV.plain] at hp
 | .bsl b off n,r,y,hp,h=>by cases d<;>simp[pub,AV.plain] at hp
 | .m b,r,y,hp,h=>by cases d<;>simp[pub,AV.plain] at hp
 | .s l,r,y,hp,h=>by
  have e:r=.s l:=by cases d<;>simp[pub,AV.plain] at hp<;>exact hp.symm
  subst e;exact⟨Den.plain (fun _ _ _ h=>.inl h) _ _ rfl h,rfl⟩
 | .i k n,r,y,hp,h=>by
  have e:r=.i k n:=by cases d<;>simp[pub,AV.plain] at hp<;>exact hp.symm
  subst e;exact⟨Den.plain (fun _ _ _ h=>.inl h) _ _ rfl h,rfl⟩
 | .b x,r,y,hp,h=>by
  have e:r=.b x:=by cases d<;>simp[pub,AV.plain] at hp<;>exact hp.symm
  subst e;exact⟨Den.plain (fun _ _ _ h=>.inl h) _ _ rfl h,rfl⟩
 | .nil,r,y,hp,h=>by
  have e:r=.nil:=by cases d<;>simp[pub,AV.plain] at hp<;>exact hp.symm
  subst e;exact⟨Den.plain (fun _ _ _ h=>.inl h) _ _ rfl h,rfl⟩
 | .zn z,r,y,hp,h=>by
  have e:r=.zn z:=by cases d<;>simp[pub,AV.plain] at hp<;>exact hp.symm
  subst e;exact⟨Den.plain (fun _ _ _ h=>.inl h) _ _ rfl h,rfl⟩
 | .o v,r,y,hp,h=>by
  have e:r=.o v:=by cases d<;>simp[pub,AV.plain] at hp<;>exact hp.symm
  subst e;exact⟨Den.plain (fun _ _ _ h=>.inl h) _ _ rfl h,rfl⟩
 | .u,r,y,hp,h=>by
  have e:r=.u:=by cases d<;>simp[pub,AV.plain] at hp<;>exact hp.symm
  subst e;exact⟨Den.plain (fun _ _ _ h=>.inl h) _ _ rfl h,rfl⟩
 | .row n xs,r,y,hp,h=>by
  have e:(AV.row n xs).plain=true∧r=.row n xs:=by
   cases d<;>(simp only[pub] at hp;split at hp<;>first|(rename_i hq;injection hp with hp;exact⟨hq,hp.symm⟩)|cases hp)
  obtain⟨e1,rfl⟩:=e;exact⟨Den.plain (fun _ _ _ h=>.inl h) _ _ e1 h,e1⟩
 | .prow xs j,r,y,hp,h=>by
  have e:(AV.prow xs j).plain=true∧r=.prow xs j:=by
   cases d<;>(simp only[pub] at hp;split at hp<;>first|(rename_i hq;injection hp with hp;exact⟨hq,hp.symm⟩)|cases hp)
  obtain⟨e1,rfl⟩:=e;exact⟨Den.plain (fun _ _ _ h=>.inl h) _ _ e1 h,e1⟩
 | .fn f fs cs,r,y,hp,h=>by
  have e:(AV.fn f fs cs).plain=true∧r=.fn f fs cs:=by
   cases d<;>(simp only[pub] at hp;split at hp<;>first|(rename_i hq;injection hp with hp;exact⟨hq,hp.symm⟩)|cases hp)
  obtain⟨e1,rfl⟩:=e;exact⟨Den.plain (fun _ _ _ h=>.inl h) _ _ e1 h,e1⟩
theorem zfy {G:Gh} {I:Imm} {objs:List OB} {w:World} (hm:MemOk G I objs w) (d:Nat) (ih:∀d',d=d'+1→∀(xs rs:List AV) (ys:List Value),zhg objs d' xs=some rs→zao G I xs ys→zao Gh.none (I.rows G objs w) rs ys∧zaK rs=true) :
  ∀(xs rs:List AV) (ys:List Value),zhg objs d xs=some rs→zao G I xs ys→zao Gh.none (I.rows G objs w) rs ys∧zaK rs=true
 | [],rs,ys,hp,h=>by
  simp only[zhg,Option.some.injEq] at hp;subst hp
  simp only[zao] at h ⊢
  exact⟨h,rfl⟩
 | x::xs,rs,ys,hp,h=>by
  simp only[zhg] at hp
  split at hp
  ·rename_i r rs' h1 h2
   injection hp with hp;subst hp
   simp only[zao] at h ⊢
   obtain⟨y,ys',e1,e2,e3⟩:=h
   obtain⟨k1,k2⟩:=zli hm d ih x r y h1 e2
   obtain⟨k3,k4⟩:=zfy hm d ih xs rs' ys' h2 e3
   exact⟨⟨y,ys',e1,k1,k3⟩,by simp[zaK,k2,k4]⟩
  ·cases hp
end
theorem zpD {G:Gh} {I:Imm} {objs:List OB} {w:World} (hm:MemOk G I objs w):∀(d:Nat) (xs rs:List AV) (ys:List Value),zhg objs d xs=some rs→zao G I xs ys→zao Gh.none (I.rows G objs w) rs ys∧zaK rs=true
 | 0=>zfy hm 0 (fun d' e=>by omega)
 | d+1=>zfy hm (d+1) (fun d' e=>by
   obtain rfl:d=d':=by omega
   exact zpD hm d)
theorem pub_ok {G:Gh} {I:Imm} {objs:List OB} {w:World} (hm:MemOk G I objs w) (d:Nat) (x r:AV) (y:Value) (hp:pub objs d x=some r) (h:Den G I x y):Den Gh.none (I.rows G objs w) r y∧r.plain=true:=by
 cases d with
 | zero=>exact zli hm 0 (fun d' e=>by omega) x r y hp h
 | succ d=>exact zli hm (d+1) (fun d' e=>by
   obtain rfl:d=d':=by omega
   exact zpD hm d) x r y hp h
inductive SRes where
 | tmp (t:Nat)
 | cell1 (t:Nat)
 | celln (t sz:Nat)
def zjF (P:Program):ResultVar→Option SRes
 | .tmp t=>some (.tmp t)
 | .cell a t=>match P.underlying t,P.info? t with
  | some d,some i=>some (if d.isRow=true then .celln a i.size else .cell1 a)
  | _,_=>none
def zpt (objs:List OB) (tm:List AV):SRes→Option AV
 | .tmp t=>tm[t]?
 | .cell1 t=>match tm[t]? with
  | some (.p b off)=>match objs[b]? with
   | some (.box _ cs)=>cs[off]?
   | _=>none
  | _=>none
 | .celln t sz=>match tm[t]? with
  | some (.p b off)=>match objs[b]? with
   | some (.box _ cs)=>if off+sz≤cs.length then some (.agg ((cs.drop off).take sz)) else none
   | _=>none
  | _=>none
def zfa (objs:List OB) (tm:List AV):List SRes→Option (List AV)
 | []=>some []
 | r::rs=>match zpt objs tm r,zfa objs tm rs with
  | some x,some xs=>some (x::xs)
  | _,_=>none
def znO:List AV→AV
 | [x]=>x
 | xs=>.tup xs
def resF (tmps:Array Value):ResultVar→Sem Value
 | .tmp t=>pure (tmps.getD t undef)
 | .cell b t=>do loadVar t (←asAddr (tmps.getD b undef))
theorem zfY (fn:Func) (tmps:Array Value):results fn tmps=(fn.results.mapM (resF tmps)) >>= fun vs=>pure (if h:vs.size=1 then vs[0] else .tuple vs):=by
 unfold results
 congr 2
section
variable {P:Program}
theorem resA_run {G:Gh} {I:Imm} {objs:List OB} {tm:List AV} {a:Act} {w:World} (hm:MemOk G I objs w) (hd:zao G I tm a.tmps.toList) (r:ResultVar) (s:SRes) (x:AV) (hs:zjF P r=some s) (hx:zpt objs tm s=some x) :
  ∃y,(resF a.tmps r).run P w=.ok y w∧Den G I x y:=by
 cases r with
 | tmp t=>
  simp only[zjF,Option.some.injEq] at hs;subst hs
  simp only[zpt] at hx
  obtain⟨y,h1,h2⟩:=zao.get t hd hx
  refine⟨y,?_,h2⟩
  rw[Array.getElem?_toList] at h1
  simp only[resF,Array.getD_eq_getD_getElem?,h1,Option.getD_some];rfl
 | cell b t=>
  simp only[zjF] at hs
  split at hs
  ·rename_i d i hu hi
   injection hs with hs;subst hs
   have getp:∀bb off,tm[b]? = some (.p bb off)→∃g,G.blk bb=some g∧a.tmps.getD b undef=.pointer (some ⟨g,off,none⟩):=by
    intro bb off ht
    obtain⟨y,h1,h2⟩:=zao.get b hd ht
    simp only[Den] at h2
    obtain⟨g,hg,rfl⟩:=h2
    rw[Array.getElem?_toList] at h1
    exact⟨g,hg,by simp[Array.getD_eq_getD_getElem?,h1]⟩
   rcases hr:d.isRow with _|_
   ·simp only[hr,Bool.false_eq_true,if_false,zpt] at hx
    split at hx
    ·rename_i bb off ht
     split at hx
     ·rename_i T cs hb
      obtain⟨g,hg,hv⟩:=getp bb off ht
      obtain⟨g',ys,k1,k2,k3,k4⟩:=hm.box bb T cs hb
      obtain rfl:g=g':=Option.some.inj (hg.symm.trans k1)
      obtain⟨y,hy,hyd⟩:=zao.get off k3 hx
      refine⟨y,?_,hyd⟩
      have hcell:w.cell? ⟨g,off,none⟩=some y:=by rw[cell_of_row w g off _ T (0,0) k2];simpa using hy
      simp[resF,hv,asAddr,loadVar,zet hu,hr,load,Sem.run,hcell]
     ·cases hx
    ·cases hx
   ·simp only[hr,if_true,zpt] at hx
    split at hx
    ·rename_i bb off ht
     split at hx
     ·rename_i T cs hb
      split at hx
      ·rename_i hlen
       injection hx with hx;subst hx
       obtain⟨g,hg,hv⟩:=getp bb off ht
       obtain⟨g',ys,k1,k2,k3,k4⟩:=hm.box bb T cs hb
       obtain rfl:g=g':=Option.some.inj (hg.symm.trans k1)
       have hl:=k3.length
       refine⟨.agg ((ys.drop off).take i.size).toArray,?_,?_⟩
       ·have:=run_loadVar_mid (P:=P) w g off t ((ys.drop off).take i.size) d (by
         intro j v hj
         rw[cell_of_row w g (off+j) _ T (0,0) k2]
         rw[List.getElem?_take] at hj
         split at hj
         ·simpa[List.getElem?_drop] using hj
         ·cases hj) hu hr (by rw[hi];simp;omega)
        simp[resF,hv,asAddr,this]
       ·simp only[Den]
        exact⟨_,rfl,zao.take i.size (zao.drop off k3),fun u hu=>k4 u (List.mem_of_mem_drop (List.mem_of_mem_take hu))⟩
      ·cases hx
     ·cases hx
    ·cases hx
  ·cases hs
theorem zj0 {G:Gh} {I:Imm} {objs:List OB} {tm:List AV} {a:Act} {w:World} (hm:MemOk G I objs w) (hd:zao G I tm a.tmps.toList):∀(rs:List ResultVar) (ss:List SRes) (xs:List AV),rs.mapM (zjF P)=some ss→zfa objs tm ss=some xs →
  ∃ys,(rs.mapM (resF a.tmps)).run P w=.ok ys w∧zao G I xs ys
 | [],ss,xs,hs,hx=>by
  simp at hs;subst hs
  simp only[zfa,Option.some.injEq] at hx;subst hx
  exact⟨[],by simp,zao.nil⟩
 | r::rs,ss,xs,hs,hx=>by
  simp only[List.mapM_cons,Option.bind_eq_bind,Option.pure_def] at hs
  cases h1:zjF P r with
  | none=>simp[h1] at hs
  | some s=>
   cases h2:rs.mapM (zjF P) with
   | none=>simp[h1,h2] at hs
   | some ss'=>
    simp[h1,h2] at hs
    subst hs
    simp only[zfa] at hx
    split at hx
    ·rename_i x xs' hx1 hx2
     injection hx with hx;subst hx
     obtain⟨y,k1,k2⟩:=resA_run hm hd r s x h1 hx1
     obtain⟨ys,k3,k4⟩:=zj0 hm hd rs ss' xs' h2 hx2
     exact⟨y::ys,by simp only[List.mapM_cons,Sem.run_bind,k1,Result.andThen_ok,k3,Sem.run_pure],zao.cons k2 k4⟩
    ·cases hx
theorem zhb {fn:Func} {G:Gh} {I:Imm} {objs:List OB} {tm:List AV} {a:Act} {w:World} (hm:MemOk G I objs w) (hd:zao G I tm a.tmps.toList) (ss:List SRes) (xs:List AV) (hs:fn.results.toList.mapM (zjF P)=some ss) (hx:zfa objs tm ss=some xs) :
  ∃y,(results fn a.tmps).run P w=.ok y w∧Den G I (znO xs) y:=by
 obtain⟨ys,h1,h2⟩:=zj0 hm hd _ ss xs hs hx
 have hl:=h2.length
 have hr:(fn.results.mapM (resF a.tmps)).run P w=.ok ys.toArray w:=by
  rw[Array.mapM_eq_mapM_toList,Sem.run_map,h1];rfl
 match xs,ys,h2,hl with
 | [x],[y],h2,_=>
  simp only[zao] at h2
  obtain⟨y',ys',e,h3,h4⟩:=h2
  injection e with e1 e2;subst e1
  refine⟨y,?_,h3⟩
  rw[zfY,Sem.run_bind,hr]
  simp
 | [],[],h2,_=>
  refine⟨.tuple #[],?_,?_⟩
  ·rw[zfY,Sem.run_bind,hr]
   simp
  ·simp only[znO,Den];exact⟨[],rfl,zao.nil⟩
 | x::x'::xs,y::y'::ys,h2,_=>
  refine⟨.tuple (y::y'::ys).toArray,?_,?_⟩
  ·rw[zfY,Sem.run_bind,hr]
   simp
  ·simp only[znO,Den];exact⟨_,rfl,h2⟩
 | [],y::ys,h2,hl=>exact absurd hl (by simp)
 | x::xs,[],h2,hl=>exact absurd hl (by simp)
 | [x],y::y'::ys,h2,hl=>exact absurd hl (by simp)
 | x::x'::xs,[y],h2,hl=>exact absurd hl (by simp)
def outK (ss:List SRes) (K:AV→Prop) (objs:List OB) (tm:List AV):Prop :=
 match (zfa objs tm ss).bind (fun xs=>pub objs 5 (znO xs)) with
 | some r=>K r
 | none=>False
def endK (ss:List SRes) (K:AV→Prop):zbu
 | .normal,objs,tm=>outK ss K objs tm
 | .ret,objs,tm=>outK ss K objs tm
 | _,_,_=>False
structure FnIs (P:Program) (f:FuncId) (n:Nat) (ss:List SRes) (sc:SCode):Prop where
 is:∃fn c,P.funcs[f]? = some fn∧fn.body=some c∧fn.ntmps=n∧fn.results.toList.mapM (zjF P)=some ss∧trC P c=some sc
theorem fn_ok [Tabs P] {f:FuncId} {n:Nat} {ss:List SRes} {sc:SCode} (hf:FnIs P f n ss sc) {args:List AV} {objs:List OB} {K:List OB→AV→Prop} (hp:zaK args=true)
  (h:∀(C:Cx) [On P C],wpC P C sc (endK ss (fun r=>K objs r)) [] (args++List.replicate (n - args.length) (.o undef))):zad P f args objs K:=by
 intro C hOn G I w hin hm ys hd
 obtain⟨fn,c,h1,h2,h3,h4,h5⟩:=hf.is
 let C':Cx:=⟨w,fun _=>False,I,Gh.none⟩
 haveI hOn':On P C':=⟨hin.tab (P:=P),fun _ h=>h⟩
 have hwp:=wpC_ok (C:=C') c sc _ [] _ h5 (h C')
 have hlen:=hd.length
 have hrel:Rel C' [] (args++List.replicate (n - args.length) (.o undef)) { tmps:=ys.toArray++Array.replicate (fn.ntmps - ys.toArray.size) undef,defers:=[] } w:=by
  refine⟨Gh.none,I,⟨rfl,rfl,rfl,Nat.le_refl _,fun _ _ _=>rfl,fun _ _ _ h=>h,fun _ _ _ h=>.inl h,fun b g hb=>by simp[Gh.own,Gh.none] at hb,Gh.le.refl _⟩,
   ⟨hm.imm,by simp,by simp,by simp,fun b b' g hb=>by simp[Gh.own,Gh.none] at hb,fun b g hb=>by simp[Gh.own,Gh.none] at hb,fun b g o v hb=>by simp[Gh.own,Gh.none] at hb,fun b _=>⟨rfl,rfl⟩⟩,?_,rfl⟩
  simp only[Array.toList_append,Array.toList_replicate,h3,List.size_toArray]
  refine zao.append (zao.plain (Imm.le.refl I) _ _ hp hd) ?_
  rw[hlen]
  have:∀k,zao Gh.none I (List.replicate k (.o undef)) (List.replicate k undef):=by
   intro k
   induction k with
   | zero=>exact zao.nil
   | succ k ih=>exact zao.cons (by simp[Den]) ih
  exact this _
 refine calls_of_wp h1 h2 (wp_mono (hwp _ _ hrel) ?_)
 rintro e a' w' ⟨objs',tm',hk,G',I',hin',hm',hd',hdef⟩
 have key:outK ss (fun r=>K objs r) objs' tm' →
   a'.defers=[]∧∃v,(results fn a'.tmps).run P w'=.ok v w'∧∃y objs'' r G'' I'',Ending.returned v=.returned y∧K objs'' r∧G.le G''∧Imm.le I I''∧In C G'' I'' w'∧MemOk G'' I'' objs'' w'∧Den G'' I'' r y:=by
  intro hk
  unfold outK at hk
  split at hk
  ·rename_i r hr0
   obtain⟨xs,hxs,hr⟩:=Option.bind_eq_some_iff.1 hr0
   ·obtain⟨y,hy,hyd⟩:=zhb (P:=P) (fn:=fn) hm' hd' ss xs h4 hxs
    obtain⟨p1,p2⟩:=pub_ok hm' 5 _ r y hr hyd
    have hg:w.grownBy w' none:=⟨hin'.os,hin'.tape,hin'.output,hin'.size,fun k hk _=>hin'.block k hk (fun h=>h)⟩
    have hle:Imm.le I (I'.rows G' objs' w'):=fun g o v hi=>.inl (hin'.imm g o v hi)
    have hnew:∀g o v,I'.rows G' objs' w' g o v→I g o v∨w.heap.size≤g:=by
     rintro g o v (hi|⟨_,b,E,sz,gen,n,xs,hb,ho⟩)
     ·rcases hin'.news g o v hi with h|h|h
      ·exact .inl h
      ·exact h.elim
      ·exact .inr h
     ·rcases hin'.blk b g ho with h|h
      ·exact h.elim
      ·exact .inr h
    refine⟨hdef,y,hy,y,objs,r,G,I'.rows G' objs' w',rfl,hk,Gh.le.refl G,hle,(hin.evolve hg (by simp)).imm_more hle ?_,(hm.evolve hg).imm_more hle ?_ ?_,Den.plain (Imm.le.refl _) r y p2 p1⟩
    ·intro g o v hi
     rcases hnew g o v hi with h|h
     ·exact .inl h
     ·exact .inr (.inr (Nat.le_trans hin.size h))
    ·rintro g o v (hi|⟨hc,_⟩)
     ·exact hm'.imm g o v hi
     ·exact hc
    ·intro b g o v hb hi
     rcases hnew g o v hi with h|h
     ·exact hm.apart b g o v hb h
     ·have:=hm.lt b g hb;omega
  ·exact hk.elim
 cases e with
 | normal=>exact key hk
 | ret=>exact key hk
 | _=>exact hk.elim
def outI (ss:List SRes) (K:List OB→AV→Prop) (objs:List OB) (tm:List AV):Prop :=
 match zfa objs tm ss with
 | some xs=>K objs (znO xs)
 | none=>False
def endI (ss:List SRes) (K:List OB→AV→Prop):zbu
 | .normal,objs,tm=>outI ss K objs tm
 | .ret,objs,tm=>outI ss K objs tm
 | _,_,_=>False
theorem fn_in [Tabs P] {f:FuncId} {n:Nat} {ss:List SRes} {sc:SCode} (hf:FnIs P f n ss sc) {args:List AV} {objs:List OB} {K:List OB→AV→Prop}
  (h:∀(C:Cx) [On P C],wpC P C sc (endI ss K) objs (args++List.replicate (n - args.length) (.o undef))):zad P f args objs K:=by
 intro C hOn G I w hin hm ys hd
 obtain⟨fn,c,h1,h2,h3,h4,h5⟩:=hf.is
 let C':Cx:=⟨C.w,C.own,I,G⟩
 haveI hOn':On P C':=⟨hOn.tab,hOn.own⟩
 have hwp:=wpC_ok (C:=C') c sc _ objs _ h5 (h C')
 have hlen:=hd.length
 have hrel:Rel C' objs (args++List.replicate (n - args.length) (.o undef)) { tmps:=ys.toArray++Array.replicate (fn.ntmps - ys.toArray.size) undef,defers:=[] } w:=by
  refine⟨G,I,⟨hin.os,hin.tape,hin.output,hin.size,hin.block,fun _ _ _ h=>h,fun _ _ _ h=>.inl h,hin.blk,Gh.le.refl G⟩,hm,?_,rfl⟩
  simp only[Array.toList_append,Array.toList_replicate,h3,List.size_toArray]
  refine zao.append hd ?_
  rw[hlen]
  have:∀k,zao G I (List.replicate k (.o undef)) (List.replicate k undef):=by
   intro k
   induction k with
   | zero=>exact zao.nil
   | succ k ih=>exact zao.cons (by simp[Den]) ih
  exact this _
 refine calls_of_wp h1 h2 (wp_mono (hwp _ _ hrel) ?_)
 rintro e a' w' ⟨objs',tm',hk,G',I',hin',hm',hd',hdef⟩
 have key:outI ss K objs' tm' →
   a'.defers=[]∧∃v,(results fn a'.tmps).run P w'=.ok v w'∧∃y objs'' r G'' I'',Ending.returned v=.returned y∧K objs'' r∧G.le G''∧Imm.le I I''∧In C G'' I'' w'∧MemOk G'' I'' objs'' w'∧Den G'' I'' r y:=by
  intro hk
  unfold outI at hk
  split at hk
  ·rename_i xs hxs
   obtain⟨y,hy,hyd⟩:=zhb (P:=P) (fn:=fn) hm' hd' ss xs h4 hxs
   refine⟨hdef,y,hy,y,objs',_,G',I',rfl,hk,hin'.gh,hin'.imm,⟨hin'.os,hin'.tape,hin'.output,hin'.size,hin'.block,fun g o v hi=>hin'.imm g o v (hin.imm g o v hi),fun g o v hi=>?_,hin'.blk,hin.gh.trans hin'.gh⟩,hm',hyd⟩
   rcases hin'.news g o v hi with h|h
   ·exact hin.news g o v h
   ·exact .inr h
  ·exact hk.elim
 cases e with
 | normal=>exact key hk
 | ret=>exact key hk
 | _=>exact hk.elim
theorem law_ok [Tabs P] {f:FuncId} {args:List AV} {ys:List Value} {w:World} (hd:zao Gh.none (fun g o v=>w.cell? ⟨g,o,none⟩=some v) args ys) (hT:Tabs.T (P:=P) w) (h:zad P f args [] (fun _ r=>r=.b true)) :
  Calls P f ys.toArray w fun e w'=>e=.returned (.bool true)∧Below w.heap.size w w':=by
 haveI:On P ⟨w,fun _=>False,fun g o v=>w.cell? ⟨g,o,none⟩=some v,Gh.none⟩:=⟨hT,fun _ h=>h⟩
 have hc:=h ⟨w,fun _=>False,fun g o v=>w.cell? ⟨g,o,none⟩=some v,Gh.none⟩ Gh.none (fun g o v=>w.cell? ⟨g,o,none⟩=some v) w
  ⟨rfl,rfl,rfl,Nat.le_refl _,fun _ _ _=>rfl,fun _ _ _ h=>h,fun _ _ _ h=>.inl h,fun b g hb=>by simp[Gh.own,Gh.none] at hb,Gh.le.refl _⟩
  ⟨fun _ _ _ h=>h,by simp,by simp,by simp,fun b b' g hb=>by simp[Gh.own,Gh.none] at hb,fun b g hb=>by simp[Gh.own,Gh.none] at hb,fun b g o v hb=>by simp[Gh.own,Gh.none] at hb,fun b _=>⟨rfl,rfl⟩⟩ ys hd
 refine hc.mono ?_
 rintro e w' ⟨y,objs',r,G',I',rfl,rfl,_,_,hin,_,hy⟩
 simp only[Den] at hy;subst hy
 exact⟨rfl,hin.os,hin.tape,hin.output,hin.size,fun k hk=>hin.block k hk (fun h=>h)⟩
end
end Go.Proofs.YtnnipcgblooemaaGreatDoor.Sx
namespace Go.Proofs.YtnnipcgblooemaaGreatDoor.Sx
open Go.RowKit
inductive IT where
 | code (c:SCode)
 | ops (l:List SO)
 | dops (l:List SO)
 | ap (l:List (Nat×Nat))
 | blk (id:Nat)
def znw (P:Program) [Tabs P] (C:Cx) (F:zbu):List IT→zbu
 | []=>F
 | .code c::k=>zgz (fun o t=>wpC P C c (znw P C F k) o t) (znw P C F k)
 | .ops l::k=>zgz (fun o t=>wpR P l o t fun o t=>znw P C F k .normal o t) (znw P C F k)
 | .dops l::k=>zgz (fun o t=>wpD P l o t fun o t=>znw P C F k .normal o t) (znw P C F k)
 | .ap l::k=>zgz (fun o t=>zjB l t∧znw P C F k .normal o t) (znw P C F k)
 | .blk id::k=>blkK id (znw P C F k)
def run (P:Program) [Tabs P] (C:Cx) (k:List IT) (objs:List OB) (tm:List AV) (F:zbu):Prop:=znw P C F k .normal objs tm
def xit (P:Program) [Tabs P] (C:Cx) (id:Nat) (k:List IT) (objs:List OB) (tm:List AV) (F:zbu):Prop:=znw P C F k (.exit id) objs tm
def loopF (P:Program) [Tabs P] (C:Cx) (J:Nat→List OB→List AV→Prop) (n:Nat) (k:List IT) (F:zbu):zbu:=zgz (fun o t=>∃m,m<n∧J m o t) (znw P C F k)
def evs (tm:List AV):List SV→List AV
 | []=>[]
 | x::xs=>x.ev tm::evs tm xs
theorem zgu (tm:List AV):∀l:List SV,evs tm l=l.map fun x=>x.ev tm
 | []=>rfl
 | x::l=>by rw[evs,zgu tm l];rfl
def evp (tm:List AV):List (Nat×Nat×SV)→List (Nat×Nat×AV)
 | []=>[]
 | (o,s,x)::xs=>(o,s,x.ev tm)::evp tm xs
theorem zm6 (tm:List AV):∀l:List (Nat×Nat×SV),evp tm l=l.map fun p=>(p.1,p.2.1,p.2.2.ev tm)
 | []=>rfl
 | (o,s,x)::l=>by rw[evp,zm6 tm l];rfl
def bxs:Option OB→Option (List AV)
 | some (.box _ cs)=>some cs
 | _=>none
theorem zry (T:TypeId) (cs:List AV):bxs (some (.box T cs))=some cs:=Eq.trans rfl rfl
section
variable {P:Program} [Tabs P] {C:Cx} {F:zbu} {k:List IT} {r:List SO} {objs:List OB} {tm:List AV} {d:Option Nat}
theorem rn_nil:run P C [] objs tm F=F .normal objs tm:=Eq.trans rfl rfl
theorem rn_seq (x y:SCode):run P C (.code (.seq x y)::k) objs tm F=run P C (.code x::.code y::k) objs tm F:=Eq.trans rfl rfl
theorem zpb:run P C (.code .skip::k) objs tm F=run P C k objs tm F:=Eq.trans rfl rfl
theorem rn_reg (l:List SO):run P C (.code (.reg l)::k) objs tm F=run P C (.ops l::k) objs tm F:=Eq.trans rfl rfl
theorem rn_ap (l:List (Nat×Nat)):run P C (.ap l::k) objs tm F=(zjB l tm∧run P C k objs tm F):=Eq.trans rfl rfl
theorem apOk_n:zjB [] tm=True:=Eq.trans rfl rfl
theorem apOk_c (s s':Nat) (l:List (Nat×Nat)):zjB ((s,s')::l) tm=((if s'<1000000 then zfi tm[s]? tm[s']? else apS tm[s]? tm[s' - 1000000]?)∧zjB l tm):=Eq.trans rfl rfl
theorem apS_o (b g j b' g' j':Nat):apS (some (.porow b g j)) (some (.porow b' g' j'))=(¬b=b'):=Eq.trans rfl rfl
theorem apS_p (b g j b' o':Nat):apS (some (.porow b g j)) (some (.p b' o'))=(¬b=b'):=Eq.trans rfl rfl
theorem znF (b o b' g':Nat):zfi (some (.p b o)) (some (.orow b' g'))=(¬b=b'):=Eq.trans rfl rfl
theorem znE (b o b' g' j':Nat):zfi (some (.p b o)) (some (.porow b' g' j'))=(¬b=b'):=Eq.trans rfl rfl
theorem znD (xs:List AV) (j b' g':Nat):zfi (some (.prow xs j)) (some (.orow b' g'))=True:=Eq.trans rfl rfl
theorem znC (xs:List AV) (j b' g' j':Nat):zfi (some (.prow xs j)) (some (.porow b' g' j'))=True:=Eq.trans rfl rfl
theorem zrG (b o b' o':Nat):zfi (some (.p b o)) (some (.p b' o'))=(¬b=b'):=Eq.trans rfl rfl
theorem zrF (xs:List AV) (j b' o':Nat):zfi (some (.prow xs j)) (some (.p b' o'))=True:=Eq.trans rfl rfl
theorem rn_drw (l:List SO) (n:Nat) (ap:List (Nat×Nat)):run P C (.code (.drw l n ap)::k) objs tm F=run P C (.dops (l.take n)::.ap ap::.ops (l.drop n)::k) objs tm F:=Eq.trans rfl rfl
theorem zbY (id:Nat) (c:SCode):run P C (.code (.blk id c)::k) objs tm F=run P C (.code c::.blk id::k) objs tm F:=Eq.trans rfl rfl
theorem zmd (id:Nat):run P C (.blk id::k) objs tm F=run P C k objs tm F:=Eq.trans rfl rfl
theorem zia:run P C (.ops []::k) objs tm F=run P C k objs tm F:=Eq.trans rfl rfl
theorem zg9:run P C (.dops []::k) objs tm F=run P C k objs tm F:=Eq.trans rfl rfl
theorem zee:∀(k:List IT),znw P C F k .ret objs tm=F .ret objs tm
 | []=>rfl
 | .code c::k=>zee k
 | .ops l::k=>zee k
 | .dops l::k=>zee k
 | .ap l::k=>zee k
 | .blk id::k=>zee k
theorem rn_ret:run P C (.code .ret::k) objs tm F=F .ret objs tm:=zee k
theorem zpm:run P C (.code .dead::k) objs tm F=False:=Eq.trans rfl rfl
theorem zpl (id:Nat):run P C (.code (.exit id)::k) objs tm F=xit P C id k objs tm F:=Eq.trans rfl rfl
theorem zoB (id:Nat):xit P C id [] objs tm F=F (.exit id) objs tm:=Eq.trans rfl rfl
theorem zlU (id:Nat) (c:SCode):xit P C id (.code c::k) objs tm F=xit P C id k objs tm F:=Eq.trans rfl rfl
theorem zoA (id:Nat) (l:List SO):xit P C id (.ops l::k) objs tm F=xit P C id k objs tm F:=Eq.trans rfl rfl
theorem zlT (id:Nat) (l:List SO):xit P C id (.dops l::k) objs tm F=xit P C id k objs tm F:=Eq.trans rfl rfl
theorem xit_ap (id:Nat) (l:List (Nat×Nat)):xit P C id (.ap l::k) objs tm F=xit P C id k objs tm F:=Eq.trans rfl rfl
theorem zoC (id id':Nat):xit P C id (.blk id'::k) objs tm F=if id=id' then run P C k objs tm F else xit P C id k objs tm F:=Eq.trans rfl rfl
theorem zgo (J:Nat→List OB→List AV→Prop) (n:Nat):loopF P C J n k F .normal objs tm=∃m,m<n∧J m objs tm:=Eq.trans rfl rfl
theorem zio (J:Nat→List OB→List AV→Prop) (n id:Nat):loopF P C J n k F (.exit id) objs tm=xit P C id k objs tm F:=Eq.trans rfl rfl
theorem zkh (J:Nat→List OB→List AV→Prop) (n:Nat):loopF P C J n k F .ret objs tm=F .ret objs tm:=zee k
theorem zbg [On P C] {c:SCode} (J:Nat→List OB→List AV→Prop) (n:Nat) (h0:J n objs tm) (round:∀n objs tm,J n objs tm→run P C [.code c] objs tm (loopF P C J n k F)):run P C (.code (.loop c)::k) objs tm F :=
 wps_loop J n h0 round
def kO (P:Program) [Tabs P] (C:Cx) (v:Option AV) (d:Option Nat) (r:List SO) (k:List IT) (objs:List OB) (tm:List AV) (F:zbu):Prop :=
 match v with
 | some v=>run P C (.ops r::k) objs (zaD tm d v) F
 | none=>False
theorem zb4 (op:SOp):run P C (.ops (⟨d,op,none⟩::r)::k) objs tm F=wpS P op objs tm fun o v=>run P C (.ops r::k) o (zaD tm d v) F:=Eq.trans rfl rfl
theorem zqj (v:AV):kO P C (some v) d r k objs tm F=run P C (.ops r::k) objs (zaD tm d v) F:=Eq.trans rfl rfl
theorem rn_mv (x:SV):run P C (.ops (⟨d,.mv x,none⟩::r)::k) objs tm F=run P C (.ops r::k) objs (zaD tm d (x.ev tm)) F:=Eq.trans rfl rfl
def kPick (P:Program) [Tabs P] (C:Cx) (c x y:AV) (d:Option Nat) (r:List SO) (k:List IT) (objs:List OB) (tm:List AV) (F:zbu):Prop :=
 match c with
 | .b t=>(t=true→run P C (.ops r::k) objs (zaD tm d x) F)∧(t=false→run P C (.ops r::k) objs (zaD tm d y) F)
 | _=>False
theorem zqh (x y:AV):kPick P C (.b true) x y d r k objs tm F=run P C (.ops r::k) objs (zaD tm d x) F:=propext ⟨fun h=>h.1 rfl,fun h=>⟨fun _=>h,fun e=>absurd e.symm Bool.false_ne_true⟩⟩
theorem zqi (x y:AV):kPick P C (.b false) x y d r k objs tm F=run P C (.ops r::k) objs (zaD tm d y) F:=propext ⟨fun h=>h.2 rfl,fun h=>⟨fun e=>absurd e Bool.false_ne_true,fun _=>h⟩⟩
theorem zpc (c x y:SV):run P C (.ops (⟨d,.pick c x y,none⟩::r)::k) objs tm F=kPick P C (c.ev tm) (x.ev tm) (y.ev tm) d r k objs tm F:=Eq.trans rfl rfl
theorem zmi (T:Nat) (z:List AV):run P C (.ops (⟨d,.alloc T z,none⟩::r)::k) objs tm F=run P C (.ops r::k) (objs++[.box T z]) (zaD tm d (.p objs.length 0)) F:=Eq.trans rfl rfl
theorem rn_box (T:Nat) (x:SV):run P C (.ops (⟨d,.box T x,none⟩::r)::k) objs tm F=((x.ev tm).flat=true∧run P C (.ops r::k) (objs++[.box T (x.ev tm).cells]) (zaD tm d (.p objs.length 0)) F):=Eq.trans rfl rfl
theorem zmh (z:List AV) (ps:List (Nat×Nat×SV)):run P C (.ops (⟨d,.build z ps,none⟩::r)::k) objs tm F=kO P C ((zdU z (evp tm ps)).map .agg) d r k objs tm F:=by
 rw[zm6]
 rw[zb4]
 simp only[wpS]
 cases zdU z (ps.map fun p=>(p.1,p.2.1,p.2.2.ev tm))<;>rfl
theorem zjU (n:Nat) (z:List AV) (ps:List (Nat×Nat×SV)):run P C (.ops (⟨d,.bslice n z ps,none⟩::r)::k) objs tm F=kO P C ((zdU z (evp tm ps)).map (.row n)) d r k objs tm F:=by
 rw[zm6]
 rw[zb4]
 simp only[wpS]
 cases zdU z (ps.map fun p=>(p.1,p.2.1,p.2.2.ev tm))<;>rfl
def kLit (P:Program) [Tabs P] (C:Cx) (c:Option (List AV)) (E sz n:Nat) (d:Option Nat) (r:List SO) (k:List IT) (objs:List OB) (tm:List AV) (F:zbu):Prop :=
 match c with
 | some cs=>cs.length=n*sz∧run P C (.ops r::k) (objs++[.orow E sz 0 n cs]) (zaD tm d (.orow objs.length 0)) F
 | none=>False
theorem kLit_s (cs:List AV) (E sz n:Nat):kLit P C (some cs) E sz n d r k objs tm F=(cs.length=n*sz∧run P C (.ops r::k) (objs++[.orow E sz 0 n cs]) (zaD tm d (.orow objs.length 0)) F):=Eq.trans rfl rfl
theorem zpq (E sz n:Nat) (z:List AV) (ps:List (Nat×Nat×SV)):run P C (.ops (⟨d,.bslo E sz n z ps,none⟩::r)::k) objs tm F=kLit P C (zdU z (evp tm ps)) E sz n d r k objs tm F:=by
 rw[zm6]
 rw[zb4]
 simp only[wpS]
 cases zdU z (ps.map fun p=>(p.1,p.2.1,p.2.2.ev tm))<;>rfl
def kLd1o (P:Program) [Tabs P] (C:Cx) (c:Option OB) (gen j:Nat) (d:Option Nat) (r:List SO) (k:List IT) (objs:List OB) (tm:List AV) (F:zbu):Prop :=
 match c with
 | some (.orow _ _ gen' _ xs)=>gen'=gen∧kO P C xs[j]? d r k objs tm F
 | _=>False
def kLd1 (P:Program) [Tabs P] (C:Cx) (v:AV) (d:Option Nat) (r:List SO) (k:List IT) (objs:List OB) (tm:List AV) (F:zbu):Prop :=
 match v with
 | .p b off=>kO P C ((bxs objs[b]?).bind fun cs=>cs[off]?) d r k objs tm F
 | .prow xs j=>kO P C xs[j]? d r k objs tm F
 | .porow b gen j=>kLd1o P C objs[b]? gen j d r k objs tm F
 | _=>False
theorem zqr (E sz gen' n gen j:Nat) (xs:List AV):kLd1o P C (some (.orow E sz gen' n xs)) gen j d r k objs tm F=(gen'=gen∧kO P C xs[j]? d r k objs tm F):=Eq.trans rfl rfl
theorem kLd1_o (b gen j:Nat):kLd1 P C (.porow b gen j) d r k objs tm F=kLd1o P C objs[b]? gen j d r k objs tm F:=Eq.trans rfl rfl
theorem kLd1_p (b off:Nat):kLd1 P C (.p b off) d r k objs tm F=kO P C ((bxs objs[b]?).bind fun cs=>cs[off]?) d r k objs tm F:=Eq.trans rfl rfl
theorem kLd1_r (xs:List AV) (j:Nat):kLd1 P C (.prow xs j) d r k objs tm F=kO P C xs[j]? d r k objs tm F:=Eq.trans rfl rfl
theorem zmc (x:SV):run P C (.ops (⟨d,.load1 x,none⟩::r)::k) objs tm F=kLd1 P C (x.ev tm) d r k objs tm F:=by
 rw[zb4]
 simp only[wpS,kLd1]
 cases x.ev tm<;>try rfl
 case p b off=>
  dsimp only
  generalize objs[b]? = q
  cases q with
  | none=>rfl
  | some ob=>
   cases ob<;>try rfl
   all_goals (dsimp only [bxs,Option.bind];split<;>rfl)
 case prow xs j=>
  dsimp only
  cases hx:xs[j]? with
  | none=>simp[kO]
  | some v=>simp[kO]
 case porow b gen j=>
  dsimp only
  generalize objs[b]? = q
  cases q with
  | none=>rfl
  | some ob=>
   cases ob<;>try rfl
   rename_i xs
   dsimp only [kLd1o]
   cases hx:xs[j]? with
   | none=>simp[kO]
   | some v=>simp[kO]
def kLdn (P:Program) [Tabs P] (C:Cx) (c:Option (List AV)) (off sz:Nat) (d:Option Nat) (r:List SO) (k:List IT) (objs:List OB) (tm:List AV) (F:zbu):Prop :=
 match c with
 | some cs=>off+sz≤cs.length∧run P C (.ops r::k) objs (zaD tm d (.agg ((cs.drop off).take sz))) F
 | none=>False
def kLdno (P:Program) [Tabs P] (C:Cx) (c:Option OB) (gen j sz:Nat) (d:Option Nat) (r:List SO) (k:List IT) (objs:List OB) (tm:List AV) (F:zbu):Prop :=
 match c with
 | some (.orow _ _ gen' _ xs)=>(gen'=gen∧j+sz≤xs.length)∧run P C (.ops r::k) objs (zaD tm d (.agg ((xs.drop j).take sz))) F
 | _=>False
def kLdv (P:Program) [Tabs P] (C:Cx) (v:AV) (sz:Nat) (d:Option Nat) (r:List SO) (k:List IT) (objs:List OB) (tm:List AV) (F:zbu):Prop :=
 match v with
 | .p b off=>kLdn P C (bxs objs[b]?) off sz d r k objs tm F
 | .prow xs j=>kLdn P C (some xs) j sz d r k objs tm F
 | .porow b gen j=>kLdno P C objs[b]? gen j sz d r k objs tm F
 | _=>False
theorem zqq (E s gen' n gen j sz:Nat) (xs:List AV):kLdno P C (some (.orow E s gen' n xs)) gen j sz d r k objs tm F=((gen'=gen∧j+sz≤xs.length)∧run P C (.ops r::k) objs (zaD tm d (.agg ((xs.drop j).take sz))) F):=Eq.trans rfl rfl
theorem kLdv_o (b gen j sz:Nat):kLdv P C (.porow b gen j) sz d r k objs tm F=kLdno P C objs[b]? gen j sz d r k objs tm F:=Eq.trans rfl rfl
theorem kLdn_s (cs:List AV) (off sz:Nat):kLdn P C (some cs) off sz d r k objs tm F=(off+sz≤cs.length∧run P C (.ops r::k) objs (zaD tm d (.agg ((cs.drop off).take sz))) F):=Eq.trans rfl rfl
theorem kLdv_p (b off sz:Nat):kLdv P C (.p b off) sz d r k objs tm F=kLdn P C (bxs objs[b]?) off sz d r k objs tm F:=Eq.trans rfl rfl
theorem kLdv_r (xs:List AV) (j sz:Nat):kLdv P C (.prow xs j) sz d r k objs tm F=kLdn P C (some xs) j sz d r k objs tm F:=Eq.trans rfl rfl
theorem zmb (sz:Nat) (x:SV):run P C (.ops (⟨d,.loadn sz x,none⟩::r)::k) objs tm F=kLdv P C (x.ev tm) sz d r k objs tm F:=by
 rw[zb4]
 simp only[wpS,kLdv]
 cases x.ev tm<;>try rfl
 try (case p b off=>
  dsimp only
  generalize objs[b]? = q
  cases q with
  | none=>rfl
  | some ob=>cases ob<;>rfl)
 try (case porow b gen j=>
  dsimp only
  generalize objs[b]? = q
  cases q with
  | none=>rfl
  | some ob=>cases ob<;>rfl)
def kSt2 (P:Program) [Tabs P] (C:Cx) (c:Option OB) (b off sz:Nat) (v:AV) (d:Option Nat) (r:List SO) (k:List IT) (objs:List OB) (tm:List AV) (F:zbu):Prop :=
 match c with
 | some (.box T cs)=>(v.flat=true∧v.cells.length=sz∧off+sz≤cs.length)∧run P C (.ops r::k) (objs.set b (.box T (zbE cs off v.cells))) (zaD tm d .u) F
 | _=>False
def kSt3 (P:Program) [Tabs P] (C:Cx) (c:Option OB) (b gen j sz:Nat) (v:AV) (d:Option Nat) (r:List SO) (k:List IT) (objs:List OB) (tm:List AV) (F:zbu):Prop :=
 match c with
 | some (.orow E s gen' n xs)=>(gen'=gen∧v.flat=true∧v.cells.length=sz∧j+sz≤xs.length)∧run P C (.ops r::k) (objs.set b (.orow E s gen' n (zbE xs j v.cells))) (zaD tm d .u) F
 | _=>False
def kSt (P:Program) [Tabs P] (C:Cx) (p v:AV) (sz:Nat) (d:Option Nat) (r:List SO) (k:List IT) (objs:List OB) (tm:List AV) (F:zbu):Prop :=
 match p with
 | .p b off=>kSt2 P C objs[b]? b off sz v d r k objs tm F
 | .porow b gen j=>kSt3 P C objs[b]? b gen j sz v d r k objs tm F
 | _=>False
theorem kSt3_o (E s gen' n:Nat) (xs:List AV) (b gen j sz:Nat) (v:AV):kSt3 P C (some (.orow E s gen' n xs)) b gen j sz v d r k objs tm F=((gen'=gen∧v.flat=true∧v.cells.length=sz∧j+sz≤xs.length)∧run P C (.ops r::k) (objs.set b (.orow E s gen' n (zbE xs j v.cells))) (zaD tm d .u) F):=Eq.trans rfl rfl
theorem kSt_o (b gen j sz:Nat) (v:AV):kSt P C (.porow b gen j) v sz d r k objs tm F=kSt3 P C objs[b]? b gen j sz v d r k objs tm F:=Eq.trans rfl rfl
theorem kSt2_b (T:TypeId) (cs:List AV) (b off sz:Nat) (v:AV):kSt2 P C (some (.box T cs)) b off sz v d r k objs tm F=((v.flat=true∧v.cells.length=sz∧off+sz≤cs.length)∧run P C (.ops r::k) (objs.set b (.box T (zbE cs off v.cells))) (zaD tm d .u) F):=Eq.trans rfl rfl
theorem kSt_p (b off sz:Nat) (v:AV):kSt P C (.p b off) v sz d r k objs tm F=kSt2 P C objs[b]? b off sz v d r k objs tm F:=Eq.trans rfl rfl
theorem zl9 (sz:Nat) (x y:SV):run P C (.ops (⟨d,.store sz x y,none⟩::r)::k) objs tm F=kSt P C (x.ev tm) (y.ev tm) sz d r k objs tm F:=by
 rw[zb4]
 simp only[wpS,kSt]
 cases x.ev tm<;>try rfl
 try (case p b off=>
  dsimp only
  generalize objs[b]? = q
  cases q with
  | none=>rfl
  | some ob=>cases ob<;>rfl)
 try (case porow b gen j=>
  dsimp only
  generalize objs[b]? = q
  cases q with
  | none=>rfl
  | some ob=>cases ob<;>rfl)
def kNck (P:Program) [Tabs P] (C:Cx) (v:AV)  (d:Option Nat) (r:List SO) (k:List IT) (objs:List OB) (tm:List AV) (F:zbu):Prop :=
 match v with
 | .p b o=>run P C (.ops r::k) objs (zaD tm d (.p b o)) F
 | .prow xs j=>run P C (.ops r::k) objs (zaD tm d (.prow xs j)) F
 | .fn f fs cs=>run P C (.ops r::k) objs (zaD tm d (.fn f fs cs)) F
 | .porow b gen j=>run P C (.ops r::k) objs (zaD tm d (.porow b gen j)) F
 | _=>False
theorem kNck_0 (b o:Nat) :kNck P C (.p b o)  d r k objs tm F=(run P C (.ops r::k) objs (zaD tm d (.p b o)) F):=Eq.trans rfl rfl
theorem kNck_1 (xs:List AV) (j:Nat) :kNck P C (.prow xs j)  d r k objs tm F=(run P C (.ops r::k) objs (zaD tm d (.prow xs j)) F):=Eq.trans rfl rfl
theorem kNck_2 (f:Nat) (fs cs:List AV) :kNck P C (.fn f fs cs)  d r k objs tm F=(run P C (.ops r::k) objs (zaD tm d (.fn f fs cs)) F):=Eq.trans rfl rfl
theorem kNck_3 (b gen j:Nat) :kNck P C (.porow b gen j)  d r k objs tm F=(run P C (.ops r::k) objs (zaD tm d (.porow b gen j)) F):=Eq.trans rfl rfl
theorem rn_nck (x:SV):run P C (.ops (⟨d,.nck x,none⟩::r)::k) objs tm F=kNck P C (x.ev tm)  d r k objs tm F:=by
 rw[zb4]
 simp only[wpS,kNck]
 cases (x.ev tm)<;>rfl
def kNot (P:Program) [Tabs P] (C:Cx) (v:AV)  (d:Option Nat) (r:List SO) (k:List IT) (objs:List OB) (tm:List AV) (F:zbu):Prop :=
 match v with
 | .b t=>run P C (.ops r::k) objs (zaD tm d (.b (!t))) F
 | _=>False
theorem kNot_0 (t:Bool) :kNot P C (.b t)  d r k objs tm F=(run P C (.ops r::k) objs (zaD tm d (.b (!t))) F):=Eq.trans rfl rfl
theorem rn_not (x:SV):run P C (.ops (⟨d,.not x,none⟩::r)::k) objs tm F=kNot P C (x.ev tm)  d r k objs tm F:=by
 rw[zb4]
 simp only[wpS,kNot]
 cases (x.ev tm)<;>rfl
def kAr (P:Program) [Tabs P] (C:Cx) (q:IntKind) (z:Int) (d:Option Nat) (r:List SO) (k:List IT) (objs:List OB) (tm:List AV) (F:zbu):Prop:=arK q z fun z=>run P C (.ops r::k) objs (zaD tm d (.i q z)) F
theorem zqC (z:Int):kAr P C .i64 z d r k objs tm F=((-9223372036854775808≤z∧z≤9223372036854775807)∧run P C (.ops r::k) objs (zaD tm d (.i .i64 z)) F):=Eq.trans rfl rfl
theorem kAr_i8 (z:Int):kAr P C .i8 z d r k objs tm F=run P C (.ops r::k) objs (zaD tm d (.i .i8 (IntKind.wrap .i8 z))) F:=Eq.trans rfl rfl
theorem zqE (z:Int):kAr P C .i16 z d r k objs tm F=run P C (.ops r::k) objs (zaD tm d (.i .i16 (IntKind.wrap .i16 z))) F:=Eq.trans rfl rfl
theorem zqD (z:Int):kAr P C .i32 z d r k objs tm F=run P C (.ops r::k) objs (zaD tm d (.i .i32 (IntKind.wrap .i32 z))) F:=Eq.trans rfl rfl
theorem kAr_u8 (z:Int):kAr P C .u8 z d r k objs tm F=run P C (.ops r::k) objs (zaD tm d (.i .u8 (IntKind.wrap .u8 z))) F:=Eq.trans rfl rfl
theorem zqB (z:Int):kAr P C .u16 z d r k objs tm F=run P C (.ops r::k) objs (zaD tm d (.i .u16 (IntKind.wrap .u16 z))) F:=Eq.trans rfl rfl
theorem zqA (z:Int):kAr P C .u32 z d r k objs tm F=run P C (.ops r::k) objs (zaD tm d (.i .u32 (IntKind.wrap .u32 z))) F:=Eq.trans rfl rfl
theorem zqz (z:Int):kAr P C .u64 z d r k objs tm F=run P C (.ops r::k) objs (zaD tm d (.i .u64 (IntKind.wrap .u64 z))) F:=Eq.trans rfl rfl
def kNeg (P:Program) [Tabs P] (C:Cx) (v:AV)  (d:Option Nat) (r:List SO) (k:List IT) (objs:List OB) (tm:List AV) (F:zbu):Prop :=
 match v with
 | .i q n=>kAr P C q (0 - n) d r k objs tm F
 | _=>False
theorem kNeg_0 (q:IntKind) (n:Int) :kNeg P C (.i q n)  d r k objs tm F=(kAr P C q (0 - n) d r k objs tm F):=Eq.trans rfl rfl
theorem rn_neg (x:SV):run P C (.ops (⟨d,.neg x,none⟩::r)::k) objs tm F=kNeg P C (x.ev tm)  d r k objs tm F:=by
 rw[zb4]
 simp only[wpS,kNeg,kAr]
 cases x.ev tm<;>rfl
def kCvi (P:Program) [Tabs P] (C:Cx) (v:AV) (q:IntKind) (d:Option Nat) (r:List SO) (k:List IT) (objs:List OB) (tm:List AV) (F:zbu):Prop :=
 match v with
 | .i kk n=>run P C (.ops r::k) objs (zaD tm d (.i q (q.wrap n))) F
 | _=>False
theorem kCvi_0 (kk:IntKind) (n:Int) (q:IntKind):kCvi P C (.i kk n) q d r k objs tm F=(run P C (.ops r::k) objs (zaD tm d (.i q (q.wrap n))) F):=Eq.trans rfl rfl
theorem rn_cvi (q:IntKind) (x:SV):run P C (.ops (⟨d,.cvi q x,none⟩::r)::k) objs tm F=kCvi P C (x.ev tm) q d r k objs tm F:=by
 rw[zb4]
 simp only[wpS,kCvi]
 cases (x.ev tm)<;>rfl
def kCvs (P:Program) [Tabs P] (C:Cx) (v:AV)  (d:Option Nat) (r:List SO) (k:List IT) (objs:List OB) (tm:List AV) (F:zbu):Prop :=
 match v with
 | .s l=>run P C (.ops r::k) objs (zaD tm d (.s l)) F
 | _=>False
theorem kCvs_0 (l:List UInt8) :kCvs P C (.s l)  d r k objs tm F=(run P C (.ops r::k) objs (zaD tm d (.s l)) F):=Eq.trans rfl rfl
theorem rn_cvs (x:SV):run P C (.ops (⟨d,.cvs x,none⟩::r)::k) objs tm F=kCvs P C (x.ev tm)  d r k objs tm F:=by
 rw[zb4]
 simp only[wpS,kCvs]
 cases (x.ev tm)<;>rfl
def kLens (P:Program) [Tabs P] (C:Cx) (v:AV)  (d:Option Nat) (r:List SO) (k:List IT) (objs:List OB) (tm:List AV) (F:zbu):Prop :=
 match v with
 | .s l=>run P C (.ops r::k) objs (zaD tm d (.i .i64 l.length)) F
 | _=>False
theorem zql (l:List UInt8) :kLens P C (.s l)  d r k objs tm F=(run P C (.ops r::k) objs (zaD tm d (.i .i64 l.length)) F):=Eq.trans rfl rfl
theorem zpf (x:SV):run P C (.ops (⟨d,.lens x,none⟩::r)::k) objs tm F=kLens P C (x.ev tm)  d r k objs tm F:=by
 rw[zb4]
 simp only[wpS,kLens]
 cases (x.ev tm)<;>rfl
def kFldn (P:Program) [Tabs P] (C:Cx) (v:AV) (off sz:Nat) (d:Option Nat) (r:List SO) (k:List IT) (objs:List OB) (tm:List AV) (F:zbu):Prop :=
 match v with
 | .agg cs=>run P C (.ops r::k) objs (zaD tm d (.agg ((cs.drop off).take sz))) F
 | _=>False
theorem zqv (cs:List AV) (off sz:Nat):kFldn P C (.agg cs) off sz d r k objs tm F=(run P C (.ops r::k) objs (zaD tm d (.agg ((cs.drop off).take sz))) F):=Eq.trans rfl rfl
theorem zpj (off sz:Nat) (x:SV):run P C (.ops (⟨d,.fldn off sz x,none⟩::r)::k) objs tm F=kFldn P C (x.ev tm) off sz d r k objs tm F:=by
 rw[zb4]
 simp only[wpS,kFldn]
 cases (x.ev tm)<;>rfl
def kFad (P:Program) [Tabs P] (C:Cx) (v:AV) (off:Nat) (d:Option Nat) (r:List SO) (k:List IT) (objs:List OB) (tm:List AV) (F:zbu):Prop :=
 match v with
 | .p b o=>run P C (.ops r::k) objs (zaD tm d (.p b (o+off))) F
 | .prow xs j=>run P C (.ops r::k) objs (zaD tm d (.prow xs (j+off))) F
 | .porow b gen j=>run P C (.ops r::k) objs (zaD tm d (.porow b gen (j+off))) F
 | _=>False
theorem kFad_0 (b o:Nat) (off:Nat):kFad P C (.p b o) off d r k objs tm F=(run P C (.ops r::k) objs (zaD tm d (.p b (o+off))) F):=Eq.trans rfl rfl
theorem kFad_1 (xs:List AV) (j:Nat) (off:Nat):kFad P C (.prow xs j) off d r k objs tm F=(run P C (.ops r::k) objs (zaD tm d (.prow xs (j+off))) F):=Eq.trans rfl rfl
theorem kFad_2 (b gen j:Nat) (off:Nat):kFad P C (.porow b gen j) off d r k objs tm F=(run P C (.ops r::k) objs (zaD tm d (.porow b gen (j+off))) F):=Eq.trans rfl rfl
theorem rn_fad (off:Nat) (x:SV):run P C (.ops (⟨d,.fad off x,none⟩::r)::k) objs tm F=kFad P C (x.ev tm) off d r k objs tm F:=by
 rw[zb4]
 simp only[wpS,kFad]
 cases (x.ev tm)<;>rfl
def kFld1 (P:Program) [Tabs P] (C:Cx) (v:AV) (off:Nat) (d:Option Nat) (r:List SO) (k:List IT) (objs:List OB) (tm:List AV) (F:zbu):Prop :=
 match v with
 | .agg cs=>kO P C cs[off]? d r k objs tm F
 | _=>False
theorem zqw (cs:List AV) (off:Nat):kFld1 P C (.agg cs) off d r k objs tm F=(kO P C cs[off]? d r k objs tm F):=Eq.trans rfl rfl
theorem zpk (off:Nat) (x:SV):run P C (.ops (⟨d,.fld1 off x,none⟩::r)::k) objs tm F=kFld1 P C (x.ev tm) off d r k objs tm F:=by
 rw[zb4]
 simp only[wpS,kFld1]
 cases x.ev tm<;>try rfl
 try (case agg cs=>dsimp only;cases cs[off]?<;>rfl)
def kExt (P:Program) [Tabs P] (C:Cx) (v:AV) (j:Nat) (d:Option Nat) (r:List SO) (k:List IT) (objs:List OB) (tm:List AV) (F:zbu):Prop :=
 match v with
 | .tup cs=>kO P C cs[j]? d r k objs tm F
 | _=>False
theorem kExt_0 (cs:List AV) (j:Nat):kExt P C (.tup cs) j d r k objs tm F=(kO P C cs[j]? d r k objs tm F):=Eq.trans rfl rfl
theorem rn_ext (x:SV) (j:Nat):run P C (.ops (⟨d,.ext x j,none⟩::r)::k) objs tm F=kExt P C (x.ev tm) j d r k objs tm F:=by
 rw[zb4]
 simp only[wpS,kExt]
 cases x.ev tm<;>try rfl
 try (case tup cs=>dsimp only;cases cs[j]?<;>rfl)
def kLr2 (P:Program) [Tabs P] (C:Cx) (c:Option OB) (gen:Nat) (d:Option Nat) (r:List SO) (k:List IT) (objs:List OB) (tm:List AV) (F:zbu):Prop :=
 match c with
 | some (.orow _ _ gen' n _)=>gen'=gen∧run P C (.ops r::k) objs (zaD tm d (.i .i64 n)) F
 | _=>False
theorem kLr2_o (E sz gen' n gen:Nat) (xs:List AV):kLr2 P C (some (.orow E sz gen' n xs)) gen d r k objs tm F=(gen'=gen∧run P C (.ops r::k) objs (zaD tm d (.i .i64 n)) F):=Eq.trans rfl rfl
def zoi (P:Program) [Tabs P] (C:Cx) (v:AV)  (d:Option Nat) (r:List SO) (k:List IT) (objs:List OB) (tm:List AV) (F:zbu):Prop :=
 match v with
 | .row n xs=>run P C (.ops r::k) objs (zaD tm d (.i .i64 n)) F
 | .nil=>run P C (.ops r::k) objs (zaD tm d (.i .i64 0)) F
 | .orow b gen=>kLr2 P C objs[b]? gen d r k objs tm F
 | .zn z=>run P C (.ops r::k) objs (zaD tm d (.i .i64 0)) F
 | _=>False
theorem zqp (n:Nat) (xs:List AV) :zoi P C (.row n xs)  d r k objs tm F=(run P C (.ops r::k) objs (zaD tm d (.i .i64 n)) F):=Eq.trans rfl rfl
theorem zqo  :zoi P C (.nil)  d r k objs tm F=(run P C (.ops r::k) objs (zaD tm d (.i .i64 0)) F):=Eq.trans rfl rfl
theorem zqn (b gen:Nat) :zoi P C (.orow b gen)  d r k objs tm F=(kLr2 P C objs[b]? gen d r k objs tm F):=Eq.trans rfl rfl
theorem zqm (z:Bool) :zoi P C (.zn z)  d r k objs tm F=(run P C (.ops r::k) objs (zaD tm d (.i .i64 0)) F):=Eq.trans rfl rfl
theorem zpg (x:SV):run P C (.ops (⟨d,.lenr x,none⟩::r)::k) objs tm F=zoi P C (x.ev tm)  d r k objs tm F:=by
 rw[zb4]
 simp only[wpS,zoi]
 cases x.ev tm<;>try rfl
 try (case orow b gen=>
  dsimp only
  generalize objs[b]? = q
  cases q with
  | none=>rfl
  | some ob=>cases ob<;>rfl)
def kBeq (P:Program) [Tabs P] (C:Cx) (ne:Bool) (x y:AV) (d:Option Nat) (r:List SO) (k:List IT) (objs:List OB) (tm:List AV) (F:zbu):Prop :=
 match x,y with
 | .b l,.b m=>run P C (.ops r::k) objs (zaD tm d (.b (if ne then !(l==m) else (l==m)))) F
 | _,_=>False
def kEq (P:Program) [Tabs P] (C:Cx) (ne:Bool) (x:Option Bool) (d:Option Nat) (r:List SO) (k:List IT) (objs:List OB) (tm:List AV) (F:zbu):Prop :=
 match x with
 | some q=>run P C (.ops r::k) objs (zaD tm d (.b (if ne then !q else q))) F
 | none=>False
def kEqs (P:Program) [Tabs P] (C:Cx) (ne:Bool) (e:ET) (x y:AV) (d:Option Nat) (r:List SO) (k:List IT) (objs:List OB) (tm:List AV) (F:zbu):Prop :=
 match x,y with
 | .agg xs,.agg ys=>kEq P C ne (eqA e (.agg xs) (.agg ys)) d r k objs tm F
 | _,_=>False
theorem zko (l m:Bool):kBeq P C true (.b l) (.b m) d r k objs tm F=run P C (.ops r::k) objs (zaD tm d (.b (!(l==m)))) F:=Eq.trans rfl rfl
theorem zmE (q:Bool):kEq P C true (some q) d r k objs tm F=run P C (.ops r::k) objs (zaD tm d (.b (!q))) F:=Eq.trans rfl rfl
theorem ziq (l m:Bool):kBeq P C false (.b l) (.b m) d r k objs tm F=run P C (.ops r::k) objs (zaD tm d (.b (l==m))) F:=Eq.trans rfl rfl
theorem zkn (q:Bool):kEq P C false (some q) d r k objs tm F=run P C (.ops r::k) objs (zaD tm d (.b q)) F:=Eq.trans rfl rfl
theorem kEqs_a (ne:Bool) (e:ET) (xs ys:List AV):kEqs P C ne e (.agg xs) (.agg ys) d r k objs tm F=kEq P C ne (eqA e (.agg xs) (.agg ys)) d r k objs tm F:=Eq.trans rfl rfl
theorem rn_beq (ne:Bool) (x y:SV):run P C (.ops (⟨d,.beq ne x y,none⟩::r)::k) objs tm F=kBeq P C ne (x.ev tm) (y.ev tm) d r k objs tm F:=by
 rw[zb4]
 simp only[wpS,kBeq]
 cases x.ev tm<;>try rfl
 try (cases y.ev tm<;>rfl)
theorem rn_eqs (ne:Bool) (e:ET) (x y:SV):run P C (.ops (⟨d,.eqs ne e x y,none⟩::r)::k) objs tm F=kEqs P C ne e (x.ev tm) (y.ev tm) d r k objs tm F:=by
 rw[zb4]
 simp only[wpS,kEqs]
 cases x.ev tm<;>try rfl
 try (cases y.ev tm<;>try rfl)
 try (simp only[kEq];cases eqA e _ _<;>rfl)
def kIado (P:Program) [Tabs P] (C:Cx) (c:Option OB) (b gen:Nat) (i:Int) (sz:Nat) (d:Option Nat) (r:List SO) (k:List IT) (objs:List OB) (tm:List AV) (F:zbu):Prop :=
 match c with
 | some (.orow _ s gen' n _)=>(gen'=gen∧s=sz∧0≤i∧i<n)∧run P C (.ops r::k) objs (zaD tm d (.porow b gen (i.toNat*sz))) F
 | _=>False
theorem zqt (E s gen' n:Nat) (xs:List AV) (b gen:Nat) (i:Int) (sz:Nat):kIado P C (some (.orow E s gen' n xs)) b gen i sz d r k objs tm F=((gen'=gen∧s=sz∧0≤i∧i<n)∧run P C (.ops r::k) objs (zaD tm d (.porow b gen (i.toNat*sz))) F):=Eq.trans rfl rfl
def kIad (P:Program) [Tabs P] (C:Cx) (x y:AV) (sz:Nat) (d:Option Nat) (r:List SO) (k:List IT) (objs:List OB) (tm:List AV) (F:zbu):Prop :=
 match x,y with
 | .row n xs,.i kk i=>(0≤i∧i<n∧n*sz≤xs.length)∧run P C (.ops r::k) objs (zaD tm d (.prow xs (i.toNat*sz))) F
 | .orow b gen,.i kk i=>kIado P C objs[b]? b gen i sz d r k objs tm F
 | _,_=>False
theorem kIad_0 (n:Nat) (xs:List AV) (kk:IntKind) (i:Int) (sz:Nat):kIad P C (.row n xs) (.i kk i) sz d r k objs tm F=((0≤i∧i<n∧n*sz≤xs.length)∧run P C (.ops r::k) objs (zaD tm d (.prow xs (i.toNat*sz))) F):=Eq.trans rfl rfl
theorem kIad_1 (b gen:Nat) (kk:IntKind) (i:Int) (sz:Nat):kIad P C (.orow b gen) (.i kk i) sz d r k objs tm F=(kIado P C objs[b]? b gen i sz d r k objs tm F):=Eq.trans rfl rfl
theorem rn_iad (sz:Nat) (x y:SV):run P C (.ops (⟨d,.iad sz x y,none⟩::r)::k) objs tm F=kIad P C (x.ev tm) (y.ev tm) sz d r k objs tm F:=by
 rw[zb4]
 simp only[wpS,kIad]
 cases x.ev tm<;>try rfl
 all_goals try (cases y.ev tm<;>try rfl)
 all_goals (
  dsimp only
  rename_i b gen _ _
  generalize objs[b]? = q
  cases q with
  | none=>rfl
  | some ob=>cases ob<;>rfl)
def kIadr (P:Program) [Tabs P] (C:Cx) (x y:AV) (sz:Nat) (d:Option Nat) (r:List SO) (k:List IT) (objs:List OB) (tm:List AV) (F:zbu):Prop :=
 match x,y with
 | .row n xs,.i kk i=>(0≤i∧i<n∧n*sz≤xs.length)∧run P C (.ops r::k) objs (zaD tm d (.prow xs (i.toNat*sz))) F
 | _,_=>False
theorem zqs (n:Nat) (xs:List AV) (kk:IntKind) (i:Int) (sz:Nat):kIadr P C (.row n xs) (.i kk i) sz d r k objs tm F=((0≤i∧i<n∧n*sz≤xs.length)∧run P C (.ops r::k) objs (zaD tm d (.prow xs (i.toNat*sz))) F):=Eq.trans rfl rfl
theorem zph (sz:Nat) (x y:SV):run P C (.ops (⟨d,.iadr sz x y,none⟩::r)::k) objs tm F=kIadr P C (x.ev tm) (y.ev tm) sz d r k objs tm F:=by
 rw[zb4]
 simp only[wpS,kIadr]
 cases x.ev tm<;>try rfl
 try (cases y.ev tm<;>rfl)
def kIada (P:Program) [Tabs P] (C:Cx) (x y:AV) (sz len:Nat) (d:Option Nat) (r:List SO) (k:List IT) (objs:List OB) (tm:List AV) (F:zbu):Prop :=
 match x,y with
 | .p b off,.i kk i=>(0≤i∧i<len)∧run P C (.ops r::k) objs (zaD tm d (.p b (off+i.toNat*sz))) F
 | _,_=>False
theorem zqu (b off:Nat) (kk:IntKind) (i:Int) (sz len:Nat):kIada P C (.p b off) (.i kk i) sz len d r k objs tm F=((0≤i∧i<len)∧run P C (.ops r::k) objs (zaD tm d (.p b (off+i.toNat*sz))) F):=Eq.trans rfl rfl
theorem zpi (sz len:Nat) (x y:SV):run P C (.ops (⟨d,.iada sz len x y,none⟩::r)::k) objs tm F=kIada P C (x.ev tm) (y.ev tm) sz len d r k objs tm F:=by
 rw[zb4]
 simp only[wpS,kIada]
 cases x.ev tm<;>try rfl
 try (cases y.ev tm<;>rfl)
def kIdx (P:Program) [Tabs P] (C:Cx) (x y:AV)  (d:Option Nat) (r:List SO) (k:List IT) (objs:List OB) (tm:List AV) (F:zbu):Prop :=
 match x,y with
 | .s l,.i kk i=>(0≤i∧i<l.length)∧run P C (.ops r::k) objs (zaD tm d (.i .u8 ((l.getD i.toNat 0).toNat:Int))) F
 | _,_=>False
theorem kIdx_0 (l:List UInt8) (kk:IntKind) (i:Int) :kIdx P C (.s l) (.i kk i)  d r k objs tm F=((0≤i∧i<l.length)∧run P C (.ops r::k) objs (zaD tm d (.i .u8 ((l.getD i.toNat 0).toNat:Int))) F):=Eq.trans rfl rfl
theorem rn_idx (x y:SV):run P C (.ops (⟨d,.idx x y,none⟩::r)::k) objs tm F=kIdx P C (x.ev tm) (y.ev tm)  d r k objs tm F:=by
 rw[zb4]
 simp only[wpS,kIdx]
 cases x.ev tm<;>try rfl
 try (cases y.ev tm<;>rfl)
def kTrno (P:Program) [Tabs P] (C:Cx) (c:Option OB) (b gen:Nat) (i:Int) (sz:Nat) (d:Option Nat) (r:List SO) (k:List IT) (objs:List OB) (tm:List AV) (F:zbu):Prop :=
 match c with
 | some (.orow E s gen' n xs)=>(gen'=gen∧s=sz∧0≤i∧i≤n)∧run P C (.ops r::k) (objs.set b (.orow E s (gen+1) i.toNat (xs.take (i.toNat*s)))) (zaD tm d (.orow b (gen+1))) F
 | _=>False
theorem zqg (E s gen' n:Nat) (xs:List AV) (b gen:Nat) (i:Int) (sz:Nat):kTrno P C (some (.orow E s gen' n xs)) b gen i sz d r k objs tm F=((gen'=gen∧s=sz∧0≤i∧i≤n)∧run P C (.ops r::k) (objs.set b (.orow E s (gen+1) i.toNat (xs.take (i.toNat*s)))) (zaD tm d (.orow b (gen+1))) F):=Eq.trans rfl rfl
def kTrn (P:Program) [Tabs P] (C:Cx) (x y:AV) (sz:Nat) (d:Option Nat) (r:List SO) (k:List IT) (objs:List OB) (tm:List AV) (F:zbu):Prop :=
 match x,y with
 | .row n xs,.i kk i=>(0≤i∧i≤n)∧run P C (.ops r::k) objs (zaD tm d (.row i.toNat (xs.take (i.toNat*sz)))) F
 | .nil,.i kk i=>i=0∧run P C (.ops r::k) objs (zaD tm d .nil) F
 | .orow b gen,.i kk i=>kTrno P C objs[b]? b gen i sz d r k objs tm F
 | _,_=>False
theorem kTrn_0 (n:Nat) (xs:List AV) (kk:IntKind) (i:Int) (sz:Nat):kTrn P C (.row n xs) (.i kk i) sz d r k objs tm F=((0≤i∧i≤n)∧run P C (.ops r::k) objs (zaD tm d (.row i.toNat (xs.take (i.toNat*sz)))) F):=Eq.trans rfl rfl
theorem kTrn_1 (kk:IntKind) (i:Int) (sz:Nat):kTrn P C (.nil) (.i kk i) sz d r k objs tm F=(i=0∧run P C (.ops r::k) objs (zaD tm d .nil) F):=Eq.trans rfl rfl
theorem kTrn_2 (b gen:Nat) (kk:IntKind) (i:Int) (sz:Nat):kTrn P C (.orow b gen) (.i kk i) sz d r k objs tm F=(kTrno P C objs[b]? b gen i sz d r k objs tm F):=Eq.trans rfl rfl
theorem rn_trn (sz:Nat) (x y:SV):run P C (.ops (⟨d,.trn sz x y,none⟩::r)::k) objs tm F=kTrn P C (x.ev tm) (y.ev tm) sz d r k objs tm F:=by
 rw[zb4]
 simp only[wpS,kTrn]
 cases x.ev tm<;>try rfl
 all_goals try (cases y.ev tm<;>try rfl)
 all_goals (
  dsimp only
  rename_i b gen _ _
  generalize objs[b]? = q
  cases q with
  | none=>rfl
  | some ob=>cases ob<;>rfl)
def kMks (P:Program) [Tabs P] (C:Cx) (x y:AV) (E sz by':Nat) (d:Option Nat) (r:List SO) (k:List IT) (objs:List OB) (tm:List AV) (F:zbu):Prop :=
 match x,y with
 | .i k1 l,.i k2 c=>(l=0∧0≤c∧(by':Int)*c≤281474976710656∧c≤140737488351232+4096)∧run P C (.ops r::k) (objs++[.orow E sz 0 0 []]) (zaD tm d (.orow objs.length 0)) F
 | _,_=>False
theorem kMks_0 (k1:IntKind) (l:Int) (k2:IntKind) (c:Int) (E sz by':Nat):kMks P C (.i k1 l) (.i k2 c) E sz by' d r k objs tm F=((l=0∧0≤c∧(by':Int)*c≤281474976710656∧c≤140737488351232+4096)∧run P C (.ops r::k) (objs++[.orow E sz 0 0 []]) (zaD tm d (.orow objs.length 0)) F):=Eq.trans rfl rfl
theorem rn_mks (E sz by':Nat) (x y:SV):run P C (.ops (⟨d,.mks E sz by' x y,none⟩::r)::k) objs tm F=kMks P C (x.ev tm) (y.ev tm) E sz by' d r k objs tm F:=by
 rw[zb4]
 simp only[wpS,kMks,show (140737488351232+4096:Int)=140737488355328 from rfl]
 cases x.ev tm<;>try rfl
 try (cases y.ev tm<;>rfl)
def zlq (P:Program) [Tabs P] (C:Cx) (op:BinOp) (x y:AV) (d:Option Nat) (r:List SO) (k:List IT) (objs:List OB) (tm:List AV) (F:zbu):Prop:=binK op x y fun v=>run P C (.ops r::k) objs (zaD tm d v) F
theorem rn_bin (q:BinOp) (x y:SV):run P C (.ops (⟨d,.bin q x y,none⟩::r)::k) objs tm F=zlq P C q (x.ev tm) (y.ev tm) d r k objs tm F:=Eq.trans rfl rfl
theorem zmS (q:IntKind) (m n:Int):zlq P C .add (.i q m) (.i q n) d r k objs tm F=kAr P C q (m+n) d r k objs tm F:=propext ⟨fun h=>h.2,fun h=>⟨rfl,h⟩⟩
theorem zmF (q:IntKind) (m n:Int):zlq P C .sub (.i q m) (.i q n) d r k objs tm F=kAr P C q (m - n) d r k objs tm F:=propext ⟨fun h=>h.2,fun h=>⟨rfl,h⟩⟩
theorem zmL (q:IntKind) (m n:Int):zlq P C .mul (.i q m) (.i q n) d r k objs tm F=kAr P C q (m*n) d r k objs tm F:=propext ⟨fun h=>h.2,fun h=>⟨rfl,h⟩⟩
theorem zmJ (q:IntKind) (m n:Int):zlq P C .quo (.i q m) (.i q n) d r k objs tm F=(n≠0∧kAr P C q (m.tdiv n) d r k objs tm F):=propext ⟨fun h=>h.2,fun h=>⟨rfl,h⟩⟩
theorem zmI (q:IntKind) (m n:Int):zlq P C .rem (.i q m) (.i q n) d r k objs tm F=(n≠0∧run P C (.ops r::k) objs (zaD tm d (.i q (m.tmod n))) F):=propext ⟨fun h=>h.2,fun h=>⟨rfl,h⟩⟩
theorem zmQ (q:IntKind) (m n:Int):zlq P C .eql (.i q m) (.i q n) d r k objs tm F=run P C (.ops r::k) objs (zaD tm d (.b (decide (m=n)))) F:=propext ⟨fun h=>h.2,fun h=>⟨rfl,h⟩⟩
theorem zmK (q:IntKind) (m n:Int):zlq P C .neq (.i q m) (.i q n) d r k objs tm F=run P C (.ops r::k) objs (zaD tm d (.b (decide (¬m=n)))) F:=propext ⟨fun h=>h.2,fun h=>⟨rfl,h⟩⟩
theorem zmM (q:IntKind) (m n:Int):zlq P C .lss (.i q m) (.i q n) d r k objs tm F=run P C (.ops r::k) objs (zaD tm d (.b (decide (m<n)))) F:=propext ⟨fun h=>h.2,fun h=>⟨rfl,h⟩⟩
theorem zmN (q:IntKind) (m n:Int):zlq P C .leq (.i q m) (.i q n) d r k objs tm F=run P C (.ops r::k) objs (zaD tm d (.b (decide (m≤n)))) F:=propext ⟨fun h=>h.2,fun h=>⟨rfl,h⟩⟩
theorem zmO (q:IntKind) (m n:Int):zlq P C .gtr (.i q m) (.i q n) d r k objs tm F=run P C (.ops r::k) objs (zaD tm d (.b (decide (n<m)))) F:=propext ⟨fun h=>h.2,fun h=>⟨rfl,h⟩⟩
theorem zmP (q:IntKind) (m n:Int):zlq P C .geq (.i q m) (.i q n) d r k objs tm F=run P C (.ops r::k) objs (zaD tm d (.b (decide (n≤m)))) F:=propext ⟨fun h=>h.2,fun h=>⟨rfl,h⟩⟩
theorem zmR (l m:List UInt8):zlq P C .add (.s l) (.s m) d r k objs tm F=(l.length+m.length≤9223372036854775807∧run P C (.ops r::k) objs (zaD tm d (.s (l++m))) F):=Eq.trans rfl rfl
theorem zmH (l m:List UInt8):zlq P C .eql (.s l) (.s m) d r k objs tm F=run P C (.ops r::k) objs (zaD tm d (.b (decide (l=m)))) F:=Eq.trans rfl rfl
theorem zmG (l m:List UInt8):zlq P C .neq (.s l) (.s m) d r k objs tm F=run P C (.ops r::k) objs (zaD tm d (.b (decide (¬l=m)))) F:=Eq.trans rfl rfl
def kSl2 (P:Program) [Tabs P] (C:Cx) (l:List UInt8) (i j:Option Int) (d:Option Nat) (r:List SO) (k:List IT) (objs:List OB) (tm:List AV) (F:zbu):Prop :=
 match i,j with
 | some i,some j=>(0≤i∧i≤j∧j≤l.length)∧run P C (.ops r::k) objs (zaD tm d (.s ((l.take j.toNat).drop i.toNat))) F
 | _,_=>False
def kSl (P:Program) [Tabs P] (C:Cx) (v:AV) (lo hi:Option SV) (d:Option Nat) (r:List SO) (k:List IT) (objs:List OB) (tm:List AV) (F:zbu):Prop :=
 match v with
 | .s l=>kSl2 P C l (zk4 tm 0 lo) (zk4 tm l.length hi) d r k objs tm F
 | _=>False
def svi:AV→Option Int
 | .i _ n=>some n
 | _=>none
theorem svi_i (q:IntKind) (n:Int):svi (.i q n)=some n:=Eq.trans rfl rfl
theorem zjI (z:Int):zk4 tm z none=some z:=Eq.trans rfl rfl
theorem zjH (z:Int) (x:SV):zk4 tm z (some x)=svi (x.ev tm):=by
 simp only[zk4];cases x.ev tm<;>rfl
theorem kSl2_s (l:List UInt8) (i j:Int):kSl2 P C l (some i) (some j) d r k objs tm F=((0≤i∧i≤j∧j≤l.length)∧run P C (.ops r::k) objs (zaD tm d (.s ((l.take j.toNat).drop i.toNat))) F):=Eq.trans rfl rfl
theorem kSl_s (l:List UInt8) (lo hi:Option SV):kSl P C (.s l) lo hi d r k objs tm F=kSl2 P C l (zk4 tm 0 lo) (zk4 tm l.length hi) d r k objs tm F:=Eq.trans rfl rfl
theorem zpa (x:SV) (lo hi:Option SV):run P C (.ops (⟨d,.slcs x lo hi,none⟩::r)::k) objs tm F=kSl P C (x.ev tm) lo hi d r k objs tm F:=by
 rw[zb4]
 simp only[wpS,kSl]
 cases x.ev tm<;>try rfl
 try (case s l=>dsimp only [kSl2];cases zk4 tm 0 lo<;>cases zk4 tm l.length hi<;>rfl)
def kAp3 (P:Program) [Tabs P] (C:Cx) (c:Option OB) (b gen E sz by' m:Nat) (ys:List AV) (d:Option Nat) (r:List SO) (k:List IT) (objs:List OB) (tm:List AV) (F:zbu):Prop :=
 match c with
 | some (.orow E' sz' gen' n xs)=>((E'=E∧sz'=sz∧gen'=gen)∧ys.length=m*sz∧(n+m)*by'≤140737488355328∧n+m≤140737488355328)∧run P C (.ops r::k) (objs.set b (.orow E sz (gen+1) (n+m) (xs++ys))) (zaD tm d (.orow b (gen+1))) F
 | _=>False
def kAp2 (P:Program) [Tabs P] (C:Cx) (v:AV) (E sz by' m:Nat) (ys:List AV) (d:Option Nat) (r:List SO) (k:List IT) (objs:List OB) (tm:List AV) (F:zbu):Prop :=
 match v with
 | .orow b gen=>kAp3 P C objs[b]? b gen E sz by' m ys d r k objs tm F
 | .nil=>(ys.length=m*sz∧m*by'≤140737488355328∧m≤140737488355328)∧run P C (.ops r::k) (objs++[.orow E sz 0 m ys]) (zaD tm d (.orow objs.length 0)) F
 | _=>False
def kAp (P:Program) [Tabs P] (C:Cx) (v:AV) (s:Option (Nat×List AV)) (E sz by':Nat) (d:Option Nat) (r:List SO) (k:List IT) (objs:List OB) (tm:List AV) (F:zbu):Prop :=
 match s with
 | some (m,ys)=>kAp2 P C v E sz by' m ys d r k objs tm F
 | none=>False
def kAs2 (P:Program) [Tabs P] (C:Cx) (c:Option OB) (b gen E:Nat) (l:List UInt8) (d:Option Nat) (r:List SO) (k:List IT) (objs:List OB) (tm:List AV) (F:zbu):Prop :=
 match c with
 | some (.orow E' sz' gen' n xs)=>((E'=E∧sz'=1∧gen'=gen)∧n+l.length≤140737488355328)∧run P C (.ops r::k) (objs.set b (.orow E 1 (gen+1) (n+l.length) (xs++byA l))) (zaD tm d (.orow b (gen+1))) F
 | _=>False
def kAs (P:Program) [Tabs P] (C:Cx) (v y:AV) (E:Nat) (d:Option Nat) (r:List SO) (k:List IT) (objs:List OB) (tm:List AV) (F:zbu):Prop :=
 match y with
 | .s l=>match v with
  | .orow b gen=>kAs2 P C objs[b]? b gen E l d r k objs tm F
  | .nil=>l.length≤140737488355328∧run P C (.ops r::k) (objs++[.orow E 1 0 l.length (byA l)]) (zaD tm d (.orow objs.length 0)) F
  | _=>False
 | _=>False
theorem kAp_s (v:AV) (m:Nat) (ys:List AV) (E sz by':Nat):kAp P C v (some (m,ys)) E sz by' d r k objs tm F=kAp2 P C v E sz by' m ys d r k objs tm F:=Eq.trans rfl rfl
theorem kAp2_o (b gen E sz by' m:Nat) (ys:List AV):kAp2 P C (.orow b gen) E sz by' m ys d r k objs tm F=kAp3 P C objs[b]? b gen E sz by' m ys d r k objs tm F:=Eq.trans rfl rfl
theorem kAp2_n (E sz by' m:Nat) (ys:List AV):kAp2 P C .nil E sz by' m ys d r k objs tm F=((ys.length=m*sz∧m*by'≤140737488355328∧m≤140737488355328)∧run P C (.ops r::k) (objs++[.orow E sz 0 m ys]) (zaD tm d (.orow objs.length 0)) F):=Eq.trans rfl rfl
theorem kAp3_o (b gen E sz by' m n:Nat) (ys xs:List AV):kAp3 P C (some (.orow E sz gen n xs)) b gen E sz by' m ys d r k objs tm F=((ys.length=m*sz∧(n+m)*by'≤140737488355328∧n+m≤140737488355328)∧run P C (.ops r::k) (objs.set b (.orow E sz (gen+1) (n+m) (xs++ys))) (zaD tm d (.orow b (gen+1))) F):=propext ⟨fun h=>⟨h.1.2,h.2⟩,fun h=>⟨⟨⟨rfl,rfl,rfl⟩,h.1⟩,h.2⟩⟩
theorem kAs_o (b gen E:Nat) (l:List UInt8):kAs P C (.orow b gen) (.s l) E d r k objs tm F=kAs2 P C objs[b]? b gen E l d r k objs tm F:=Eq.trans rfl rfl
theorem kAs_n (E:Nat) (l:List UInt8):kAs P C .nil (.s l) E d r k objs tm F=(l.length≤140737488355328∧run P C (.ops r::k) (objs++[.orow E 1 0 l.length (byA l)]) (zaD tm d (.orow objs.length 0)) F):=Eq.trans rfl rfl
theorem kAs2_o (b gen E n:Nat) (l:List UInt8) (xs:List AV):kAs2 P C (some (.orow E 1 gen n xs)) b gen E l d r k objs tm F=(n+l.length≤140737488355328∧run P C (.ops r::k) (objs.set b (.orow E 1 (gen+1) (n+l.length) (xs++byA l))) (zaD tm d (.orow b (gen+1))) F):=propext ⟨fun h=>⟨h.1.2,h.2⟩,fun h=>⟨⟨⟨rfl,rfl,rfl⟩,h.1⟩,h.2⟩⟩
theorem rn_app (E sz by':Nat) (x y:SV):run P C (.ops (⟨d,.app E sz by' x y,none⟩::r)::k) objs tm F=kAp P C (x.ev tm) (ze6 objs (y.ev tm)) E sz by' d r k objs tm F:=by
 rw[zb4]
 simp only[wpS,kAp]
 cases hs:ze6 objs (y.ev tm) with
 | none=>rfl
 | some p=>
  obtain⟨m,ys⟩:=p
  simp only[kAp2]
  cases x.ev tm<;>try rfl
  try (case orow b gen=>
   dsimp only [kAp3]
   generalize objs[b]? = q
   cases q with
   | none=>rfl
   | some ob=>cases ob<;>rfl)
theorem zpr (E:Nat) (x y:SV):run P C (.ops (⟨d,.apps E x y,none⟩::r)::k) objs tm F=kAs P C (x.ev tm) (y.ev tm) E d r k objs tm F:=by
 rw[zb4]
 simp only[wpS,kAs]
 cases y.ev tm<;>try rfl
 try (case s l=>
  cases x.ev tm<;>try rfl
  try (case orow b gen=>
   dsimp only [kAs2]
   generalize objs[b]? = q
   cases q with
   | none=>rfl
   | some ob=>cases ob<;>rfl))
def kCb2 (P:Program) [Tabs P] (C:Cx) (c:Option OB) (gen:Nat) (d:Option Nat) (r:List SO) (k:List IT) (objs:List OB) (tm:List AV) (F:zbu):Prop :=
 match c with
 | some (.orow _ sz gen' _ xs)=>(gen'=gen∧sz=1)∧∃l,xs=byA l∧run P C (.ops r::k) objs (zaD tm d (.s l)) F
 | _=>False
def kCb3 (P:Program) [Tabs P] (C:Cx) (c:Option OB) (off n:Nat) (d:Option Nat) (r:List SO) (k:List IT) (objs:List OB) (tm:List AV) (F:zbu):Prop :=
 match c with
 | some (.box _ cs)=>∃l,((cs.drop off).take n=byA l∧l.length=n)∧run P C (.ops r::k) objs (zaD tm d (.s l)) F
 | _=>False
def kCb (P:Program) [Tabs P] (C:Cx) (v:AV) (d:Option Nat) (r:List SO) (k:List IT) (objs:List OB) (tm:List AV) (F:zbu):Prop :=
 match v with
 | .orow b gen=>kCb2 P C objs[b]? gen d r k objs tm F
 | .row n xs=>∃l,(xs=byA l∧n=l.length)∧run P C (.ops r::k) objs (zaD tm d (.s l)) F
 | .nil=>run P C (.ops r::k) objs (zaD tm d (.s [])) F
 | .bsl b off n=>kCb3 P C objs[b]? off n d r k objs tm F
 | _=>False
theorem kCb_o (b gen:Nat):kCb P C (.orow b gen) d r k objs tm F=kCb2 P C objs[b]? gen d r k objs tm F:=Eq.trans rfl rfl
theorem kCb_n :kCb P C .nil d r k objs tm F=run P C (.ops r::k) objs (zaD tm d (.s [])) F:=Eq.trans rfl rfl
theorem kCb_b (b off n:Nat):kCb P C (.bsl b off n) d r k objs tm F=kCb3 P C objs[b]? off n d r k objs tm F:=Eq.trans rfl rfl
theorem zpn (x:SV):run P C (.ops (⟨d,.cvbs x,none⟩::r)::k) objs tm F=kCb P C (x.ev tm) d r k objs tm F:=by
 rw[zb4]
 simp only[wpS,kCb]
 cases x.ev tm<;>try rfl
 try (case orow b gen=>
  dsimp only
  generalize objs[b]? = q
  cases q with
  | none=>rfl
  | some ob=>cases ob<;>rfl)
 try (case bsl b off n=>
  dsimp only
  generalize objs[b]? = q
  cases q with
  | none=>rfl
  | some ob=>cases ob<;>rfl)
theorem rn_mkf (f:Nat) (fs cs:List SV):run P C (.ops (⟨d,.mkf f fs cs,none⟩::r)::k) objs tm F=run P C (.ops r::k) objs (zaD tm d (.fn f (evs tm fs) (evs tm cs))) F:=by rw[zgu,zgu];rfl
theorem kO_if (c:Prop) [Decidable c] (v:AV):kO P C (if c then some v else none) d r k objs tm F=(c∧run P C (.ops r::k) objs (zaD tm d v) F):=by
 by_cases h:c
 ·simp[h,kO]
 ·simp[h,kO]
theorem pq_and (q:IntKind) (a b:Int):pq (.bits .and) [.i q a,.i q b]=some (.i q (q.wrap (BitVec.ofInt q.bits a &&& BitVec.ofInt q.bits b).toNat)):=by simp[pq,zor]
theorem pq_or (q:IntKind) (a b:Int):pq (.bits .or) [.i q a,.i q b]=some (.i q (q.wrap (BitVec.ofInt q.bits a ||| BitVec.ofInt q.bits b).toNat)):=by simp[pq,zor]
theorem pq_xor (q:IntKind) (a b:Int):pq (.bits .xor) [.i q a,.i q b]=some (.i q (q.wrap (BitVec.ofInt q.bits a ^^^ BitVec.ofInt q.bits b).toNat)):=by simp[pq,zor]
theorem pq_shl (q q':IntKind) (a b:Int):pq .shl [.i q a,.i q' b]=if 0≤b then some (.i q (q.wrap (a*2 ^ (min b.toNat q.bits)))) else none:=Eq.trans rfl rfl
theorem pq_shr (q q':IntKind) (a b:Int):pq .shr [.i q a,.i q' b]=if 0≤b then some (.i q (a.fdiv (2 ^ (min b.toNat q.bits)))) else none:=Eq.trans rfl rfl
theorem pq_mn (q:IntKind) (a b:Int):pq .mn [.i q a,.i q b]=some (.i q (if b<a then b else a)):=by simp[pq]
theorem pq_mx (q:IntKind) (a b:Int):pq .mx [.i q a,.i q b]=some (.i q (if a<b then b else a)):=by simp[pq]
theorem pq_rsl (sz n:Nat) (xs:List AV) (q:IntKind) (a:Int):pq (.rsl sz) [.row n xs,.i q a]=if 0≤a∧a≤n then some (.row (n - a.toNat) ((xs.take (n*sz)).drop (a.toNat*sz))) else none:=Eq.trans rfl rfl
theorem zpF (sz:Nat) (q:IntKind) (a:Int):pq (.rsl sz) [.nil,.i q a]=if a=0 then some .nil else none:=Eq.trans rfl rfl
theorem zpG (sz n:Nat) (xs:List AV) (q:IntKind) (a:Int):pq (.rslh sz) [.row n xs,.i q a]=if 0≤a∧a≤n then some (.row a.toNat (xs.take (a.toNat*sz))) else none:=Eq.trans rfl rfl
theorem zmq (sz:Nat) (q:IntKind) (a:Int):pq (.rslh sz) [.nil,.i q a]=if a=0 then some .nil else none:=Eq.trans rfl rfl
theorem zpH (sz n:Nat) (xs:List AV) (q q':IntKind) (a b:Int):pq (.rslb sz) [.row n xs,.i q a,.i q' b]=if 0≤a∧a≤b∧b≤n then some (.row (b.toNat - a.toNat) ((xs.take (b.toNat*sz)).drop (a.toNat*sz))) else none:=Eq.trans rfl rfl
theorem pq_asl (sz len b off:Nat) (q:IntKind) (a:Int):pq (.asl sz len) [.p b off,.i q a]=if 0≤a∧a<len then some (.bsl b (off+a.toNat*sz) (len - a.toNat)) else none:=Eq.trans rfl rfl
theorem zpI (sz len b off:Nat) (q:IntKind) (a:Int):pq (.aslh sz len) [.p b off,.i q a]=if 0≤a∧a≤len∧0<len then some (.bsl b off a.toNat) else none:=Eq.trans rfl rfl
theorem zpJ (sz len b off:Nat) (q q':IntKind) (a c:Int):pq (.aslb sz len) [.p b off,.i q a,.i q' c]=if 0≤a∧a≤c∧c≤len∧a<len then some (.bsl b (off+a.toNat*sz) (c.toNat - a.toNat)) else none:=Eq.trans rfl rfl
theorem pq_snn (ne:Bool):pq (.snil ne) [.nil,.nil]=some (.b (!ne)):=Eq.trans rfl rfl
theorem pq_snz (ne b:Bool):pq (.snil ne) [.zn b,.nil]=some (.b (if ne then !b else b)):=Eq.trans rfl rfl
theorem pq_snr (ne:Bool) (n:Nat) (x:AV) (xs:List AV):pq (.snil ne) [.row n (x::xs),.nil]=some (.b ne):=Eq.trans rfl rfl
theorem pq_lss (l m:List UInt8):pq (.scmp .lss) [.s l,.s m]=some (.b (ziK l m)):=Eq.trans rfl rfl
theorem pq_leq (l m:List UInt8):pq (.scmp .leq) [.s l,.s m]=some (.b (ziK l m||l==m)):=Eq.trans rfl rfl
theorem pq_gtr (l m:List UInt8):pq (.scmp .gtr) [.s l,.s m]=some (.b (!ziK l m&&!(l==m))):=Eq.trans rfl rfl
theorem pq_geq (l m:List UInt8):pq (.scmp .geq) [.s l,.s m]=some (.b (!ziK l m)):=Eq.trans rfl rfl
theorem rn_pu (q:PQ) (xs:List SV):run P C (.ops (⟨d,.pu q xs,none⟩::r)::k) objs tm F=kO P C (pq q (evs tm xs)) d r k objs tm F:=by
 rw[zgu]
 rw[zb4]
 simp only[wpS]
 cases pq q (xs.map fun x=>x.ev tm)<;>rfl
def kLk2 (P:Program) [Tabs P] (C:Cx) (c:Option OB) (z:AV) (ok:Bool) (l:List UInt8) (d:Option Nat) (r:List SO) (k:List IT) (objs:List OB) (tm:List AV) (F:zbu):Prop :=
 match c with
 | some (.mp es)=>run P C (.ops r::k) objs (zaD tm d (lkA z ok (zoy l es))) F
 | _=>False
def kMup2 (P:Program) [Tabs P] (C:Cx) (c:Option OB) (b:Nat) (l:List UInt8) (v:AV) (d:Option Nat) (r:List SO) (k:List IT) (objs:List OB) (tm:List AV) (F:zbu):Prop :=
 match c with
 | some (.mp es)=>v.one=true∧run P C (.ops r::k) (objs.set b (.mp (zmw l v es))) (zaD tm d .u) F
 | _=>False
theorem kLk2_m (es:List (List UInt8×AV)) (z:AV) (ok:Bool) (l:List UInt8):kLk2 P C (some (.mp es)) z ok l d r k objs tm F=run P C (.ops r::k) objs (zaD tm d (lkA z ok (zoy l es))) F:=Eq.trans rfl rfl
theorem zqk (es:List (List UInt8×AV)) (b:Nat) (l:List UInt8) (v:AV):kMup2 P C (some (.mp es)) b l v d r k objs tm F=(v.one=true∧run P C (.ops r::k) (objs.set b (.mp (zmw l v es))) (zaD tm d .u) F):=Eq.trans rfl rfl
def kLk (P:Program) [Tabs P] (C:Cx) (x y:AV) (z:AV) (ok:Bool) (d:Option Nat) (r:List SO) (k:List IT) (objs:List OB) (tm:List AV) (F:zbu):Prop :=
 match x,y with
 | .m b,.s l=>kLk2 P C objs[b]? z ok l d r k objs tm F
 | _,_=>False
theorem kLk_0 (b:Nat) (l:List UInt8) (z:AV) (ok:Bool):kLk P C (.m b) (.s l) z ok d r k objs tm F=(kLk2 P C objs[b]? z ok l d r k objs tm F):=Eq.trans rfl rfl
theorem rn_lk (z:AV) (ok:Bool) (x y:SV):run P C (.ops (⟨d,.lk z ok x y,none⟩::r)::k) objs tm F=kLk P C (x.ev tm) (y.ev tm) z ok d r k objs tm F:=by
 rw[zb4]
 simp only[wpS,kLk]
 cases x.ev tm<;>try rfl
 all_goals try (cases y.ev tm<;>try rfl)
 all_goals (
  dsimp only
  rename_i b l
  generalize objs[b]? = q
  cases q with
  | none=>rfl
  | some ob=>cases ob<;>rfl)
def kMup (P:Program) [Tabs P] (C:Cx) (x y:AV) (v:AV) (d:Option Nat) (r:List SO) (k:List IT) (objs:List OB) (tm:List AV) (F:zbu):Prop :=
 match x,y with
 | .m b,.s l=>kMup2 P C objs[b]? b l v d r k objs tm F
 | _,_=>False
theorem kMup_0 (b:Nat) (l:List UInt8) (v:AV):kMup P C (.m b) (.s l) v d r k objs tm F=(kMup2 P C objs[b]? b l v d r k objs tm F):=Eq.trans rfl rfl
theorem rn_mup (x y v:SV):run P C (.ops (⟨d,.mup x y v,none⟩::r)::k) objs tm F=kMup P C (x.ev tm) (y.ev tm) (v.ev tm) d r k objs tm F:=by
 rw[zb4]
 simp only[wpS,kMup]
 cases x.ev tm<;>try rfl
 all_goals try (cases y.ev tm<;>try rfl)
 all_goals (
  dsimp only
  rename_i b l
  generalize objs[b]? = q
  cases q with
  | none=>rfl
  | some ob=>cases ob<;>rfl)
theorem lkA_tt (z v:AV):lkA z true (some v)=.tup [v,.b true]:=Eq.trans rfl rfl
theorem lkA_tf (z v:AV):lkA z false (some v)=v:=Eq.trans rfl rfl
theorem lkA_nt (z:AV):lkA z true none=.tup [z,.b false]:=Eq.trans rfl rfl
theorem lkA_nf (z:AV):lkA z false none=z:=Eq.trans rfl rfl
theorem zpe :run P C (.ops (⟨d,.mkm0,none⟩::r)::k) objs tm F=run P C (.ops r::k) (objs++[.mp []]) (zaD tm d (.m objs.length)) F:=by
 rw[zb4]
 rfl
def kMkm (P:Program) [Tabs P] (C:Cx) (x:AV) (d:Option Nat) (r:List SO) (k:List IT) (objs:List OB) (tm:List AV) (F:zbu):Prop :=
 match x with
 | .i _ _=>run P C (.ops r::k) (objs++[.mp []]) (zaD tm d (.m objs.length)) F
 | _=>False
theorem kMkm_i (q:IntKind) (n:Int):kMkm P C (.i q n) d r k objs tm F=run P C (.ops r::k) (objs++[.mp []]) (zaD tm d (.m objs.length)) F:=Eq.trans rfl rfl
theorem zpd (x:SV):run P C (.ops (⟨d,.mkm1 x,none⟩::r)::k) objs tm F=kMkm P C (x.ev tm) d r k objs tm F:=by
 rw[zb4]
 simp only[wpS,kMkm]
 cases x.ev tm<;>rfl
def kG (P:Program) [Tabs P] (C:Cx) (v:AV) (op:SOp) (t:Nat) (w:Bool) (d:Option Nat) (r:List SO) (k:List IT) (objs:List OB) (tm:List AV) (F:zbu):Prop :=
 match v with
 | .b x=>(x=w→run P C (.ops (⟨d,op,none⟩::r)::k) objs (tm.set t (.b w)) F)∧(x=!w→run P C (.ops r::k) objs (zaD (tm.set t (.b (!w))) d (.o undef)) F)
 | .o (.tuple _)=>run P C (.ops r::k) objs (zaD tm d (.o undef)) F
 | _=>False
def kGD (P:Program) [Tabs P] (C:Cx) (v:AV) (op:SOp) (t:Nat) (w:Bool) (d:Option Nat) (r:List SO) (k:List IT) (objs:List OB) (tm:List AV) (F:zbu):Prop :=
 match v with
 | .b x=>(x=w→run P C (.dops (⟨d,op,none⟩::r)::k) objs (tm.set t (.b w)) F)∧(x=!w→run P C (.dops r::k) objs (zaD (tm.set t (.b (!w))) d (.o undef)) F)
 | .o (.tuple _)=>run P C (.dops r::k) objs (zaD tm d (.o undef)) F
 | _=>False
theorem kG_tt (op:SOp) (t:Nat):kG P C (.b true) op t true d r k objs tm F=run P C (.ops (⟨d,op,none⟩::r)::k) objs (tm.set t (.b true)) F:=propext ⟨fun h=>h.1 rfl,fun h=>⟨fun _=>h,fun e=>absurd e (by decide)⟩⟩
theorem kG_tf (op:SOp) (t:Nat):kG P C (.b true) op t false d r k objs tm F=run P C (.ops r::k) objs (zaD (tm.set t (.b true)) d (.o undef)) F:=propext ⟨fun h=>h.2 rfl,fun h=>⟨fun e=>absurd e (by decide),fun _=>h⟩⟩
theorem kG_ft (op:SOp) (t:Nat):kG P C (.b false) op t true d r k objs tm F=run P C (.ops r::k) objs (zaD (tm.set t (.b false)) d (.o undef)) F:=propext ⟨fun h=>h.2 rfl,fun h=>⟨fun e=>absurd e (by decide),fun _=>h⟩⟩
theorem kG_ff (op:SOp) (t:Nat):kG P C (.b false) op t false d r k objs tm F=run P C (.ops (⟨d,op,none⟩::r)::k) objs (tm.set t (.b false)) F:=propext ⟨fun h=>h.1 rfl,fun h=>⟨fun _=>h,fun e=>absurd e (by decide)⟩⟩
theorem kG_u (op:SOp) (t:Nat) (w:Bool):kG P C (.o undef) op t w d r k objs tm F=run P C (.ops r::k) objs (zaD tm d (.o undef)) F:=Eq.trans rfl rfl
theorem kG_v (op:SOp) (t:Nat) (w:Bool) (vs:Array Value):kG P C (.o (.tuple vs)) op t w d r k objs tm F=run P C (.ops r::k) objs (zaD tm d (.o undef)) F:=Eq.trans rfl rfl
theorem kGD_tt (op:SOp) (t:Nat):kGD P C (.b true) op t true d r k objs tm F=run P C (.dops (⟨d,op,none⟩::r)::k) objs (tm.set t (.b true)) F:=propext ⟨fun h=>h.1 rfl,fun h=>⟨fun _=>h,fun e=>absurd e (by decide)⟩⟩
theorem kGD_tf (op:SOp) (t:Nat):kGD P C (.b true) op t false d r k objs tm F=run P C (.dops r::k) objs (zaD (tm.set t (.b true)) d (.o undef)) F:=propext ⟨fun h=>h.2 rfl,fun h=>⟨fun e=>absurd e (by decide),fun _=>h⟩⟩
theorem kGD_ft (op:SOp) (t:Nat):kGD P C (.b false) op t true d r k objs tm F=run P C (.dops r::k) objs (zaD (tm.set t (.b false)) d (.o undef)) F:=propext ⟨fun h=>h.2 rfl,fun h=>⟨fun e=>absurd e (by decide),fun _=>h⟩⟩
theorem kGD_ff (op:SOp) (t:Nat):kGD P C (.b false) op t false d r k objs tm F=run P C (.dops (⟨d,op,none⟩::r)::k) objs (tm.set t (.b false)) F:=propext ⟨fun h=>h.1 rfl,fun h=>⟨fun _=>h,fun e=>absurd e (by decide)⟩⟩
theorem kGD_u (op:SOp) (t:Nat) (w:Bool):kGD P C (.o undef) op t w d r k objs tm F=run P C (.dops r::k) objs (zaD tm d (.o undef)) F:=Eq.trans rfl rfl
theorem kGD_v (op:SOp) (t:Nat) (w:Bool) (vs:Array Value):kGD P C (.o (.tuple vs)) op t w d r k objs tm F=run P C (.dops r::k) objs (zaD tm d (.o undef)) F:=Eq.trans rfl rfl
theorem zme (op:SOp) (t:Nat) (w:Bool):run P C (.ops (⟨d,op,some (t,w)⟩::r)::k) objs tm F=kG P C ((tm[t]?).getD .u) op t w d r k objs tm F:=by
 show wpR P _ _ _ _=_
 simp only[wpR,kG]
 cases (tm[t]?).getD .u<;>try rfl
 try (case o v=>cases v<;>rfl)
theorem zjT (op:SOp) (t:Nat) (w:Bool):run P C (.dops (⟨d,op,some (t,w)⟩::r)::k) objs tm F=kGD P C ((tm[t]?).getD .u) op t w d r k objs tm F:=by
 show wpD P _ _ _ _=_
 simp only[wpD,kGD]
 cases (tm[t]?).getD .u<;>try rfl
 try (case o v=>cases v<;>rfl)
def kC (P:Program) [Tabs P] (C:Cx) (v:AV) (x y:SCode) (k:List IT) (objs:List OB) (tm:List AV) (F:zbu):Prop :=
 match v with
 | .b t=>(t=true→run P C (.code x::k) objs tm F)∧(t=false→run P C (.code y::k) objs tm F)
 | _=>False
theorem kC_t (x y:SCode):kC P C (.b true) x y k objs tm F=run P C (.code x::k) objs tm F:=propext ⟨fun h=>h.1 rfl,fun h=>⟨fun _=>h,fun e=>absurd e (by decide)⟩⟩
theorem kC_f (x y:SCode):kC P C (.b false) x y k objs tm F=run P C (.code y::k) objs tm F:=propext ⟨fun h=>h.2 rfl,fun h=>⟨fun e=>absurd e (by decide),fun _=>h⟩⟩
theorem zpo (c:SV) (x y:SCode):run P C (.code (.cond c x y)::k) objs tm F=kC P C (c.ev tm) x y k objs tm F:=by
 show wpC P C _ _ _ _=_
 simp only[wpC,kC]
 cases c.ev tm<;>rfl
def kCall (P:Program) [Tabs P] (C:Cx) (f:Nat) (args:List AV) (d:Option Nat) (r:List SO) (k:List IT) (objs:List OB) (tm:List AV) (F:zbu):Prop:=zad P f args objs fun o v=>run P C (.ops r::k) o (zaD tm d v) F
theorem zpp (f:Nat) (args:List SV):run P C (.ops (⟨d,.call f args,none⟩::r)::k) objs tm F=kCall P C f (evs tm args) d r k objs tm F:=by
 show wpR P _ _ _ _=_
 simp only[wpR,wpS,kCall,zgu];rfl
theorem zaf {f:Nat} {args:List AV} (h:zad P f args objs fun o v=>run P C (.ops r::k) o (zaD tm d v) F):kCall P C f args d r k objs tm F:=h
def zqx (P:Program) [Tabs P] (C:Cx) (f:Nat) (args:List AV) (d:Option Nat) (r:List SO) (k:List IT) (objs:List OB) (tm:List AV) (F:zbu):Prop:=∃v,(zad P f args objs fun o x=>o=objs∧x=v)∧run P C (.dops r::k) objs (zaD tm d v) F
theorem zmf (f:Nat) (args:List SV):run P C (.dops (⟨d,.call f args,none⟩::r)::k) objs tm F=zqx P C f (evs tm args) d r k objs tm F:=by
 show wpD P _ _ _ _=_
 simp only[wpD,wpS,zqx,zgu,SOp.isCall,if_true];rfl
def kPCall (P:Program) [Tabs P] (C:Cx) (f:Nat) (args:List AV) (d:Option Nat) (r:List SO) (k:List IT) (objs:List OB) (tm:List AV) (F:zbu):Prop:=∃v,(zaK args=true∧zad P f args [] fun _ x=>x.plain=true∧objs=objs∧x=v)∧run P C (.dops r::k) objs (zaD tm d v) F
theorem zma (f:Nat) (args:List SV):run P C (.dops (⟨d,.pcall f args,none⟩::r)::k) objs tm F=kPCall P C f (evs tm args) d r k objs tm F:=by
 show wpD P (⟨d,.pcall f args,none⟩::r) objs tm _=_
 simp only[wpD,wpS,kPCall,zgu,SOp.isCall,if_true];rfl
theorem zbM {f:Nat} {args:List AV} {v:AV} (h:zad P f args objs fun o x=>o=objs∧x=v) (hr:run P C (.dops r::k) objs (zaD tm d v) F):zqx P C f args d r k objs tm F:=⟨v,h,hr⟩
def IsFn (P : Program) (f : Nat) : Prop := ∃ fn, P.funcs[f]? = some fn ∧ fn.body.isSome = true ∧ fn.name ≠ "runtime.NumGoroutine"
def zqy (P:Program) [Tabs P] (C:Cx) (x:AV) (args:List AV) (d:Option Nat) (r:List SO) (k:List IT) (objs:List OB) (tm:List AV) (F:zbu):Prop :=
 match x with
 | .fn f fs cs=>IsFn P f∧zad P f (fs++args++cs) objs fun o v=>run P C (.ops r::k) o (zaD tm d v) F
 | _=>False
theorem zmg (x:SV) (args:List SV):run P C (.ops (⟨d,.callv x args,none⟩::r)::k) objs tm F=zqy P C (x.ev tm) (evs tm args) d r k objs tm F:=by
 show wpR P _ _ _ _=_
 simp only[wpR,wpS,zqy,zgu]
 cases x.ev tm<;>rfl
theorem kcallv {f:Nat} {fs cs args:List AV} (hf:IsFn P f) (h:zad P f (fs++args++cs) objs fun o v=>run P C (.ops r::k) o (zaD tm d v) F):zqy P C (.fn f fs cs) args d r k objs tm F:=⟨hf,h⟩
theorem drn_mv (x:SV):run P C (.dops (⟨d,.mv x,none⟩::r)::k) objs tm F=run P C (.ops [⟨d,.mv x,none⟩]::.dops r::k) objs tm F:=Eq.trans rfl rfl
theorem znf (c x y:SV):run P C (.dops (⟨d,.pick c x y,none⟩::r)::k) objs tm F=run P C (.ops [⟨d,.pick c x y,none⟩]::.dops r::k) objs tm F:=Eq.trans rfl rfl
theorem zkL (z:List AV) (ps:List (Nat×Nat×SV)):run P C (.dops (⟨d,.build z ps,none⟩::r)::k) objs tm F=run P C (.ops [⟨d,.build z ps,none⟩]::.dops r::k) objs tm F:=Eq.trans rfl rfl
theorem ziy (n:Nat) (z:List AV) (ps:List (Nat×Nat×SV)):run P C (.dops (⟨d,.bslice n z ps,none⟩::r)::k) objs tm F=run P C (.ops [⟨d,.bslice n z ps,none⟩]::.dops r::k) objs tm F:=Eq.trans rfl rfl
theorem zkK (x:SV):run P C (.dops (⟨d,.load1 x,none⟩::r)::k) objs tm F=run P C (.ops [⟨d,.load1 x,none⟩]::.dops r::k) objs tm F:=Eq.trans rfl rfl
theorem zkJ (sz:Nat) (x:SV):run P C (.dops (⟨d,.loadn sz x,none⟩::r)::k) objs tm F=run P C (.ops [⟨d,.loadn sz x,none⟩]::.dops r::k) objs tm F:=Eq.trans rfl rfl
theorem zq8 (x:SV):run P C (.dops (⟨d,.nck x,none⟩::r)::k) objs tm F=run P C (.ops [⟨d,.nck x,none⟩]::.dops r::k) objs tm F:=Eq.trans rfl rfl
theorem zrk (q:BinOp) (x y:SV):run P C (.dops (⟨d,.bin q x y,none⟩::r)::k) objs tm F=run P C (.ops [⟨d,.bin q x y,none⟩]::.dops r::k) objs tm F:=Eq.trans rfl rfl
theorem zrl (ne:Bool) (x y:SV):run P C (.dops (⟨d,.beq ne x y,none⟩::r)::k) objs tm F=run P C (.ops [⟨d,.beq ne x y,none⟩]::.dops r::k) objs tm F:=Eq.trans rfl rfl
theorem zrg (ne:Bool) (e:ET) (x y:SV):run P C (.dops (⟨d,.eqs ne e x y,none⟩::r)::k) objs tm F=run P C (.ops [⟨d,.eqs ne e x y,none⟩]::.dops r::k) objs tm F:=Eq.trans rfl rfl
theorem zq6 (x:SV):run P C (.dops (⟨d,.not x,none⟩::r)::k) objs tm F=run P C (.ops [⟨d,.not x,none⟩]::.dops r::k) objs tm F:=Eq.trans rfl rfl
theorem zq7 (x:SV):run P C (.dops (⟨d,.neg x,none⟩::r)::k) objs tm F=run P C (.ops [⟨d,.neg x,none⟩]::.dops r::k) objs tm F:=Eq.trans rfl rfl
theorem znl (sz len:Nat) (x y:SV):run P C (.dops (⟨d,.iada sz len x y,none⟩::r)::k) objs tm F=run P C (.ops [⟨d,.iada sz len x y,none⟩]::.dops r::k) objs tm F:=Eq.trans rfl rfl
theorem zri (q:IntKind) (x:SV):run P C (.dops (⟨d,.cvi q x,none⟩::r)::k) objs tm F=run P C (.ops [⟨d,.cvi q x,none⟩]::.dops r::k) objs tm F:=Eq.trans rfl rfl
theorem zrh (x:SV):run P C (.dops (⟨d,.cvs x,none⟩::r)::k) objs tm F=run P C (.ops [⟨d,.cvs x,none⟩]::.dops r::k) objs tm F:=Eq.trans rfl rfl
theorem zno (x:SV):run P C (.dops (⟨d,.cvbs x,none⟩::r)::k) objs tm F=run P C (.ops [⟨d,.cvbs x,none⟩]::.dops r::k) objs tm F:=Eq.trans rfl rfl
theorem zne (x:SV) (lo hi:Option SV):run P C (.dops (⟨d,.slcs x lo hi,none⟩::r)::k) objs tm F=run P C (.ops [⟨d,.slcs x lo hi,none⟩]::.dops r::k) objs tm F:=Eq.trans rfl rfl
theorem zre (off:Nat) (x:SV):run P C (.dops (⟨d,.fad off x,none⟩::r)::k) objs tm F=run P C (.ops [⟨d,.fad off x,none⟩]::.dops r::k) objs tm F:=Eq.trans rfl rfl
theorem znn (off:Nat) (x:SV):run P C (.dops (⟨d,.fld1 off x,none⟩::r)::k) objs tm F=run P C (.ops [⟨d,.fld1 off x,none⟩]::.dops r::k) objs tm F:=Eq.trans rfl rfl
theorem znm (off sz:Nat) (x:SV):run P C (.dops (⟨d,.fldn off sz x,none⟩::r)::k) objs tm F=run P C (.ops [⟨d,.fldn off sz x,none⟩]::.dops r::k) objs tm F:=Eq.trans rfl rfl
theorem zrd (sz:Nat) (x y:SV):run P C (.dops (⟨d,.iad sz x y,none⟩::r)::k) objs tm F=run P C (.ops [⟨d,.iad sz x y,none⟩]::.dops r::k) objs tm F:=Eq.trans rfl rfl
theorem zrc (x y:SV):run P C (.dops (⟨d,.idx x y,none⟩::r)::k) objs tm F=run P C (.ops [⟨d,.idx x y,none⟩]::.dops r::k) objs tm F:=Eq.trans rfl rfl
theorem zrf (x:SV) (j:Nat):run P C (.dops (⟨d,.ext x j,none⟩::r)::k) objs tm F=run P C (.ops [⟨d,.ext x j,none⟩]::.dops r::k) objs tm F:=Eq.trans rfl rfl
theorem zni (x:SV):run P C (.dops (⟨d,.lens x,none⟩::r)::k) objs tm F=run P C (.ops [⟨d,.lens x,none⟩]::.dops r::k) objs tm F:=Eq.trans rfl rfl
theorem znj (x:SV):run P C (.dops (⟨d,.lenr x,none⟩::r)::k) objs tm F=run P C (.ops [⟨d,.lenr x,none⟩]::.dops r::k) objs tm F:=Eq.trans rfl rfl
theorem zrb (f:Nat) (fs cs:List SV):run P C (.dops (⟨d,.mkf f fs cs,none⟩::r)::k) objs tm F=run P C (.ops [⟨d,.mkf f fs cs,none⟩]::.dops r::k) objs tm F:=Eq.trans rfl rfl
theorem znp (E sz n:Nat) (z:List AV) (ps:List (Nat×Nat×SV)):run P C (.dops (⟨d,.bslo E sz n z ps,none⟩::r)::k) objs tm F=run P C (.ops [⟨d,.bslo E sz n z ps,none⟩]::.dops r::k) objs tm F:=Eq.trans rfl rfl
theorem zkM (T:Nat) (z:List AV):run P C (.dops (⟨d,.alloc T z,none⟩::r)::k) objs tm F=run P C (.ops [⟨d,.alloc T z,none⟩]::.dops r::k) objs tm F:=Eq.trans rfl rfl
theorem zrj (T:Nat) (x:SV):run P C (.dops (⟨d,.box T x,none⟩::r)::k) objs tm F=run P C (.ops [⟨d,.box T x,none⟩]::.dops r::k) objs tm F:=Eq.trans rfl rfl
theorem zkI (sz:Nat) (x y:SV):run P C (.dops (⟨d,.store sz x y,none⟩::r)::k) objs tm F=run P C (.ops [⟨d,.store sz x y,none⟩]::.dops r::k) objs tm F:=Eq.trans rfl rfl
theorem zrm (E sz by':Nat) (x y:SV):run P C (.dops (⟨d,.app E sz by' x y,none⟩::r)::k) objs tm F=run P C (.ops [⟨d,.app E sz by' x y,none⟩]::.dops r::k) objs tm F:=Eq.trans rfl rfl
theorem znq (E:Nat) (x y:SV):run P C (.dops (⟨d,.apps E x y,none⟩::r)::k) objs tm F=run P C (.ops [⟨d,.apps E x y,none⟩]::.dops r::k) objs tm F:=Eq.trans rfl rfl
theorem zra (E sz by':Nat) (x y:SV):run P C (.dops (⟨d,.mks E sz by' x y,none⟩::r)::k) objs tm F=run P C (.ops [⟨d,.mks E sz by' x y,none⟩]::.dops r::k) objs tm F:=Eq.trans rfl rfl
theorem drn_pu (q:PQ) (xs:List SV):run P C (.dops (⟨d,.pu q xs,none⟩::r)::k) objs tm F=run P C (.ops [⟨d,.pu q xs,none⟩]::.dops r::k) objs tm F:=Eq.trans rfl rfl
theorem zq5 (sz:Nat) (x y:SV):run P C (.dops (⟨d,.trn sz x y,none⟩::r)::k) objs tm F=run P C (.ops [⟨d,.trn sz x y,none⟩]::.dops r::k) objs tm F:=Eq.trans rfl rfl
theorem znk (sz:Nat) (x y:SV):run P C (.dops (⟨d,.iadr sz x y,none⟩::r)::k) objs tm F=run P C (.ops [⟨d,.iadr sz x y,none⟩]::.dops r::k) objs tm F:=Eq.trans rfl rfl
theorem znh :run P C (.dops (⟨d,.mkm0,none⟩::r)::k) objs tm F=run P C (.ops [⟨d,.mkm0,none⟩]::.dops r::k) objs tm F:=Eq.trans rfl rfl
theorem zng (x:SV):run P C (.dops (⟨d,.mkm1 x,none⟩::r)::k) objs tm F=run P C (.ops [⟨d,.mkm1 x,none⟩]::.dops r::k) objs tm F:=Eq.trans rfl rfl
theorem drn_lk (z:AV) (ok:Bool) (x y:SV):run P C (.dops (⟨d,.lk z ok x y,none⟩::r)::k) objs tm F=run P C (.ops [⟨d,.lk z ok x y,none⟩]::.dops r::k) objs tm F:=Eq.trans rfl rfl
theorem zq9 (x y v:SV):run P C (.dops (⟨d,.mup x y v,none⟩::r)::k) objs tm F=run P C (.ops [⟨d,.mup x y v,none⟩]::.dops r::k) objs tm F:=Eq.trans rfl rfl
theorem zaU {f:FuncId} {n:Nat} {ss:List SRes} {sc:SCode} (hf:FnIs P f n ss sc) {args:List AV} {objs:List OB} {K:List OB→AV→Prop} (hp:zaK args=true)
  (h:∀(C:Cx) [On P C],run P C [.code sc] [] (args++List.replicate (n - args.length) (.o undef)) (endK ss fun r=>K objs r)):zad P f args objs K :=
 fn_ok hf hp h
theorem zcR {f:FuncId} {n:Nat} {ss:List SRes} {sc:SCode} (hf:FnIs P f n ss sc) {args:List AV} {objs:List OB} {K:List OB→AV→Prop}
  (h:∀(C:Cx) [On P C],run P C [.code sc] objs (args++List.replicate (n - args.length) (.o undef)) (endI ss K)):zad P f args objs K :=
 fn_in hf h
theorem endI_n (ss:List SRes) (K:List OB→AV→Prop):endI ss K .normal objs tm=outI ss K objs tm:=Eq.trans rfl rfl
theorem endI_r (ss:List SRes) (K:List OB→AV→Prop):endI ss K .ret objs tm=outI ss K objs tm:=Eq.trans rfl rfl
def outJ (K:List OB→AV→Prop) (objs:List OB):Option (List AV)→Prop
 | some xs=>K objs (znO xs)
 | none=>False
theorem outJ_s (K:List OB→AV→Prop) (xs:List AV):outJ K objs (some xs)=K objs (znO xs):=Eq.trans rfl rfl
theorem zpO (ss:List SRes) (K:List OB→AV→Prop):outI ss K objs tm=outJ K objs (zfa objs tm ss):=by
 unfold outI
 cases zfa objs tm ss<;>rfl
theorem endK_n (ss:List SRes) (K:AV→Prop):endK ss K .normal objs tm=outK ss K objs tm:=Eq.trans rfl rfl
theorem endK_r (ss:List SRes) (K:AV→Prop):endK ss K .ret objs tm=outK ss K objs tm:=Eq.trans rfl rfl
def outO (K:AV→Prop):Option AV→Prop
 | some r=>K r
 | none=>False
theorem outO_s (K:AV→Prop) (r:AV):outO K (some r)=K r:=Eq.trans rfl rfl
theorem zpN (ss:List SRes) (K:AV→Prop):outK ss K objs tm=outO K ((zfa objs tm ss).bind fun xs=>pub objs 5 (znO xs)):=by
 unfold outK
 cases (zfa objs tm ss).bind (fun xs=>pub objs 5 (znO xs))<;>rfl
end
end Go.Proofs.YtnnipcgblooemaaGreatDoor.Sx
/-
 DERIVED: THE SHELF's CONTRACTS AT THIS DUMP,IN PLAIN WORDS (tools/lay-plain.mjs out of 'TryzShelf.lean',which tools/lay-shelf.mjs wrote): THE SAME DECLARATIONS UNDER THE SAME NAMES: 'import','namespace','open','def','theorem' AND NOTHING ELSE: no command of the shelf's: FOR A HAND-IN. Each laying: the table of numbers ('.._ren') and one theorem,a field a fact of the dump's own or the kernel's comparison;each contract: ONE APPLICATION.
-/
namespace Go.Proofs
open Go.Shelf
def Tryz.lays137_ren:Go.Shelf.Ren:=⟨fun|137=>71|217=>105|266=>137|n=>n,fun|9=>9|5=>5|3=>3|n=>n,fun|n=>n⟩
theorem Tryz.lays137:Go.Proofs.Lays.n137 Tryz.prog Tryz.lays137_ren:={
 mixed:=by kernel_rfl
 f137:=Tryz.func71.trans (congrArg some (by kernel_rfl))
 f217:=Tryz.func105.trans (congrArg some (by kernel_rfl))
 f266:=Tryz.func137.trans (congrArg some (by kernel_rfl))
 t3:=Tryz.underlying3
 a3:=Tryz.isAgg3
 z3:=Tryz.sizeOf3
 v3:=Tryz.zeroValue3
 t5:=Tryz.underlying5
 a5:=Tryz.isAgg5
 z5:=Tryz.sizeOf5
 v5:=Tryz.zeroValue5
 t9:=Tryz.underlying9
 a9:=Tryz.isAgg9
 z9:=Tryz.sizeOf9
 v9:=Tryz.zeroValue9 }
open Go.RowKit in
/-- strings.IndexByte: "IndexByte returns the index of the first instance of c in s, or -1 if c is not present in s.": IT RETURNS 'Lib.indexByte s c'; the world is as it was. (LAID: no walk: one application.) -/
theorem Tryz.strings_IndexByte (s:ByteArray) (c:Int) (w:World) :
  Calls Tryz.prog 71 #[.string s,.int .u8 c] w fun e w'=>e=.returned (.int .i64 (Lib.indexByte s.data.toList c.toNat.toUInt8))∧w'=w:=Any.strings_IndexByte Tryz.lays137 s c w
def Tryz.lays103_ren:Go.Shelf.Ren:=⟨fun|103=>126|210=>152|206=>185|n=>n,fun|9=>9|4=>4|24=>135|3=>3|n=>n,fun|n=>n⟩
theorem Tryz.lays103:Go.Proofs.Lays.n103 Tryz.prog Tryz.lays103_ren:={
 mixed:=by kernel_rfl
 f103:=Tryz.func126.trans (congrArg some (by kernel_rfl))
 f206:=Tryz.func185.trans (congrArg some (by kernel_rfl))
 f210:=Tryz.func152.trans (congrArg some (by kernel_rfl))
 t3:=Tryz.underlying3
 a3:=Tryz.isAgg3
 z3:=Tryz.sizeOf3
 v3:=Tryz.zeroValue3
 t4:=Tryz.underlying4
 a4:=Tryz.isAgg4
 z4:=Tryz.sizeOf4
 v4:=Tryz.zeroValue4
 t9:=Tryz.underlying9
 a9:=Tryz.isAgg9
 z9:=Tryz.sizeOf9
 v9:=Tryz.zeroValue9
 t24:=Tryz.underlying135
 a24:=Tryz.isAgg135
 z24:=Tryz.sizeOf135
 v24:=Tryz.zeroValue135 }
open Go.RowKit in
/-- strings.CutPrefix: "CutPrefix returns s without the provided leading prefix string and reports whether it found the prefix. If s doesn't start with prefix, CutPrefix returns s, false. If prefix is the empty string, CutPrefix returns s, true.": IT RETURNS '(Lib.trimPrefix s p, Lib.hasPrefix s p)'; the world is as it was. (LAID: no walk: one application.) -/
theorem Tryz.strings_CutPrefix (s p:ByteArray) (w:World) :
  Calls Tryz.prog 126 #[.string s,.string p] w fun e w'=>e=.returned (.tuple #[.string ⟨(Lib.trimPrefix s.data.toList p.data.toList).toArray⟩,.bool (Lib.hasPrefix s.data.toList p.data.toList)])∧w'=w:=Any.strings_CutPrefix Tryz.lays103 s p w
def Tryz.laysM171_ren:Go.Shelf.Ren:=⟨fun|171=>72|243=>106|246=>138|283=>167|284=>168|285=>169|286=>170|129=>191|317=>190|318=>192|319=>193|320=>194|337=>203|338=>204|n=>n,fun|3=>3|9=>9|2=>2|4=>4|171=>154|0=>0|53=>111|37=>29|5=>5|173=>157|212=>182|51=>178|20=>20|213=>183|46=>109|232=>195|233=>196|n=>n,fun|17=>1|18=>2|19=>3|n=>n⟩
theorem Tryz.laysM171:Go.Proofs.LaysM.n171 Tryz.prog Tryz.laysM171_ren:={
 mixed:=by kernel_rfl
 f129:=Tryz.func191.trans (congrArg some (by kernel_rfl))
 f171:=Tryz.func72.trans (congrArg some (by kernel_rfl))
 f243:=Tryz.func106.trans (congrArg some (by kernel_rfl))
 f246:=Tryz.func138.trans (congrArg some (by kernel_rfl))
 f283:=Tryz.func167.trans (congrArg some (by kernel_rfl))
 f284:=Tryz.func168.trans (congrArg some (by kernel_rfl))
 f285:=Tryz.func169.trans (congrArg some (by kernel_rfl))
 f286:=Tryz.func170.trans (congrArg some (by kernel_rfl))
 f317:=Tryz.func190.trans (congrArg some (by kernel_rfl))
 f318:=Tryz.func192.trans (congrArg some (by kernel_rfl))
 f319:=Tryz.func193.trans (congrArg some (by kernel_rfl))
 f320:=Tryz.func194.trans (congrArg some (by kernel_rfl))
 f337:=Tryz.func203.trans (congrArg some (by kernel_rfl))
 f338:=Tryz.func204.trans (congrArg some (by kernel_rfl))
 t0:=Tryz.underlying0
 a0:=Tryz.isAgg0
 z0:=Tryz.sizeOf0
 v0:=Tryz.zeroValue0
 t2:=Tryz.underlying2
 a2:=Tryz.isAgg2
 z2:=Tryz.sizeOf2
 v2:=Tryz.zeroValue2
 t3:=Tryz.underlying3
 a3:=Tryz.isAgg3
 z3:=Tryz.sizeOf3
 v3:=Tryz.zeroValue3
 t4:=Tryz.underlying4
 a4:=Tryz.isAgg4
 z4:=Tryz.sizeOf4
 v4:=Tryz.zeroValue4
 t5:=Tryz.underlying5
 a5:=Tryz.isAgg5
 z5:=Tryz.sizeOf5
 v5:=Tryz.zeroValue5
 t9:=Tryz.underlying9
 a9:=Tryz.isAgg9
 z9:=Tryz.sizeOf9
 v9:=Tryz.zeroValue9
 t20:=Tryz.underlying20
 a20:=Tryz.isAgg20
 z20:=Tryz.sizeOf20
 v20:=Tryz.zeroValue20
 t37:=Tryz.underlying29
 a37:=Tryz.isAgg29
 z37:=Tryz.sizeOf29
 v37:=Tryz.zeroValue29
 t46:=Tryz.underlying109
 a46:=Tryz.isAgg109
 z46:=Tryz.sizeOf109
 v46:=Tryz.zeroValue109
 t51:=Tryz.underlying178
 a51:=Tryz.isAgg178
 z51:=Tryz.sizeOf178
 v51:=Tryz.zeroValue178
 t53:=Tryz.underlying111
 a53:=Tryz.isAgg111
 z53:=Tryz.sizeOf111
 v53:=Tryz.zeroValue111
 t171:=Tryz.underlying154
 a171:=Tryz.isAgg154
 z171:=Tryz.sizeOf154
 v171:=Tryz.zeroValue154
 t173:=Tryz.underlying157
 a173:=Tryz.isAgg157
 z173:=Tryz.sizeOf157
 v173:=Tryz.zeroValue157
 t212:=Tryz.underlying182
 a212:=Tryz.isAgg182
 z212:=Tryz.sizeOf182
 v212:=Tryz.zeroValue182
 t213:=Tryz.underlying183
 a213:=Tryz.isAgg183
 z213:=Tryz.sizeOf183
 t232:=Tryz.underlying195
 a232:=Tryz.isAgg195
 z232:=Tryz.sizeOf195
 v232:=Tryz.zeroValue195
 t233:=Tryz.underlying196
 a233:=Tryz.isAgg196
 z233:=Tryz.sizeOf196
 v233:=Tryz.zeroValue196
 g17:=by kernel_rfl
 g18:=by kernel_rfl
 g19:=by kernel_rfl
 i0:=by kernel_rfl
 i2:=by kernel_rfl
 i3:=by kernel_rfl
 i4:=by kernel_rfl
 i5:=by kernel_rfl
 i9:=by kernel_rfl
 i20:=by kernel_rfl
 i37:=by kernel_rfl
 i46:=by kernel_rfl
 i51:=by kernel_rfl
 i53:=by kernel_rfl
 i171:=by kernel_rfl
 i173:=by kernel_rfl
 i212:=by kernel_rfl
 i232:=by kernel_rfl
 i233:=by kernel_rfl
 m17:=by kernel_rfl
 m18:=by kernel_rfl
 m19:=by kernel_rfl }
open Go.RowKit Go.Sort Go.Lib in
/-- strconv.Itoa: "Itoa is equivalent to FormatInt(int64(i), 10).": i's DECIMAL NUMERAL ('Lib.itoa': a '-' where i is negative, then the digits), FOR EVERY int. The world behind the call: the world before it, new blocks behind the heap (the library's 'var a [24]byte'), draws. (LAID: no walk: one application.) -/
theorem Tryz.strconv_Itoa (n : Int) (h0 : -9223372036854775808 ≤ n) (h1 : n ≤ 9223372036854775807) (w : World) (htab : Lib.TabIs Tryz.prog w "internal/strconv.uint64pow10" .u64 Lib.pow10Tab) :
  Calls Tryz.prog 72 #[.int .i64 n] w fun e w'=>e=.returned (.string ⟨(Lib.itoa n).toArray⟩)∧∃k os,w'=grow (w.drewN k) os:=Any.strconv_Itoa Tryz.laysM171 n h0 h1 w htab
def Tryz.lays219_ren:Go.Shelf.Ren:=⟨fun|219=>133|217=>105|225=>164|224=>165|267=>166|266=>137|314=>189|n=>n,fun|9=>9|3=>3|4=>4|5=>5|46=>109|146=>179|51=>178|n=>n,fun|1=>0|n=>n⟩
theorem Tryz.lays219:Go.Proofs.Lays.n219 Tryz.prog Tryz.lays219_ren:={
 mixed:=by kernel_rfl
 f217:=Tryz.func105.trans (congrArg some (by kernel_rfl))
 f219:=Tryz.func133.trans (congrArg some (by kernel_rfl))
 f224:=Tryz.func165.trans (congrArg some (by kernel_rfl))
 f225:=Tryz.func164.trans (congrArg some (by kernel_rfl))
 f266:=Tryz.func137.trans (congrArg some (by kernel_rfl))
 f267:=Tryz.func166.trans (congrArg some (by kernel_rfl))
 f314:=Tryz.func189.trans (congrArg some (by kernel_rfl))
 t3:=Tryz.underlying3
 a3:=Tryz.isAgg3
 z3:=Tryz.sizeOf3
 v3:=Tryz.zeroValue3
 t4:=Tryz.underlying4
 a4:=Tryz.isAgg4
 z4:=Tryz.sizeOf4
 v4:=Tryz.zeroValue4
 t5:=Tryz.underlying5
 a5:=Tryz.isAgg5
 z5:=Tryz.sizeOf5
 v5:=Tryz.zeroValue5
 t9:=Tryz.underlying9
 a9:=Tryz.isAgg9
 z9:=Tryz.sizeOf9
 v9:=Tryz.zeroValue9
 t46:=Tryz.underlying109
 a46:=Tryz.isAgg109
 z46:=Tryz.sizeOf109
 v46:=Tryz.zeroValue109
 t51:=Tryz.underlying178
 a51:=Tryz.isAgg178
 z51:=Tryz.sizeOf178
 v51:=Tryz.zeroValue178
 t146:=Tryz.underlying179
 a146:=Tryz.isAgg179
 z146:=Tryz.sizeOf179
 v146:=Tryz.zeroValue179
 g1:=by kernel_rfl }
open Go.RowKit Go.Lib in
/-- internal/stringslite.Index (what strings.Index calls) AT A substr OF ONE BYTE c: IT RETURNS 'Lib.indexByte s c'; the world is as it was. (LAID: no walk: one application.) -/
theorem Tryz.stringslite_Index_one (s:ByteArray) (c:UInt8) (w:World) :
  Calls Tryz.prog 133 #[.string s,.string ⟨#[c]⟩] w fun e w'=>e=.returned (.int .i64 (Lib.indexByte s.data.toList c))∧w'=w:=Any.stringslite_Index_one Tryz.lays219 s c w
def Tryz.lays144_ren:Go.Shelf.Ren:=⟨fun|144=>150|143=>182|219=>133|217=>105|225=>164|224=>165|267=>166|266=>137|314=>189|n=>n,fun|9=>9|4=>4|3=>3|5=>5|46=>109|146=>179|51=>178|n=>n,fun|1=>0|n=>n⟩
theorem Tryz.lays144:Go.Proofs.Lays.n144 Tryz.prog Tryz.lays144_ren:={
 mixed:=by kernel_rfl
 f143:=Tryz.func182.trans (congrArg some (by kernel_rfl))
 f144:=Tryz.func150.trans (congrArg some (by kernel_rfl))
 f217:=Tryz.func105.trans (congrArg some (by kernel_rfl))
 f219:=Tryz.func133.trans (congrArg some (by kernel_rfl))
 f224:=Tryz.func165.trans (congrArg some (by kernel_rfl))
 f225:=Tryz.func164.trans (congrArg some (by kernel_rfl))
 f266:=Tryz.func137.trans (congrArg some (by kernel_rfl))
 f267:=Tryz.func166.trans (congrArg some (by kernel_rfl))
 f314:=Tryz.func189.trans (congrArg some (by kernel_rfl))
 t3:=Tryz.underlying3
 a3:=Tryz.isAgg3
 z3:=Tryz.sizeOf3
 v3:=Tryz.zeroValue3
 t4:=Tryz.underlying4
 a4:=Tryz.isAgg4
 z4:=Tryz.sizeOf4
 v4:=Tryz.zeroValue4
 t5:=Tryz.underlying5
 a5:=Tryz.isAgg5
 z5:=Tryz.sizeOf5
 v5:=Tryz.zeroValue5
 t9:=Tryz.underlying9
 a9:=Tryz.isAgg9
 z9:=Tryz.sizeOf9
 v9:=Tryz.zeroValue9
 t46:=Tryz.underlying109
 a46:=Tryz.isAgg109
 z46:=Tryz.sizeOf109
 v46:=Tryz.zeroValue109
 t51:=Tryz.underlying178
 a51:=Tryz.isAgg178
 z51:=Tryz.sizeOf178
 v51:=Tryz.zeroValue178
 t146:=Tryz.underlying179
 a146:=Tryz.isAgg179
 z146:=Tryz.sizeOf179
 v146:=Tryz.zeroValue179
 g1:=by kernel_rfl }
open Go.RowKit Go.Lib in
/-- strings.Contains: "Contains reports whether substr is within s.": AT A substr OF ONE BYTE c: IT RETURNS 'decide (0 ≤ Lib.indexByte s c)'; the world is as it was. (LAID: no walk: one application.) -/
theorem Tryz.strings_Contains_one (s:ByteArray) (c:UInt8) (w:World) :
  Calls Tryz.prog 150 #[.string s,.string ⟨#[c]⟩] w fun e w'=>e=.returned (.bool (decide (0≤Lib.indexByte s.data.toList c)))∧w'=w:=Any.strings_Contains_one Tryz.lays144 s c w
def Tryz.lays99_ren:Go.Shelf.Ren:=⟨fun|99=>183|206=>185|n=>n,fun|9=>9|4=>4|3=>3|n=>n,fun|n=>n⟩
theorem Tryz.lays99:Go.Proofs.Lays.n99 Tryz.prog Tryz.lays99_ren:={
 mixed:=by kernel_rfl
 f99:=Tryz.func183.trans (congrArg some (by kernel_rfl))
 f206:=Tryz.func185.trans (congrArg some (by kernel_rfl))
 t3:=Tryz.underlying3
 a3:=Tryz.isAgg3
 z3:=Tryz.sizeOf3
 v3:=Tryz.zeroValue3
 t4:=Tryz.underlying4
 a4:=Tryz.isAgg4
 z4:=Tryz.sizeOf4
 v4:=Tryz.zeroValue4
 t9:=Tryz.underlying9
 a9:=Tryz.isAgg9
 z9:=Tryz.sizeOf9
 v9:=Tryz.zeroValue9 }
open Go.RowKit Go.Lib in
/-- strings.HasPrefix: "HasPrefix reports whether the string s begins with prefix.": IT RETURNS 'Lib.hasPrefix s prefix'; the world is as it was. (LAID: no walk: one application.) -/
theorem Tryz.strings_HasPrefix (s p:ByteArray) (w:World) :
  Calls Tryz.prog 183 #[.string s,.string p] w fun e w'=>e=.returned (.bool (Lib.hasPrefix s.data.toList p.data.toList))∧w'=w:=Any.strings_HasPrefix Tryz.lays99 s p w
def Tryz.laysM146_ren:Go.Shelf.Ren:=⟨fun|146=>155|221=>187|268=>201|138=>198|143=>182|195=>205|197=>200|218=>206|219=>133|260=>208|217=>105|225=>164|224=>165|267=>166|266=>137|314=>189|n=>n,fun|9=>9|31=>22|3=>3|4=>4|0=>0|105=>189|21=>21|5=>5|46=>109|119=>198|139=>201|138=>200|146=>179|51=>178|n=>n,fun|1=>0|3=>4|4=>5|n=>n⟩
theorem Tryz.laysM146:Go.Proofs.LaysM.n146 Tryz.prog Tryz.laysM146_ren:={
 mixed:=by kernel_rfl
 f138:=Tryz.func198.trans (congrArg some (by kernel_rfl))
 f143:=Tryz.func182.trans (congrArg some (by kernel_rfl))
 f146:=Tryz.func155.trans (congrArg some (by kernel_rfl))
 f195:=Tryz.func205.trans (congrArg some (by kernel_rfl))
 f197:=Tryz.func200.trans (congrArg some (by kernel_rfl))
 f217:=Tryz.func105.trans (congrArg some (by kernel_rfl))
 f218:=Tryz.func206.trans (congrArg some (by kernel_rfl))
 f219:=Tryz.func133.trans (congrArg some (by kernel_rfl))
 f221:=Tryz.func187.trans (congrArg some (by kernel_rfl))
 f224:=Tryz.func165.trans (congrArg some (by kernel_rfl))
 f225:=Tryz.func164.trans (congrArg some (by kernel_rfl))
 f260:=Tryz.func208.trans (congrArg some (by kernel_rfl))
 f266:=Tryz.func137.trans (congrArg some (by kernel_rfl))
 f267:=Tryz.func166.trans (congrArg some (by kernel_rfl))
 f268:=Tryz.func201.trans (congrArg some (by kernel_rfl))
 f314:=Tryz.func189.trans (congrArg some (by kernel_rfl))
 t0:=Tryz.underlying0
 a0:=Tryz.isAgg0
 z0:=Tryz.sizeOf0
 v0:=Tryz.zeroValue0
 t3:=Tryz.underlying3
 a3:=Tryz.isAgg3
 z3:=Tryz.sizeOf3
 v3:=Tryz.zeroValue3
 t4:=Tryz.underlying4
 a4:=Tryz.isAgg4
 z4:=Tryz.sizeOf4
 v4:=Tryz.zeroValue4
 t5:=Tryz.underlying5
 a5:=Tryz.isAgg5
 z5:=Tryz.sizeOf5
 v5:=Tryz.zeroValue5
 t9:=Tryz.underlying9
 a9:=Tryz.isAgg9
 z9:=Tryz.sizeOf9
 v9:=Tryz.zeroValue9
 t21:=Tryz.underlying21
 a21:=Tryz.isAgg21
 z21:=Tryz.sizeOf21
 v21:=Tryz.zeroValue21
 t31:=Tryz.underlying22
 a31:=Tryz.isAgg22
 z31:=Tryz.sizeOf22
 v31:=Tryz.zeroValue22
 t46:=Tryz.underlying109
 a46:=Tryz.isAgg109
 z46:=Tryz.sizeOf109
 v46:=Tryz.zeroValue109
 t51:=Tryz.underlying178
 a51:=Tryz.isAgg178
 z51:=Tryz.sizeOf178
 v51:=Tryz.zeroValue178
 t105:=Tryz.underlying189
 a105:=Tryz.isAgg189
 z105:=Tryz.sizeOf189
 v105:=Tryz.zeroValue189
 t119:=Tryz.underlying198
 a119:=Tryz.isAgg198
 z119:=Tryz.sizeOf198
 t138:=Tryz.underlying200
 a138:=Tryz.isAgg200
 z138:=Tryz.sizeOf200
 v138:=Tryz.zeroValue200
 t139:=Tryz.underlying201
 a139:=Tryz.isAgg201
 z139:=Tryz.sizeOf201
 v139:=Tryz.zeroValue201
 t146:=Tryz.underlying179
 a146:=Tryz.isAgg179
 z146:=Tryz.sizeOf179
 v146:=Tryz.zeroValue179
 g1:=by kernel_rfl
 g3:=by kernel_rfl
 g4:=by kernel_rfl
 i0:=by kernel_rfl
 i3:=by kernel_rfl
 i4:=by kernel_rfl
 i5:=by kernel_rfl
 i9:=by kernel_rfl
 i21:=by kernel_rfl
 i31:=by kernel_rfl
 i46:=by kernel_rfl
 i51:=by kernel_rfl
 i105:=by kernel_rfl
 i138:=by kernel_rfl
 i139:=by kernel_rfl
 i146:=by kernel_rfl
 m1:=by kernel_rfl
 s1_3:=fun w h=>Go.Proofs.cell_of_shapedOpen_int (zero:=#[.int .i64 0]) (t:=3) h (of_decide_eq_true (by kernel_rfl)) (by kernel_rfl) rfl (by kernel_rfl) (by kernel_rfl) Tryz.underlying3
 m3:=by kernel_rfl
 m4:=by kernel_rfl }
open Go.RowKit Go.Lib in
/-- strings.Split, sep not empty. (LAID: no walk: one application.) -/
theorem Tryz.strings_Split_shaped (s sep:ByteArray) (w:World) (h:w.ShapedOpen Tryz.prog) (hs:s.size<4294967281) (h1:1≤sep.size) :
  Calls Tryz.prog 155 #[.string s,.string sep] w fun e w'=>
   e=.returned (.slice (some ⟨w.heap.size,0,none⟩) (Lib.countB s sep+1) (Lib.countB s sep+1))∧w'=w.alloc (.cells ((Lib.splitB sep 0 (Lib.countB s sep) s).map Value.string).toArray 9):=Any.strings_Split_shaped Tryz.laysM146 s sep w h hs h1
def Tryz.laysM155_ren:Go.Shelf.Ren:=⟨fun|155=>154|154=>186|138=>198|165=>199|143=>182|166=>188|197=>200|169=>158|195=>205|218=>206|240=>202|241=>207|219=>133|260=>208|276=>209|277=>210|217=>105|225=>164|224=>165|267=>166|266=>137|314=>189|n=>n,fun|9=>9|3=>3|4=>4|72=>146|0=>0|76=>174|105=>189|21=>21|5=>5|70=>144|20=>20|37=>29|75=>173|127=>176|164=>193|46=>109|119=>198|139=>201|138=>200|146=>179|51=>178|80=>151|n=>n,fun|1=>0|3=>4|4=>5|n=>n⟩
theorem Tryz.laysM155:Go.Proofs.LaysM.n155 Tryz.prog Tryz.laysM155_ren:={
 mixed:=by kernel_rfl
 f138:=Tryz.func198.trans (congrArg some (by kernel_rfl))
 f143:=Tryz.func182.trans (congrArg some (by kernel_rfl))
 f154:=Tryz.func186.trans (congrArg some (by kernel_rfl))
 f155:=Tryz.func154.trans (congrArg some (by kernel_rfl))
 f165:=Tryz.func199.trans (congrArg some (by kernel_rfl))
 f166:=Tryz.func188.trans (congrArg some (by kernel_rfl))
 f169:=Tryz.func158.trans (congrArg some (by kernel_rfl))
 f195:=Tryz.func205.trans (congrArg some (by kernel_rfl))
 f197:=Tryz.func200.trans (congrArg some (by kernel_rfl))
 f217:=Tryz.func105.trans (congrArg some (by kernel_rfl))
 f218:=Tryz.func206.trans (congrArg some (by kernel_rfl))
 f219:=Tryz.func133.trans (congrArg some (by kernel_rfl))
 f224:=Tryz.func165.trans (congrArg some (by kernel_rfl))
 f225:=Tryz.func164.trans (congrArg some (by kernel_rfl))
 f240:=Tryz.func202.trans (congrArg some (by kernel_rfl))
 f241:=Tryz.func207.trans (congrArg some (by kernel_rfl))
 f260:=Tryz.func208.trans (congrArg some (by kernel_rfl))
 f266:=Tryz.func137.trans (congrArg some (by kernel_rfl))
 f267:=Tryz.func166.trans (congrArg some (by kernel_rfl))
 f276:=Tryz.func209.trans (congrArg some (by kernel_rfl))
 f277:=Tryz.func210.trans (congrArg some (by kernel_rfl))
 f314:=Tryz.func189.trans (congrArg some (by kernel_rfl))
 t0:=Tryz.underlying0
 a0:=Tryz.isAgg0
 z0:=Tryz.sizeOf0
 v0:=Tryz.zeroValue0
 t3:=Tryz.underlying3
 a3:=Tryz.isAgg3
 z3:=Tryz.sizeOf3
 v3:=Tryz.zeroValue3
 t4:=Tryz.underlying4
 a4:=Tryz.isAgg4
 z4:=Tryz.sizeOf4
 v4:=Tryz.zeroValue4
 t5:=Tryz.underlying5
 a5:=Tryz.isAgg5
 z5:=Tryz.sizeOf5
 v5:=Tryz.zeroValue5
 t9:=Tryz.underlying9
 a9:=Tryz.isAgg9
 z9:=Tryz.sizeOf9
 v9:=Tryz.zeroValue9
 t20:=Tryz.underlying20
 a20:=Tryz.isAgg20
 z20:=Tryz.sizeOf20
 v20:=Tryz.zeroValue20
 t21:=Tryz.underlying21
 a21:=Tryz.isAgg21
 z21:=Tryz.sizeOf21
 v21:=Tryz.zeroValue21
 t37:=Tryz.underlying29
 a37:=Tryz.isAgg29
 z37:=Tryz.sizeOf29
 v37:=Tryz.zeroValue29
 t46:=Tryz.underlying109
 a46:=Tryz.isAgg109
 z46:=Tryz.sizeOf109
 v46:=Tryz.zeroValue109
 t51:=Tryz.underlying178
 a51:=Tryz.isAgg178
 z51:=Tryz.sizeOf178
 v51:=Tryz.zeroValue178
 t70:=Tryz.underlying144
 a70:=Tryz.isAgg144
 z70:=Tryz.sizeOf144
 v70:=Tryz.zeroValue144
 t72:=Tryz.underlying146
 a72:=Tryz.isAgg146
 z72:=Tryz.sizeOf146
 v72:=Tryz.zeroValue146
 t75:=Tryz.underlying173
 a75:=Tryz.isAgg173
 z75:=Tryz.sizeOf173
 v75:=Tryz.zeroValue173
 t76:=Tryz.underlying174
 a76:=Tryz.isAgg174
 z76:=Tryz.sizeOf174
 v76:=Tryz.zeroValue174
 t105:=Tryz.underlying189
 a105:=Tryz.isAgg189
 z105:=Tryz.sizeOf189
 v105:=Tryz.zeroValue189
 t119:=Tryz.underlying198
 a119:=Tryz.isAgg198
 z119:=Tryz.sizeOf198
 t127:=Tryz.underlying176
 a127:=Tryz.isAgg176
 z127:=Tryz.sizeOf176
 v127:=Tryz.zeroValue176
 t138:=Tryz.underlying200
 a138:=Tryz.isAgg200
 z138:=Tryz.sizeOf200
 v138:=Tryz.zeroValue200
 t139:=Tryz.underlying201
 a139:=Tryz.isAgg201
 z139:=Tryz.sizeOf201
 v139:=Tryz.zeroValue201
 t146:=Tryz.underlying179
 a146:=Tryz.isAgg179
 z146:=Tryz.sizeOf179
 v146:=Tryz.zeroValue179
 t164:=Tryz.underlying193
 a164:=Tryz.isAgg193
 z164:=Tryz.sizeOf193
 v164:=Tryz.zeroValue193
 g1:=by kernel_rfl
 g3:=by kernel_rfl
 g4:=by kernel_rfl
 t80:=Tryz.underlying151
 a80:=Tryz.isAgg151
 z80:=Tryz.sizeOf151
 v80:=Tryz.zeroValue151
 i0:=by kernel_rfl
 i3:=by kernel_rfl
 i4:=by kernel_rfl
 i5:=by kernel_rfl
 i9:=by kernel_rfl
 i20:=by kernel_rfl
 i21:=by kernel_rfl
 i37:=by kernel_rfl
 i46:=by kernel_rfl
 i51:=by kernel_rfl
 i70:=by kernel_rfl
 i72:=by kernel_rfl
 i75:=by kernel_rfl
 i76:=by kernel_rfl
 i80:=by kernel_rfl
 i105:=by kernel_rfl
 i127:=by kernel_rfl
 i138:=by kernel_rfl
 i139:=by kernel_rfl
 i146:=by kernel_rfl
 i164:=by kernel_rfl
 m1:=by kernel_rfl
 s1_3:=fun w h=>Go.Proofs.cell_of_shapedOpen_int (zero:=#[.int .i64 0]) (t:=3) h (of_decide_eq_true (by kernel_rfl)) (by kernel_rfl) rfl (by kernel_rfl) (by kernel_rfl) Tryz.underlying3
 m3:=by kernel_rfl
 m4:=by kernel_rfl }
theorem Tryz.Builder_Extra_M155:Builder.Extra Tryz.prog Tryz.laysM155_ren:={
 sizeBuilder:=by kernel_rfl
 liesBuilder:=by kernel_rfl
 t5:=Tryz.underlying5
 a5:=Tryz.isAgg5
 z5:=Tryz.sizeOf5
 v5:=Tryz.zeroValue5
 infoByte:=by kernel_rfl
 cellsByte:=by kernel_rfl
 sizeByte:=by kernel_rfl
 neB5:=by decide }
open Go.RowKit Go.Lib in
/-- strings.ReplaceAll, old not empty. (LAID: no walk: one application.) -/
theorem Tryz.strings_ReplaceAll_shaped (s old new:ByteArray) (w:World) (h:w.ShapedOpen Tryz.prog) (hs:s.size<4294967281) (h1:1≤old.size) (hlen:s.size+Lib.countB s old*new.size≤140737488355328) :
  Calls Tryz.prog 154 #[.string s,.string old,.string new] w fun e w'=>
   e=.returned (.string ⟨(Lib.replaceAll s.data.toList old.data.toList new.data.toList).toArray⟩)∧Below w.heap.size w w':=Any.strings_ReplaceAll_shaped Tryz.laysM155 Tryz.Builder_Extra_M155 s old new w h hs h1 hlen
def Tryz.lays153_ren:Go.Shelf.Ren:=⟨fun|153=>142|152=>175|226=>176|227=>177|228=>178|137=>71|119=>196|224=>165|225=>164|217=>105|266=>137|n=>n,fun|9=>9|3=>3|4=>4|5=>5|21=>21|117=>165|116=>164|0=>0|46=>109|124=>186|n=>n,fun|n=>n⟩
theorem Tryz.lays153:Go.Proofs.Lays.n153 Tryz.prog Tryz.lays153_ren:={
 mixed:=by kernel_rfl
 f119:=Tryz.func196.trans (congrArg some (by kernel_rfl))
 f137:=Tryz.func71.trans (congrArg some (by kernel_rfl))
 f152:=Tryz.func175.trans (congrArg some (by kernel_rfl))
 f153:=Tryz.func142.trans (congrArg some (by kernel_rfl))
 f217:=Tryz.func105.trans (congrArg some (by kernel_rfl))
 f224:=Tryz.func165.trans (congrArg some (by kernel_rfl))
 f225:=Tryz.func164.trans (congrArg some (by kernel_rfl))
 f226:=Tryz.func176.trans (congrArg some (by kernel_rfl))
 f227:=Tryz.func177.trans (congrArg some (by kernel_rfl))
 f228:=Tryz.func178.trans (congrArg some (by kernel_rfl))
 f266:=Tryz.func137.trans (congrArg some (by kernel_rfl))
 t0:=Tryz.underlying0
 a0:=Tryz.isAgg0
 z0:=Tryz.sizeOf0
 v0:=Tryz.zeroValue0
 t3:=Tryz.underlying3
 a3:=Tryz.isAgg3
 z3:=Tryz.sizeOf3
 v3:=Tryz.zeroValue3
 t4:=Tryz.underlying4
 a4:=Tryz.isAgg4
 z4:=Tryz.sizeOf4
 v4:=Tryz.zeroValue4
 t5:=Tryz.underlying5
 a5:=Tryz.isAgg5
 z5:=Tryz.sizeOf5
 v5:=Tryz.zeroValue5
 t9:=Tryz.underlying9
 a9:=Tryz.isAgg9
 z9:=Tryz.sizeOf9
 v9:=Tryz.zeroValue9
 t21:=Tryz.underlying21
 a21:=Tryz.isAgg21
 z21:=Tryz.sizeOf21
 v21:=Tryz.zeroValue21
 t46:=Tryz.underlying109
 a46:=Tryz.isAgg109
 z46:=Tryz.sizeOf109
 v46:=Tryz.zeroValue109
 t116:=Tryz.underlying164
 a116:=Tryz.isAgg164
 z116:=Tryz.sizeOf164
 t117:=Tryz.underlying165
 a117:=Tryz.isAgg165
 z117:=Tryz.sizeOf165
 v117:=Tryz.zeroValue165
 t124:=Tryz.underlying186
 a124:=Tryz.isAgg186
 z124:=Tryz.sizeOf186
 v124:=Tryz.zeroValue186 }
open Go.RowKit Go.Lib in
theorem Tryz.strings_IndexAny_long (hv116:∀w,(zeroValue 164).run Tryz.prog w=.ok (.agg (Array.replicate 256 (.bool false))) w) (s chars:ByteArray) (w:World) (h2:2≤chars.size) (h8:8<s.size) (hs:s.size<4294967281) (hcs:chars.size<4294967281) (hascii:∀(j:Nat) b,chars.data.toList[j]? = some b→b.toNat<128) :
  Calls Tryz.prog 142 #[.string s,.string chars] w fun e w'=>e=.returned (.int .i64 (Lib.indexAny s.data.toList chars.data.toList))∧w'=((w.alloc (.cells (Lib.setCells chars.data.toList) 164)).alloc (.cells (Lib.setCells chars.data.toList) 164)):=Any.strings_IndexAny_long Tryz.lays153 hv116 (by kernel_rfl) s chars w h2 h8 hs hcs hascii
def Tryz.lays150_ren:Go.Shelf.Ren:=⟨fun|150=>120|153=>142|152=>175|226=>176|227=>177|228=>178|137=>71|119=>196|224=>165|225=>164|217=>105|266=>137|n=>n,fun|9=>9|4=>4|3=>3|5=>5|21=>21|117=>165|116=>164|0=>0|46=>109|124=>186|n=>n,fun|n=>n⟩
theorem Tryz.lays150:Go.Proofs.Lays.n150 Tryz.prog Tryz.lays150_ren:={
 mixed:=by kernel_rfl
 f119:=Tryz.func196.trans (congrArg some (by kernel_rfl))
 f137:=Tryz.func71.trans (congrArg some (by kernel_rfl))
 f150:=Tryz.func120.trans (congrArg some (by kernel_rfl))
 f152:=Tryz.func175.trans (congrArg some (by kernel_rfl))
 f153:=Tryz.func142.trans (congrArg some (by kernel_rfl))
 f217:=Tryz.func105.trans (congrArg some (by kernel_rfl))
 f224:=Tryz.func165.trans (congrArg some (by kernel_rfl))
 f225:=Tryz.func164.trans (congrArg some (by kernel_rfl))
 f226:=Tryz.func176.trans (congrArg some (by kernel_rfl))
 f227:=Tryz.func177.trans (congrArg some (by kernel_rfl))
 f228:=Tryz.func178.trans (congrArg some (by kernel_rfl))
 f266:=Tryz.func137.trans (congrArg some (by kernel_rfl))
 t0:=Tryz.underlying0
 a0:=Tryz.isAgg0
 z0:=Tryz.sizeOf0
 v0:=Tryz.zeroValue0
 t3:=Tryz.underlying3
 a3:=Tryz.isAgg3
 z3:=Tryz.sizeOf3
 v3:=Tryz.zeroValue3
 t4:=Tryz.underlying4
 a4:=Tryz.isAgg4
 z4:=Tryz.sizeOf4
 v4:=Tryz.zeroValue4
 t5:=Tryz.underlying5
 a5:=Tryz.isAgg5
 z5:=Tryz.sizeOf5
 v5:=Tryz.zeroValue5
 t9:=Tryz.underlying9
 a9:=Tryz.isAgg9
 z9:=Tryz.sizeOf9
 v9:=Tryz.zeroValue9
 t21:=Tryz.underlying21
 a21:=Tryz.isAgg21
 z21:=Tryz.sizeOf21
 v21:=Tryz.zeroValue21
 t46:=Tryz.underlying109
 a46:=Tryz.isAgg109
 z46:=Tryz.sizeOf109
 v46:=Tryz.zeroValue109
 t116:=Tryz.underlying164
 a116:=Tryz.isAgg164
 z116:=Tryz.sizeOf164
 t117:=Tryz.underlying165
 a117:=Tryz.isAgg165
 z117:=Tryz.sizeOf165
 v117:=Tryz.zeroValue165
 t124:=Tryz.underlying186
 a124:=Tryz.isAgg186
 z124:=Tryz.sizeOf186
 v124:=Tryz.zeroValue186 }
open Go.RowKit Go.Lib in
theorem Tryz.strings_ContainsAny_laid (s chars:ByteArray) (w:World) (hs:s.size<4294967281) (hcs:chars.size<4294967281) (has:∀(j:Nat) b,s.data.toList[j]? = some b→b.toNat<128) (hac:∀(j:Nat) b,chars.data.toList[j]? = some b→b.toNat<128) :
  Calls Tryz.prog 120 #[.string s,.string chars] w fun e w'=>e=.returned (.bool (Lib.containsAny s.data.toList chars.data.toList))∧Below w.heap.size w w':=Any.strings_ContainsAny_laid Tryz.lays150 (by kernel_rfl) s chars w hs hcs has hac
end Go.Proofs
namespace Go.Proofs.YtnnipcgblooemaaGreatDoor
open Go.RowKit
theorem zak {a b:Bool} (h:a=b):Ending.returned (.bool a)=.returned (.bool b):=by rw[h]
theorem zdh {k:IntKind} {a b:Int} (h:a=b):Ending.returned (.int k a)=.returned (.int k b):=by rw[h]
theorem zeo {a b:ByteArray} (h:a=b):Ending.returned (.string a)=.returned (.string b):=by rw[h]
theorem zfw {a b:List UInt8} (h:a=b):Ending.returned (.string ⟨a.toArray⟩)=.returned (.string ⟨b.toArray⟩):=by rw[h]
theorem dd {p q:Prop} [Decidable p] [Decidable q] (h:p↔q):decide p=decide q:=decide_eq_decide.2 h
theorem dt {q:Prop} [Decidable q] (h:q):true=decide q:=(decide_eq_true h).symm
theorem df {q:Prop} [Decidable q] (h:¬q):false=decide q:=(decide_eq_false h).symm
abbrev S (l:List UInt8):ByteArray:=⟨l.toArray⟩
theorem zac (l:List UInt8):(S l).size=l.length:=size_of_list l
theorem zab (l:List UInt8):(S l).data.toList=l:=rfl
theorem S_of (s:ByteArray):S s.data.toList=s:=rfl
theorem zaa (s:ByteArray):s.data.toList.length=s.size:=rfl
theorem zdu (c:UInt8):((c.toNat:Int)).toNat.toUInt8=c:=by rw[Int.toNat_natCast];exact UInt8.ofNat_toNat
theorem zrC (s:ByteArray) (k:Nat) (h:k<s.size):s.data.toList[k]'(by rw[zaa];exact h)=s[k]:=rfl
theorem zkB (s:ByteArray) (k:Nat) (h:k<s.size):s.data.toList.getD k 0=s[k]:=by
 rw[List.getD_eq_getElem?_getD,List.getElem?_eq_getElem (by rw[zaa];exact h)];rfl
theorem zcq (s:ByteArray) (k:Nat) (h:k<s.size):s.data.toList.take (k+1)=s.data.toList.take k++[s[k]]:=by
 rw[List.take_succ_eq_append_getElem (by simpa using h)];rfl
theorem za0 (s:ByteArray) (k:Nat) (h:k<s.size):s.data.toList.drop k=s[k]::s.data.toList.drop (k+1):=by
 rw[List.drop_eq_getElem_cons (by simpa using h)];rfl
theorem zc8 {s:ByteArray} (h:s.size=0):s=S []:=by
 have:s.data.toList=[]:=List.eq_nil_of_length_eq_zero (by rw[zaa];exact h)
 rw[←S_of s,this]
def Qb (w w':World):Prop:=Below w.heap.size w w'
theorem Qb.refl (w:World):Qb w w:=Below.refl _ _
theorem Qb.trans {a b c:World} (h:Qb a b) (k:Qb b c):Qb a c:=Below.trans h (Below.mono k h.size)
theorem Qb.alloc {a b:World} (h:Qb a b) (o:Obj):Qb a (b.alloc o):=Below.alloc h h.size o
theorem Qb.drew {a b:World} (h:Qb a b):Qb a b.drew:=Below.drew h
theorem Qb.drewN {a b:World} (h:Qb a b) (n:Nat):Qb a (b.drewN n):=below_drewN h n
theorem Qb.set {a b:World} (h:Qb a b) {p:Addr} (hp:a.heap.size≤p.block) (u:Value):Qb a (b.setCell p u):=Below.setCell h hp u
theorem Qb.grown {a b c:World} (h:Qb a b) {row:Option Nat} (hg:b.grownBy c row) (hr:∀k,row=some k→a.heap.size≤k):Qb a c:=Below.grown h hg h.size hr
theorem Qb.size {a b:World} (h:Qb a b):a.heap.size≤b.heap.size:=Below.size h
theorem Qb.below {a b:World} (h:Qb a b):Below a.heap.size a b:=h
def zcZ (r:Int×List UInt8):Value:=.tuple #[.string (S r.2),.int .i64 r.1]
def zoT:Value→Nat | .string c=>c.size|_=>0
theorem zai (c:ByteArray):zoT (.string c)=c.size:=rfl
theorem size_extract (c:ByteArray) (a b:Nat) (h:b≤c.size):(c.extract a b).size=b - a:=by
 rw[ByteArray.size_extract];omega
theorem zdb {P:Program} {f:FuncId} {args:Array Value} {w:World} {n:Nat} {v:Value}
  (h:Calls P f args (w.drewN n) fun e w'=>e=.returned v∧w.drewN n=w'):Calls P f args (w.drewN n) fun e w''=>e=.returned v∧∃m,w''=w.drewN m :=
 h.mono fun _ _ ⟨he,hm⟩=>⟨he,n,hm.symm⟩
end Go.Proofs.YtnnipcgblooemaaGreatDoor
