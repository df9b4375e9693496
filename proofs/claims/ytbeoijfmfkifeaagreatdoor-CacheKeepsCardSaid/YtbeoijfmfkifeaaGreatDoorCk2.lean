/- The texts that the proofs of these statements reach, in their order, as few files. -/
import Derived.Test.YtbeoijfmfkifeaaGreatDoorCk1
set_option linter.unusedVariables false
set_option linter.unusedSimpArgs false
set_option maxRecDepth 100000
namespace Go.Proofs.YtbeoijfmfkifeaaGreatDoor.Sx
open Go.RowKit
structure SO where
 dst:Option Nat
 op:SOp
 gd:Option (Nat × Bool)
def zaj (tm:List AV):Option Nat → AV → List AV
 | none,_ => tm
 | some d,v => tm.set d v
theorem zaM {G:Gh} {I:Imm} {tm:List AV} {a:Act} {v:AV} {y:Value} (h:zac G I tm a.tmps.toList) (hv:Den G I v y) (dst:Option Nat):zac G I (zaj tm dst v) (a.put dst y).tmps.toList:=by
 cases dst with
 | none => exact h
 | some d => simp only [zaj,Act.put,Array.toList_setIfInBounds]; exact zac.set d h hv
theorem zaN (a:Act) (dst:Option Nat) (y:Value):(a.put dst y).defers=a.defers:=by cases dst <;> rfl
def wpR (P:Program) [Tabs P]:List SO → List OB → List AV → (List OB → List AV → Prop) → Prop
 | [],objs,tm,K => K objs tm
 | ⟨dst,op,none⟩ :: r,objs,tm,K => wpS P op objs tm fun objs' v => wpR P r objs' (zaj tm dst v) K
 | ⟨dst,op,some (t,want)⟩ :: r,objs,tm,K =>
  match (tm[t]?).getD .u with
  | .b x => (x=want → wpS P op objs (tm.set t (.b want)) fun objs' v => wpR P r objs' (zaj (tm.set t (.b want)) dst v) K) ∧ (x=!want → wpR P r objs (zaj (tm.set t (.b (!want))) dst (.o undef)) K)
  | .o (.tuple vs) => wpR P r objs (zaj tm dst (.o undef)) K
  | _ => False
def zii (ops:List Oper):Option Nat → Bool
 | none => false
 | some d => ops.any fun o => match o.op with
  | .assign (.tmp t) => t == d
  | _ => false
def clipTo (ops:List Oper) (p:Nat):Bool:=ops.any fun o => o.dst == some p && match o.op with
 | .slice _ _ _ _ (some _) => true
 | _ => false
def baseTo (ops:List Oper):Option Nat → Bool
 | none => false
 | some d => ops.any fun o => match o.op with
  | .call c => (match c.callee with
   | .builtin .append => true
   | _ => false) && match (c.args.toList.head?:Option Operand) with
    | some (.tmp t) => t == d
    | _ => false
  | _ => false
def litTo (ops:List Oper) (p:Nat):Bool:=ops.any fun o => o.dst == some p && match o.op with
 | .buildSlice _ len _ => decide (0 < len)
 | _ => false
def soleLit (ops:List Oper):Bool:=decide ((ops.filter fun o => zii ops o.dst && match o.op with
 | .buildSlice .. => true
 | _ => false).length ≤ 1)
def selfLit (ops:List Oper) (e:TypeId):Option Nat → Bool
 | none => false
 | some d => (ops.any fun o => match o.op with
  | .build t parts => t == e && parts.any fun p => match p.2 with
   | .tmp x => x == d
   | _ => false
  | _ => false) && ops.any fun o => match o.op with
   | .alloc t => t == e
   | _ => false
def litOf (P:Program) (ops:List Oper) (o:Oper) (so:SOp):SOp :=
 match so,o.op with
 | .bslice len z ps,.buildSlice t _ _ => match P.underlying t with
  | some (.slice e) => match P.info? e with
   | some ie => if (baseTo ops o.dst && decide (0 < len))=true then .pu (.lit len z (ps.map fun p => (p.1,p.2.1))) (ps.map fun p => p.2.2)
    else if (zii ops o.dst && soleLit ops || selfLit ops e o.dst)=true then .bslo e ie.size len z ps else .bslice len z ps
   | none => .bslice len z ps
  | _ => .bslice len z ps
 | .app E sz by' x y,.call c => match c.callee with
  | .builtin .append => match x with
   | .t p => if clipTo ops p=true then .capp sz by' (.t p) y else if litTo ops p=true then .cappo E sz by' (.t p) y else .app E sz by' (.t p) y
   | x => .app E sz by' x y
  | _ => .app E sz by' x y
 | so,_ => so
def trO (P:Program) (ops:List Oper) (o:Oper):Option SO :=
 match trOp P o.op with
 | none => none
 | some so => match o.guard with
  | none => some ⟨o.dst,litOf P ops o so,none⟩
  | some (j,want) => match (ops[j]?).bind (·.dst) with
   | some t => some ⟨o.dst,litOf P ops o so,some (t,want)⟩
   | none => none
section
variable {P:Program} [Tabs P] {C:Cx} [On P C] {type:TypeId} {objs:List OB} {tm:List AV} {K:List OB → AV → Prop}
omit [On P C] in
theorem capp_ok {args:Array Operand} {ats:Array TypeId} {E sz by':Nat} {x y:SV} (ht:trOp P (.call ⟨.builtin .append,args,ats⟩)=some (.app E sz by' x y)) (h:wpS P (.capp sz by' x y) objs tm K):zax P C (.call ⟨.builtin .append,args,ats⟩) type objs tm K:=by
 have ht0:zcL P (.call ⟨.builtin .append,args,ats⟩)=some (.app E sz by' x y):=ht
 clear ht
 simp only [zcL] at ht0
 split at ht0
 ·rename_i X Y T U hargs hats
  have ea:args=#[X,Y]:=by apply Array.ext'; simpa using hargs
  have et:ats=#[T,U]:=by apply Array.ext'; simpa using hats
  subst ea et
  split at ht0
  ·rename_i e hu
   split at ht0
   ·rename_i i hi
    split at ht0
    ·rename_i z hz
     split at ht0
     ·rename_i hTU
      subst hTU
      split at ht0
      ·rename_i hzs
       injection ht0 with ht0
       injection ht0 with e1 e2 e3 e4 e5
       subst e1 e2 e3 e4 e5
       simp only [wpS] at h
       split at h
       ·rename_i n xs m ys hx hy
        obtain ⟨⟨⟨h1,h2⟩,h3,h4,h5⟩,h⟩:=h
        have hy':zaT objs ((zaf Y).ev tm)=some (m,ys):=zhq hy
        exact ok_capp T _ X Y _ i z hu hi hz hzs.2 n m xs ys hx hy' h2 h1 h3 h4 h5 h
       ·exact h.elim
      ·cases ht0
     ·split at ht0
      ·split at ht0 <;> cases ht0
      ·cases ht0
    ·cases ht0
   ·cases ht0
  ·cases ht0
 ·cases ht0
omit [On P C] in
theorem cappo_ok {args:Array Operand} {ats:Array TypeId} {E sz by':Nat} {x y:SV} (ht:trOp P (.call ⟨.builtin .append,args,ats⟩)=some (.app E sz by' x y)) (h:wpS P (.cappo E sz by' x y) objs tm K):zax P C (.call ⟨.builtin .append,args,ats⟩) type objs tm K:=by
 have ht0:zcL P (.call ⟨.builtin .append,args,ats⟩)=some (.app E sz by' x y):=ht
 clear ht
 simp only [zcL] at ht0
 split at ht0
 ·rename_i X Y T U hargs hats
  have ea:args=#[X,Y]:=by apply Array.ext'; simpa using hargs
  have et:ats=#[T,U]:=by apply Array.ext'; simpa using hats
  subst ea et
  split at ht0
  ·rename_i e hu
   split at ht0
   ·rename_i i hi
    split at ht0
    ·rename_i z hz
     split at ht0
     ·rename_i hTU
      subst hTU
      split at ht0
      ·rename_i hzs
       injection ht0 with ht0
       injection ht0 with e1 e2 e3 e4 e5
       subst e1 e2 e3 e4 e5
       simp only [wpS] at h
       split at h
       ·rename_i n xs m ys hx hy
        obtain ⟨⟨⟨h1,h2⟩,h3,h4,h5⟩,h⟩:=h
        have hy':zaT objs ((zaf Y).ev tm)=some (m,ys):=hy
        exact ok_cappo T _ X Y _ i z hu hi hz hzs.1 hzs.2 n m xs ys hx hy' h2 h1 h3 h4 h5 h
       ·exact h.elim
      ·cases ht0
     ·split at ht0
      ·split at ht0 <;> cases ht0
      ·cases ht0
    ·cases ht0
   ·cases ht0
  ·cases ht0
 ·cases ht0
theorem zha (tm:List AV):∀ ps:List (Nat × Nat × SV),zipA (ps.map fun p => (p.1,p.2.1)) ((ps.map fun p => p.2.2).map fun x => x.ev tm)=ps.map fun p => (p.1,p.2.1,p.2.2.ev tm)
 | [] => rfl
 | (a,b,c) :: ps => by simp only [List.map_cons,zipA,zha tm ps]
theorem zdC (ops:List Oper) (o:Oper) (so:SOp) (ht:trOp P o.op=some so) (h:wpS P (litOf P ops o so) objs tm K):zax P C o.op type objs tm K:=by
 unfold litOf at h
 split at h
 ·rename_i len z ps t ln parts ho
  split at h
  ·rename_i e hu
   split at h
   ·rename_i ie hie
    split at h
    ·rw [ho] at ht ⊢
     have ht0:zcL P (.buildSlice t ln parts)=some (.bslice len z ps):=ht
     simp only [zcL,hu,hie] at ht0
     split at ht0
     ·rename_i z' ps' hz hps
      split at ht0
      ·rename_i h1
       injection ht0 with ht0
       injection ht0 with e1 e2 e3
       subst e1 e2 e3
       simp only [wpS,pq,zha] at h
       split at h
       ·rename_i v hv
        obtain ⟨cs,hf,rfl⟩:=Option.map_eq_some_iff.1 hv
        exact ok_bscr _ e _ _ ie z' hu hie hz h1.1.1 h1.1.2 _ rfl h1.2 ps' hps cs hf h
       ·exact h.elim
      ·split at ht0 <;> cases ht0
     ·cases ht0
    split at h
    ·rw [ho] at ht ⊢
     have ht0:zcL P (.buildSlice t ln parts)=some (.bslice len z ps):=ht
     simp only [zcL,hu,hie] at ht0
     split at ht0
     ·rename_i z' ps' hz hps
      split at ht0
      ·rename_i h1
       injection ht0 with ht0
       injection ht0 with e1 e2 e3
       subst e1 e2 e3
       simp only [wpS] at h
       split at h
       ·rename_i cs hf; exact ok_bslo _ e _ _ ie z' hu hie hz h1.1.1 h1.1.2 _ rfl h1.2 ps' hps cs hf h.1 h.2
       ·exact h.elim
      ·split at ht0 <;> cases ht0
     ·cases ht0
    ·exact zcJ o.op _ ht h
   ·exact zcJ o.op _ ht h
  ·exact zcJ o.op _ ht h
 ·rename_i E sz by' x y c ho
  rw [ho] at ht ⊢
  split at h
  ·rename_i hc
   obtain ⟨callee,args,ats⟩:=c
   dsimp only at hc
   subst hc
   split at h
   ·split at h
    ·exact capp_ok ht h
    ·split at h
     ·exact cappo_ok ht h
     ·exact zcJ _ _ ht h
   ·exact zcJ _ _ ht h
  ·exact zcJ _ _ ht h
 ·exact zcJ o.op _ ht h
end
theorem zac.set_same {G:Gh} {I:Imm} {tm:List AV} {ys:List Value} (t:Nat) (x:AV) (h:zac G I tm ys) (hx:∀ y,ys[t]? = some y → Den G I x y):zac G I (tm.set t x) ys:=by
 rcases Nat.lt_or_ge t tm.length with hl | hl
 ·have hl2:t < ys.length:=by rw [← h.length]; exact hl
  have hy:ys[t]? = some ys[t]:=List.getElem?_eq_getElem hl2
  have:=zac.set t h (hx _ hy)
  rwa [List.set_getElem_self] at this
 ·rw [List.set_eq_of_length_le hl]; exact h
section
variable {P:Program} [Tabs P] {C:Cx} [On P C] {K:zas}
theorem zdD (ops:Array Oper) (o:Oper) (so0 so:SO) (hd0:so.dst=so0.dst) (hg0:so.gd=so0.gd) (hcv:∀ objs tm K,wpS P so.op objs tm K → wpS P so0.op objs tm K) (rest:List SO) (objs:List OB) (tm:List AV) (K':List OB → List AV → Prop) (N:Act → World → Prop) (Q:Exit → Act → World → Prop) (h1:trO P ops.toList o=some so0) (h:wpR P (so :: rest) objs tm K') (a:Act) (w:World) (hr:Rel C objs tm a w)
  (hN:∀ objs tm a w,wpR P rest objs tm K' → Rel C objs tm a w → N a w):if Region.wanted o (yielded ops a.tmps) then o.wp P a w N Q else N (a.put o.dst undef) w:=by
 obtain ⟨d1,op1,g1⟩:=so
 dsimp only at hd0 hg0 hcv
 subst hd0 hg0
 unfold trO at h1
 split at h1
 ·cases h1
 ·rename_i op hop
  obtain ⟨G,I,hin,hm,hd,hdef⟩:=hr
  split at h1
  ·rename_i hg
   injection h1 with h1; subst h1
   dsimp only at h hcv ⊢
   simp only [wpR] at h
   rw [if_pos (by simp [Region.wanted,hg])]
   refine zdC (C:=C) (type:=o.type) ops.toList o op hop (hcv _ _ _ h) G I a w hin hm hd o _ _ rfl rfl ?_
   intro objs' v y G' I' w' hk l1 l2 l3 l4 l5
   exact hN objs' _ _ _ hk ⟨G',I',l3,l4,zaM (zac.mono l1 l2 _ _ hd) l5 o.dst,by rw [zaN]; exact hdef⟩
  ·rename_i j want hg
   split at h1
   ·rename_i t hj
    injection h1 with h1; subst h1
    dsimp only at h hcv ⊢
    have hj':(ops[j]?).bind (·.dst)=some t:=by simpa using hj
    simp only [wpR] at h
    have hval:∀ v,tm[t]? = some v → ∃ y,a.tmps[t]? = some y ∧ Den G I v y:=by
     intro v hv
     obtain ⟨y,h3,h4⟩:=zac.get t hd hv
     exact ⟨y,by simpa using h3,h4⟩
    cases htm:tm[t]? with
    | none => rw [htm] at h; exact h.elim
    | some v =>
     rw [htm] at h
     obtain ⟨y,hy,hyd⟩:=hval v htm
     have hyl:a.tmps.toList[t]? = some y:=by simpa using hy
     simp only [Option.getD_some] at h
     split at h
     ·rename_i x
      simp only [Den] at hyd; subst hyd
      have hyi:yielded ops a.tmps j=some x:=by simp [yielded,hj',hy]
      have hset:∀ b,x=b → zac G I (tm.set t (.b b)) a.tmps.toList:=by
       rintro b rfl
       exact zac.set_same t _ hd (fun y' hy' => by rw [hyl] at hy'; injection hy' with hy'; subst hy'; simp [Den])
      by_cases hx:x=want
      ·rw [if_pos (by simp [Region.wanted,hg,hyi,hx])]
       refine zdC (C:=C) (type:=o.type) ops.toList o op hop (hcv _ _ _ (h.1 hx)) G I a w hin hm (hset _ hx) o _ _ rfl rfl ?_
       intro objs' v y G' I' w' hk l1 l2 l3 l4 l5
       exact hN objs' _ _ _ hk ⟨G',I',l3,l4,zaM (zac.mono l1 l2 _ _ (hset _ hx)) l5 o.dst,by rw [zaN]; exact hdef⟩
      ·have hx':x=!want:=by cases x <;> cases want <;> first | rfl | exact absurd rfl hx
       rw [if_neg (by simp [Region.wanted,hg,hyi,hx])]
       exact hN objs _ _ _ (h.2 hx') ⟨G,I,hin,hm,zaM (hset _ hx') (by simp [Den]) o.dst,by rw [zaN]; exact hdef⟩
     ·rename_i vs
      simp only [Den] at hyd; subst hyd
      have hyi:yielded ops a.tmps j=none:=by simp [yielded,hj',hy]
      rw [if_neg (by simp [Region.wanted,hg,hyi])]
      exact hN objs _ _ _ h ⟨G,I,hin,hm,zaM hd (by simp [Den]) o.dst,by rw [zaN]; exact hdef⟩
     ·exact h.elim
   ·cases h1
theorem wpR_ok (ops:Array Oper):∀ (l:List Oper) (sos:List SO) (objs:List OB) (tm:List AV),l.mapM (trO P ops.toList)=some sos → wpR P sos objs tm (fun o t => K .normal o t) → ∀ a w,Rel C objs tm a w → wpList P ops (zcx C K) l a w
 | [],sos,objs,tm,ht,h,a,w,hr => by
  simp at ht; subst ht
  exact ⟨objs,tm,h,hr⟩
 | o :: l,sos,objs,tm,ht,h,a,w,hr => by
  simp only [List.mapM_cons,Option.bind_eq_bind,Option.pure_def] at ht
  cases h1:trO P ops.toList o with
  | none => simp [h1] at ht
  | some so =>
   cases h2:l.mapM (trO P ops.toList) with
   | none => simp [h1,h2] at ht
   | some rest =>
    simp [h1,h2] at ht
    subst ht
    have:=zdD ops o so so rfl rfl (fun _ _ _ h => h) rest objs tm _ (wpList P ops (zcx C K) l) (zcx C K) h1 h a w hr (fun objs tm a w hk hr => wpR_ok ops l rest objs tm h2 hk a w hr)
    unfold wpList
    split
    ·rename_i hw; rw [if_pos hw] at this; exact .inl this
    ·rename_i hw; rw [if_neg hw] at this; exact this
end
def SOp.svs:SOp → List SV
 | .mv x => [x]
 | .pick c x y => [c,x,y]
 | .alloc _ _ => []
 | .mkm0 => []
 | .mkm1 x => [x]
 | .lk _ _ x y => [x,y]
 | .mup x y v => [x,y,v]
 | .mph _ _ x y v => [x,y,v]
 | .box _ x => [x]
 | .build _ ps => ps.map (·.2.2)
 | .bslice _ _ ps => ps.map (·.2.2)
 | .bslo _ _ _ _ ps => ps.map (·.2.2)
 | .load1 x | .loadn _ x | .nck x | .not x | .neg x | .cvi _ x | .cvs x | .cvbs x | .fad _ x | .fld1 _ x | .fldn _ _ x | .ext x _ | .lens x | .lenr x => [x]
 | .store _ x y | .bin _ x y | .beq _ x y | .eqs _ _ x y | .iad _ x y | .iada _ _ x y | .iadr _ x y | .idx x y | .app _ _ _ x y | .apps _ x y | .mks _ _ _ x y | .trn _ x y | .capp _ _ x y | .cappo _ _ _ x y => [x,y]
 | .mkz _ _ _ _ x => [x]
 | .slcs x lo hi => x :: lo.toList ++ hi.toList
 | .call _ args => args
 | .pcall _ args => args
 | .callv x args => x :: args
 | .inv _ x args => x :: args
 | .mkf _ fs cs => fs ++ cs
 | .pu _ xs => xs
theorem zbb {tm tm':List AV} {l:List SV} (h:∀ x ∈ l,x.ev tm=x.ev tm'):l.map (fun x => x.ev tm)=l.map (fun x => x.ev tm'):=List.map_congr_left h
theorem ps_congr {tm tm':List AV} {l:List (Nat × Nat × SV)} (h:∀ x ∈ l.map (·.2.2),x.ev tm=x.ev tm'):l.map (fun p => (p.1,p.2.1,p.2.2.ev tm))=l.map (fun p => (p.1,p.2.1,p.2.2.ev tm')) :=
 List.map_congr_left fun p hp => by rw [h p.2.2 (List.mem_map_of_mem hp)]
theorem zde {tm tm':List AV} (d:Int) (o:Option SV) (h:∀ x ∈ o.toList,x.ev tm=x.ev tm'):zeG tm d o=zeG tm' d o:=by
 cases o with
 | none => rfl
 | some x => simp only [zeG,h x (by simp)]
theorem zaP {P:Program} [Tabs P] {so:SOp} {objs:List OB} {tm tm':List AV} {K:List OB → AV → Prop} (h:∀ x ∈ so.svs,x.ev tm=x.ev tm'):wpS P so objs tm K=wpS P so objs tm' K:=by
 cases so <;> simp only [SOp.svs,List.mem_cons,List.not_mem_nil,or_false,forall_eq_or_imp,forall_eq,List.cons_append,List.nil_append] at h <;> first
  | (simp only [wpS,h]; done)
  | (simp only [wpS]; rw [ps_congr h]; done)
  | (simp only [wpS]; rw [zbb h]; done)
  | (simp only [wpS,h.1]; rw [zbb h.2]; done)
  | (simp only [wpS]; rw [zbb (fun x hx => h x (List.mem_append_left _ hx)),zbb (fun x hx => h x (List.mem_append_right _ hx))]; done)
  | (have e1:=fun d => zde (tm:=tm) (tm':=tm') d _ (fun x hx => h.2 x (List.mem_append_left _ hx)); have e2:=fun d => zde (tm:=tm) (tm':=tm') d _ (fun x hx => h.2 x (List.mem_append_right _ hx)); simp only [wpS,h.1,e1,e2]; done)
  | rfl
  | skip
def SOp.calm:SOp → Bool
 | .alloc .. | .box .. | .bslo .. | .store .. | .app .. | .cappo .. | .apps .. | .mks .. | .mkz .. | .trn .. | .mkm0 | .mkm1 .. | .mup .. | .mph .. => false
 | _ => true
def SOp.isCall:SOp → Bool
 | .call .. | .pcall .. | .callv .. | .inv .. => true
 | _ => false
theorem za6 {P:Program} [Tabs P] {so:SOp} {objs:List OB} {tm:List AV} {W:List OB → AV → Prop} (hc:so.calm=true) (hn:so.isCall=false) (h:wpS P so objs tm W):∃ v,(∀ K:List OB → AV → Prop,K objs v → wpS P so objs tm K) ∧ W objs v:=by
 cases so <;> simp only [SOp.calm,SOp.isCall,reduceCtorEq] at hc hn <;> simp only [wpS] at h ⊢
 case pick c x y =>
  split at h
  ·rename_i t _
   cases t
   ·exact ⟨_,fun K hk => ⟨fun e => absurd e Bool.false_ne_true,fun _ => hk⟩,h.2 rfl⟩
   ·exact ⟨_,fun K hk => ⟨fun _ => hk,fun e => absurd e.symm Bool.false_ne_true⟩,h.1 rfl⟩
  ·exact h.elim
 case load1 x =>
  split at h
  ·split at h
   ·split at h
    ·exact ⟨_,fun K hk => hk,h⟩
    ·exact h.elim
   ·exact h.elim
  ·obtain ⟨v,h1,h2⟩:=h
   exact ⟨v,fun K hk => ⟨v,h1,hk⟩,h2⟩
  ·split at h
   ·obtain ⟨h0,v,h1,h2⟩:=h
    exact ⟨v,fun K hk => ⟨h0,v,h1,hk⟩,h2⟩
   ·exact h.elim
  ·exact h.elim
 case cvbs x =>
  split at h
  ·split at h
   ·obtain ⟨h0,l,h1,h2⟩:=h
    exact ⟨_,fun K hk => ⟨h0,l,h1,hk⟩,h2⟩
   ·exact h.elim
  ·obtain ⟨l,h1,h2⟩:=h
   exact ⟨_,fun K hk => ⟨l,h1,hk⟩,h2⟩
  ·exact ⟨_,fun K hk => hk,h⟩
  ·split at h
   ·obtain ⟨l,h1,h2⟩:=h
    exact ⟨_,fun K hk => ⟨l,h1,hk⟩,h2⟩
   ·exact h.elim
  ·exact h.elim
 case bin op x y =>
  unfold zjW at h
  unfold zjW
  split at h
  ·obtain ⟨hk,h⟩:=h
   subst hk
   have key:∀ (k:IntKind) (r:Int),arK k r (fun r => W objs (.i k r)) → ∃ v,(∀ K:List OB → AV → Prop,K objs v → arK k r fun r => K objs (.i k r)) ∧ W objs v:=by
    intro k r h
    cases k <;> simp only [arK] at h ⊢ <;> first | exact ⟨_,fun K hk => ⟨h.1,hk⟩,h.2⟩ | exact ⟨_,fun K hk => hk,h⟩
   split at h
   ·obtain ⟨v,h1,h2⟩:=key _ _ h; exact ⟨v,fun K hk => ⟨rfl,h1 K hk⟩,h2⟩
   ·obtain ⟨v,h1,h2⟩:=key _ _ h; exact ⟨v,fun K hk => ⟨rfl,h1 K hk⟩,h2⟩
   ·obtain ⟨v,h1,h2⟩:=key _ _ h; exact ⟨v,fun K hk => ⟨rfl,h1 K hk⟩,h2⟩
   ·obtain ⟨v,h1,h2⟩:=key _ _ h.2; exact ⟨v,fun K hk => ⟨rfl,h.1,h1 K hk⟩,h2⟩
   ·exact ⟨_,fun K hk => ⟨rfl,h.1,hk⟩,h.2⟩
   all_goals first | exact ⟨_,fun K hk => ⟨rfl,hk⟩,h⟩ | exact h.elim
  ·split at h
   ·exact ⟨_,fun K hk => ⟨h.1,hk⟩,h.2⟩
   all_goals first | exact ⟨_,fun K hk => hk,h⟩ | exact h.elim
  ·exact h.elim
 case neg x =>
  split at h
  ·rename_i k n _
   cases k <;> simp only [arK] at h ⊢ <;> first | exact ⟨_,fun K hk => ⟨h.1,hk⟩,h.2⟩ | exact ⟨_,fun K hk => hk,h⟩
  ·exact h.elim
 all_goals first
  | exact ⟨_,fun K hk => hk,h⟩
  | (split at h <;> first | exact ⟨_,fun K hk => hk,h⟩ | exact ⟨_,fun K hk => ⟨h.1,hk⟩,h.2⟩ | exact h.elim | (split at h <;> first | exact ⟨_,fun K hk => hk,h⟩ | exact ⟨_,fun K hk => ⟨h.1,hk⟩,h.2⟩ | exact h.elim))
theorem zhh {P:Program} [Tabs P] {so:SOp} {objs:List OB} {tm:List AV} {W:List OB → AV → Prop} (hc:so.calm=true) (hn:so.isCall=false) (h:wpS P so objs tm W):∃ v,wpS P so objs tm (fun o x => o=objs ∧ x=v) ∧ W objs v:=by
 obtain ⟨v,h1,h2⟩:=za6 hc hn h
 exact ⟨v,h1 _ ⟨rfl,rfl⟩,h2⟩
def SOp.touch:SOp → Bool
 | .alloc .. | .box .. | .bslo .. | .store .. | .app .. | .cappo .. | .apps .. | .mks .. | .mkz .. | .trn .. | .mkm0 | .mkm1 .. | .mup .. | .mph .. | .lk .. | .load1 .. | .loadn .. | .cvbs .. | .call .. | .callv .. | .inv .. | .lenr .. | .iad .. => true
 | _ => false
theorem zbM {so:SOp} (h:so.calm=false):so.touch=true ∧ so.isCall=false:=by
 cases so <;> simp [SOp.calm,SOp.touch,SOp.isCall] at h ⊢
theorem zeI {P:Program} [Tabs P] {so:SOp} {objs cur:List OB} {tm:List AV} {v:AV} (ht:so.touch=false) (h:wpS P so objs tm (fun o x => o=objs ∧ x=v)):wpS P so cur tm (fun o x => o=cur ∧ x=v):=by
 by_cases hn:so.isCall=true
 ·cases so <;> simp only [SOp.isCall,SOp.touch,reduceCtorEq,Bool.true_eq_false,Bool.false_eq_true] at hn ht
  case pcall f args =>
   simp only [wpS] at h ⊢
   exact ⟨h.1,h.2.mono fun o r h2 => ⟨h2.1,by trivial,h2.2.2⟩⟩
 ·simp only [Bool.not_eq_true] at hn
  have hc:so.calm=true:=by cases so <;> simp [SOp.touch,SOp.calm] at ht ⊢
  have key:∀ K:List OB → AV → Prop,wpS P so objs tm K → wpS P so cur tm (fun _ x => K objs x):=by
   intro K h
   cases so <;> simp only [SOp.touch,SOp.isCall,reduceCtorEq] at ht hn <;> exact h
  have h1:=key _ h
  obtain ⟨x,h2,h3⟩:=za6 hc hn h1
  obtain ⟨_,rfl⟩:=h3
  exact h2 _ ⟨rfl,rfl⟩
theorem zd6 {P:Program} [Tabs P] {so:SOp} {objs:List OB} {tm:List AV} {W:List OB → AV → Prop} (hc:so.calm=false) (h:wpS P so objs tm W):∃ o' v,(∀ K:List OB → AV → Prop,K o' v → wpS P so objs tm K) ∧ W o' v:=by
 cases so <;> simp only [SOp.calm,reduceCtorEq] at hc <;> simp only [wpS] at h ⊢
 case alloc T z => exact ⟨_,_,fun K hk => hk,h⟩
 case mkm0 => exact ⟨_,_,fun K hk => hk,h⟩
 case mkm1 x =>
  split at h
  ·exact ⟨_,_,fun K hk => hk,h⟩
  ·exact h.elim
 case mup x y v =>
  split at h
  ·split at h
   ·exact ⟨_,_,fun K hk => ⟨h.1,hk⟩,h.2⟩
   ·exact h.elim
  ·exact h.elim
 case mph q z x y v =>
  split at h
  ·exact ⟨_,_,fun K hk => hk,h⟩
  ·split at h
   ·split at h
    ·exact ⟨_,_,fun K hk => ⟨h.1,hk⟩,h.2⟩
    ·exact h.elim
   ·exact h.elim
  ·split at h
   ·split at h
    ·exact ⟨_,_,fun K hk => hk,h⟩
    ·exact h.elim
   ·exact h.elim
 case box T x => exact ⟨_,_,fun K hk => ⟨h.1,hk⟩,h.2⟩
 case bslo E sz len z ps =>
  split at h
  ·exact ⟨_,_,fun K hk => ⟨h.1,hk⟩,h.2⟩
  ·exact h.elim
 case store sz x y =>
  split at h
  ·split at h
   ·exact ⟨_,_,fun K hk => ⟨h.1,hk⟩,h.2⟩
   ·exact h.elim
  ·split at h
   ·exact ⟨_,_,fun K hk => ⟨h.1,hk⟩,h.2⟩
   ·exact h.elim
  ·exact h.elim
 case trn sz x y =>
  split at h
  ·exact ⟨_,_,fun K hk => ⟨h.1,hk⟩,h.2⟩
  ·exact ⟨_,_,fun K hk => ⟨h.1,hk⟩,h.2⟩
  ·split at h
   ·exact ⟨_,_,fun K hk => ⟨h.1,hk⟩,h.2⟩
   ·exact h.elim
  ·exact h.elim
 case app E sz by' x y =>
  split at h
  ·split at h
   ·split at h
    ·exact ⟨_,_,fun K hk => ⟨h.1,hk⟩,h.2⟩
    ·exact h.elim
   ·exact ⟨_,_,fun K hk => ⟨h.1,hk⟩,h.2⟩
   ·exact h.elim
  ·exact h.elim
 case cappo E sz by' x y =>
  split at h
  ·exact ⟨_,_,fun K hk => ⟨h.1,hk⟩,h.2⟩
  ·exact h.elim
 case apps E x y =>
  split at h
  ·split at h
   ·split at h
    ·exact ⟨_,_,fun K hk => ⟨h.1,hk⟩,h.2⟩
    ·exact h.elim
   ·exact ⟨_,_,fun K hk => ⟨h.1,hk⟩,h.2⟩
   ·exact h.elim
  ·exact h.elim
 case mks E sz by' x y =>
  split at h
  ·exact ⟨_,_,fun K hk => ⟨h.1,hk⟩,h.2⟩
  ·exact h.elim
 case mkz E by' kd z x =>
  split at h
  ·exact ⟨_,_,fun K hk => ⟨h.1,hk⟩,h.2⟩
  ·exact h.elim
def Fact (P:Program) [Tabs P] (objs:List OB) (o:SO) (v:AV) (o':List OB) (tm:List AV):Prop :=
 (o.op.calm=true → o'=objs) ∧
 match o.gd with
 | none => wpS P o.op objs tm fun y x => y=o' ∧ x=v
 | some (t,want) => (tm[t]? = some (.b want) ∧ wpS P o.op objs tm fun y x => y=o' ∧ x=v) ∨ ((tm[t]? = some (.b (!want)) ∨ ∃ vs,tm[t]? = some (.o (.tuple vs))) ∧ v=.o undef ∧ o'=objs)
def zj5 (P:Program) [Tabs P]:List OB → List SO → List AV → List (List OB) → List AV → Prop
 | _,[],[],[],_ => True
 | objs,o :: r,v :: vs,o' :: os,tm => Fact P objs o v o' tm ∧ zj5 P o' r vs os (zaj tm o.dst v)
 | _,_,_,_,_ => False
def asg (p:Nat → Bool):Nat → List SO → List AV → List AV → List AV
 | k,o :: r,v :: vs,tm => asg p (k + 1) r vs (if p k=true then zaj tm o.dst v else tm)
 | _,_,_,tm => tm
def obA (p:Nat → Bool):Nat → List SO → List (List OB) → List OB → List OB
 | k,o :: r,o' :: os,cur => obA p (k + 1) r os (if (p k && !o.op.calm)=true then o' else cur)
 | _,_,_,cur => cur
def wpD (P:Program) [Tabs P]:List SO → List OB → List AV → (List OB → List AV → Prop) → Prop
 | [],objs,tm,K => K objs tm
 | ⟨dst,op,none⟩ :: r,objs,tm,K =>
  if op.isCall=true then ∃ v,wpS P op objs tm (fun o x => o=objs ∧ x=v) ∧ wpD P r objs (zaj tm dst v) K
  else wpS P op objs tm fun o v => wpD P r o (zaj tm dst v) K
 | ⟨dst,op,some (t,want)⟩ :: r,objs,tm,K =>
  match (tm[t]?).getD .u with
  | .b x => (x=want → if op.isCall=true then ∃ v,wpS P op objs (tm.set t (.b want)) (fun o x => o=objs ∧ x=v) ∧ wpD P r objs (zaj (tm.set t (.b want)) dst v) K
    else wpS P op objs (tm.set t (.b want)) fun o v => wpD P r o (zaj (tm.set t (.b want)) dst v) K) ∧
   (x=!want → wpD P r objs (zaj (tm.set t (.b (!want))) dst (.o undef)) K)
  | .o (.tuple _) => wpD P r objs (zaj tm dst (.o undef)) K
  | _ => False
theorem set_same {tm:List AV} {t:Nat} {x:AV} (h:tm[t]? = some x):tm.set t x=tm:=by
 obtain ⟨hl,he⟩:=List.getElem?_eq_some_iff.1 h
 rw [← he,List.set_getElem_self]
theorem zhi {P:Program} [Tabs P] {op:SOp} {objs:List OB} {tm:List AV} {W:List OB → AV → Prop} (h:if op.isCall=true then ∃ v,wpS P op objs tm (fun o x => o=objs ∧ x=v) ∧ W objs v else wpS P op objs tm W):∃ v o',(op.calm=true → o'=objs) ∧ wpS P op objs tm (fun o x => o=o' ∧ x=v) ∧ W o' v:=by
 by_cases hi:op.isCall=true
 ·rw [if_pos hi] at h
  obtain ⟨v,h1,h2⟩:=h
  exact ⟨v,objs,fun _ => rfl,h1,h2⟩
 ·rw [if_neg hi] at h
  cases hc:op.calm with
  | true =>
   obtain ⟨v,h1,h2⟩:=zhh hc (by simpa using hi) h
   exact ⟨v,objs,fun _ => rfl,h1,h2⟩
  | false =>
   obtain ⟨o',v,h1,h2⟩:=zd6 hc h
   exact ⟨v,o',(fun e => by cases e),h1 _ ⟨rfl,rfl⟩,h2⟩
theorem zbf {P:Program} [Tabs P]:∀ (l:List SO) (objs:List OB) (tm:List AV) (K:List OB → List AV → Prop),wpD P l objs tm K → ∃ vs os,zj5 P objs l vs os tm ∧ K (obA (fun _ => true) 0 l os objs) (asg (fun _ => true) 0 l vs tm)
 | [],objs,tm,K,h => ⟨[],[],trivial,h⟩
 | ⟨dst,op,gd⟩ :: r,objs,tm,K,h => by
  have shift:∀ (l:List SO) (vs tm:List AV) (k j:Nat),asg (fun _ => true) k l vs tm=asg (fun _ => true) j l vs tm:=by
   intro l
   induction l with
   | nil => intro vs tm k j; rfl
   | cons o l ih =>
    intro vs tm k j
    cases vs with
    | nil => rfl
    | cons v vs => simp only [asg]; exact ih vs _ _ _
  have shiftO:∀ (l:List SO) (os:List (List OB)) (cur:List OB) (k j:Nat),obA (fun _ => true) k l os cur=obA (fun _ => true) j l os cur:=by
   intro l
   induction l with
   | nil => intro os cur k j; rfl
   | cons o l ih =>
    intro os cur k j
    cases os with
    | nil => rfl
    | cons v os => simp only [obA]; exact ih os _ _ _
  have nxt:∀ (o':List OB),(op.calm=true → o'=objs) → (if (true && !op.calm)=true then o' else objs)=o':=by
   intro o' h
   cases hc:op.calm with
   | true => simp [h hc]
   | false => simp
  cases gd with
  | none =>
   simp only [wpD] at h
   obtain ⟨v,o',hco,h1,h2⟩:=zhi (W:=fun o v => wpD P r o (zaj tm dst v) K) h
   obtain ⟨vs,os,k1,k2⟩:=zbf r _ _ K h2
   refine ⟨v :: vs,o' :: os,⟨⟨hco,h1⟩,k1⟩,?_⟩
   simp only [asg,obA,if_true]
   rw [nxt o' hco,shift r vs _ _ 0,shiftO r os _ _ 0]; exact k2
  | some g =>
   obtain ⟨t,want⟩:=g
   simp only [wpD] at h
   cases ht:tm[t]? with
   | none => rw [ht] at h; exact h.elim
   | some y =>
    rw [ht] at h
    simp only [Option.getD_some] at h
    split at h
    ·rename_i x
     by_cases hx:x=want
     ·subst hx
      have h':=h.1 rfl
      rw [set_same ht] at h'
      obtain ⟨v,o',hco,h1,h2⟩:=zhi (W:=fun o v => wpD P r o (zaj tm dst v) K) h'
      obtain ⟨vs,os,k1,k2⟩:=zbf r _ _ K h2
      refine ⟨v :: vs,o' :: os,⟨⟨hco,.inl ⟨ht,h1⟩⟩,k1⟩,?_⟩
      simp only [asg,obA,if_true]
      rw [nxt o' hco,shift r vs _ _ 0,shiftO r os _ _ 0]; exact k2
     ·have hx':x=!want:=by cases x <;> cases want <;> first | rfl | exact absurd rfl hx
      subst hx'
      have h':=h.2 rfl
      rw [set_same ht] at h'
      obtain ⟨vs,os,k1,k2⟩:=zbf r _ _ K h'
      refine ⟨_ :: vs,objs :: os,⟨⟨fun _ => rfl,.inr ⟨.inl ht,rfl,rfl⟩⟩,k1⟩,?_⟩
      simp only [asg,obA,if_true]
      rw [nxt objs (fun _ => rfl),shift r vs _ _ 0,shiftO r os _ _ 0]; exact k2
    ·obtain ⟨vs,os,k1,k2⟩:=zbf r _ _ K h
     refine ⟨_ :: vs,objs :: os,⟨⟨fun _ => rfl,.inr ⟨.inr ⟨_,ht⟩,rfl,rfl⟩⟩,k1⟩,?_⟩
     simp only [asg,obA,if_true]
     rw [nxt objs (fun _ => rfl),shift r vs _ _ 0,shiftO r os _ _ 0]; exact k2
    ·exact h.elim
theorem zaG (p q:Nat → Bool):∀ (l:List SO) (os:List (List OB)) (cur:List OB) (k:Nat),(∀ j o,l[j]? = some o → o.op.calm=false → p (k + j)=q (k + j)) → obA p k l os cur=obA q k l os cur
 | [],os,cur,k,h => by cases os <;> rfl
 | o :: r,[],cur,k,h => rfl
 | o :: r,o' :: os,cur,k,h => by
  simp only [obA]
  have e:(p k && !o.op.calm)=(q k && !o.op.calm):=by
   cases hc:o.op.calm with
   | true => simp
   | false => have:=h 0 o rfl hc; simp only [Nat.add_zero] at this; rw [this]
  rw [e]
  exact zaG p q r os _ (k + 1) (fun j o2 hj hc => by
   have:=h (j + 1) o2 (by simpa using hj) hc
   rwa [show k + 1 + j=k + (j + 1) by omega])
theorem zbK (p:Nat → Bool) (l:List SO) (os:List (List OB)) (cur:List OB) (k:Nat) (h:∀ j o,l[j]? = some o → o.op.calm=false → p (k + j)=false):obA p k l os cur=cur:=by
 induction l generalizing os k with
 | nil => cases os <;> rfl
 | cons o r ih =>
  cases os with
  | nil => rfl
  | cons o' os =>
   simp only [obA]
   have e:(p k && !o.op.calm)=false:=by
    cases hc:o.op.calm with
    | true => simp
    | false => have:=h 0 o rfl hc; simp only [Nat.add_zero] at this; simp [this]
   rw [e,if_neg Bool.false_ne_true]
   exact ih os (k + 1) (fun j o2 hj hc => by
    have:=h (j + 1) o2 (by simpa using hj) hc
    rwa [show k + 1 + j=k + (j + 1) by omega])
theorem zdM (p:Nat → Bool):∀ (l:List SO) (os:List (List OB)) (cur:List OB) (k i:Nat) (o:SO) (o':List OB),l[i]? = some o → os[i]? = some o' → o.op.calm=false → (∀ j o2,l[j]? = some o2 → i < j → o2.op.calm=false → p (k + j)=false) → obA (fun x => p x || x == k + i) k l os cur=o'
 | [],os,cur,k,i,o,o',ho,hv,hc,hl => by simp at ho
 | o0 :: r,[],cur,k,i,o,o',ho,hv,hc,hl => by simp at hv
 | o0 :: r,v0 :: os,cur,k,0,o,o',ho,hv,hc,hl => by
  simp at ho hv; subst ho hv
  simp only [obA,hc,Nat.add_zero,beq_self_eq_true,Bool.or_true,Bool.not_false,Bool.and_self,if_true]
  refine zbK _ r os _ (k + 1) (fun j o2 hj hc2 => ?_)
  have:=hl (j + 1) o2 (by simpa using hj) (by omega) hc2
  rw [show k + 1 + j=k + (j + 1) by omega,this]
  simp
 | o0 :: r,v0 :: os,cur,k,i + 1,o,o',ho,hv,hc,hl => by
  simp only [List.getElem?_cons_succ] at ho hv
  simp only [obA]
  have e2:(fun x => p x || x == k + (i + 1))=(fun x => p x || x == k + 1 + i):=by
   funext x; rw [show k + (i + 1)=k + 1 + i by omega]
  generalize (if ((p k || k == k + (i + 1)) && !o0.op.calm)=true then v0 else cur)=cur'
  rw [e2]
  exact zdM p r os _ (k + 1) i o o' ho hv hc (fun j o2 hj hij hc2 => by
   have:=hl (j + 1) o2 (by simpa using hj) (by omega) hc2
   rwa [show k + 1 + j=k + (j + 1) by omega])
theorem zbH (p q:Nat → Bool) (t:Nat):∀ (l:List SO) (vs tm tm':List AV) (k:Nat),tm[t]? = tm'[t]? → tm.length=tm'.length → (∀ j o,l[j]? = some o → o.dst=some t → p (k + j)=q (k + j)) → (asg p k l vs tm)[t]? = (asg q k l vs tm')[t]?
 | [],vs,tm,tm',k,h,hl,hp => by cases vs <;> simpa [asg] using h
 | o :: r,[],tm,tm',k,h,hl,hp => by simpa [asg] using h
 | o :: r,v :: vs,tm,tm',k,h,hl,hp => by
  simp only [asg]
  have hstep:∀ (b:Bool) (x:List AV),(if b=true then zaj x o.dst v else x).length=x.length:=by
   intro b x; cases b <;> cases hd:o.dst <;> simp [zaj]
  refine zbH p q t r vs _ _ (k + 1) ?_ (by rw [hstep,hstep,hl]) (fun j o' hj ho' => by
   have:=hp (j + 1) o' (by simpa using hj) ho'
   rwa [show k + 1 + j=k + (j + 1) by omega])
  cases hd:o.dst with
  | none => cases p k <;> cases q k <;> simpa [zaj] using h
  | some d =>
   by_cases e:d=t
   ·subst e
    have:=hp 0 o rfl hd
    simp only [Nat.add_zero] at this
    rw [this]
    cases q k
    ·simpa using h
    ·simp only [if_true,zaj,List.getElem?_set_self',h]
   ·cases p k <;> cases q k <;> simp [zaj,List.getElem?_set_ne e,h]
theorem zjZ (p:Nat → Bool) (d:Nat) (v:AV):∀ (l:List SO) (vs tm:List AV) (k:Nat),(∀ o ∈ l,o.dst ≠ some d) → asg p k l vs (tm.set d v)=(asg p k l vs tm).set d v
 | [],vs,tm,k,h => by cases vs <;> rfl
 | o :: r,[],tm,k,h => rfl
 | o :: r,z :: vs,tm,k,h => by
  simp only [asg]
  rw [← zjZ p d v r vs _ (k + 1) (fun o' ho' => h o' (List.mem_cons_of_mem _ ho'))]
  congr 1
  cases p k
  ·rfl
  ·simp only [if_true]
   cases hd:o.dst with
   | none => rfl
   | some e =>
    have:e ≠ d:=fun e' => h o (List.mem_cons_self ..) (by rw [hd,e'])
    simp only [zaj]
    rw [List.set_comm _ _ this]
theorem zbO (p q:Nat → Bool):∀ (l:List SO) (vs tm:List AV) (k:Nat),(∀ j,j < l.length → p (k + j)=q (k + j)) → asg p k l vs tm=asg q k l vs tm
 | [],vs,tm,k,h => by cases vs <;> rfl
 | o :: r,[],tm,k,h => rfl
 | o :: r,z :: vs,tm,k,h => by
  simp only [asg]
  have:=h 0 (by simp)
  simp only [Nat.add_zero] at this
  rw [this]
  exact zbO p q r vs _ (k + 1) (fun j hj => by
   have:=h (j + 1) (by simp; omega)
   rwa [show k + 1 + j=k + (j + 1) by omega])
theorem zbt (p:Nat → Bool):∀ (l:List SO) (vs tm:List AV) (k i:Nat) (o:SO) (v:AV),l[i]? = some o → vs[i]? = some v → p (k + i)=false → (∀ j o',l[j]? = some o' → j ≠ i → o'.dst ≠ o.dst ∨ o.dst=none) →
  zaj (asg p k l vs tm) o.dst v=asg (fun x => p x || x == k + i) k l vs tm
 | [],vs,tm,k,i,o,v,ho,hv,hp,hd => by simp at ho
 | o0 :: r,[],tm,k,i,o,v,ho,hv,hp,hd => by simp at hv
 | o0 :: r,v0 :: vs,tm,k,0,o,v,ho,hv,hp,hd => by
  simp at ho hv hp; subst ho hv
  simp only [asg,hp,Bool.false_eq_true,if_false,Nat.add_zero,beq_self_eq_true,Bool.or_true,if_true]
  have e1:asg (fun x => p x || x == k) (k + 1) r vs (zaj tm o0.dst v0)=asg p (k + 1) r vs (zaj tm o0.dst v0) :=
   zbO _ _ r vs _ (k + 1) (fun j hj => by
    have:(k + 1 + j == k)=false:=by simp; omega
    rw [this,Bool.or_false])
  rw [e1]
  cases h0:o0.dst with
  | none => rfl
  | some d =>
   simp only [zaj]
   rw [zjZ p d v0 r vs tm (k + 1)]
   intro o' ho' hd'
   obtain ⟨j,hj⟩:=List.mem_iff_getElem?.1 ho'
   rcases hd (j + 1) o' (by simpa using hj) (by omega) with h1 | h1
   ·exact h1 (by rw [hd',h0])
   ·rw [h0] at h1; cases h1
 | o0 :: r,v0 :: vs,tm,k,i + 1,o,v,ho,hv,hp,hd => by
  simp only [List.getElem?_cons_succ] at ho hv
  simp only [asg]
  have e0:(p k || k == k + (i + 1))=p k:=by
   have:(k == k + (i + 1))=false:=by simp
   rw [this,Bool.or_false]
  have e2:(fun x => p x || x == k + (i + 1))=(fun x => p x || x == k + 1 + i):=by
   funext x; rw [show k + (i + 1)=k + 1 + i by omega]
  simp only [e0]
  rw [zbt p r vs _ (k + 1) i o v ho hv (by rwa [show k + 1 + i=k + (i + 1) by omega]) (fun j o' hj hji => hd (j + 1) o' (by simpa using hj) (by omega)),e2]
theorem zdS {P:Program} [Tabs P]:∀ (l:List SO) (objs:List OB) (vs:List AV) (os:List (List OB)) (tm:List AV) (k i:Nat) (o:SO),zj5 P objs l vs os tm → l[i]? = some o → ∃ v o',vs[i]? = some v ∧ os[i]? = some o' ∧ Fact P (obA (fun x => decide (x < k + i)) k l os objs) o v o' (asg (fun x => decide (x < k + i)) k l vs tm)
 | [],objs,vs,os,tm,k,i,o,h,ho => by simp at ho
 | o0 :: r,objs,[],os,tm,k,i,o,h,ho => by cases os <;> exact h.elim
 | o0 :: r,objs,v :: vs,[],tm,k,i,o,h,ho => h.elim
 | o0 :: r,objs,v0 :: vs,p0 :: os,tm,k,0,o,h,ho => by
  simp at ho; subst ho
  refine ⟨v0,p0,rfl,rfl,?_⟩
  have e1:asg (fun x => decide (x < k + 0)) k (o0 :: r) (v0 :: vs) tm=tm:=by
   have nil:∀ (l:List SO) (vs tm:List AV) (j:Nat),k ≤ j → asg (fun x => decide (x < k + 0)) j l vs tm=tm:=by
    intro l
    induction l with
    | nil => intro vs tm j hj; cases vs <;> rfl
    | cons o l ih =>
     intro vs tm j hj
     cases vs with
     | nil => rfl
     | cons v vs =>
      simp only [asg]
      rw [if_neg (by simp; omega)]
      exact ih vs tm (j + 1) (by omega)
   exact nil _ _ _ k (Nat.le_refl _)
  rw [e1,zbK _ _ _ _ _ (fun j o hj hc => by simp)]
  exact h.1
 | o0 :: r,objs,v0 :: vs,p0 :: os,tm,k,i + 1,o,h,ho => by
  obtain ⟨v,o',h1,h2,h3⟩:=zdS r p0 vs os _ (k + 1) i o h.2 (by simpa using ho)
  refine ⟨v,o',by simpa using h1,by simpa using h2,?_⟩
  simp only [asg,obA]
  have e:(if (decide (k < k + (i + 1)) && !o0.op.calm)=true then p0 else objs)=p0:=by
   cases hc:o0.op.calm with
   | true => simp [h.1.1 hc]
   | false => simp
  have e9:(if decide (k < k + (i + 1))=true then zaj tm o0.dst v0 else tm)=zaj tm o0.dst v0:=if_pos (by simp)
  rw [e,e9,show k + (i + 1)=k + 1 + i by omega]
  exact h3
def zah (o:Oper):List Nat:=(o.after.toList.filter (Region.binds .any)).map (·.on)
def za5 (deps:List (List Nat)):List (List Nat):=deps.foldl (fun acc d => acc ++ [(d ++ d.flatMap fun e => acc.getD e []).eraseDups]) []
def SV.tmp?:SV → Option Nat
 | .t n => some n
 | _ => none
def SO.looks (o:SO):List Nat:=o.op.svs.filterMap SV.tmp? ++ (match o.gd with | some (t,_) => [t] | none => [])
def tailAt (l:List SO):Nat:=l.findIdx fun o => !o.op.calm || o.dst.isNone
def zag (l:List SO) (j:Nat):Option Nat:=(l[j]?).bind (·.dst)
def za8 (l:List SO) (j:Nat):Bool:=((l[j]?).map (·.op.touch)).getD false
def za7 (l:List SO) (j:Nat):Bool:=((l[j]?).map (fun o => !o.op.calm)).getD false
def adrL (l:List SO) (i:Nat):Option Nat :=
 match l[i]? with
 | some ⟨_,.load1 (.t s),_⟩ => some s
 | some ⟨_,.loadn _ (.t s),_⟩ => some s
 | _ => none
def appTo (l:List SO) (d:Nat):Bool:=l.any fun q => match q.op with
 | .app _ _ _ (.t x) _ => x == d
 | _ => false
def adrS (l:List SO) (j:Nat):Option Nat :=
 match l[j]? with
 | some ⟨_,.store _ (.t s) _,none⟩ => some s
 | some ⟨some d,.alloc _ _,none⟩ => some d
 | some ⟨some d,.app _ _ _ _ _,none⟩ => some d
 | some ⟨some d,.apps _ _ _,none⟩ => some d
 | some ⟨some d,.bslo _ _ _ _ _,none⟩ => some d
 | some ⟨some d,.trn _ _ _,none⟩ => if appTo l d=true then some d else none
 | _ => none
def zco (l:List SO) (j:Nat):Nat :=
 match l[j]? with
 | some ⟨some _,.alloc _ _,none⟩ => j + 1
 | some ⟨some _,.app _ _ _ _ _,none⟩ => j + 1
 | some ⟨some _,.apps _ _ _,none⟩ => j + 1
 | some ⟨some _,.bslo _ _ _ _ _,none⟩ => j + 1
 | some ⟨some _,.trn _ _ _,none⟩ => j + 1
 | _ => j
def gdAt (l:List SO) (i:Nat):Option (Nat × Bool):=(l[i]?).bind (·.gd)
def zeo (l:List SO) (k i:Nat):Bool:=match gdAt l i with
 | some (g,_) => (List.range k).all fun m => decide (m < i) || zag l m != some g
 | none => true
def za4 (l:List SO) (k i j:Nat):Bool :=
 match adrL l i,adrS l j with
 | some s,some s' => (List.range k).all (fun m => decide (m < i) || zag l m != some s) && (List.range k).all (fun m => decide (m < zco l j) || zag l m != some s') && zeo l k i
 | _,_ => false
def zj0 (l:List SO) (anc:List (List Nat)) (i j:Nat):Option (Nat × Nat × Option (Nat × Bool)) :=
 if (za8 l i && za7 l j && !(j == i) && !(if j < i then (anc.getD i []).contains j else (anc.getD j []).contains i))=true then
  match adrL l i,adrS l j with
  | some s,some s' => some (s,s',gdAt l i)
  | _,_ => none
 else none
def zaS (l:List SO) (anc:List (List Nat)) (k:Nat):List (Nat × Nat × Option (Nat × Bool)):=(List.range k).flatMap fun i => (List.range k).filterMap fun j => zj0 l anc i j
def zbn:Option AV → Option AV → Prop
 | some (.p b _),some (.p b' _) => ¬ b=b'
 | some (.p b _),some (.orow b' _) => ¬ b=b'
 | some (.p b _),some (.porow b' _ _) => ¬ b=b'
 | some (.prow _ _),some (.p _ _) => True
 | some (.prow _ _),some (.orow _ _) => True
 | some (.prow _ _),some (.porow _ _ _) => True
 | _,_ => False
def apS:Option AV → Option AV → Prop
 | some (.porow b _ _),some (.porow b' _ _) => ¬ b=b'
 | some (.porow b _ _),some (.p b' _) => ¬ b=b'
 | _,_ => False
def apB:Option AV → Bool → Prop → Prop
 | some (.b true),true,p => p
 | some (.b false),false,p => p
 | some (.b true),false,_ => True
 | some (.b false),true,_ => True
 | _,_,p => p
def apG:Option (Nat × Bool) → List AV → Prop → Prop
 | none,_,p => p
 | some (g,want),tm,p => apB tm[g]? want p
theorem zgG {g:Option (Nat × Bool)} {tm:List AV} {p:Prop} (h:apG g tm p) (hg:∀ t want,g=some (t,want) → tm[t]? = some (.b want)):p:=by
 cases g with
 | none => exact h
 | some x =>
  obtain ⟨t,want⟩:=x
  have h2:=hg t want rfl
  simp only [apG,h2] at h
  cases want <;> exact h
def zcH:List (Nat × Nat × Option (Nat × Bool)) → List AV → Prop
 | [],_ => True
 | (s,s',g) :: r,tm => (if s' < 1000000 then apG g tm (zbn tm[s]? tm[s']?) else apS tm[s]? tm[s' - 1000000]?) ∧ zcH r tm
theorem zd1:∀ (r:List (Nat × Nat × Option (Nat × Bool))) (tm:List AV) (s s':Nat) (g:Option (Nat × Bool)),zcH r tm → (s,s',g) ∈ r → s' < 1000000 → apG g tm (zbn tm[s]? tm[s']?)
 | [],tm,s,s',g,h,hm,hs => by cases hm
 | (x,y,z) :: r,tm,s,s',g,h,hm,hs => by
  rcases List.mem_cons.1 hm with e | hm
  ·cases e
   have:=h.1
   rwa [if_pos hs] at this
  ·exact zd1 r tm s s' g h.2 hm hs
def zcP (l:List SO) (k:Nat):Bool:=(List.range k).all fun j => match adrS l j with
 | some s => decide (s < 1000000)
 | none => true
theorem zea {l:List SO} {k j s:Nat} (h:zcP l k=true) (hj:j < k) (hs:adrS l j=some s):s < 1000000:=by
 have:=List.all_eq_true.1 h j (List.mem_range.2 hj)
 rw [hs] at this
 exact of_decide_eq_true this
def zgx (l:List SO) (deps anc:List (List Nat)) (k:Nat):Bool :=
 decide (k ≤ l.length) &&
 (List.range l.length).all (fun i => (deps.getD i []).all (fun e => decide (e < i)) && (anc.getD i []).all fun j => (deps.getD i []).contains j || (deps.getD i []).any fun e => (anc.getD e []).contains j) &&
 (List.range k).all (fun i => zag l i == none || (List.range k).all fun j => i == j || zag l j != zag l i) &&
 (List.range k).all (fun i => (((l[i]?).map (·.looks)).getD []).all fun t => (List.range k).all fun j => j == i || zag l j != some t || (anc.getD i []).contains j || (anc.getD j []).contains i) &&
 (List.range k).all (fun i => !za8 l i || (List.range k).all fun j => !za7 l j || j == i || (if j < i then (anc.getD i []).contains j else (anc.getD j []).contains i) || za4 l k i j) &&
 ((List.range l.length).all fun j => decide (j < k) || (List.range j).all fun i => (anc.getD j []).contains i) && zcP l k
def zaV (l:List SO) (deps anc:List (List Nat)) (k:Nat):Bool :=
 decide (k ≤ l.length) &&
 (List.range l.length).all (fun i => (deps.getD i []).all (fun e => decide (e < i)) && (anc.getD i []).all fun j => (deps.getD i []).contains j || (deps.getD i []).any fun e => (anc.getD e []).contains j) &&
 (List.range k).all (fun i => zag l i == none || (List.range k).all fun j => i == j || zag l j != zag l i) &&
 (List.range k).all (fun i => (((l[i]?).map (·.looks)).getD []).all fun t => (List.range k).all fun j => j == i || zag l j != some t || (anc.getD i []).contains j || (anc.getD j []).contains i) &&
 (List.range k).all (fun i => !za8 l i || (List.range k).all fun j => !za7 l j || j == i || (if j < i then (anc.getD i []).contains j else (anc.getD j []).contains i) || za4 l k i j) &&
 ((List.range l.length).all fun j => decide (j < k) || (List.range k).all fun i => (anc.getD j []).contains i) && zcP l k
section
variable {P:Program} [Tabs P] {C:Cx} [On P C] {K:zas}
theorem zaO (deps anc:List (List Nat)) (n:Nat) (h1:∀ i,i < n → (∀ e ∈ deps.getD i [],e < i) ∧ ∀ j ∈ anc.getD i [],j ∈ deps.getD i [] ∨ ∃ e ∈ deps.getD i [],j ∈ anc.getD e []) (p:Nat → Bool) (hc:∀ i,i < n → p i=true → ∀ e ∈ deps.getD i [],p e=true) :
  ∀ i,i < n → (∀ e ∈ deps.getD i [],p e=true) → ∀ j ∈ anc.getD i [],p j=true:=by
 intro i
 induction i using Nat.strongRecOn with
 | _ i ih =>
  intro hi hd j hj
  rcases (h1 i hi).2 j hj with h2 | ⟨e,he,h2⟩
  ·exact hd j h2
  ·have hlt:=(h1 i hi).1 e he
   exact ih e hlt (by omega) (hc e (by omega) (hd e he)) j h2
theorem zgH (deps anc:List (List Nat)) (n:Nat) (h1:∀ i,i < n → (∀ e ∈ deps.getD i [],e < i) ∧ ∀ j ∈ anc.getD i [],j ∈ deps.getD i [] ∨ ∃ e ∈ deps.getD i [],j ∈ anc.getD e []):∀ i,i < n → ∀ j ∈ anc.getD i [],j < i:=by
 intro i
 induction i using Nat.strongRecOn with
 | _ i ih =>
  intro hi j hj
  rcases (h1 i hi).2 j hj with h2 | ⟨e,he,h2⟩
  ·exact (h1 i hi).1 j h2
  ·have hlt:=(h1 i hi).1 e he
   have:=ih e hlt (by omega) j h2
   omega
theorem zfI {P:Program} [Tabs P] (b:Nat) (q:Nat → Bool):∀ (l:List SO) (objs:List OB) (vs:List AV) (os:List (List OB)) (tm:List AV) (k:Nat),zj5 P objs l vs os tm →
  (∀ j m o o2,l[j]? = some o → l[m]? = some o2 → j < m → o.op.calm=false → o2.op.calm=false → q (k + m)=true → q (k + j)=true) →
  (∀ j o v o' t ob,l[j]? = some o → o.op.calm=false → q (k + j)=true → os[j]? = some o' → vs[j]? = some v → Fact P ob o v o' t → t=asg (fun x => decide (x < k + j)) k l vs tm → o'[b]? = ob[b]?) →
  (obA q k l os objs)[b]? = objs[b]?
 | [],objs,vs,os,tm,k,h,hc,hk => by cases os <;> rfl
 | o :: r,objs,[],os,tm,k,h,hc,hk => by cases os <;> exact h.elim
 | o :: r,objs,v :: vs,[],tm,k,h,hc,hk => h.elim
 | o :: r,objs,v :: vs,o' :: os,tm,k,h,hc,hk => by
  simp only [obA]
  have e0:asg (fun x => decide (x < k + 0)) k (o :: r) (v :: vs) tm=tm:=by
   have nil:∀ (l:List SO) (vs tm:List AV) (j:Nat),k ≤ j → asg (fun x => decide (x < k + 0)) j l vs tm=tm:=by
    intro l
    induction l with
    | nil => intro vs tm j hj; cases vs <;> rfl
    | cons o l ih =>
     intro vs tm j hj
     cases vs with
     | nil => rfl
     | cons v vs =>
      simp only [asg]
      rw [if_neg (by simp; omega)]
      exact ih vs tm (j + 1) (by omega)
   exact nil _ _ _ k (Nat.le_refl _)
  have next:(obA q (k + 1) r os o')[b]? = o'[b]?:=by
   refine zfI b q r o' vs os _ (k + 1) h.2 (fun j m o1 o2 h1 h2 h3 h4 h5 h6 => ?_) (fun j o1 v1 o1' t ob h1 h2 h3 h4 h5 h6 h7 => ?_)
   ·have:=hc (j + 1) (m + 1) o1 o2 (by simpa using h1) (by simpa using h2) (by omega) h4 h5 (by rwa [show k + (m + 1)=k + 1 + m by omega])
    rwa [show k + 1 + j=k + (j + 1) by omega]
   ·refine hk (j + 1) o1 v1 o1' t ob (by simpa using h1) h2 (by rwa [show k + (j + 1)=k + 1 + j by omega]) (by simpa using h4) (by simpa using h5) h6 ?_
    rw [h7]
    simp only [asg]
    rw [if_pos (by simp),show k + (j + 1)=k + 1 + j by omega]
  cases hcm:o.op.calm with
  | true =>
   simp only [Bool.not_true,Bool.and_false,Bool.false_eq_true,if_false]
   have:=h.1.1 hcm; subst this; exact next
  | false =>
   cases hq:q k with
   | true =>
    simp only [Bool.not_false,Bool.and_self,if_true]
    rw [next]
    exact hk 0 o v o' tm objs rfl hcm (by simpa using hq) rfl rfl h.1 e0.symm
   | false =>
    simp only [Bool.false_and,Bool.false_eq_true,if_false]
    rw [zbK]
    intro j o2 hj h2
    cases hx:q (k + 1 + j) with
    | false => rfl
    | true =>
     have:=hc 0 (j + 1) o o2 rfl (by simpa using hj) (by omega) hcm h2 (by rwa [show k + (j + 1)=k + 1 + j by omega])
     rw [Nat.add_zero,hq] at this; cases this
theorem zcV {P:Program} [Tabs P] (b:Nat) (p q:Nat → Bool):∀ (l:List SO) (objs:List OB) (vs:List AV) (os:List (List OB)) (tm:List AV) (k:Nat),zj5 P objs l vs os tm →
  (∀ j m o o2,l[j]? = some o → l[m]? = some o2 → j < m → o.op.calm=false → o2.op.calm=false → q (k + m)=true → q (k + j)=true) →
  (∀ j m o o2,l[j]? = some o → l[m]? = some o2 → j < m → o.op.calm=false → o2.op.calm=false → p (k + m)=true → p (k + j)=true) →
  (∀ j o,l[j]? = some o → o.op.calm=false → p (k + j)=true → q (k + j)=true) →
  (∀ j o v o' t ob,l[j]? = some o → o.op.calm=false → p (k + j)=false → q (k + j)=true → os[j]? = some o' → vs[j]? = some v → Fact P ob o v o' t → t=asg (fun x => decide (x < k + j)) k l vs tm → o'[b]? = ob[b]?) →
  (obA p k l os objs)[b]? = (obA q k l os objs)[b]?
 | [],objs,vs,os,tm,k,h,hq,hp,hs,hk => by cases os <;> rfl
 | o :: r,objs,[],os,tm,k,h,hq,hp,hs,hk => by cases os <;> exact h.elim
 | o :: r,objs,v :: vs,[],tm,k,h,hq,hp,hs,hk => h.elim
 | o :: r,objs,v :: vs,o' :: os,tm,k,h,hq,hp,hs,hk => by
  have zcx:∀ (z:Nat → Bool),(∀ j m o1 o2,(o :: r)[j]? = some o1 → (o :: r)[m]? = some o2 → j < m → o1.op.calm=false → o2.op.calm=false → z (k + m)=true → z (k + j)=true) → ∀ j m o1 o2,r[j]? = some o1 → r[m]? = some o2 → j < m → o1.op.calm=false → o2.op.calm=false → z (k + 1 + m)=true → z (k + 1 + j)=true:=by
   intro z hz j m o1 o2 h1 h2 h3 h4 h5 h6
   have:=hz (j + 1) (m + 1) o1 o2 (by simpa using h1) (by simpa using h2) (by omega) h4 h5 (by rwa [show k + (m + 1)=k + 1 + m by omega])
   rwa [show k + 1 + j=k + (j + 1) by omega]
  have next:(obA p (k + 1) r os o')[b]? = (obA q (k + 1) r os o')[b]?:=by
   refine zcV b p q r o' vs os _ (k + 1) h.2 (zcx q hq) (zcx p hp) (fun j o1 h1 h2 h3 => ?_) (fun j o1 v1 o1' t ob h1 h2 h3 h3' h4 h5 h6 h7 => ?_)
   ·have:=hs (j + 1) o1 (by simpa using h1) h2 (by rwa [show k + (j + 1)=k + 1 + j by omega])
    rwa [show k + 1 + j=k + (j + 1) by omega]
   ·refine hk (j + 1) o1 v1 o1' t ob (by simpa using h1) h2 (by rwa [show k + (j + 1)=k + 1 + j by omega]) (by rwa [show k + (j + 1)=k + 1 + j by omega]) (by simpa using h4) (by simpa using h5) h6 ?_
    rw [h7]
    simp only [asg]
    rw [if_pos (by simp),show k + (j + 1)=k + 1 + j by omega]
  cases hcm:o.op.calm with
  | true =>
   have e:=h.1.1 hcm
   subst e
   simp only [obA,hcm,Bool.not_true,Bool.and_false,Bool.false_eq_true,if_false]
   exact next
  | false =>
   cases hpk:p k with
   | true =>
    have hqk:q k=true:=hs 0 o rfl hcm (by simpa using hpk)
    simp only [obA,hcm,hpk,hqk,Bool.not_false,Bool.and_self,if_true]
    exact next
   | false =>
    have hpn:∀ j o2,(o :: r)[j]? = some o2 → o2.op.calm=false → p (k + j)=false:=by
     intro j o2 hj h2
     cases j with
     | zero => simpa using hpk
     | succ j =>
      cases hx:p (k + (j + 1)) with
      | false => rfl
      | true =>
       have:=hp 0 (j + 1) o o2 rfl hj (by omega) hcm h2 hx
       rw [Nat.add_zero,hpk] at this; cases this
    rw [zbK p (o :: r) (o' :: os) objs k hpn]
    symm
    exact zfI b q (o :: r) objs (v :: vs) (o' :: os) tm k h hq (fun j o1 v1 o1' t ob h1 h2 h3 h4 h5 h6 h7 => hk j o1 v1 o1' t ob h1 h2 (hpn j o1 h1 h2) h3 h4 h5 h6 h7)
theorem zfM {P:Program} [Tabs P] {op:SOp} {s:Nat} {obi cur:List OB} {tm:List AV} {v:AV} (hop:op=.load1 (.t s) ∨ ∃ sz,op=.loadn sz (.t s)) (hb:∀ b off,tm[s]? = some (.p b off) → cur[b]? = obi[b]?) (hp:∃ b off,tm[s]? = some (.p b off))
  (h:wpS P op obi tm (fun y x => y=obi ∧ x=v)):wpS P op cur tm (fun y x => y=cur ∧ x=v):=by
 obtain ⟨b,off,hp⟩:=hp
 have hb:=hb b off hp
 rcases hop with rfl | ⟨sz,rfl⟩
 ·simp only [wpS,SV.ev,hp,Option.getD_some,hb] at h ⊢
  split at h
  ·split at h
   ·exact ⟨trivial,h.2⟩
   ·exact h
  ·exact h
 ·simp only [wpS,SV.ev,hp,Option.getD_some,hb] at h ⊢
  split at h
  ·exact ⟨h.1,trivial,h.2.2⟩
  ·exact h
theorem zek {P:Program} [Tabs P] {op:SOp} {s:Nat} {obi cur:List OB} {tm:List AV} {v:AV} (hop:op=.load1 (.t s) ∨ ∃ sz,op=.loadn sz (.t s)) (hp:∃ xs q,tm[s]? = some (.prow xs q))
  (h:wpS P op obi tm (fun y x => y=obi ∧ x=v)):wpS P op cur tm (fun y x => y=cur ∧ x=v):=by
 obtain ⟨xs,q,hp⟩:=hp
 rcases hop with rfl | ⟨sz,rfl⟩
 ·simp only [wpS,SV.ev,hp,Option.getD_some] at h ⊢
  obtain ⟨v',h1,_,h2⟩:=h
  exact ⟨v',h1,trivial,h2⟩
 ·simp only [wpS,SV.ev,hp,Option.getD_some] at h ⊢
  exact ⟨h.1,trivial,h.2.2⟩
theorem zd9 {P:Program} [Tabs P] {sz s:Nat} {y:SV} {ob o':List OB} {tm:List AV} {v:AV} {b:Nat} (hb:∀ b' off,tm[s]? = some (.p b' off) → ¬ b=b') (hq:∀ b' g j,tm[s]? = some (.porow b' g j) → ¬ b=b') (h:wpS P (.store sz (.t s) y) ob tm (fun z x => z=o' ∧ x=v)):o'[b]? = ob[b]?:=by
 simp only [wpS,SV.ev] at h
 cases ht:tm[s]? with
 | none => rw [ht] at h; exact h.elim
 | some a =>
  rw [ht] at h
  simp only [Option.getD_some] at h
  split at h
  ·rename_i b' off
   split at h
   ·obtain ⟨_,rfl,_⟩:=h
    have:=hb b' off ht
    rw [List.getElem?_set_ne (fun e => this e.symm)]
   ·exact h.elim
  ·rename_i b' g j
   split at h
   ·obtain ⟨_,rfl,_⟩:=h
    have:=hq b' g j ht
    rw [List.getElem?_set_ne (fun e => this e.symm)]
   ·exact h.elim
  ·exact h.elim
theorem zfm {P:Program} [Tabs P] {op:SOp} {ob o':List OB} {tm:List AV} {v:AV} (hop:(∃ E sz by' x y,op=.app E sz by' x y) ∨ (∃ E x y,op=.apps E x y) ∨ (∃ E sz n z ps,op=.bslo E sz n z ps) ∨ (∃ sz x y,op=.trn sz x y)) (h:wpS P op ob tm (fun z x => z=o' ∧ x=v)) :
  (∃ b g,v=.orow b g ∧ ∀ c,¬ c=b → o'[c]? = ob[c]?) ∨ (∃ n xs,v=.row n xs) ∨ v=.nil:=by
 have new:∀ x:OB,∀ c,¬ c=ob.length → (ob ++ [x])[c]? = ob[c]?:=by
  intro x c hc
  rcases Nat.lt_or_ge c ob.length with h6 | h6
  ·exact List.getElem?_append_left h6
  ·rw [List.getElem?_eq_none (by simp; omega),List.getElem?_eq_none h6]
 rcases hop with ⟨E,sz,by',x,y,rfl⟩ | ⟨E,x,y,rfl⟩ | ⟨E,sz,n,z,ps,rfl⟩ | ⟨sz,x,y,rfl⟩
 ·simp only [wpS] at h
  split at h
  ·split at h
   ·split at h
    ·obtain ⟨_,rfl,rfl⟩:=h
     exact .inl ⟨_,_,rfl,fun c hc => List.getElem?_set_ne (fun e => hc e.symm)⟩
    ·exact h.elim
   ·obtain ⟨_,rfl,rfl⟩:=h
    exact .inl ⟨_,_,rfl,new _⟩
   ·exact h.elim
  ·exact h.elim
 ·simp only [wpS] at h
  split at h
  ·split at h
   ·split at h
    ·obtain ⟨_,rfl,rfl⟩:=h
     exact .inl ⟨_,_,rfl,fun c hc => List.getElem?_set_ne (fun e => hc e.symm)⟩
    ·exact h.elim
   ·obtain ⟨_,rfl,rfl⟩:=h
    exact .inl ⟨_,_,rfl,new _⟩
   ·exact h.elim
  ·exact h.elim
 ·simp only [wpS] at h
  split at h
  ·obtain ⟨_,rfl,rfl⟩:=h
   exact .inl ⟨_,_,rfl,new _⟩
  ·exact h.elim
 ·simp only [wpS] at h
  split at h
  ·obtain ⟨_,rfl,rfl⟩:=h
   exact .inr (.inl ⟨_,_,rfl⟩)
  ·obtain ⟨_,rfl,rfl⟩:=h
   exact .inr (.inr rfl)
  ·split at h
   ·obtain ⟨_,rfl,rfl⟩:=h
    exact .inl ⟨_,_,rfl,fun c hc => List.getElem?_set_ne (fun e => hc e.symm)⟩
   ·exact h.elim
  ·exact h.elim
theorem zep (ops:Array Oper) (o:Oper) (so0 so:SO) (hd0:so.dst=so0.dst) (hg0:so.gd=so0.gd) (hcv:∀ objs tm K,wpS P so.op objs tm K → wpS P so0.op objs tm K) (obi cur o':List OB) (tm tmi:List AV) (v:AV) (N:Act → World → Prop) (Q:Exit → Act → World → Prop) (h1:trO P ops.toList o=some so0) (h:Fact P obi so v o' tmi)
  (hstep:(∀ t want,so.gd=some (t,want) → tm[t]? = some (.b want)) → wpS P so.op obi tm (fun y x => y=o' ∧ x=v) → wpS P so.op cur tm (fun y x => y=(if so.op.calm=true then cur else o') ∧ x=v)) (hskip:o'=obi → (if so.op.calm=true then cur else o')=cur) (hag:∀ t ∈ so.looks,tm[t]? = tmi[t]?) (a:Act) (w:World) (hr:Rel C cur tm a w)
  (hN:∀ a w,Rel C (if so.op.calm=true then cur else o') (zaj tm so.dst v) a w → N a w):if Region.wanted o (yielded ops a.tmps) then o.wp P a w N Q else N (a.put o.dst undef) w:=by
 obtain ⟨d1,op1,g1⟩:=so
 dsimp only at hd0 hg0 hcv
 subst hd0 hg0
 obtain ⟨hco,h⟩:=h
 have hev:∀ x ∈ op1.svs,x.ev tm=x.ev tmi:=by
  intro x hx
  cases x with
  | c v => rfl
  | t n =>
   simp only [SV.ev]
   rw [hag n (List.mem_append_left _ (List.mem_filterMap.2 ⟨_,hx,rfl⟩))]
 unfold trO at h1
 split at h1
 ·cases h1
 ·rename_i op hop
  obtain ⟨G,I,hin,hm,hd,hdef⟩:=hr
  split at h1
  ·rename_i hg
   injection h1 with h1; subst h1
   dsimp only at h hstep hskip hev hN hcv ⊢
   rw [if_pos (by simp [Region.wanted,hg])]
   rw [← zaP hev] at h
   have h:=hstep (fun _ _ e => by cases e) h
   refine zdC (C:=C) (type:=o.type) ops.toList o op hop (hcv _ _ _ h) G I a w hin hm hd o _ _ rfl rfl ?_
   rintro objs' v' y G' I' w' ⟨rfl,rfl⟩ l1 l2 l3 l4 l5
   exact hN _ _ ⟨G',I',l3,l4,zaM (zac.mono l1 l2 _ _ hd) l5 o.dst,by rw [zaN]; exact hdef⟩
  ·rename_i j want hg
   split at h1
   ·rename_i t hj
    injection h1 with h1; subst h1
    have hj':(ops[j]?).bind (·.dst)=some t:=by simpa using hj
    dsimp only at h hstep hskip hev hN hcv ⊢
    have hat:=hag t (List.mem_append_right _ (List.mem_singleton_self t))
    have hval:∀ v,tm[t]? = some v → ∃ y,a.tmps[t]? = some y ∧ Den G I v y:=by
     intro v hv
     obtain ⟨y,h3,h4⟩:=zac.get t hd hv
     exact ⟨y,by simpa using h3,h4⟩
    rcases h with ⟨h2,h3⟩ | ⟨h2 | ⟨vs,h2⟩,rfl,he⟩
    ·obtain ⟨y,hy,hyd⟩:=hval _ (hat.trans h2)
     simp only [Den] at hyd; subst hyd
     have hyi:yielded ops a.tmps j=some want:=by simp [yielded,hj',hy]
     rw [if_pos (by simp [Region.wanted,hg,hyi])]
     rw [← zaP hev] at h3
     have h3:=hstep (fun _ _ e => by cases e; exact hat.trans h2) h3
     refine zdC (C:=C) (type:=o.type) ops.toList o op hop (hcv _ _ _ h3) G I a w hin hm hd o _ _ rfl rfl ?_
     rintro objs' v' y G' I' w' ⟨rfl,rfl⟩ l1 l2 l3 l4 l5
     exact hN _ _ ⟨G',I',l3,l4,zaM (zac.mono l1 l2 _ _ hd) l5 o.dst,by rw [zaN]; exact hdef⟩
    ·obtain ⟨y,hy,hyd⟩:=hval _ (hat.trans h2)
     simp only [Den] at hyd; subst hyd
     have hyi:yielded ops a.tmps j=some (!want):=by simp [yielded,hj',hy]
     rw [if_neg (by cases want <;> simp [Region.wanted,hg,hyi])]
     rw [hskip he] at hN
     exact hN _ _ ⟨G,I,hin,hm,zaM hd (by simp [Den]) o.dst,by rw [zaN]; exact hdef⟩
    ·obtain ⟨y,hy,hyd⟩:=hval _ (hat.trans h2)
     simp only [Den] at hyd; subst hyd
     have hyi:yielded ops a.tmps j=none:=by simp [yielded,hj',hy]
     rw [if_neg (by simp [Region.wanted,hg,hyi])]
     rw [hskip he] at hN
     exact hN _ _ ⟨G,I,hin,hm,zaM hd (by simp [Den]) o.dst,by rw [zaN]; exact hdef⟩
   ·cases h1
theorem zaY {ops:Array Oper} {listed:Array Bool} {i:Nat} (hs:listed.size=ops.size):i ∈ Region.ready .any ops listed ↔ i < ops.size ∧ listed.getD i true=false ∧ ∀ e ∈ (ops.toList.map zah).getD i [],listed.getD e false=true:=by
 unfold Region.ready
 rw [List.mem_filter,List.mem_range]
 constructor
 ·rintro ⟨h1,h2⟩
  simp only [Bool.and_eq_true,Bool.not_eq_true'] at h2
  refine ⟨h1,h2.1,fun e he => ?_⟩
  rw [Array.getElem?_eq_getElem h1] at h2
  simp only [Option.map_some,Option.getD_some,Array.all_eq_true'] at h2
  have hg:(ops.toList.map zah).getD i []=zah ops[i]:=by
   rw [List.getD_eq_getElem?_getD,List.getElem?_map,List.getElem?_eq_getElem (by simpa using h1)]; rfl
  rw [hg] at he
  unfold zah at he
  obtain ⟨ed,hed,rfl⟩:=List.mem_map.1 he
  obtain ⟨hm,hb⟩:=List.mem_filter.1 hed
  have:=h2.2 ed (by simpa using hm)
  simpa [hb] using this
 ·rintro ⟨h1,h2,h3⟩
  refine ⟨h1,?_⟩
  simp only [Bool.and_eq_true,Bool.not_eq_true']
  refine ⟨h2,?_⟩
  rw [Array.getElem?_eq_getElem h1]
  simp only [Option.map_some,Option.getD_some,Array.all_eq_true']
  intro ed hed
  have hg:(ops.toList.map zah).getD i []=zah ops[i]:=by
   rw [List.getD_eq_getElem?_getD,List.getElem?_map,List.getElem?_eq_getElem (by simpa using h1)]; rfl
  cases hb:Region.binds .any ed with
  | false => simp
  | true =>
   simp only [Bool.not_true,Bool.false_or]
   refine h3 ed.on ?_
   rw [hg]
   exact List.mem_map.2 ⟨ed,List.mem_filter.2 ⟨by simpa using hed,hb⟩,rfl⟩
theorem zbc {α β:Type} (f:α → Option β):∀ (l:List α) (r:List β),l.mapM f=some r → l.length=r.length ∧ ∀ (i:Nat) (x:α),l[i]? = some x → ∃ y,r[i]? = some y ∧ f x=some y
 | [],r,h => by simp at h; subst h; simp
 | x :: l,r,h => by
  simp only [List.mapM_cons,Option.bind_eq_bind,Option.pure_def] at h
  cases h1:f x with
  | none => simp [h1] at h
  | some y =>
   cases h2:l.mapM f with
   | none => simp [h1,h2] at h
   | some r' =>
    simp [h1,h2] at h
    subst h
    obtain ⟨h3,h4⟩:=zbc f l r' h2
    refine ⟨by simp [h3],fun i z hz => ?_⟩
    cases i with
    | zero => simp at hz; subst hz; exact ⟨y,rfl,h1⟩
    | succ i => simpa using h4 i z (by simpa using hz)
theorem zaR (listed:Array Bool) (i j:Nat) (d:Bool) (hi:i < listed.size):(listed.setIfInBounds i true).getD j d=if j=i then true else listed.getD j d:=by
 simp only [Array.getD_eq_getD_getElem?,Array.getElem?_setIfInBounds]
 by_cases e:j=i
 ·subst e; simp [hi]
 ·rw [if_neg (fun e' => e e'.symm),if_neg e]
def SO.toP:SO → SO
 | ⟨d,.call f args,g⟩ => ⟨d,.pcall f args,g⟩
 | ⟨d,.iad sz x y,g⟩ => ⟨d,.iadr sz x y,g⟩
 | ⟨d,.trn sz x y,g⟩ => ⟨d,.pu (.rslh sz) [x,y],g⟩
 | o => o
def SO.toR:SO → SO
 | ⟨d,.call f args,g⟩ => ⟨d,.pcall f args,g⟩
 | ⟨d,.iad sz x y,g⟩ => ⟨d,.iadr sz x y,g⟩
 | o => o
def SO.toQ:SO → SO
 | ⟨d,.iad sz x y,g⟩ => ⟨d,.iadr sz x y,g⟩
 | o => o
theorem zeX {sz:Nat} {x y:SV} {objs:List OB} {tm:List AV} {K:List OB → AV → Prop} (h:wpS P (.iadr sz x y) objs tm K):wpS P (.iad sz x y) objs tm K:=by
 simp only [wpS] at h ⊢
 revert h
 cases x.ev tm <;> try exact fun h => h.elim
 cases y.ev tm <;> first | exact fun h => h | exact fun h => h.elim
theorem rslh_up {sz:Nat} {x y:SV} {objs:List OB} {tm:List AV} {K:List OB → AV → Prop} (h:wpS P (.pu (.rslh sz) [x,y]) objs tm K):wpS P (.trn sz x y) objs tm K:=by
 simp only [wpS,List.map_cons,List.map_nil] at h ⊢
 revert h
 cases x.ev tm <;> try (intro h; simp [pq] at h; done)
 ·cases y.ev tm <;> try (intro h; simp [pq] at h; done)
  intro h
  simp only [pq] at h
  split at h
  ·rename_i v hv
   split at hv
   ·rename_i hc
    injection hv with hv; subst hv
    exact ⟨hc,h⟩
   ·cases hv
  ·exact h.elim
 ·cases y.ev tm <;> try (intro h; simp [pq] at h; done)
  intro h
  simp only [pq] at h
  split at h
  ·rename_i v hv
   split at hv
   ·rename_i hc
    injection hv with hv; subst hv
    exact ⟨hc,h⟩
   ·cases hv
  ·exact h.elim
theorem zhm (o:SO):o.toQ.dst=o.dst:=by obtain ⟨d,op,g⟩:=o; cases op <;> rfl
theorem toQ_gd (o:SO):o.toQ.gd=o.gd:=by obtain ⟨d,op,g⟩:=o; cases op <;> rfl
theorem toQ_up (o:SO) (objs:List OB) (tm:List AV) (K:List OB → AV → Prop) (h:wpS P o.toQ.op objs tm K):wpS P o.op objs tm K:=by
 obtain ⟨d,op,g⟩:=o
 cases op <;> first | exact h | exact zeX h
theorem zhn (o:SO):o.toP.dst=o.dst:=by obtain ⟨d,op,g⟩:=o; cases op <;> rfl
theorem toP_gd (o:SO):o.toP.gd=o.gd:=by obtain ⟨d,op,g⟩:=o; cases op <;> rfl
theorem toP_up (o:SO) (objs:List OB) (tm:List AV) (K:List OB → AV → Prop) (h:wpS P o.toP.op objs tm K):wpS P o.op objs tm K:=by
 obtain ⟨d,op,g⟩:=o
 cases op <;> try exact h
 case call f args =>
  simp only [SO.toP,wpS] at h ⊢
  exact zeB h.1 h.2
 case iad sz x y => exact zeX h
 case trn sz x y => exact rslh_up h
theorem zhl (o:SO):o.toR.dst=o.dst:=by obtain ⟨d,op,g⟩:=o; cases op <;> rfl
theorem toR_gd (o:SO):o.toR.gd=o.gd:=by obtain ⟨d,op,g⟩:=o; cases op <;> rfl
theorem toR_up (o:SO) (objs:List OB) (tm:List AV) (K:List OB → AV → Prop) (h:wpS P o.toR.op objs tm K):wpS P o.op objs tm K:=by
 obtain ⟨d,op,g⟩:=o
 cases op <;> try exact h
 case call f args =>
  simp only [SO.toR,wpS] at h ⊢
  exact zeB h.1 h.2
 case iad sz x y => exact zeX h
theorem draw_ok (id:Nat) (ops:Array Oper) (l0 l:List SO) (hl:ops.toList.mapM (trO P ops.toList)=some l0) (hlp:l=l0 ∨ l=l0.map SO.toP ∨ l=l0.map SO.toQ ∨ l=l0.map SO.toR) (k:Nat) (hok:zgx l (ops.toList.map zah) (za5 (ops.toList.map zah)) k=true) (hm:P.follows .mixedOrders=true) {objs:List OB} {tm:List AV}
  (h:wpD P (l.take k) objs tm (fun o t => zcH (zaS l (za5 (ops.toList.map zah)) k) t ∧ wpR P (l.drop k) o t (fun o t => K .normal o t))):∀ a w,Rel C objs tm a w → (Code.region id ops true).wp P (zcx C K) a w:=by
 intro a w hr
 obtain ⟨hlen0,hget0⟩:=zbc _ _ _ hl
 have hlen:ops.toList.length=l.length:=by
  rcases hlp with rfl | rfl | rfl | rfl
  ·exact hlen0
  ·rw [List.length_map]; exact hlen0
  ·rw [List.length_map]; exact hlen0
  ·rw [List.length_map]; exact hlen0
 have hget:∀ (i:Nat) (x:Oper),ops.toList[i]? = some x → ∃ y,l[i]? = some y ∧ ∃ y0,trO P ops.toList x=some y0 ∧ y.dst=y0.dst ∧ y.gd=y0.gd ∧ ∀ objs tm K,wpS P y.op objs tm K → wpS P y0.op objs tm K:=by
  intro i x hx
  obtain ⟨y0,h1,h2⟩:=hget0 i x hx
  rcases hlp with rfl | rfl | rfl | rfl
  ·exact ⟨y0,h1,y0,h2,rfl,rfl,fun _ _ _ h => h⟩
  ·exact ⟨y0.toP,by rw [List.getElem?_map,h1]; rfl,y0,h2,zhn y0,toP_gd y0,fun objs tm K h => toP_up y0 objs tm K h⟩
  ·exact ⟨y0.toQ,by rw [List.getElem?_map,h1]; rfl,y0,h2,zhm y0,toQ_gd y0,fun objs tm K h => toQ_up y0 objs tm K h⟩
  ·exact ⟨y0.toR,by rw [List.getElem?_map,h1]; rfl,y0,h2,zhl y0,toR_gd y0,fun objs tm K h => toR_up y0 objs tm K h⟩
 have hnl:ops.size=l.length:=by simpa using hlen
 generalize hdeps:ops.toList.map zah=deps at hok h
 generalize za5 deps=anc at hok h
 simp only [zgx,Bool.and_eq_true,decide_eq_true_eq,List.all_eq_true,List.mem_range,Bool.or_eq_true,bne_iff_ne,ne_eq,beq_iff_eq,List.any_eq_true,List.contains_iff_mem] at hok
 obtain ⟨⟨⟨⟨⟨⟨hk,hd1⟩,hd2⟩,hd3⟩,hm1⟩,hd4⟩,hsm⟩:=hok
 obtain ⟨vs,os,hfacts,hAp,hK⟩:=zbf _ _ _ _ h
 have hdep:∀ i,i < ops.size → (∀ e ∈ deps.getD i [],e < i) ∧ ∀ j ∈ anc.getD i [],j ∈ deps.getD i [] ∨ ∃ e ∈ deps.getD i [],j ∈ anc.getD e []:=fun i hi => hd1 i (by omega)
 have halt:=zgH deps anc ops.size hdep
 have htk:(l.take k).length=k:=by rw [List.length_take]; omega
 let Inv:Array Bool → Act → World → Prop:=fun listed a w =>
  listed.size=ops.size ∧ (∀ i,i < ops.size → listed.getD i false=true → ∀ e ∈ deps.getD i [],listed.getD e false=true) ∧
  (((∀ j,k ≤ j → j < ops.size → listed.getD j false=false) ∧ Rel C (obA (fun x => listed.getD x false) 0 (l.take k) os objs) (asg (fun x => listed.getD x false) 0 (l.take k) vs tm) a w) ∨
   (∃ m,k < m ∧ m ≤ ops.size ∧ (∀ j,j < ops.size → listed.getD j false=decide (j < m)) ∧ ∃ objs' tm',Rel C objs' tm' a w ∧ wpR P (l.drop m) objs' tm' (fun o t => K .normal o t)))
 have hgd:∀ (listed:Array Bool) (i:Nat),i < listed.size → listed.getD i true=listed.getD i false:=by
  intro listed i hi
  simp [Array.getD_eq_getD_getElem?,hi]
 have fin:∀ listed a w,Inv listed a w → (∀ i,i < ops.size → listed.getD i false=true) → zcx C K .normal a w:=by
  rintro listed a w ⟨hs,hc,hA | ⟨m,hm1,hm2,hm3,objs',tm',hr',hw⟩⟩ hall
  ·have hkn:k=ops.size:=by
    rcases Nat.lt_or_ge k ops.size with h0 | h0
    ·have h1:=hA.1 k (Nat.le_refl _) h0
     rw [hall k h0] at h1; cases h1
    ·omega
   have hdr:l.drop k=[]:=List.drop_eq_nil_of_le (by omega)
   rw [hdr] at hK
   refine ⟨_,_,hK,?_⟩
   rw [zaG (fun _ => true) (fun x => listed.getD x false) (l.take k) os objs 0 (fun j o hj _ => by
    rw [Nat.zero_add]; exact (hall j (by have:=(List.getElem?_eq_some_iff.1 hj).1; rw [htk] at this; omega)).symm),zbO (fun _ => true) (fun x => listed.getD x false) _ vs tm 0 (fun j hj => by
    rw [Nat.zero_add]; exact (hall j (by rw [htk] at hj; omega)).symm)]
   exact hA.2
  ·have hmn:m=ops.size:=by
    rcases Nat.lt_or_ge m ops.size with h0 | h0
    ·have h1:=hm3 m h0
     rw [hall m h0] at h1; simp at h1
    ·omega
   have hdr:l.drop m=[]:=List.drop_eq_nil_of_le (by omega)
   rw [hdr] at hw
   exact ⟨objs',tm',hw,hr'⟩
 have step:∀ listed a w i,Inv listed a w → i ∈ Region.ready .any ops listed → wpOp P ops (zcx C K) i (fun a w => Inv (listed.setIfInBounds i true) a w) a w:=by
  intro listed a w i hinv hi
  obtain ⟨hs,hc,hAB⟩:=hinv
  obtain ⟨hin,hun,hrd⟩:=(zaY hs).1 hi
  rw [hdeps] at hrd
  rw [hgd listed i (by omega)] at hun
  have hanc:=zaO deps anc ops.size hdep (fun x => listed.getD x false) hc i hin hrd
  have ho:ops[i]? = some ops[i]:=Array.getElem?_eq_getElem hin
  obtain ⟨so,hso,so0,htr,hd0,hg0,hcv⟩:=hget i ops[i] (by rw [List.getElem?_eq_getElem (by simpa using hin)]; simp)
  have hs':(listed.setIfInBounds i true).size=ops.size:=by rw [Array.size_setIfInBounds]; exact hs
  have hset:∀ j,(listed.setIfInBounds i true).getD j false=if j=i then true else listed.getD j false:=fun j => zaR listed i j false (by omega)
  have hc':∀ x,x < ops.size → (listed.setIfInBounds i true).getD x false=true → ∀ e ∈ deps.getD x [],(listed.setIfInBounds i true).getD e false=true:=by
   intro x hx hlx e he
   rw [hset] at hlx ⊢
   split
   ·rfl
   ·split at hlx
    ·rename_i e1; subst e1; exact hrd e he
    ·exact hc x hx hlx e he
  suffices hsuf:if Region.wanted ops[i] (yielded ops a.tmps) then ops[i].wp P a w (fun a w => Inv (listed.setIfInBounds i true) a w) (zcx C K) else Inv (listed.setIfInBounds i true) (a.put ops[i].dst undef) w by
   unfold wpOp
   rw [ho]
   show if Region.wanted ops[i] (yielded ops a.tmps)=true then _ else _
   split
   ·rename_i hw; rw [if_pos hw] at hsuf; exact .inl hsuf
   ·rename_i hw; rw [if_neg hw] at hsuf; exact hsuf
  have tail:∀ objs' tm',k ≤ i → (∀ j,j < i → listed.getD j false=true) → (∀ j,i ≤ j → j < ops.size → listed.getD j false=false) → Rel C objs' tm' a w → wpR P (l.drop i) objs' tm' (fun o t => K .normal o t) →
    if Region.wanted ops[i] (yielded ops a.tmps) then ops[i].wp P a w (fun a w => Inv (listed.setIfInBounds i true) a w) (zcx C K) else Inv (listed.setIfInBounds i true) (a.put ops[i].dst undef) w:=by
   intro objs' tm' hki hlo hhi hr' hw
   have hdr:l.drop i=so :: l.drop (i + 1):=by
    rw [List.drop_eq_getElem_cons (by omega)]
    congr 1
    have:=List.getElem?_eq_some_iff.1 hso
    exact this.2
   rw [hdr] at hw
   refine zdD ops ops[i] so0 so hd0 hg0 hcv (l.drop (i + 1)) objs' tm' _ _ _ htr hw a w hr' ?_
   intro o2 t2 a2 w2 hw2 hr2
   refine ⟨hs',hc',.inr ⟨i + 1,by omega,by omega,fun j hj => ?_,o2,t2,hr2,hw2⟩⟩
   rw [hset]
   split
   ·rename_i e; simp [e]
   ·rename_i e
    rcases Nat.lt_or_ge j i with h0 | h0
    ·rw [hlo j h0]; simp; omega
    ·rw [hhi j h0 hj]; simp; omega
  rcases Nat.lt_or_ge i k with hik | hik
  ·-- a step of the part whose order is open
   rcases hAB with ⟨hA1,hA2⟩ | ⟨m,hm1,hm2,hm3,_⟩
   ·have hti:(l.take k)[i]? = some so:=by rw [List.getElem?_take_of_lt hik]; exact hso
    obtain ⟨v,o',hv,hov,hf⟩:=zdS (l.take k) objs vs os tm 0 i so hfacts hti
    have hlook:=hd3 i hik
    rw [hso] at hlook
    simp only [Option.map_some,Option.getD_some] at hlook
    have hag:∀ t ∈ so.looks,(asg (fun x => listed.getD x false) 0 (l.take k) vs tm)[t]? = (asg (fun x => decide (x < 0 + i)) 0 (l.take k) vs tm)[t]?:=by
     intro t ht
     refine zbH _ _ t _ vs tm tm 0 rfl rfl ?_
     intro j o' hj ho'
     simp only [Nat.zero_add]
     have hjk:j < k:=by
      rcases Nat.lt_or_ge j k with h0 | h0
      ·exact h0
      ·rw [List.getElem?_eq_none (by rw [htk]; exact h0)] at hj; cases hj
     have hdst:zag l j=some t:=by
      unfold zag
      rw [List.getElem?_take_of_lt hjk] at hj
      rw [hj]; exact ho'
     rcases hlook t ht j hjk with ((h1 | h1) | h1) | h1
     ·subst h1; rw [hun]; simp
     ·exact absurd hdst h1
     ·have h2:=hanc j h1
      have h3:=halt i hin j h1
      rw [h2]; simp [h3]
     ·have h3:=halt j (by omega) i h1
      have h2:listed.getD j false=false:=by
       cases hq:listed.getD j false with
       | false => rfl
       | true =>
        have:=zaO deps anc ops.size hdep (fun x => listed.getD x false) hc j (by omega) (hc j (by omega) hq) i h1
        rw [hun] at this; cases this
      rw [h2]; symm; simp; omega
    have hord:∀ i2 j o2 o3,l[i2]? = some o3 → o3.op.touch=true → i2 < k → l[j]? = some o2 → o2.op.calm=false → j < k → j ≠ i2 → (if j < i2 then j ∈ anc.getD i2 [] else i2 ∈ anc.getD j []) ∨ (za4 l k i2 j=true ∧ ¬ (if j < i2 then j ∈ anc.getD i2 [] else i2 ∈ anc.getD j [])):=by
     intro i2 j o2 o3 hi2 ht2 hik2 hj hcj hjk hji
     have wj:za7 l j=true:=by simp [za7,hj,hcj]
     have ti:za8 l i2=true:=by simp [za8,hi2,ht2]
     by_cases hc0:(if j < i2 then j ∈ anc.getD i2 [] else i2 ∈ anc.getD j [])
     ·exact .inl hc0
     ·right
      refine ⟨?_,hc0⟩
      rcases hm1 i2 hik2 with h0 | h0
      ·rw [ti] at h0; cases h0
      ·rcases h0 j hjk with ((h0 | h0) | h0) | h0
       ·rw [wj] at h0; cases h0
       ·exact absurd h0 hji
       ·exfalso; apply hc0
        split at h0 <;> rename_i hlt
        ·rw [if_pos hlt]; simpa using h0
        ·rw [if_neg hlt]; simpa using h0
       ·exact h0
    have hdone:∀ i2 j,i2 < ops.size → j < ops.size → listed.getD i2 false=false → (∀ x ∈ anc.getD i2 [],listed.getD x false=true) → (if j < i2 then j ∈ anc.getD i2 [] else i2 ∈ anc.getD j []) → listed.getD j false=decide (j < i2):=by
     intro i2 j hi2 hj hu2 ha2 hcond
     split at hcond
     ·rename_i hlt; rw [ha2 j hcond]; simp [hlt]
     ·rename_i hlt
      have h2:listed.getD j false=false:=by
       cases hq:listed.getD j false with
       | false => rfl
       | true =>
        have:=zaO deps anc ops.size hdep (fun x => listed.getD x false) hc j hj (hc j hj hq) i2 hcond
        rw [hu2] at this; cases this
      rw [h2]; simp [hlt]
    have hlk:∀ {j:Nat} {o2:SO},(l.take k)[j]? = some o2 → j < k ∧ l[j]? = some o2:=by
     intro j o2 hj
     have hjk:j < k:=by
      rcases Nat.lt_or_ge j k with h0 | h0
      ·exact h0
      ·rw [List.getElem?_eq_none (by rw [htk]; exact h0)] at hj; cases hj
     rw [List.getElem?_take_of_lt hjk] at hj
     exact ⟨hjk,hj⟩
    have hww:∀ j m o1 o2,l[j]? = some o1 → l[m]? = some o2 → j < m → m < k → o1.op.calm=false → o2.op.calm=false → j ∈ anc.getD m []:=by
     intro j m o1 o2 h1 h2 hjm hmk hc1 hc2
     rcases hord m j o1 o2 h2 (zbM hc2).1 hmk h1 hc1 (by omega) (by omega) with h0 | ⟨h0,_⟩
     ·rw [if_pos hjm] at h0; exact h0
     ·exfalso
      unfold za4 adrL at h0
      rw [h2] at h0
      obtain ⟨d2,op2,g2⟩:=o2
      cases op2 <;> first | (exact absurd hc2 (fun e => Bool.noConfusion e)) | (simp at h0; done) | (cases h0; done)
    have hmem:∀ j o2,(l.take k)[j]? = some o2 → o2.op.calm=false → so.op.calm=false → j ≠ i → listed.getD j false=decide (j < i):=by
     intro j o2 hj hcj hci hji
     obtain ⟨hjk,hj⟩:=hlk hj
     refine hdone i j hin (by omega) hun hanc ?_
     rcases Nat.lt_or_ge j i with h0 | h0
     ·rw [if_pos h0]; exact hww j i o2 so hj hso h0 hik hcj hci
     ·rw [if_neg (by omega)]; exact hww i j so o2 hso hj (by omega) hjk hci hcj
    have hclosed:∀ j m o1 o2,(l.take k)[j]? = some o1 → (l.take k)[m]? = some o2 → j < m → o1.op.calm=false → o2.op.calm=false → listed.getD (0 + m) false=true → listed.getD (0 + j) false=true:=by
     intro j m o1 o2 h1 h2 hjm hc1 hc2 hlm
     rw [Nat.zero_add] at hlm ⊢
     obtain ⟨hjk,h1⟩:=hlk h1
     obtain ⟨hmk,h2⟩:=hlk h2
     exact zaO deps anc ops.size hdep (fun x => listed.getD x false) hc m (by omega) (hc m (by omega) hlm) j (hww j m o1 o2 h1 h2 hjm hmk hc1 hc2)
    have hclosed2:∀ j m o1 o2,(l.take k)[j]? = some o1 → (l.take k)[m]? = some o2 → j < m → o1.op.calm=false → o2.op.calm=false → decide (0 + m < 0 + i)=true → decide (0 + j < 0 + i)=true:=by
     intro j m o1 o2 _ _ hjm _ _ h; simp at h ⊢; omega
    have hskip:o'=obA (fun x => decide (x < 0 + i)) 0 (l.take k) os objs → (if so.op.calm=true then obA (fun x => listed.getD x false) 0 (l.take k) os objs else o')=obA (fun x => listed.getD x false) 0 (l.take k) os objs:=by
     intro e
     cases hci:so.op.calm with
     | true => rw [if_pos rfl]
     | false =>
      rw [if_neg Bool.false_ne_true,e]
      refine zaG _ _ _ _ _ 0 (fun j o2 hj hcj => ?_)
      rw [Nat.zero_add,Nat.zero_add]
      by_cases hji:j=i
      ·subst hji; rw [hun]; simp
      ·exact (hmem j o2 hj hcj hci hji).symm
    have hstep:(∀ g want,so.gd=some (g,want) → (asg (fun x => listed.getD x false) 0 (l.take k) vs tm)[g]? = some (.b want)) → wpS P so.op (obA (fun x => decide (x < 0 + i)) 0 (l.take k) os objs) (asg (fun x => listed.getD x false) 0 (l.take k) vs tm) (fun y x => y=o' ∧ x=v) → wpS P so.op (obA (fun x => listed.getD x false) 0 (l.take k) os objs) (asg (fun x => listed.getD x false) 0 (l.take k) vs tm) (fun y x => y=(if so.op.calm=true then obA (fun x => listed.getD x false) 0 (l.take k) os objs else o') ∧ x=v):=by
     intro hG h
     cases ht:so.op.touch with
     | false =>
      have hci:so.op.calm=true:=by
       cases hq:so.op.calm with
       | true => rfl
       | false => rw [(zbM hq).1] at ht; cases ht
      rw [if_pos hci]
      rw [hf.1 hci] at h
      exact zeI ht h
     | true =>
      by_cases hall:∀ j o2,(l.take k)[j]? = some o2 → o2.op.calm=false → j ≠ i → (if j < i then j ∈ anc.getD i [] else i ∈ anc.getD j [])
      ·have ecur:obA (fun x => listed.getD x false) 0 (l.take k) os objs=obA (fun x => decide (x < 0 + i)) 0 (l.take k) os objs:=by
        refine zaG _ _ _ _ _ 0 (fun j o2 hj hcj => ?_)
        rw [Nat.zero_add,Nat.zero_add]
        by_cases hji:j=i
        ·subst hji; rw [hun]; simp
        ·exact hdone i j hin (by have:=(hlk hj).1; omega) hun hanc (hall j o2 hj hcj hji)
       rw [ecur]
       cases hci:so.op.calm with
       | true => rw [if_pos rfl]; rw [hf.1 hci] at h; exact h
       | false => rw [if_neg Bool.false_ne_true]; exact h
      ·-- some store is apart
       simp only [Classical.not_forall] at hall
       obtain ⟨j0,o0,hj0,hc0,hji0,hno0⟩:=hall
       have hl0:=hlk hj0
       have hap0:za4 l k i j0=true:=by
        rcases hord i j0 o0 so hso ht hik hl0.2 hc0 hl0.1 hji0 with h0 | h0
        ·exact absurd h0 hno0
        ·exact h0.1
       obtain ⟨s,hs0,hop,hci⟩:∃ s,adrL l i=some s ∧ (so.op=.load1 (.t s) ∨ ∃ sz,so.op=.loadn sz (.t s)) ∧ so.op.calm=true:=by
        unfold za4 at hap0
        split at hap0
        ·rename_i s s' h1 h2
         refine ⟨s,h1,?_⟩
         unfold adrL at h1
         rw [hso] at h1
         split at h1
         ·rename_i e; cases e; cases h1; exact ⟨.inl rfl,rfl⟩
         ·rename_i e; cases e; cases h1; exact ⟨.inr ⟨_,rfl⟩,rfl⟩
         ·cases h1
        ·cases hap0
       have hfin:∀ {m s1:Nat},((List.range k).all (fun x => decide (x < m) || zag l x != some s1))=true → ∀ p:Nat → Bool,(∀ x,x < m → (∃ o2,(l.take k)[x]? = some o2 ∧ o2.dst=some s1) → p x=true) → (asg p 0 (l.take k) vs tm)[s1]? = (asg (fun _ => true) 0 (l.take k) vs tm)[s1]?:=by
        intro m s1 hst p hp
        refine zbH _ _ s1 _ vs tm tm 0 rfl rfl ?_
        intro x o2 hx hd
        rw [Nat.zero_add]
        have hx2:=hlk hx
        have:=List.all_eq_true.1 hst x (List.mem_range.2 hx2.1)
        simp only [Bool.or_eq_true,decide_eq_true_eq,bne_iff_ne,ne_eq] at this
        rcases this with h1 | h1
        ·exact hp x h1 ⟨o2,hx,hd⟩
        ·exfalso; apply h1; unfold zag; rw [hx2.2]; exact hd
       have hapst:∀ j,za4 l k i j=true → ∃ s',adrS l j=some s' ∧ ((List.range k).all (fun x => decide (x < i) || zag l x != some s))=true ∧ ((List.range k).all (fun x => decide (x < zco l j) || zag l x != some s'))=true ∧ zeo l k i=true:=by
        intro j hj
        unfold za4 at hj
        rw [hs0] at hj
        split at hj
        ·rename_i s1 s' h1 h2
         cases h1
         simp only [Bool.and_eq_true] at hj
         exact ⟨s',h2,hj.1.1,hj.1.2,hj.2⟩
        ·cases hj
       have hsL:(asg (fun x => listed.getD x false) 0 (l.take k) vs tm)[s]? = (asg (fun _ => true) 0 (l.take k) vs tm)[s]?:=by
        obtain ⟨s',_,hst,_,_⟩:=hapst j0 hap0
        refine hfin hst _ (fun x hx ⟨o2,ho2,hd2⟩ => ?_)
        have hx2:=hlk ho2
        have hsl:s ∈ so.looks:=by
         unfold SO.looks
         refine List.mem_append_left _ ?_
         rcases hop with e | ⟨sz,e⟩ <;> rw [e] <;> simp [SOp.svs,SV.tmp?]
        have hdst:zag l x=some s:=by unfold zag; rw [hx2.2]; exact hd2
        rcases hlook s hsl x hx2.1 with ((h1 | h1) | h1) | h1
        ·omega
        ·exact absurd hdst h1
        ·exact hanc x h1
        ·have:=halt x (by omega) i h1; omega
       have hgL:∀ g want,so.gd=some (g,want) → (asg (fun _ => true) 0 (l.take k) vs tm)[g]? = some (.b want):=by
        intro g want hg
        obtain ⟨s',_,_,_,hgs⟩:=hapst j0 hap0
        unfold zeo gdAt at hgs
        rw [hso] at hgs
        simp only [Option.bind_some,hg] at hgs
        rw [← hfin hgs (fun x => listed.getD x false) (fun x hx ⟨o2,ho2,hd2⟩ => ?_)]
        ·exact hG g want hg
        have hx2:=hlk ho2
        have hsl:g ∈ so.looks:=by
         unfold SO.looks
         rw [hg]
         exact List.mem_append_right _ (List.mem_singleton_self g)
        have hdst:zag l x=some g:=by unfold zag; rw [hx2.2]; exact hd2
        rcases hlook g hsl x hx2.1 with ((h1 | h1) | h1) | h1
        ·omega
        ·exact absurd hdst h1
        ·exact hanc x h1
        ·have:=halt x (by omega) i h1; omega
       have hApP:∀ j o2,(l.take k)[j]? = some o2 → o2.op.calm=false → j ≠ i → ¬ (if j < i then j ∈ anc.getD i [] else i ∈ anc.getD j []) → ∃ s',adrS l j=some s' ∧ ((List.range k).all (fun x => decide (x < zco l j) || zag l x != some s'))=true ∧ zbn (asg (fun _ => true) 0 (l.take k) vs tm)[s]? (asg (fun _ => true) 0 (l.take k) vs tm)[s']?:=by
        intro j o2 hj hcj hji hno
        have hl2:=hlk hj
        have hap:za4 l k i j=true:=by
         rcases hord i j o2 so hso ht hik hl2.2 hcj hl2.1 hji with h0 | h0
         ·exact absurd h0 hno
         ·exact h0.1
        obtain ⟨s',h1,_,h2,_⟩:=hapst j hap
        refine ⟨s',h1,h2,zgG (zd1 _ _ s s' (gdAt l i) hAp ?_ (zea hsm hl2.1 h1)) (fun g want e => hgL g want (by unfold gdAt at e; rw [hso] at e; exact e))⟩
        unfold zaS
        refine List.mem_flatMap.2 ⟨i,List.mem_range.2 hik,List.mem_filterMap.2 ⟨j,List.mem_range.2 hl2.1,?_⟩⟩
        unfold zj0
        have wj:za7 l j=true:=by simp [za7,hl2.2,hcj]
        have ti:za8 l i=true:=by simp [za8,hso,ht]
        have hcond:(if j < i then (anc.getD i []).contains j else (anc.getD j []).contains i)=false:=by
         split <;> rename_i hlt
         ·rw [if_pos hlt] at hno; simpa using hno
         ·rw [if_neg hlt] at hno; simpa using hno
        have hji':(j == i)=false:=by simpa using hji
        rw [wj,ti,hcond,hji',hs0,h1]
        simp
       have hpp:(∃ b off,(asg (fun x => listed.getD x false) 0 (l.take k) vs tm)[s]? = some (.p b off)) ∨ ∃ xs q,(asg (fun x => listed.getD x false) 0 (l.take k) vs tm)[s]? = some (.prow xs q):=by
        obtain ⟨s',_,_,h1⟩:=hApP j0 o0 hj0 hc0 hji0 hno0
        rw [hsL]
        unfold zbn at h1
        split at h1
        all_goals first
         | exact h1.elim
         | (rename_i e1 e2; exact .inl ⟨_,_,e1⟩)
         | (rename_i e1 e2; exact .inr ⟨_,_,e1⟩)
       rw [if_pos hci]
       rw [hf.1 hci] at h
       rcases hpp with hpp | hpp
       case inr => exact zek hop hpp h
       refine zfM hop (fun b off hbo => ?_) hpp h
       rw [hsL] at hbo
       have keepb:∀ j o2 v2 o2' t ob,(l.take k)[j]? = some o2 → o2.op.calm=false → j ≠ i → ¬ (if j < i then j ∈ anc.getD i [] else i ∈ anc.getD j []) → vs[j]? = some v2 → Fact P ob o2 v2 o2' t → t=asg (fun x => decide (x < 0 + j)) 0 (l.take k) vs tm → o2'[b]? = ob[b]?:=by
        intro j o2 v2 o2' t ob hj hcj hji hno hv2 hfj ht2
        obtain ⟨s',h1,h2,h3⟩:=hApP j o2 hj hcj hji hno
        have hl2:=hlk hj
        have hkind:(∃ sz y,o2.op=.store sz (.t s') y ∧ o2.gd=none ∧ zco l j=j) ∨ (∃ T z,o2.op=.alloc T z ∧ o2.gd=none ∧ o2.dst=some s' ∧ zco l j=j + 1) ∨ (((∃ E sz by' x y,o2.op=.app E sz by' x y) ∨ (∃ E x y,o2.op=.apps E x y) ∨ (∃ E sz n z ps,o2.op=.bslo E sz n z ps) ∨ (∃ sz x y,o2.op=.trn sz x y)) ∧ o2.gd=none ∧ o2.dst=some s' ∧ zco l j=j + 1):=by
         unfold adrS at h1
         unfold zco
         rw [hl2.2] at h1 ⊢
         split at h1
         ·rename_i e; cases e; cases h1
          refine .inl ⟨_,_,rfl,rfl,?_⟩
          split
          ·rename_i q; cases q
          ·rename_i q; cases q
          ·rename_i q; cases q
          ·rename_i q; cases q
          ·rename_i q; cases q
          ·rfl
         ·rename_i e; cases e; cases h1; exact .inr (.inl ⟨_,_,rfl,rfl,rfl,rfl⟩)
         ·rename_i e; cases e; cases h1; exact .inr (.inr ⟨.inl ⟨_,_,_,_,_,rfl⟩,rfl,rfl,rfl⟩)
         ·rename_i e; cases e; cases h1; exact .inr (.inr ⟨.inr (.inl ⟨_,_,_,rfl⟩),rfl,rfl,rfl⟩)
         ·rename_i e; cases e; cases h1; exact .inr (.inr ⟨.inr (.inr (.inl ⟨_,_,_,_,_,rfl⟩)),rfl,rfl,rfl⟩)
         ·rename_i e; cases e
          split at h1
          ·cases h1; exact .inr (.inr ⟨.inr (.inr (.inr ⟨_,_,_,rfl⟩)),rfl,rfl,rfl⟩)
          ·cases h1
         ·cases h1
        have hfj2:=hfj.2
        rcases hkind with ⟨sz,y,e2,hg2,hat⟩ | ⟨T,z,e2,hg2,hds,hat⟩ | ⟨hrk,hg2,hds,hat⟩
        ·rw [hg2,e2] at hfj2
         rw [hat] at h2
         refine zd9 (fun b' off' hb' => ?_) (fun b' g' j' hb' => ?_) hfj2
         ·rw [ht2] at hb'
          rw [hfin h2 (fun x => decide (x < 0 + j)) (fun x hx _ => by simpa using hx)] at hb'
          rw [hbo,hb'] at h3
          exact h3
         ·rw [ht2] at hb'
          rw [hfin h2 (fun x => decide (x < 0 + j)) (fun x hx _ => by simpa using hx)] at hb'
          rw [hbo,hb'] at h3
          exact h3
        ·rw [hg2,e2] at hfj2
         rw [hat] at h2
         simp only [wpS] at hfj2
         obtain ⟨g1,g2⟩:=hfj2
         have hdj:=hd2 j hl2.1
         have hst:=zbt (fun x => decide (x < 0 + j)) (l.take k) vs tm 0 j o2 v2 hj hv2 (by simp) (by
          intro j' o' hj' hjj
          have hl3:=hlk hj'
          rcases hdj with hdj | hdj
          ·right
           unfold zag at hdj
           rw [hl2.2] at hdj; exact hdj
          ·rcases hdj j' hl3.1 with h5 | h5
           ·exact absurd h5.symm hjj
           ·left
            intro e
            apply h5
            unfold zag
            rw [hl3.2,hl2.2]; exact e)
         have hfs:=hfin h2 (fun x => decide (x < 0 + j) || x == 0 + j) (fun x hx _ => by
          simp only [Nat.zero_add,Bool.or_eq_true,decide_eq_true_eq,beq_iff_eq]; omega)
         rw [← hst,hds] at hfs
         have hne:¬ b=ob.length:=by
          intro eb
          simp only [zaj] at hfs
          have hlt2:s' < (asg (fun x => decide (x < 0 + j)) 0 (l.take k) vs tm).length:=by
           rcases Nat.lt_or_ge s' (asg (fun x => decide (x < 0 + j)) 0 (l.take k) vs tm).length with h6 | h6
           ·exact h6
           ·exfalso
            have hn:(asg (fun _ => true) 0 (l.take k) vs tm)[s']? = none:=by
             rw [← hfs]
             exact List.getElem?_eq_none (by simp only [List.length_set]; exact h6)
            rw [hn,hbo] at h3
            exact h3
          rw [List.getElem?_set_self hlt2,← g2] at hfs
          rw [hbo,← hfs] at h3
          exact h3 eb
         rw [← g1]
         rcases Nat.lt_or_ge b ob.length with h6 | h6
         ·rw [List.getElem?_append_left h6]
         ·rw [List.getElem?_eq_none (by simp; omega),List.getElem?_eq_none h6]
        ·rw [hg2] at hfj2
         rw [hat] at h2
         have hdj:=hd2 j hl2.1
         have hst:=zbt (fun x => decide (x < 0 + j)) (l.take k) vs tm 0 j o2 v2 hj hv2 (by simp) (by
          intro j' o' hj' hjj
          have hl3:=hlk hj'
          rcases hdj with hdj | hdj
          ·right
           unfold zag at hdj
           rw [hl2.2] at hdj; exact hdj
          ·rcases hdj j' hl3.1 with h5 | h5
           ·exact absurd h5.symm hjj
           ·left
            intro e
            apply h5
            unfold zag
            rw [hl3.2,hl2.2]; exact e)
         have hfs:=hfin h2 (fun x => decide (x < 0 + j) || x == 0 + j) (fun x hx _ => by
          simp only [Nat.zero_add,Bool.or_eq_true,decide_eq_true_eq,beq_iff_eq]; omega)
         rw [← hst,hds] at hfs
         have hlt2:s' < (asg (fun x => decide (x < 0 + j)) 0 (l.take k) vs tm).length:=by
          unfold zbn at h3
          rcases Nat.lt_or_ge s' (asg (fun x => decide (x < 0 + j)) 0 (l.take k) vs tm).length with h6 | h6
          ·exact h6
          ·exfalso
           have hn:(asg (fun _ => true) 0 (l.take k) vs tm)[s']? = none:=by
            rw [← hfs]
            exact List.getElem?_eq_none (by simp only [zaj,List.length_set]; exact h6)
           rw [hn] at h3
           rw [hbo] at h3
           exact h3
         obtain ⟨b',g',hv',hkeep⟩:∃ b' g',v2=.orow b' g' ∧ ∀ c,¬ c=b' → o2'[c]? = ob[c]?:=by
          rcases zfm hrk hfj2 with h7 | h7
          ·exact h7
          ·exfalso
           simp only [zaj] at hfs
           rw [List.getElem?_set_self hlt2] at hfs
           rw [hbo,← hfs] at h3
           rcases h7 with ⟨n,xs,rfl⟩ | rfl <;> exact h3
         have hne:¬ b=b':=by
          simp only [zaj] at hfs
          rw [List.getElem?_set_self hlt2,hv'] at hfs
          rw [hbo,← hfs] at h3
          exact h3
         exact hkeep b hne
       by_cases hmore:∃ j o2,(l.take k)[j]? = some o2 ∧ o2.op.calm=false ∧ i ≤ j ∧ listed.getD j false=true
       ·obtain ⟨j1,o1,hj1,hc1,hij1,hl1⟩:=hmore
        symm
        refine zcV b (fun x => decide (x < 0 + i)) (fun x => listed.getD x false) (l.take k) objs vs os tm 0 hfacts hclosed hclosed2 (fun j o2 hj hcj hlt => ?_) (fun j o2 v2 o2' t ob hj hcj hp hq _ hv2 hfj ht2 => ?_)
        ·simp at hlt
         exact hclosed j j1 o2 o1 hj hj1 (by omega) hcj hc1 (by simpa using hl1)
        ·have hji:j ≠ i:=by rintro rfl; rw [Nat.zero_add,hun] at hq; cases hq
         refine keepb j o2 v2 o2' t ob hj hcj hji (fun hcd => ?_) hv2 hfj ht2
         have:=hdone i j hin (by have:=(hlk hj).1; omega) hun hanc hcd
         simp only [Nat.zero_add] at hq hp
         rw [hq] at this
         rw [← this] at hp; cases hp
       ·refine zcV b (fun x => listed.getD x false) (fun x => decide (x < 0 + i)) (l.take k) objs vs os tm 0 hfacts hclosed2 hclosed (fun j o2 hj hcj hlt => ?_) (fun j o2 v2 o2' t ob hj hcj hp hq _ hv2 hfj ht2 => ?_)
        ·simp only [Nat.zero_add] at hlt ⊢
         rcases Nat.lt_or_ge j i with h0 | h0
         ·simpa using h0
         ·exact absurd ⟨j,o2,hj,hcj,h0,hlt⟩ hmore
        ·simp at hq
         refine keepb j o2 v2 o2' t ob hj hcj (by omega) (fun hcd => ?_) hv2 hfj ht2
         have:=hdone i j hin (by have:=(hlk hj).1; omega) hun hanc hcd
         simp only [Nat.zero_add] at hp
         rw [hp] at this
         simp at this; omega
    refine zep ops ops[i] so0 so hd0 hg0 hcv _ _ o' _ _ v _ _ htr hf hstep hskip hag a w hA2 ?_
    intro a2 w2 hr2
    refine ⟨hs',hc',.inl ⟨fun j hj hjn => by rw [hset,if_neg (by omega)]; exact hA1 j hj hjn,?_⟩⟩
    have hdi:=hd2 i hik
    rw [zbt (fun x => listed.getD x false) (l.take k) vs tm 0 i so v hti hv (by simpa using hun) (by
     intro j o' hj hji
     have hjk:j < k:=by
      rcases Nat.lt_or_ge j k with h0 | h0
      ·exact h0
      ·rw [List.getElem?_eq_none (by rw [htk]; exact h0)] at hj; cases hj
     rw [List.getElem?_take_of_lt hjk] at hj
     rcases hdi with hdi | hdi
     ·right
      unfold zag at hdi
      rw [hso] at hdi; exact hdi
     ·rcases hdi j hjk with h1 | h1
      ·exact absurd h1.symm hji
      ·left
       intro e
       apply h1
       unfold zag
       rw [hj,hso]; exact e)] at hr2
    have e2:(fun x => listed.getD x false || x == 0 + i)=fun x => (listed.setIfInBounds i true).getD x false:=by
     funext x
     rw [hset,Nat.zero_add]
     by_cases e:x=i
     ·simp [e]
     ·have:(x == i)=false:=by simp [e]
      rw [if_neg e,this,Bool.or_false]
    rw [e2] at hr2
    have e3:(if so.op.calm=true then obA (fun x => listed.getD x false) 0 (l.take k) os objs else o')=obA (fun x => (listed.setIfInBounds i true).getD x false) 0 (l.take k) os objs:=by
     rw [← e2]
     cases hc2:so.op.calm with
     | true =>
      rw [if_pos rfl]
      refine zaG _ _ _ _ _ 0 (fun j o2 hj hcj => ?_)
      rw [Nat.zero_add]
      have:j ≠ i:=by
       rintro rfl
       rw [hti] at hj; cases hj
       rw [hc2] at hcj; cases hcj
      have:(j == 0 + i)=false:=by simp; omega
      rw [this,Bool.or_false]
     | false =>
      rw [if_neg Bool.false_ne_true]
      refine (zdM (fun x => listed.getD x false) (l.take k) os objs 0 i so o' hti hov hc2 (fun j o2 hj hij hcj => ?_)).symm
      rw [Nat.zero_add,hmem j o2 hj hcj hc2 (by omega)]
      simp; omega
    rw [e3] at hr2
    exact hr2
   ·exfalso
    have:=hm3 i hin
    rw [hun] at this
    simp at this; omega
  ·-- a step of the tail
   have hall:∀ j,j < i → listed.getD j false=true:=by
    intro j hj
    rcases hd4 i (by omega) with h0 | h0
    ·omega
    ·exact hanc j (h0 j hj)
   rcases hAB with ⟨hA1,hA2⟩ | ⟨m,hm1,hm2,hm3,objs',tm',hr',hw⟩
   ·have hik2:i=k:=by
     rcases Nat.lt_or_ge k i with h0 | h0
     ·have:=hA1 k (Nat.le_refl _) (by omega)
      rw [hall k h0] at this; cases this
     ·omega
    refine tail _ _ hik hall (fun j hj hjn => hA1 j (by omega) hjn) hA2 ?_
    rw [zaG (fun x => listed.getD x false) (fun _ => true) (l.take k) os objs 0 (fun j o hj _ => by
     rw [Nat.zero_add]; exact hall j (by have:=(List.getElem?_eq_some_iff.1 hj).1; rw [htk] at this; omega)),zbO (fun x => listed.getD x false) (fun _ => true) _ vs tm 0 (fun j hj => by
     rw [Nat.zero_add]; exact hall j (by rw [htk] at hj; omega)),hik2]
    exact hK
   ·have him:i=m:=by
     have h1:=hm3 i hin
     rw [hun] at h1
     rcases Nat.lt_or_ge m i with h0 | h0
     ·have h2:=hm3 m (by omega)
      rw [hall m h0] at h2; simp at h2
     ·simp at h1; omega
    subst him
    exact tail objs' tm' hik hall (fun j hj hjn => by rw [hm3 j hjn]; simp; omega) hr' hw
 have main:∀ (fuel:Nat) (S:List Nat) (listed:Array Bool) (a:Act) (w:World),S.length=fuel → (∀ i,i < ops.size → listed.getD i false=false → i ∈ S) → Inv listed a w → wpAny P .any ops (zcx C K) fuel listed a w:=by
  intro fuel
  induction fuel with
  | zero =>
   intro S listed a w hS hcov hinv
   have hS0:S=[]:=List.eq_nil_of_length_eq_zero hS
   have hall:∀ i,i < ops.size → listed.getD i false=true:=by
    intro i hi
    cases hq:listed.getD i false with
    | true => rfl
    | false => have:=hcov i hi hq; rw [hS0] at this; cases this
   refine ⟨?_,fin listed a w hinv hall⟩
   apply List.eq_nil_iff_forall_not_mem.2
   intro i hi
   obtain ⟨hin,hun,_⟩:=(zaY hinv.1).1 hi
   rw [hgd listed i (by rw [hinv.1]; exact hin),hall i hin] at hun; cases hun
  | succ fuel ih =>
   intro S listed a w hS hcov hinv
   refine ⟨fun hnil => ?_,fun i hi => ?_⟩
   ·refine fin listed a w hinv ?_
    intro i
    induction i using Nat.strongRecOn with
    | _ i ih2 =>
     intro hi
     cases hq:listed.getD i false with
     | true => rfl
     | false =>
      have:i ∈ Region.ready .any ops listed:=(zaY hinv.1).2 ⟨hi,by rw [hgd listed i (by rw [hinv.1]; exact hi)]; exact hq,fun e he => by
       rw [hdeps] at he
       have:=(hdep i hi).1 e he
       exact ih2 e this (by omega)⟩
      rw [hnil] at this; cases this
   ·refine wpOp_mono (fun a' w' hI => ?_) (step listed a w i hinv hi)
    obtain ⟨hin,hun,_⟩:=(zaY hinv.1).1 hi
    rw [hgd listed i (by rw [hinv.1]; exact hin)] at hun
    have hiS:=hcov i hin hun
    refine ih (S.erase i) _ a' w' (by rw [List.length_erase_of_mem hiS,hS]; rfl) ?_ hI
    intro j hj hjn
    rw [zaR listed i j false (by rw [hinv.1]; exact hin)] at hjn
    split at hjn
    ·cases hjn
    ·rename_i e
     exact (List.mem_erase_of_ne e).2 (hcov j hj hjn)
 refine wp_region_any hm (main ops.size (List.range ops.size) _ a _ (by simp) (fun i hi _ => List.mem_range.2 hi) ?_)
 have hrep:∀ (j:Nat),(Array.replicate ops.size false).getD j false=false:=by
  intro j
  simp only [Array.getD_eq_getD_getElem?,Array.getElem?_replicate]
  split <;> rfl
 refine ⟨by simp,⟨fun i _ hi => absurd hi (by rw [hrep]; exact Bool.false_ne_true),.inl ⟨fun j _ _ => hrep j,?_⟩⟩⟩
 have e0:asg (fun x => (Array.replicate ops.size false).getD x false) 0 (l.take k) vs tm=tm:=by
  have:∀ (l:List SO) (vs tm:List AV) (j:Nat),asg (fun x => (Array.replicate ops.size false).getD x false) j l vs tm=tm:=by
   intro l
   induction l with
   | nil => intro vs tm j; cases vs <;> rfl
   | cons o l ih =>
    intro vs tm j
    cases vs with
    | nil => rfl
    | cons v vs =>
     simp only [asg]
     rw [if_neg (by rw [hrep]; exact Bool.false_ne_true)]
     exact ih vs tm (j + 1)
  exact this _ _ _ _
 rw [e0,zbK _ _ _ _ _ (fun j _ _ _ => hrep _)]
 obtain ⟨G,I,h1,h2,h3,h4⟩:=hr
 exact ⟨G,I,⟨h1.os,h1.tape,h1.output,h1.size,h1.block,h1.imm,h1.news,h1.blk,h1.gh⟩,⟨h2.imm,h2.box,h2.row,h2.map,h2.inj,h2.lt,h2.apart,h2.fresh⟩,h3,h4⟩
end
section
variable {P:Program} [Tabs P] {C:Cx} [On P C] {K:zas}
theorem zbF (id:Nat) (ops:Array Oper) (l0 l:List SO) (hl:ops.toList.mapM (trO P ops.toList)=some l0) (hlp:l=l0 ∨ l=l0.map SO.toP ∨ l=l0.map SO.toQ ∨ l=l0.map SO.toR) (k:Nat) (hok:zaV l (ops.toList.map zah) (za5 (ops.toList.map zah)) k=true) (hm:P.follows .mixedOrders=true) {objs:List OB} {tm:List AV} (T:Array Bool → List OB → List AV → Prop) (H:List OB → List AV → Prop)
  (hT0:∀ (listed:Array Bool) (o:List OB) (t:List AV),listed.size=ops.size → (∀ j,j < k → listed.getD j false=true) → (∀ j,k ≤ j → j < ops.size → listed.getD j false=false) → H o t → T listed o t)
  (hTs:∀ (listed:Array Bool) (o:List OB) (t:List AV) (i:Nat) (so:SO),listed.size=ops.size → l[i]? = some so → k ≤ i → i < ops.size → listed.getD i false=false → (∀ j ∈ (za5 (ops.toList.map zah)).getD i [],listed.getD j false=true) → T listed o t → wpR P [so] o t (fun o2 t2 => T (listed.setIfInBounds i true) o2 t2))
  (hTf:∀ (listed:Array Bool) (o:List OB) (t:List AV),listed.size=ops.size → (∀ j,j < ops.size → listed.getD j false=true) → T listed o t → K .normal o t)
  (h:wpD P (l.take k) objs tm (fun o t => zcH (zaS l (za5 (ops.toList.map zah)) k) t ∧ H o t)):∀ a w,Rel C objs tm a w → (Code.region id ops true).wp P (zcx C K) a w:=by
 intro a w hr
 obtain ⟨hlen0,hget0⟩:=zbc _ _ _ hl
 have hlen:ops.toList.length=l.length:=by
  rcases hlp with rfl | rfl | rfl | rfl
  ·exact hlen0
  ·rw [List.length_map]; exact hlen0
  ·rw [List.length_map]; exact hlen0
  ·rw [List.length_map]; exact hlen0
 have hget:∀ (i:Nat) (x:Oper),ops.toList[i]? = some x → ∃ y,l[i]? = some y ∧ ∃ y0,trO P ops.toList x=some y0 ∧ y.dst=y0.dst ∧ y.gd=y0.gd ∧ ∀ objs tm K,wpS P y.op objs tm K → wpS P y0.op objs tm K:=by
  intro i x hx
  obtain ⟨y0,h1,h2⟩:=hget0 i x hx
  rcases hlp with rfl | rfl | rfl | rfl
  ·exact ⟨y0,h1,y0,h2,rfl,rfl,fun _ _ _ h => h⟩
  ·exact ⟨y0.toP,by rw [List.getElem?_map,h1]; rfl,y0,h2,zhn y0,toP_gd y0,fun objs tm K h => toP_up y0 objs tm K h⟩
  ·exact ⟨y0.toQ,by rw [List.getElem?_map,h1]; rfl,y0,h2,zhm y0,toQ_gd y0,fun objs tm K h => toQ_up y0 objs tm K h⟩
  ·exact ⟨y0.toR,by rw [List.getElem?_map,h1]; rfl,y0,h2,zhl y0,toR_gd y0,fun objs tm K h => toR_up y0 objs tm K h⟩
 have hnl:ops.size=l.length:=by simpa using hlen
 generalize hdeps:ops.toList.map zah=deps at hok h hTs
 generalize za5 deps=anc at hok h hTs
 simp only [zaV,Bool.and_eq_true,decide_eq_true_eq,List.all_eq_true,List.mem_range,Bool.or_eq_true,bne_iff_ne,ne_eq,beq_iff_eq,List.any_eq_true,List.contains_iff_mem] at hok
 obtain ⟨⟨⟨⟨⟨⟨hk,hd1⟩,hd2⟩,hd3⟩,hm1⟩,hd4⟩,hsm⟩:=hok
 obtain ⟨vs,os,hfacts,hAp,hK⟩:=zbf _ _ _ _ h
 have hdep:∀ i,i < ops.size → (∀ e ∈ deps.getD i [],e < i) ∧ ∀ j ∈ anc.getD i [],j ∈ deps.getD i [] ∨ ∃ e ∈ deps.getD i [],j ∈ anc.getD e []:=fun i hi => hd1 i (by omega)
 have halt:=zgH deps anc ops.size hdep
 have htk:(l.take k).length=k:=by rw [List.length_take]; omega
 let Inv:Array Bool → Act → World → Prop:=fun listed a w =>
  listed.size=ops.size ∧ (∀ i,i < ops.size → listed.getD i false=true → ∀ e ∈ deps.getD i [],listed.getD e false=true) ∧
  (((∀ j,k ≤ j → j < ops.size → listed.getD j false=false) ∧ Rel C (obA (fun x => listed.getD x false) 0 (l.take k) os objs) (asg (fun x => listed.getD x false) 0 (l.take k) vs tm) a w) ∨
   ((∀ j,j < k → listed.getD j false=true) ∧ ∃ objs' tm',Rel C objs' tm' a w ∧ T listed objs' tm'))
 have hgd:∀ (listed:Array Bool) (i:Nat),i < listed.size → listed.getD i true=listed.getD i false:=by
  intro listed i hi
  simp [Array.getD_eq_getD_getElem?,hi]
 have fin:∀ listed a w,Inv listed a w → (∀ i,i < ops.size → listed.getD i false=true) → zcx C K .normal a w:=by
  rintro listed a w ⟨hs,hc,hA | ⟨hm1,objs',tm',hr',hw⟩⟩ hall
  ·have hT:=hT0 listed (obA (fun x => listed.getD x false) 0 (l.take k) os objs) (asg (fun x => listed.getD x false) 0 (l.take k) vs tm) hs (fun j hj => hall j (by omega)) hA.1 (by
    rw [zaG (fun x => listed.getD x false) (fun _ => true) (l.take k) os objs 0 (fun j o hj _ => by
     rw [Nat.zero_add]; exact (hall j (by have:=(List.getElem?_eq_some_iff.1 hj).1; rw [htk] at this; omega))),zbO (fun x => listed.getD x false) (fun _ => true) _ vs tm 0 (fun j hj => by
     rw [Nat.zero_add]; exact (hall j (by rw [htk] at hj; omega)))]
    exact hK)
   exact ⟨_,_,hTf listed _ _ hs hall hT,hA.2⟩
  ·exact ⟨objs',tm',hTf listed _ _ hs hall hw,hr'⟩
 have step:∀ listed a w i,Inv listed a w → i ∈ Region.ready .any ops listed → wpOp P ops (zcx C K) i (fun a w => Inv (listed.setIfInBounds i true) a w) a w:=by
  intro listed a w i hinv hi
  obtain ⟨hs,hc,hAB⟩:=hinv
  obtain ⟨hin,hun,hrd⟩:=(zaY hs).1 hi
  rw [hdeps] at hrd
  rw [hgd listed i (by omega)] at hun
  have hanc:=zaO deps anc ops.size hdep (fun x => listed.getD x false) hc i hin hrd
  have ho:ops[i]? = some ops[i]:=Array.getElem?_eq_getElem hin
  obtain ⟨so,hso,so0,htr,hd0,hg0,hcv⟩:=hget i ops[i] (by rw [List.getElem?_eq_getElem (by simpa using hin)]; simp)
  have hs':(listed.setIfInBounds i true).size=ops.size:=by rw [Array.size_setIfInBounds]; exact hs
  have hset:∀ j,(listed.setIfInBounds i true).getD j false=if j=i then true else listed.getD j false:=fun j => zaR listed i j false (by omega)
  have hc':∀ x,x < ops.size → (listed.setIfInBounds i true).getD x false=true → ∀ e ∈ deps.getD x [],(listed.setIfInBounds i true).getD e false=true:=by
   intro x hx hlx e he
   rw [hset] at hlx ⊢
   split
   ·rfl
   ·split at hlx
    ·rename_i e1; subst e1; exact hrd e he
    ·exact hc x hx hlx e he
  suffices hsuf:if Region.wanted ops[i] (yielded ops a.tmps) then ops[i].wp P a w (fun a w => Inv (listed.setIfInBounds i true) a w) (zcx C K) else Inv (listed.setIfInBounds i true) (a.put ops[i].dst undef) w by
   unfold wpOp
   rw [ho]
   show if Region.wanted ops[i] (yielded ops a.tmps)=true then _ else _
   split
   ·rename_i hw; rw [if_pos hw] at hsuf; exact .inl hsuf
   ·rename_i hw; rw [if_neg hw] at hsuf; exact hsuf
  have tail:∀ objs' tm',k ≤ i → (∀ j,j < k → listed.getD j false=true) → Rel C objs' tm' a w → T listed objs' tm' →
    if Region.wanted ops[i] (yielded ops a.tmps) then ops[i].wp P a w (fun a w => Inv (listed.setIfInBounds i true) a w) (zcx C K) else Inv (listed.setIfInBounds i true) (a.put ops[i].dst undef) w:=by
   intro objs' tm' hki hlo hr' hw
   refine zdD ops ops[i] so0 so hd0 hg0 hcv [] objs' tm' _ _ _ htr (hTs listed objs' tm' i so hs hso hki hin hun hanc hw) a w hr' ?_
   intro o2 t2 a2 w2 hw2 hr2
   refine ⟨hs',hc',.inr ⟨fun j hj => ?_,o2,t2,hr2,hw2⟩⟩
   rw [hset]
   split
   ·rfl
   ·exact hlo j hj
  rcases Nat.lt_or_ge i k with hik | hik
  ·-- a step of the part whose order is open
   rcases hAB with ⟨hA1,hA2⟩ | ⟨hm3,_⟩
   ·have hti:(l.take k)[i]? = some so:=by rw [List.getElem?_take_of_lt hik]; exact hso
    obtain ⟨v,o',hv,hov,hf⟩:=zdS (l.take k) objs vs os tm 0 i so hfacts hti
    have hlook:=hd3 i hik
    rw [hso] at hlook
    simp only [Option.map_some,Option.getD_some] at hlook
    have hag:∀ t ∈ so.looks,(asg (fun x => listed.getD x false) 0 (l.take k) vs tm)[t]? = (asg (fun x => decide (x < 0 + i)) 0 (l.take k) vs tm)[t]?:=by
     intro t ht
     refine zbH _ _ t _ vs tm tm 0 rfl rfl ?_
     intro j o' hj ho'
     simp only [Nat.zero_add]
     have hjk:j < k:=by
      rcases Nat.lt_or_ge j k with h0 | h0
      ·exact h0
      ·rw [List.getElem?_eq_none (by rw [htk]; exact h0)] at hj; cases hj
     have hdst:zag l j=some t:=by
      unfold zag
      rw [List.getElem?_take_of_lt hjk] at hj
      rw [hj]; exact ho'
     rcases hlook t ht j hjk with ((h1 | h1) | h1) | h1
     ·subst h1; rw [hun]; simp
     ·exact absurd hdst h1
     ·have h2:=hanc j h1
      have h3:=halt i hin j h1
      rw [h2]; simp [h3]
     ·have h3:=halt j (by omega) i h1
      have h2:listed.getD j false=false:=by
       cases hq:listed.getD j false with
       | false => rfl
       | true =>
        have:=zaO deps anc ops.size hdep (fun x => listed.getD x false) hc j (by omega) (hc j (by omega) hq) i h1
        rw [hun] at this; cases this
      rw [h2]; symm; simp; omega
    have hord:∀ i2 j o2 o3,l[i2]? = some o3 → o3.op.touch=true → i2 < k → l[j]? = some o2 → o2.op.calm=false → j < k → j ≠ i2 → (if j < i2 then j ∈ anc.getD i2 [] else i2 ∈ anc.getD j []) ∨ (za4 l k i2 j=true ∧ ¬ (if j < i2 then j ∈ anc.getD i2 [] else i2 ∈ anc.getD j [])):=by
     intro i2 j o2 o3 hi2 ht2 hik2 hj hcj hjk hji
     have wj:za7 l j=true:=by simp [za7,hj,hcj]
     have ti:za8 l i2=true:=by simp [za8,hi2,ht2]
     by_cases hc0:(if j < i2 then j ∈ anc.getD i2 [] else i2 ∈ anc.getD j [])
     ·exact .inl hc0
     ·right
      refine ⟨?_,hc0⟩
      rcases hm1 i2 hik2 with h0 | h0
      ·rw [ti] at h0; cases h0
      ·rcases h0 j hjk with ((h0 | h0) | h0) | h0
       ·rw [wj] at h0; cases h0
       ·exact absurd h0 hji
       ·exfalso; apply hc0
        split at h0 <;> rename_i hlt
        ·rw [if_pos hlt]; simpa using h0
        ·rw [if_neg hlt]; simpa using h0
       ·exact h0
    have hdone:∀ i2 j,i2 < ops.size → j < ops.size → listed.getD i2 false=false → (∀ x ∈ anc.getD i2 [],listed.getD x false=true) → (if j < i2 then j ∈ anc.getD i2 [] else i2 ∈ anc.getD j []) → listed.getD j false=decide (j < i2):=by
     intro i2 j hi2 hj hu2 ha2 hcond
     split at hcond
     ·rename_i hlt; rw [ha2 j hcond]; simp [hlt]
     ·rename_i hlt
      have h2:listed.getD j false=false:=by
       cases hq:listed.getD j false with
       | false => rfl
       | true =>
        have:=zaO deps anc ops.size hdep (fun x => listed.getD x false) hc j hj (hc j hj hq) i2 hcond
        rw [hu2] at this; cases this
      rw [h2]; simp [hlt]
    have hlk:∀ {j:Nat} {o2:SO},(l.take k)[j]? = some o2 → j < k ∧ l[j]? = some o2:=by
     intro j o2 hj
     have hjk:j < k:=by
      rcases Nat.lt_or_ge j k with h0 | h0
      ·exact h0
      ·rw [List.getElem?_eq_none (by rw [htk]; exact h0)] at hj; cases hj
     rw [List.getElem?_take_of_lt hjk] at hj
     exact ⟨hjk,hj⟩
    have hww:∀ j m o1 o2,l[j]? = some o1 → l[m]? = some o2 → j < m → m < k → o1.op.calm=false → o2.op.calm=false → j ∈ anc.getD m []:=by
     intro j m o1 o2 h1 h2 hjm hmk hc1 hc2
     rcases hord m j o1 o2 h2 (zbM hc2).1 hmk h1 hc1 (by omega) (by omega) with h0 | ⟨h0,_⟩
     ·rw [if_pos hjm] at h0; exact h0
     ·exfalso
      unfold za4 adrL at h0
      rw [h2] at h0
      obtain ⟨d2,op2,g2⟩:=o2
      cases op2 <;> first | (exact absurd hc2 (fun e => Bool.noConfusion e)) | (simp at h0; done) | (cases h0; done)
    have hmem:∀ j o2,(l.take k)[j]? = some o2 → o2.op.calm=false → so.op.calm=false → j ≠ i → listed.getD j false=decide (j < i):=by
     intro j o2 hj hcj hci hji
     obtain ⟨hjk,hj⟩:=hlk hj
     refine hdone i j hin (by omega) hun hanc ?_
     rcases Nat.lt_or_ge j i with h0 | h0
     ·rw [if_pos h0]; exact hww j i o2 so hj hso h0 hik hcj hci
     ·rw [if_neg (by omega)]; exact hww i j so o2 hso hj (by omega) hjk hci hcj
    have hclosed:∀ j m o1 o2,(l.take k)[j]? = some o1 → (l.take k)[m]? = some o2 → j < m → o1.op.calm=false → o2.op.calm=false → listed.getD (0 + m) false=true → listed.getD (0 + j) false=true:=by
     intro j m o1 o2 h1 h2 hjm hc1 hc2 hlm
     rw [Nat.zero_add] at hlm ⊢
     obtain ⟨hjk,h1⟩:=hlk h1
     obtain ⟨hmk,h2⟩:=hlk h2
     exact zaO deps anc ops.size hdep (fun x => listed.getD x false) hc m (by omega) (hc m (by omega) hlm) j (hww j m o1 o2 h1 h2 hjm hmk hc1 hc2)
    have hclosed2:∀ j m o1 o2,(l.take k)[j]? = some o1 → (l.take k)[m]? = some o2 → j < m → o1.op.calm=false → o2.op.calm=false → decide (0 + m < 0 + i)=true → decide (0 + j < 0 + i)=true:=by
     intro j m o1 o2 _ _ hjm _ _ h; simp at h ⊢; omega
    have hskip:o'=obA (fun x => decide (x < 0 + i)) 0 (l.take k) os objs → (if so.op.calm=true then obA (fun x => listed.getD x false) 0 (l.take k) os objs else o')=obA (fun x => listed.getD x false) 0 (l.take k) os objs:=by
     intro e
     cases hci:so.op.calm with
     | true => rw [if_pos rfl]
     | false =>
      rw [if_neg Bool.false_ne_true,e]
      refine zaG _ _ _ _ _ 0 (fun j o2 hj hcj => ?_)
      rw [Nat.zero_add,Nat.zero_add]
      by_cases hji:j=i
      ·subst hji; rw [hun]; simp
      ·exact (hmem j o2 hj hcj hci hji).symm
    have hstep:(∀ g want,so.gd=some (g,want) → (asg (fun x => listed.getD x false) 0 (l.take k) vs tm)[g]? = some (.b want)) → wpS P so.op (obA (fun x => decide (x < 0 + i)) 0 (l.take k) os objs) (asg (fun x => listed.getD x false) 0 (l.take k) vs tm) (fun y x => y=o' ∧ x=v) → wpS P so.op (obA (fun x => listed.getD x false) 0 (l.take k) os objs) (asg (fun x => listed.getD x false) 0 (l.take k) vs tm) (fun y x => y=(if so.op.calm=true then obA (fun x => listed.getD x false) 0 (l.take k) os objs else o') ∧ x=v):=by
     intro hG h
     cases ht:so.op.touch with
     | false =>
      have hci:so.op.calm=true:=by
       cases hq:so.op.calm with
       | true => rfl
       | false => rw [(zbM hq).1] at ht; cases ht
      rw [if_pos hci]
      rw [hf.1 hci] at h
      exact zeI ht h
     | true =>
      by_cases hall:∀ j o2,(l.take k)[j]? = some o2 → o2.op.calm=false → j ≠ i → (if j < i then j ∈ anc.getD i [] else i ∈ anc.getD j [])
      ·have ecur:obA (fun x => listed.getD x false) 0 (l.take k) os objs=obA (fun x => decide (x < 0 + i)) 0 (l.take k) os objs:=by
        refine zaG _ _ _ _ _ 0 (fun j o2 hj hcj => ?_)
        rw [Nat.zero_add,Nat.zero_add]
        by_cases hji:j=i
        ·subst hji; rw [hun]; simp
        ·exact hdone i j hin (by have:=(hlk hj).1; omega) hun hanc (hall j o2 hj hcj hji)
       rw [ecur]
       cases hci:so.op.calm with
       | true => rw [if_pos rfl]; rw [hf.1 hci] at h; exact h
       | false => rw [if_neg Bool.false_ne_true]; exact h
      ·-- some store is apart
       simp only [Classical.not_forall] at hall
       obtain ⟨j0,o0,hj0,hc0,hji0,hno0⟩:=hall
       have hl0:=hlk hj0
       have hap0:za4 l k i j0=true:=by
        rcases hord i j0 o0 so hso ht hik hl0.2 hc0 hl0.1 hji0 with h0 | h0
        ·exact absurd h0 hno0
        ·exact h0.1
       obtain ⟨s,hs0,hop,hci⟩:∃ s,adrL l i=some s ∧ (so.op=.load1 (.t s) ∨ ∃ sz,so.op=.loadn sz (.t s)) ∧ so.op.calm=true:=by
        unfold za4 at hap0
        split at hap0
        ·rename_i s s' h1 h2
         refine ⟨s,h1,?_⟩
         unfold adrL at h1
         rw [hso] at h1
         split at h1
         ·rename_i e; cases e; cases h1; exact ⟨.inl rfl,rfl⟩
         ·rename_i e; cases e; cases h1; exact ⟨.inr ⟨_,rfl⟩,rfl⟩
         ·cases h1
        ·cases hap0
       have hfin:∀ {m s1:Nat},((List.range k).all (fun x => decide (x < m) || zag l x != some s1))=true → ∀ p:Nat → Bool,(∀ x,x < m → (∃ o2,(l.take k)[x]? = some o2 ∧ o2.dst=some s1) → p x=true) → (asg p 0 (l.take k) vs tm)[s1]? = (asg (fun _ => true) 0 (l.take k) vs tm)[s1]?:=by
        intro m s1 hst p hp
        refine zbH _ _ s1 _ vs tm tm 0 rfl rfl ?_
        intro x o2 hx hd
        rw [Nat.zero_add]
        have hx2:=hlk hx
        have:=List.all_eq_true.1 hst x (List.mem_range.2 hx2.1)
        simp only [Bool.or_eq_true,decide_eq_true_eq,bne_iff_ne,ne_eq] at this
        rcases this with h1 | h1
        ·exact hp x h1 ⟨o2,hx,hd⟩
        ·exfalso; apply h1; unfold zag; rw [hx2.2]; exact hd
       have hapst:∀ j,za4 l k i j=true → ∃ s',adrS l j=some s' ∧ ((List.range k).all (fun x => decide (x < i) || zag l x != some s))=true ∧ ((List.range k).all (fun x => decide (x < zco l j) || zag l x != some s'))=true ∧ zeo l k i=true:=by
        intro j hj
        unfold za4 at hj
        rw [hs0] at hj
        split at hj
        ·rename_i s1 s' h1 h2
         cases h1
         simp only [Bool.and_eq_true] at hj
         exact ⟨s',h2,hj.1.1,hj.1.2,hj.2⟩
        ·cases hj
       have hsL:(asg (fun x => listed.getD x false) 0 (l.take k) vs tm)[s]? = (asg (fun _ => true) 0 (l.take k) vs tm)[s]?:=by
        obtain ⟨s',_,hst,_,_⟩:=hapst j0 hap0
        refine hfin hst _ (fun x hx ⟨o2,ho2,hd2⟩ => ?_)
        have hx2:=hlk ho2
        have hsl:s ∈ so.looks:=by
         unfold SO.looks
         refine List.mem_append_left _ ?_
         rcases hop with e | ⟨sz,e⟩ <;> rw [e] <;> simp [SOp.svs,SV.tmp?]
        have hdst:zag l x=some s:=by unfold zag; rw [hx2.2]; exact hd2
        rcases hlook s hsl x hx2.1 with ((h1 | h1) | h1) | h1
        ·omega
        ·exact absurd hdst h1
        ·exact hanc x h1
        ·have:=halt x (by omega) i h1; omega
       have hgL:∀ g want,so.gd=some (g,want) → (asg (fun _ => true) 0 (l.take k) vs tm)[g]? = some (.b want):=by
        intro g want hg
        obtain ⟨s',_,_,_,hgs⟩:=hapst j0 hap0
        unfold zeo gdAt at hgs
        rw [hso] at hgs
        simp only [Option.bind_some,hg] at hgs
        rw [← hfin hgs (fun x => listed.getD x false) (fun x hx ⟨o2,ho2,hd2⟩ => ?_)]
        ·exact hG g want hg
        have hx2:=hlk ho2
        have hsl:g ∈ so.looks:=by
         unfold SO.looks
         rw [hg]
         exact List.mem_append_right _ (List.mem_singleton_self g)
        have hdst:zag l x=some g:=by unfold zag; rw [hx2.2]; exact hd2
        rcases hlook g hsl x hx2.1 with ((h1 | h1) | h1) | h1
        ·omega
        ·exact absurd hdst h1
        ·exact hanc x h1
        ·have:=halt x (by omega) i h1; omega
       have hApP:∀ j o2,(l.take k)[j]? = some o2 → o2.op.calm=false → j ≠ i → ¬ (if j < i then j ∈ anc.getD i [] else i ∈ anc.getD j []) → ∃ s',adrS l j=some s' ∧ ((List.range k).all (fun x => decide (x < zco l j) || zag l x != some s'))=true ∧ zbn (asg (fun _ => true) 0 (l.take k) vs tm)[s]? (asg (fun _ => true) 0 (l.take k) vs tm)[s']?:=by
        intro j o2 hj hcj hji hno
        have hl2:=hlk hj
        have hap:za4 l k i j=true:=by
         rcases hord i j o2 so hso ht hik hl2.2 hcj hl2.1 hji with h0 | h0
         ·exact absurd h0 hno
         ·exact h0.1
        obtain ⟨s',h1,_,h2,_⟩:=hapst j hap
        refine ⟨s',h1,h2,zgG (zd1 _ _ s s' (gdAt l i) hAp ?_ (zea hsm hl2.1 h1)) (fun g want e => hgL g want (by unfold gdAt at e; rw [hso] at e; exact e))⟩
        unfold zaS
        refine List.mem_flatMap.2 ⟨i,List.mem_range.2 hik,List.mem_filterMap.2 ⟨j,List.mem_range.2 hl2.1,?_⟩⟩
        unfold zj0
        have wj:za7 l j=true:=by simp [za7,hl2.2,hcj]
        have ti:za8 l i=true:=by simp [za8,hso,ht]
        have hcond:(if j < i then (anc.getD i []).contains j else (anc.getD j []).contains i)=false:=by
         split <;> rename_i hlt
         ·rw [if_pos hlt] at hno; simpa using hno
         ·rw [if_neg hlt] at hno; simpa using hno
        have hji':(j == i)=false:=by simpa using hji
        rw [wj,ti,hcond,hji',hs0,h1]
        simp
       have hpp:(∃ b off,(asg (fun x => listed.getD x false) 0 (l.take k) vs tm)[s]? = some (.p b off)) ∨ ∃ xs q,(asg (fun x => listed.getD x false) 0 (l.take k) vs tm)[s]? = some (.prow xs q):=by
        obtain ⟨s',_,_,h1⟩:=hApP j0 o0 hj0 hc0 hji0 hno0
        rw [hsL]
        unfold zbn at h1
        split at h1
        all_goals first
         | exact h1.elim
         | (rename_i e1 e2; exact .inl ⟨_,_,e1⟩)
         | (rename_i e1 e2; exact .inr ⟨_,_,e1⟩)
       rw [if_pos hci]
       rw [hf.1 hci] at h
       rcases hpp with hpp | hpp
       case inr => exact zek hop hpp h
       refine zfM hop (fun b off hbo => ?_) hpp h
       rw [hsL] at hbo
       have keepb:∀ j o2 v2 o2' t ob,(l.take k)[j]? = some o2 → o2.op.calm=false → j ≠ i → ¬ (if j < i then j ∈ anc.getD i [] else i ∈ anc.getD j []) → vs[j]? = some v2 → Fact P ob o2 v2 o2' t → t=asg (fun x => decide (x < 0 + j)) 0 (l.take k) vs tm → o2'[b]? = ob[b]?:=by
        intro j o2 v2 o2' t ob hj hcj hji hno hv2 hfj ht2
        obtain ⟨s',h1,h2,h3⟩:=hApP j o2 hj hcj hji hno
        have hl2:=hlk hj
        have hkind:(∃ sz y,o2.op=.store sz (.t s') y ∧ o2.gd=none ∧ zco l j=j) ∨ (∃ T z,o2.op=.alloc T z ∧ o2.gd=none ∧ o2.dst=some s' ∧ zco l j=j + 1) ∨ (((∃ E sz by' x y,o2.op=.app E sz by' x y) ∨ (∃ E x y,o2.op=.apps E x y) ∨ (∃ E sz n z ps,o2.op=.bslo E sz n z ps) ∨ (∃ sz x y,o2.op=.trn sz x y)) ∧ o2.gd=none ∧ o2.dst=some s' ∧ zco l j=j + 1):=by
         unfold adrS at h1
         unfold zco
         rw [hl2.2] at h1 ⊢
         split at h1
         ·rename_i e; cases e; cases h1
          refine .inl ⟨_,_,rfl,rfl,?_⟩
          split
          ·rename_i q; cases q
          ·rename_i q; cases q
          ·rename_i q; cases q
          ·rename_i q; cases q
          ·rename_i q; cases q
          ·rfl
         ·rename_i e; cases e; cases h1; exact .inr (.inl ⟨_,_,rfl,rfl,rfl,rfl⟩)
         ·rename_i e; cases e; cases h1; exact .inr (.inr ⟨.inl ⟨_,_,_,_,_,rfl⟩,rfl,rfl,rfl⟩)
         ·rename_i e; cases e; cases h1; exact .inr (.inr ⟨.inr (.inl ⟨_,_,_,rfl⟩),rfl,rfl,rfl⟩)
         ·rename_i e; cases e; cases h1; exact .inr (.inr ⟨.inr (.inr (.inl ⟨_,_,_,_,_,rfl⟩)),rfl,rfl,rfl⟩)
         ·rename_i e; cases e
          split at h1
          ·cases h1; exact .inr (.inr ⟨.inr (.inr (.inr ⟨_,_,_,rfl⟩)),rfl,rfl,rfl⟩)
          ·cases h1
         ·cases h1
        have hfj2:=hfj.2
        rcases hkind with ⟨sz,y,e2,hg2,hat⟩ | ⟨T,z,e2,hg2,hds,hat⟩ | ⟨hrk,hg2,hds,hat⟩
        ·rw [hg2,e2] at hfj2
         rw [hat] at h2
         refine zd9 (fun b' off' hb' => ?_) (fun b' g' j' hb' => ?_) hfj2
         ·rw [ht2] at hb'
          rw [hfin h2 (fun x => decide (x < 0 + j)) (fun x hx _ => by simpa using hx)] at hb'
          rw [hbo,hb'] at h3
          exact h3
         ·rw [ht2] at hb'
          rw [hfin h2 (fun x => decide (x < 0 + j)) (fun x hx _ => by simpa using hx)] at hb'
          rw [hbo,hb'] at h3
          exact h3
        ·rw [hg2,e2] at hfj2
         rw [hat] at h2
         simp only [wpS] at hfj2
         obtain ⟨g1,g2⟩:=hfj2
         have hdj:=hd2 j hl2.1
         have hst:=zbt (fun x => decide (x < 0 + j)) (l.take k) vs tm 0 j o2 v2 hj hv2 (by simp) (by
          intro j' o' hj' hjj
          have hl3:=hlk hj'
          rcases hdj with hdj | hdj
          ·right
           unfold zag at hdj
           rw [hl2.2] at hdj; exact hdj
          ·rcases hdj j' hl3.1 with h5 | h5
           ·exact absurd h5.symm hjj
           ·left
            intro e
            apply h5
            unfold zag
            rw [hl3.2,hl2.2]; exact e)
         have hfs:=hfin h2 (fun x => decide (x < 0 + j) || x == 0 + j) (fun x hx _ => by
          simp only [Nat.zero_add,Bool.or_eq_true,decide_eq_true_eq,beq_iff_eq]; omega)
         rw [← hst,hds] at hfs
         have hne:¬ b=ob.length:=by
          intro eb
          simp only [zaj] at hfs
          have hlt2:s' < (asg (fun x => decide (x < 0 + j)) 0 (l.take k) vs tm).length:=by
           rcases Nat.lt_or_ge s' (asg (fun x => decide (x < 0 + j)) 0 (l.take k) vs tm).length with h6 | h6
           ·exact h6
           ·exfalso
            have hn:(asg (fun _ => true) 0 (l.take k) vs tm)[s']? = none:=by
             rw [← hfs]
             exact List.getElem?_eq_none (by simp only [List.length_set]; exact h6)
            rw [hn,hbo] at h3
            exact h3
          rw [List.getElem?_set_self hlt2,← g2] at hfs
          rw [hbo,← hfs] at h3
          exact h3 eb
         rw [← g1]
         rcases Nat.lt_or_ge b ob.length with h6 | h6
         ·rw [List.getElem?_append_left h6]
         ·rw [List.getElem?_eq_none (by simp; omega),List.getElem?_eq_none h6]
        ·rw [hg2] at hfj2
         rw [hat] at h2
         have hdj:=hd2 j hl2.1
         have hst:=zbt (fun x => decide (x < 0 + j)) (l.take k) vs tm 0 j o2 v2 hj hv2 (by simp) (by
          intro j' o' hj' hjj
          have hl3:=hlk hj'
          rcases hdj with hdj | hdj
          ·right
           unfold zag at hdj
           rw [hl2.2] at hdj; exact hdj
          ·rcases hdj j' hl3.1 with h5 | h5
           ·exact absurd h5.symm hjj
           ·left
            intro e
            apply h5
            unfold zag
            rw [hl3.2,hl2.2]; exact e)
         have hfs:=hfin h2 (fun x => decide (x < 0 + j) || x == 0 + j) (fun x hx _ => by
          simp only [Nat.zero_add,Bool.or_eq_true,decide_eq_true_eq,beq_iff_eq]; omega)
         rw [← hst,hds] at hfs
         have hlt2:s' < (asg (fun x => decide (x < 0 + j)) 0 (l.take k) vs tm).length:=by
          unfold zbn at h3
          rcases Nat.lt_or_ge s' (asg (fun x => decide (x < 0 + j)) 0 (l.take k) vs tm).length with h6 | h6
          ·exact h6
          ·exfalso
           have hn:(asg (fun _ => true) 0 (l.take k) vs tm)[s']? = none:=by
            rw [← hfs]
            exact List.getElem?_eq_none (by simp only [zaj,List.length_set]; exact h6)
           rw [hn] at h3
           rw [hbo] at h3
           exact h3
         obtain ⟨b',g',hv',hkeep⟩:∃ b' g',v2=.orow b' g' ∧ ∀ c,¬ c=b' → o2'[c]? = ob[c]?:=by
          rcases zfm hrk hfj2 with h7 | h7
          ·exact h7
          ·exfalso
           simp only [zaj] at hfs
           rw [List.getElem?_set_self hlt2] at hfs
           rw [hbo,← hfs] at h3
           rcases h7 with ⟨n,xs,rfl⟩ | rfl <;> exact h3
         have hne:¬ b=b':=by
          simp only [zaj] at hfs
          rw [List.getElem?_set_self hlt2,hv'] at hfs
          rw [hbo,← hfs] at h3
          exact h3
         exact hkeep b hne
       by_cases hmore:∃ j o2,(l.take k)[j]? = some o2 ∧ o2.op.calm=false ∧ i ≤ j ∧ listed.getD j false=true
       ·obtain ⟨j1,o1,hj1,hc1,hij1,hl1⟩:=hmore
        symm
        refine zcV b (fun x => decide (x < 0 + i)) (fun x => listed.getD x false) (l.take k) objs vs os tm 0 hfacts hclosed hclosed2 (fun j o2 hj hcj hlt => ?_) (fun j o2 v2 o2' t ob hj hcj hp hq _ hv2 hfj ht2 => ?_)
        ·simp at hlt
         exact hclosed j j1 o2 o1 hj hj1 (by omega) hcj hc1 (by simpa using hl1)
        ·have hji:j ≠ i:=by rintro rfl; rw [Nat.zero_add,hun] at hq; cases hq
         refine keepb j o2 v2 o2' t ob hj hcj hji (fun hcd => ?_) hv2 hfj ht2
         have:=hdone i j hin (by have:=(hlk hj).1; omega) hun hanc hcd
         simp only [Nat.zero_add] at hq hp
         rw [hq] at this
         rw [← this] at hp; cases hp
       ·refine zcV b (fun x => listed.getD x false) (fun x => decide (x < 0 + i)) (l.take k) objs vs os tm 0 hfacts hclosed2 hclosed (fun j o2 hj hcj hlt => ?_) (fun j o2 v2 o2' t ob hj hcj hp hq _ hv2 hfj ht2 => ?_)
        ·simp only [Nat.zero_add] at hlt ⊢
         rcases Nat.lt_or_ge j i with h0 | h0
         ·simpa using h0
         ·exact absurd ⟨j,o2,hj,hcj,h0,hlt⟩ hmore
        ·simp at hq
         refine keepb j o2 v2 o2' t ob hj hcj (by omega) (fun hcd => ?_) hv2 hfj ht2
         have:=hdone i j hin (by have:=(hlk hj).1; omega) hun hanc hcd
         simp only [Nat.zero_add] at hp
         rw [hp] at this
         simp at this; omega
    refine zep ops ops[i] so0 so hd0 hg0 hcv _ _ o' _ _ v _ _ htr hf hstep hskip hag a w hA2 ?_
    intro a2 w2 hr2
    refine ⟨hs',hc',.inl ⟨fun j hj hjn => by rw [hset,if_neg (by omega)]; exact hA1 j hj hjn,?_⟩⟩
    have hdi:=hd2 i hik
    rw [zbt (fun x => listed.getD x false) (l.take k) vs tm 0 i so v hti hv (by simpa using hun) (by
     intro j o' hj hji
     have hjk:j < k:=by
      rcases Nat.lt_or_ge j k with h0 | h0
      ·exact h0
      ·rw [List.getElem?_eq_none (by rw [htk]; exact h0)] at hj; cases hj
     rw [List.getElem?_take_of_lt hjk] at hj
     rcases hdi with hdi | hdi
     ·right
      unfold zag at hdi
      rw [hso] at hdi; exact hdi
     ·rcases hdi j hjk with h1 | h1
      ·exact absurd h1.symm hji
      ·left
       intro e
       apply h1
       unfold zag
       rw [hj,hso]; exact e)] at hr2
    have e2:(fun x => listed.getD x false || x == 0 + i)=fun x => (listed.setIfInBounds i true).getD x false:=by
     funext x
     rw [hset,Nat.zero_add]
     by_cases e:x=i
     ·simp [e]
     ·have:(x == i)=false:=by simp [e]
      rw [if_neg e,this,Bool.or_false]
    rw [e2] at hr2
    have e3:(if so.op.calm=true then obA (fun x => listed.getD x false) 0 (l.take k) os objs else o')=obA (fun x => (listed.setIfInBounds i true).getD x false) 0 (l.take k) os objs:=by
     rw [← e2]
     cases hc2:so.op.calm with
     | true =>
      rw [if_pos rfl]
      refine zaG _ _ _ _ _ 0 (fun j o2 hj hcj => ?_)
      rw [Nat.zero_add]
      have:j ≠ i:=by
       rintro rfl
       rw [hti] at hj; cases hj
       rw [hc2] at hcj; cases hcj
      have:(j == 0 + i)=false:=by simp; omega
      rw [this,Bool.or_false]
     | false =>
      rw [if_neg Bool.false_ne_true]
      refine (zdM (fun x => listed.getD x false) (l.take k) os objs 0 i so o' hti hov hc2 (fun j o2 hj hij hcj => ?_)).symm
      rw [Nat.zero_add,hmem j o2 hj hcj hc2 (by omega)]
      simp; omega
    rw [e3] at hr2
    exact hr2
   ·exfalso
    have:=hm3 i hik
    rw [hun] at this
    cases this
  ·-- a step of the tail
   have hall:∀ j,j < k → listed.getD j false=true:=by
    intro j hj
    rcases hd4 i (by omega) with h0 | h0
    ·omega
    ·exact hanc j (h0 j hj)
   rcases hAB with ⟨hA1,hA2⟩ | ⟨hm3,objs',tm',hr',hw⟩
   ·refine tail _ _ hik hall hA2 (hT0 listed _ _ hs hall hA1 ?_)
    rw [zaG (fun x => listed.getD x false) (fun _ => true) (l.take k) os objs 0 (fun j o hj _ => by
     rw [Nat.zero_add]; exact hall j (by have:=(List.getElem?_eq_some_iff.1 hj).1; rw [htk] at this; omega)),zbO (fun x => listed.getD x false) (fun _ => true) _ vs tm 0 (fun j hj => by
     rw [Nat.zero_add]; exact hall j (by rw [htk] at hj; omega))]
    exact hK
   ·exact tail objs' tm' hik hall hr' hw
 have main:∀ (fuel:Nat) (S:List Nat) (listed:Array Bool) (a:Act) (w:World),S.length=fuel → (∀ i,i < ops.size → listed.getD i false=false → i ∈ S) → Inv listed a w → wpAny P .any ops (zcx C K) fuel listed a w:=by
  intro fuel
  induction fuel with
  | zero =>
   intro S listed a w hS hcov hinv
   have hS0:S=[]:=List.eq_nil_of_length_eq_zero hS
   have hall:∀ i,i < ops.size → listed.getD i false=true:=by
    intro i hi
    cases hq:listed.getD i false with
    | true => rfl
    | false => have:=hcov i hi hq; rw [hS0] at this; cases this
   refine ⟨?_,fin listed a w hinv hall⟩
   apply List.eq_nil_iff_forall_not_mem.2
   intro i hi
   obtain ⟨hin,hun,_⟩:=(zaY hinv.1).1 hi
   rw [hgd listed i (by rw [hinv.1]; exact hin),hall i hin] at hun; cases hun
  | succ fuel ih =>
   intro S listed a w hS hcov hinv
   refine ⟨fun hnil => ?_,fun i hi => ?_⟩
   ·refine fin listed a w hinv ?_
    intro i
    induction i using Nat.strongRecOn with
    | _ i ih2 =>
     intro hi
     cases hq:listed.getD i false with
     | true => rfl
     | false =>
      have:i ∈ Region.ready .any ops listed:=(zaY hinv.1).2 ⟨hi,by rw [hgd listed i (by rw [hinv.1]; exact hi)]; exact hq,fun e he => by
       rw [hdeps] at he
       have:=(hdep i hi).1 e he
       exact ih2 e this (by omega)⟩
      rw [hnil] at this; cases this
   ·refine wpOp_mono (fun a' w' hI => ?_) (step listed a w i hinv hi)
    obtain ⟨hin,hun,_⟩:=(zaY hinv.1).1 hi
    rw [hgd listed i (by rw [hinv.1]; exact hin)] at hun
    have hiS:=hcov i hin hun
    refine ih (S.erase i) _ a' w' (by rw [List.length_erase_of_mem hiS,hS]; rfl) ?_ hI
    intro j hj hjn
    rw [zaR listed i j false (by rw [hinv.1]; exact hin)] at hjn
    split at hjn
    ·cases hjn
    ·rename_i e
     exact (List.mem_erase_of_ne e).2 (hcov j hj hjn)
 refine wp_region_any hm (main ops.size (List.range ops.size) _ a _ (by simp) (fun i hi _ => List.mem_range.2 hi) ?_)
 have hrep:∀ (j:Nat),(Array.replicate ops.size false).getD j false=false:=by
  intro j
  simp only [Array.getD_eq_getD_getElem?,Array.getElem?_replicate]
  split <;> rfl
 refine ⟨by simp,⟨fun i _ hi => absurd hi (by rw [hrep]; exact Bool.false_ne_true),.inl ⟨fun j _ _ => hrep j,?_⟩⟩⟩
 have e0:asg (fun x => (Array.replicate ops.size false).getD x false) 0 (l.take k) vs tm=tm:=by
  have:∀ (l:List SO) (vs tm:List AV) (j:Nat),asg (fun x => (Array.replicate ops.size false).getD x false) j l vs tm=tm:=by
   intro l
   induction l with
   | nil => intro vs tm j; cases vs <;> rfl
   | cons o l ih =>
    intro vs tm j
    cases vs with
    | nil => rfl
    | cons v vs =>
     simp only [asg]
     rw [if_neg (by rw [hrep]; exact Bool.false_ne_true)]
     exact ih vs tm (j + 1)
  exact this _ _ _ _
 rw [e0,zbK _ _ _ _ _ (fun j _ _ _ => hrep _)]
 obtain ⟨G,I,h1,h2,h3,h4⟩:=hr
 exact ⟨G,I,⟨h1.os,h1.tape,h1.output,h1.size,h1.block,h1.imm,h1.news,h1.blk,h1.gh⟩,⟨h2.imm,h2.box,h2.row,h2.map,h2.inj,h2.lt,h2.apart,h2.fresh⟩,h3,h4⟩
theorem draw_gen (id:Nat) (ops:Array Oper) (l0 l:List SO) (hl:ops.toList.mapM (trO P ops.toList)=some l0) (hlp:l=l0 ∨ l=l0.map SO.toP ∨ l=l0.map SO.toQ ∨ l=l0.map SO.toR) (k:Nat) (hok:zaV l (ops.toList.map zah) (za5 (ops.toList.map zah)) k=true) (hm:P.follows .mixedOrders=true) {objs:List OB} {tm:List AV} (T:Array Bool → List OB → List AV → Prop) (Kf:List OB → List AV → Prop)
  (hT0:∀ (listed:Array Bool) (o:List OB) (t:List AV),listed.size=ops.size → (∀ j,j < k → listed.getD j false=true) → (∀ j,k ≤ j → j < ops.size → listed.getD j false=false) → wpR P (l.drop k) o t Kf → T listed o t)
  (hTs:∀ (listed:Array Bool) (o:List OB) (t:List AV) (i:Nat) (so:SO),listed.size=ops.size → l[i]? = some so → k ≤ i → i < ops.size → listed.getD i false=false → (∀ j ∈ (za5 (ops.toList.map zah)).getD i [],listed.getD j false=true) → T listed o t → wpR P [so] o t (fun o2 t2 => T (listed.setIfInBounds i true) o2 t2))
  (hTf:∀ (listed:Array Bool) (o:List OB) (t:List AV),listed.size=ops.size → (∀ j,j < ops.size → listed.getD j false=true) → T listed o t → K .normal o t)
  (h:wpD P (l.take k) objs tm (fun o t => zcH (zaS l (za5 (ops.toList.map zah)) k) t ∧ wpR P (l.drop k) o t Kf)):∀ a w,Rel C objs tm a w → (Code.region id ops true).wp P (zcx C K) a w :=
 zbF id ops l0 l hl hlp k hok hm T (fun o t => wpR P (l.drop k) o t Kf) hT0 hTs hTf h
def fkB (d x y v:Nat) (so:SO):Bool:=match so with
 | ⟨some q,.nck (.t a),none⟩ => (decide (q ≠ d) && decide (q ≠ x) && decide (q ≠ y) && decide (q ≠ v)) && decide (a ≠ d)
 | ⟨some q,.fad _ (.t a),none⟩ => (decide (q ≠ d) && decide (q ≠ x) && decide (q ≠ y) && decide (q ≠ v)) && decide (a ≠ d)
 | _ => false
def zjj (l:List SO) (k:Nat):Option (Nat × Nat):=match l.drop k with
 | ⟨some d,.iad _ (.t x) (.t y),none⟩ :: ⟨none,.store _ (.t d') (.t v),none⟩ :: rest => match rest.reverse with
  | ⟨none,.store _ (.t e) (.t u),none⟩ :: rB => if (d=d' ∧ e ≠ d ∧ u ≠ d ∧ v ≠ d ∧ x ≠ d ∧ y ≠ d) ∧ rB.all (fkB d x y v)=true then some (d,e) else none
  | _ => none
 | _ => none
def zjk (anc:List (List Nat)) (k n:Nat):Bool :=
 (anc.getD (k + 1) []).contains k && (List.range n).all fun j => decide (j < k + 2) || (List.range j).all fun i => decide (i < k + 2) || (anc.getD j []).contains i
def zgd (l:List SO) (deps anc:List (List Nat)) (k:Nat):Bool :=
 zaV l deps anc k && (zaS l anc k).isEmpty && zjk anc k l.length && (l.drop k).all (fun o => !o.op.isCall)
theorem forkF_is {l:List SO} {k d e:Nat} (h:zjj l k=some (d,e)):∃ (sz x y sz' v s1 u:Nat) (Bs:List SO),
  l=l.take k ++ ⟨some d,.iad sz (.t x) (.t y),none⟩ :: ⟨none,.store sz' (.t d) (.t v),none⟩ :: (Bs ++ [⟨none,.store s1 (.t e) (.t u),none⟩]) ∧ e ≠ d ∧ u ≠ d ∧ v ≠ d ∧ x ≠ d ∧ y ≠ d ∧ ∀ so ∈ Bs,fkB d x y v so=true:=by
 unfold zjj at h
 split at h
 ·rename_i d0 sz x y sz' d' v rest hl
  split at h
  ·rename_i s1 e0 u rB hr
   split at h
   ·rename_i hc
    injection h with h; injection h with h1 h2
    subst h1 h2
    obtain ⟨⟨rfl,c2,c3,c4,c5,c6⟩,c7⟩:=hc
    refine ⟨sz,x,y,sz',v,s1,u,rB.reverse,?_,c2,c3,c4,c5,c6,fun so hso => List.all_eq_true.1 c7 so (List.mem_reverse.1 hso)⟩
    have hrest:rest=rB.reverse ++ [⟨none,.store s1 (.t e0) (.t u),none⟩]:=by
     have:=congrArg List.reverse hr
     simpa using this
    rw [← hrest,← hl,List.take_append_drop]
   ·cases h
  ·cases h
 ·cases h
section
variable (P)
def rF (l:List SO) (d e:Nat) (Kf:List OB → List AV → Prop) (b:Nat) (o:List OB) (t:List AV):Prop:=wpR P (l.drop b) o t fun o t => apS t[d]? t[e]? ∧ Kf o t
end
def pQ (P:Program) [Tabs P] (l:List SO) (d e x y v sz sz':Nat) (Kf:List OB → List AV → Prop) (dn:Bool) (b:Nat) (o:List OB) (t:List AV):Prop :=
 ∃ (bi g E n:Nat) (xs:List AV) (ik:IntKind) (m:Int) (yv:AV),o[bi]? = some (.orow E sz g n xs) ∧ t[v]? = some yv ∧ (yv.flat=true ∧ yv.cells.length=sz' ∧ m.toNat * sz + sz' ≤ xs.length) ∧ d < t.length ∧
  (dn=true → t[d]? = some (.porow bi g (m.toNat * sz))) ∧ (dn=false → t[x]? = some (.orow bi g) ∧ t[y]? = some (.i ik m) ∧ 0 ≤ m ∧ m < n) ∧
  rF P l d e Kf b (o.set bi (.orow E sz g n (zav xs (m.toNat * sz) yv.cells))) (t.set d (.porow bi g (m.toNat * sz)))
theorem zeb {α:Type} (l:List α) (i j:Nat) (a b:α) (h:i ≠ j):(l.set i a).set j b=(l.set j b).set i a:=List.set_comm a b h
theorem getD_some {o:Option AV} {x:AV} (h:o.getD .u=x) (hx:x ≠ .u):o=some x:=by
 cases o with
 | none => exact absurd h.symm hx
 | some z => exact congrArg some h
theorem pQ_B {l:List SO} {d e x y v sz sz':Nat} {Kf:List OB → List AV → Prop} {dn:Bool} {b:Nat} {o:List OB} {t:List AV} {so:SO} (hl:l.drop b=so :: l.drop (b + 1)) (hso:fkB d x y v so=true) (h:pQ P l d e x y v sz sz' Kf dn b o t) :
  wpR P [so] o t fun o2 t2 => pQ P l d e x y v sz sz' Kf dn (b + 1) o2 t2:=by
 obtain ⟨bi,g,E,n,xs,ik,m,yv,h1,h2,h3,h4,h5,h6,h7⟩:=h
 unfold rF at h7
 rw [hl] at h7
 have fin:∀ (q:Nat) (w:AV),q ≠ d → q ≠ x → q ≠ y → q ≠ v → rF P l d e Kf (b + 1) (o.set bi (.orow E sz g n (zav xs (m.toNat * sz) yv.cells))) ((t.set d (.porow bi g (m.toNat * sz))).set q w) → pQ P l d e x y v sz sz' Kf dn (b + 1) o (t.set q w):=by
  intro q w q1 q2 q3 q4 hr
  refine ⟨bi,g,E,n,xs,ik,m,yv,h1,by rw [List.getElem?_set_ne q4]; exact h2,h3,by rw [List.length_set]; exact h4,fun hd => by rw [List.getElem?_set_ne q1]; exact h5 hd,fun hd => by rw [List.getElem?_set_ne q2,List.getElem?_set_ne q3]; exact h6 hd,?_⟩
  rw [zeb _ _ _ _ _ q1]
  exact hr
 unfold fkB at hso
 split at hso
 ·rename_i q a
  simp only [Bool.and_eq_true,decide_eq_true_eq] at hso
  obtain ⟨⟨⟨⟨q1,q2⟩,q3⟩,q4⟩,qa⟩:=hso
  simp only [wpR,wpS,SV.ev,List.getElem?_set_ne (Ne.symm qa)] at h7 ⊢
  revert h7
  split
  all_goals first | exact fun h => h.elim | exact fun h => fin q _ q1 q2 q3 q4 h
 ·rename_i q off a
  simp only [Bool.and_eq_true,decide_eq_true_eq] at hso
  obtain ⟨⟨⟨⟨q1,q2⟩,q3⟩,q4⟩,qa⟩:=hso
  simp only [wpR,wpS,SV.ev,List.getElem?_set_ne (Ne.symm qa)] at h7 ⊢
  revert h7
  split
  all_goals first | exact fun h => h.elim | exact fun h => fin q _ q1 q2 q3 q4 h
 ·cases hso
theorem pQ_E {l:List SO} {d e x y v sz sz' s1 u:Nat} {Kf:List OB → List AV → Prop} {dn:Bool} {b:Nat} {o:List OB} {t:List AV} (he:e ≠ d) (hu:u ≠ d) (hl:l.drop b=[⟨none,.store s1 (.t e) (.t u),none⟩]) (hl2:l.drop (b + 1)=[]) (h:pQ P l d e x y v sz sz' Kf dn b o t) :
  wpR P [⟨none,.store s1 (.t e) (.t u),none⟩] o t fun o2 t2 => pQ P l d e x y v sz sz' Kf dn (b + 1) o2 t2:=by
 obtain ⟨bi,g,E,n,xs,ik,m,yv,h1,h2,h3,h4,h5,h6,h7⟩:=h
 unfold rF at h7
 rw [hl] at h7
 have fin:∀ (b0:Nat) (Y:OB),¬ bi=b0 → (apS (t.set d (.porow bi g (m.toNat * sz)))[d]? (t.set d (.porow bi g (m.toNat * sz)))[e]? ∧ Kf ((o.set bi (.orow E sz g n (zav xs (m.toNat * sz) yv.cells))).set b0 Y) (t.set d (.porow bi g (m.toNat * sz)))) → pQ P l d e x y v sz sz' Kf dn (b + 1) (o.set b0 Y) t:=by
  intro b0 Y hb hr
  refine ⟨bi,g,E,n,xs,ik,m,yv,by rw [List.getElem?_set_ne (fun h => hb h.symm)]; exact h1,h2,h3,h4,h5,h6,?_⟩
  unfold rF
  rw [hl2,zeb _ _ _ _ _ (fun h => hb h.symm)]
  exact hr
 have hd:(t.set d (.porow bi g (m.toNat * sz)))[d]? = some (.porow bi g (m.toNat * sz)):=List.getElem?_set_self h4
 have hte:(t.set d (.porow bi g (m.toNat * sz)))[e]? = t[e]?:=List.getElem?_set_ne (Ne.symm he)
 simp only [wpR,wpS,SV.ev,zaj,List.getElem?_set_ne (Ne.symm he),List.getElem?_set_ne (Ne.symm hu)] at h7 ⊢
 revert h7
 split
 ·rename_i b0 off hp
  have hp':=getD_some hp (by intro h; cases h)
  have key:∀ {q:Prop},(apS (t.set d (.porow bi g (m.toNat * sz)))[d]? t[e]? ∧ q) → ¬ bi=b0:=by
   intro q hq
   rw [hd,hp'] at hq
   exact hq.1
  split
  ·rename_i T cs hb
   rintro ⟨c1,c2⟩
   have hne:=key c2
   rw [List.getElem?_set_ne hne] at hb
   rw [hb]
   exact ⟨c1,fin b0 _ hne (by rw [hte]; exact c2)⟩
  ·exact fun h => h.elim
 ·rename_i b0 g0 j0 hp
  have hp':=getD_some hp (by intro h; cases h)
  have key:∀ {q:Prop},(apS (t.set d (.porow bi g (m.toNat * sz)))[d]? t[e]? ∧ q) → ¬ bi=b0:=by
   intro q hq
   rw [hd,hp'] at hq
   exact hq.1
  split
  ·rename_i E0 s0 g1 n0 xs0 hb
   rintro ⟨c1,c2⟩
   have hne:=key c2
   rw [List.getElem?_set_ne hne] at hb
   rw [hb]
   exact ⟨c1,fin b0 _ hne (by rw [hte]; exact c2)⟩
  ·exact fun h => h.elim
 ·exact fun h => h.elim
theorem zbx {d x y v:Nat} {so:SO} {o:List OB} {t:List AV} {F F':List OB → List AV → Prop} (hk:∀ o t,F o t → F' o t) (hso:fkB d x y v so=true ∨ ∃ s1 e u,so=⟨none,.store s1 (.t e) (.t u),none⟩) (h:wpR P [so] o t F):wpR P [so] o t F':=by
 rcases hso with hso | ⟨s1,e,u,rfl⟩
 ·unfold fkB at hso
  split at hso
  ·simp only [wpR,wpS] at h ⊢
   revert h
   split
   all_goals first | exact fun h => h.elim | exact fun h => hk _ _ h
  ·simp only [wpR,wpS] at h ⊢
   revert h
   split
   all_goals first | exact fun h => h.elim | exact fun h => hk _ _ h
  ·cases hso
 ·simp only [wpR,wpS] at h ⊢
  revert h
  split
  ·split
   ·exact fun h => ⟨h.1,hk _ _ h.2⟩
   ·exact fun h => h.elim
  ·split
   ·exact fun h => ⟨h.1,hk _ _ h.2⟩
   ·exact fun h => h.elim
  ·exact fun h => h.elim
theorem zeK:∀ (a b:List SO) (objs:List OB) (tm:List AV) (F:List OB → List AV → Prop),wpD P (a ++ b) objs tm F=wpD P a objs tm (fun o t => wpD P b o t F)
 | [],b,objs,tm,F => rfl
 | ⟨dst,op,none⟩ :: a,b,objs,tm,F => by
  simp only [List.cons_append,wpD,zeK a b]
 | ⟨dst,op,some (t,want)⟩ :: a,b,objs,tm,F => by
  simp only [List.cons_append,wpD,zeK a b]
theorem wpD_R:∀ (b:List SO) (objs:List OB) (tm:List AV) (F:List OB → List AV → Prop),b.all (fun o => !o.op.isCall)=true → wpD P b objs tm F=wpR P b objs tm F
 | [],objs,tm,F,h => rfl
 | ⟨dst,op,none⟩ :: a,objs,tm,F,h => by
  rw [List.all_cons,Bool.and_eq_true,Bool.not_eq_true'] at h
  have h1:¬ op.isCall=true:=by rw [show op.isCall=false from h.1]; exact Bool.false_ne_true
  simp only [wpD,wpR,if_neg h1,fun o t => wpD_R a o t F h.2]
 | ⟨dst,op,some (t,want)⟩ :: a,objs,tm,F,h => by
  rw [List.all_cons,Bool.and_eq_true,Bool.not_eq_true'] at h
  have h1:¬ op.isCall=true:=by rw [show op.isCall=false from h.1]; exact Bool.false_ne_true
  simp only [wpD,wpR,if_neg h1,fun o t => wpD_R a o t F h.2]
  all_goals (cases (tm[t]?).getD .u <;> first | rfl | (rename_i v; cases v <;> rfl))
theorem fork_ok (id:Nat) (ops:Array Oper) (l:List SO) (hl:ops.toList.mapM (trO P ops.toList)=some l) (k d e:Nat) (hok:zgd l (ops.toList.map zah) (za5 (ops.toList.map zah)) k=true) (hf:zjj l k=some (d,e)) (hm:P.follows .mixedOrders=true) {objs:List OB} {tm:List AV}
  (h:wpD P (l.take l.length) objs tm (fun o t => zcH [(d,e + 1000000,none)] t ∧ wpR P (l.drop l.length) o t fun o t => K .normal o t)):∀ a w,Rel C objs tm a w → (Code.region id ops true).wp P (zcx C K) a w:=by
 obtain ⟨sz,x,y,sz',v,s1,u,Bs,hdec,he,hu,hv,hx,hy,hB⟩:=forkF_is hf
 have hnl:ops.size=l.length:=by
  have:=(zbc _ _ _ hl).1
  simpa using this
 unfold zgd at hok
 simp only [Bool.and_eq_true] at hok
 obtain ⟨⟨⟨hpre,hap⟩,hanc⟩,hcalls⟩:=hok
 have hk:k ≤ l.length:=by
  unfold zaV at hpre
  simp only [Bool.and_eq_true,decide_eq_true_eq] at hpre
  exact hpre.1.1.1.1.1.1
 have hap:zaS l (za5 (ops.toList.map zah)) k=[]:=List.isEmpty_iff.1 hap
 have htk:(l.take k).length=k:=by rw [List.length_take]; omega
 have hdk:l.drop k=⟨some d,.iad sz (.t x) (.t y),none⟩ :: ⟨none,.store sz' (.t d) (.t v),none⟩ :: (Bs ++ [⟨none,.store s1 (.t e) (.t u),none⟩]):=by
  have:=List.take_append_drop k l
  rw [hdec] at this
  rw [List.take_append_of_le_length (by rw [htk]; exact Nat.le_refl _),List.take_take,Nat.min_self] at this
  have h2:=List.append_cancel_left this
  rw [← hdec] at h2
  exact h2
 have hlen:l.length=k + 2 + Bs.length + 1:=by
  have:=congrArg List.length hdk
  rw [List.length_drop] at this
  simp only [List.length_cons,List.length_append,List.length_nil] at this
  omega
 have hd2:l.drop (k + 2)=Bs ++ [⟨none,.store s1 (.t e) (.t u),none⟩]:=by
  rw [← List.drop_drop,hdk]; rfl
 have hat:∀ i so,l[i]? = some so → l.drop i=so :: l.drop (i + 1):=fun i so hi => by
  obtain ⟨h1,h2⟩:=List.getElem?_eq_some_iff.1 hi
  rw [List.drop_eq_getElem_cons h1,h2]
 have hBat:∀ i so,l[i]? = some so → k + 2 ≤ i → (so ∈ Bs) ∨ (so=⟨none,.store s1 (.t e) (.t u),none⟩ ∧ i + 1=l.length):=by
  intro i so hi hki
  have h1:(l.drop (k + 2))[i - (k + 2)]? = some so:=by rw [List.getElem?_drop,show k + 2 + (i - (k + 2))=i by omega]; exact hi
  rw [hd2] at h1
  rcases Nat.lt_or_ge (i - (k + 2)) Bs.length with h2 | h2
  ·rw [List.getElem?_append_left h2] at h1
   exact .inl (List.mem_of_getElem? h1)
  ·rw [List.getElem?_append_right h2] at h1
   have hlt:=(List.getElem?_eq_some_iff.1 hi).1
   rw [show i - (k + 2) - Bs.length=0 by omega] at h1
   simp only [List.getElem?_cons_zero,Option.some.injEq] at h1
   exact .inr ⟨h1.symm,by omega⟩
 rw [List.take_length,List.drop_length] at h
 let Kf:List OB → List AV → Prop:=fun o t => K .normal o t
 have h':wpD P (l.take k) objs tm (fun o t => zcH (zaS l (za5 (ops.toList.map zah)) k) t ∧ wpR P (l.drop k) o t (fun o t => apS t[d]? t[e]? ∧ Kf o t)):=by
  have h0:=h
  rw [← List.take_append_drop k l,zeK] at h0
  have hR:∀ o t,wpD P (l.drop k) o t (fun o t => zcH [(d,e + 1000000,none)] t ∧ wpR P [] o t fun o t => K .normal o t)=(zcH (zaS l (za5 (ops.toList.map zah)) k) t ∧ wpR P (l.drop k) o t (fun o t => apS t[d]? t[e]? ∧ Kf o t)):=by
   intro o t
   rw [wpD_R _ _ _ _ hcalls,hap]
   have hz:∀ o t,(zcH [(d,e + 1000000,none)] t ∧ wpR P [] o t fun o t => K .normal o t)=(apS t[d]? t[e]? ∧ Kf o t):=by
    intro o t
    simp only [zcH,wpR,if_neg (show ¬ e + 1000000 < 1000000 by omega),Nat.add_sub_cancel,and_true]
    rfl
   rw [show (fun o t => zcH [(d,e + 1000000,none)] t ∧ wpR P [] o t fun o t => K .normal o t)=(fun o t => apS t[d]? t[e]? ∧ Kf o t) from funext fun o => funext fun t => hz o t]
   simp only [zcH,true_and]
  simpa only [hR] using h0
 refine draw_gen id ops l l hl (.inl rfl) k hpre hm (fun listed o t => ∃ st b,st ≤ 2 ∧ k + 2 ≤ b ∧ b ≤ l.length ∧ (∀ j,k ≤ j → j < l.length → listed.getD j false=decide (j < k + st ∨ (k + 2 ≤ j ∧ j < b))) ∧ (st=0 → pQ P l d e x y v sz sz' Kf false b o t) ∧ (st=1 → pQ P l d e x y v sz sz' Kf true b o t) ∧ (st=2 → rF P l d e Kf b o t)) _ ?_ ?_ ?_ h'
 ·intro listed o t hs h1 h2 hw
  refine ⟨0,k + 2,by omega,Nat.le_refl _,by omega,fun j hj hjn => ?_,fun _ => ?_,(fun h => by cases h),(fun h => by cases h)⟩
  ·rw [h2 j hj (by omega)]
   symm
   exact decide_eq_false (by omega)
  ·rw [hdk] at hw
   simp only [wpR] at hw
   rw [show wpS P (.iad sz (.t x) (.t y)) o t=fun K => match (SV.t x).ev t,(SV.t y).ev t with
    | .row n xs,.i _ i => (0 ≤ i ∧ i < n ∧ n * sz ≤ xs.length) ∧ K o (.prow xs (i.toNat * sz))
    | .orow b gen,.i _ i => match o[b]? with
     | some (.orow _ s gen' n _) => (gen'=gen ∧ s=sz ∧ 0 ≤ i ∧ i < n) ∧ K o (.porow b gen (i.toNat * sz))
     | _ => False
    | _,_ => False from rfl] at hw
   have noset:∀ p:AV,(∀ b g j,p ≠ .porow b g j) → (∀ b j,p ≠ .p b j) → ∀ F,¬ wpS P (.store sz' (.t d) (.t v)) o (t.set d p) F:=by
    intro p hp hp2 F hF
    simp only [wpS,SV.ev] at hF
    rcases Nat.lt_or_ge d t.length with hlt | hge
    ·rw [List.getElem?_set_self hlt,Option.getD_some] at hF
     cases p <;> first | exact hF | exact hp _ _ _ rfl | exact hp2 _ _ rfl
    ·rw [List.getElem?_eq_none (by rw [List.length_set]; exact hge)] at hF
     exact hF
   split at hw
   ·exact absurd hw.2 (noset _ (by intro _ _ _ h; cases h) (by intro _ _ h; cases h) _)
   ·rename_i bi g ik m hxv hyv
    split at hw
    ·rename_i E s g' n xs hb
     obtain ⟨⟨rfl,rfl,c3,c4⟩,hw⟩:=hw
     simp only [wpS,SV.ev,zaj] at hw
     have hdl:d < t.length:=by
      rcases Nat.lt_or_ge d t.length with hlt | hge
      ·exact hlt
      ·exfalso
       rw [List.getElem?_eq_none (by rw [List.length_set]; exact hge)] at hw
       exact hw
     rw [List.getElem?_set_self hdl,Option.getD_some] at hw
     simp only [hb,List.getElem?_set_ne (Ne.symm hv)] at hw
     obtain ⟨⟨_,q1,q2,q3⟩,hw⟩:=hw
     have hxs:t[x]? = some (.orow bi g'):=getD_some hxv (by intro h; cases h)
     have hys:t[y]? = some (.i ik m):=getD_some hyv (by intro h; cases h)
     obtain ⟨yv,hyv2⟩:∃ yv,t[v]? = some yv:=by
      cases hq:t[v]? with
      | none => rw [hq] at q1; cases q1
      | some z => exact ⟨z,rfl⟩
     rw [hyv2,Option.getD_some] at q1 q2 hw
     refine ⟨bi,g',E,n,xs,ik,m,yv,hb,hyv2,⟨q1,q2,q3⟩,hdl,(fun h => by cases h),fun _ => ⟨hxs,hys,c3,c4⟩,?_⟩
     unfold rF
     rw [hd2]
     exact hw
    ·exact hw.elim
   ·exact hw.elim
 ·intro listed o t i so hs hi hki hin hun hanci hT
  obtain ⟨st,b,hst,hb1,hb2,hlist,t0,t1,t2⟩:=hT
  have hset:∀ j,(listed.setIfInBounds i true).getD j false=if j=i then true else listed.getD j false:=fun j => zaR listed i j false (by omega)
  have hui:=hlist i hki (by omega)
  rw [hun] at hui
  have hui:¬ (i < k + st ∨ (k + 2 ≤ i ∧ i < b)):=of_decide_eq_false hui.symm
  unfold zjk at hanc
  rw [Bool.and_eq_true] at hanc
  obtain ⟨ha1,ha2⟩:=hanc
  by_cases ck:i=k
  ·subst ck
   have hst0:st=0:=by omega
   subst hst0
   obtain ⟨bi,g,E,n,xs,ik,m,yv,h1,h2,h3,h4,h5,h6,h7⟩:=t0 rfl
   obtain ⟨hx1,hy1,hm1,hm2⟩:=h6 rfl
   have hso:so=⟨some d,.iad sz (.t x) (.t y),none⟩:=by
    have:=hat i so hi
    rw [hdk] at this
    exact (List.cons.inj this).1.symm
   subst hso
   simp only [wpR,wpS,SV.ev,hx1,hy1,Option.getD_some,h1,zaj]
   refine ⟨⟨trivial,trivial,hm1,hm2⟩,1,b,by omega,hb1,hb2,fun j hj hjn => ?_,(fun h => by cases h),fun _ => ?_,(fun h => by cases h)⟩
   ·rw [hset]
    split
    ·rename_i e1; symm; exact decide_eq_true (by omega)
    ·rw [hlist j hj hjn]; congr 1; apply propext; omega
   ·refine ⟨bi,g,E,n,xs,ik,m,yv,h1,by rw [List.getElem?_set_ne (Ne.symm hv)]; exact h2,h3,by rw [List.length_set]; exact h4,fun _ => List.getElem?_set_self h4,(fun h => by cases h),?_⟩
    rw [List.set_set]
    exact h7
  by_cases ck1:i=k + 1
  ·subst ck1
   have hk1:listed.getD k false=true:=hanci k (List.contains_iff_mem.1 ha1)
   rw [hlist k (Nat.le_refl _) (by omega)] at hk1
   have hk1:=of_decide_eq_true hk1
   have hst1:st=1:=by omega
   subst hst1
   obtain ⟨bi,g,E,n,xs,ik,m,yv,h1,h2,h3,h4,h5,h6,h7⟩:=t1 rfl
   have hd1:=h5 rfl
   have hso:so=⟨none,.store sz' (.t d) (.t v),none⟩:=by
    have:=hat (k + 1) so hi
    rw [← List.drop_drop,hdk] at this
    exact (List.cons.inj this).1.symm
   subst hso
   simp only [wpR,wpS,SV.ev,hd1,h2,Option.getD_some,h1,zaj]
   refine ⟨⟨trivial,h3⟩,2,b,by omega,hb1,hb2,fun j hj hjn => ?_,(fun h => by cases h),(fun h => by cases h),fun _ => ?_⟩
   ·rw [hset]
    split
    ·rename_i e1; symm; exact decide_eq_true (by omega)
    ·rw [hlist j hj hjn]; congr 1; apply propext; omega
   ·rw [set_same hd1] at h7
    exact h7
  have hi2:k + 2 ≤ i:=by omega
  have hib:i=b:=by
   rcases Nat.lt_or_ge b i with h0 | h0
   ·exfalso
    have h1:=List.all_eq_true.1 ha2 i (List.mem_range.2 (by omega))
    simp only [Bool.or_eq_true,decide_eq_true_eq,List.all_eq_true,List.mem_range,List.contains_iff_mem] at h1
    rcases h1 with h1 | h1
    ·omega
    ·rcases h1 b h0 with h2 | h2
     ·omega
     ·have h3:=hanci b h2
      rw [hlist b (by omega) (by omega)] at h3
      have:=of_decide_eq_true h3
      omega
   ·omega
  subst hib
  have hdi:=hat i so hi
  have hlist':∀ j,k ≤ j → j < l.length → (listed.setIfInBounds i true).getD j false=decide (j < k + st ∨ (k + 2 ≤ j ∧ j < i + 1)):=by
   intro j hj hjn
   rw [hset]
   split
   ·rename_i e1; symm; exact decide_eq_true (by omega)
   ·rw [hlist j hj hjn]; congr 1; apply propext; omega
  have goPQ:∀ dn,pQ P l d e x y v sz sz' Kf dn i o t → wpR P [so] o t fun o2 t2 => pQ P l d e x y v sz sz' Kf dn (i + 1) o2 t2:=by
   intro dn hq
   rcases hBat i so hi hi2 with hmem | ⟨rfl,hlast⟩
   ·exact pQ_B hdi (hB so hmem) hq
   ·have hnil:l.drop (i + 1)=[]:=List.drop_eq_nil_of_le (by omega)
    rw [hnil] at hdi
    exact pQ_E he hu hdi hnil hq
  have hnone:fkB d x y v so=true ∨ ∃ s1 e u,so=⟨none,.store s1 (.t e) (.t u),none⟩:=by
   rcases hBat i so hi hi2 with hmem | ⟨rfl,_⟩
   ·exact .inl (hB so hmem)
   ·exact .inr ⟨_,_,_,rfl⟩
  have hst3:st=0 ∨ st=1 ∨ st=2:=by omega
  rcases hst3 with rfl | rfl | rfl
  ·refine zbx (fun o2 t2 hq => ⟨0,i + 1,by omega,by omega,by omega,hlist',fun _ => hq,(fun h => by cases h),(fun h => by cases h)⟩) hnone (goPQ false (t0 rfl))
  ·refine zbx (fun o2 t2 hq => ⟨1,i + 1,by omega,by omega,by omega,hlist',(fun h => by cases h),fun _ => hq,(fun h => by cases h)⟩) hnone (goPQ true (t1 rfl))
  ·refine zbx (fun o2 t2 hq => ⟨2,i + 1,by omega,by omega,by omega,hlist',(fun h => by cases h),(fun h => by cases h),fun _ => hq⟩) hnone ?_
   have h2:=t2 rfl
   unfold rF at h2
   rw [hdi] at h2
   rcases hnone with hso | ⟨s2,e2,u2,rfl⟩
   ·unfold fkB at hso
    split at hso
    ·exact h2
    ·exact h2
    ·cases hso
   ·exact h2
 ·intro listed o t hs hall hT
  obtain ⟨st,b,hst,hb1,hb2,hlist,t0,t1,t2⟩:=hT
  have e1:=hlist (k + 1) (by omega) (by omega)
  rw [hall (k + 1) (by omega)] at e1
  have e1:=of_decide_eq_true e1.symm
  have hst2:st=2:=by omega
  subst hst2
  have hbn:b=l.length:=by
   rcases Nat.lt_or_ge b l.length with h0 | h0
   ·have e2:=hlist b (by omega) h0
    rw [hall b (by omega)] at e2
    have e2:=of_decide_eq_true e2.symm
    omega
   ·omega
  subst hbn
  have h2:=t2 rfl
  unfold rF at h2
  rw [List.drop_length] at h2
  exact h2.2
end
def zb7 (o:SO):Bool:=o.op.calm && !o.op.isCall && o.gd.isNone && o.dst.isSome
def callB (o:SO):Bool:=o.op.isCall && o.gd.isNone && o.dst.isSome
def SOp.grows:SOp → Bool
 | .bslo .. | .app .. | .cappo .. => true
 | _ => false
def goB (o:SO):Bool:=(o.op.isCall || o.op.grows) && o.gd.isNone && o.dst.isSome
def zaq (l:List SO) (i:Nat):SO:=(l[i]?).getD ⟨none,.mv (.c .nil),none⟩
def zb9 (anc:List (List Nat)) (i j:Nat):Bool:=(anc.getD i []).contains j
def zaI (anc:List (List Nat)) (c i:Nat):Bool:=zb9 anc i c
def zcw (anc:List (List Nat)) (c i:Nat):Bool:=!(i == c) && !zb9 anc i c
def zbP (n:Nat) (p:Nat → Bool) (l:List SO):List SO:=((List.range n).filter p).map (zaq l)
def crgOk (l:List SO) (deps anc:List (List Nat)) (c:Nat):Bool :=
 (List.range l.length).all (fun i => (deps.getD i []).all (fun e => decide (e < i)) && (anc.getD i []).all fun j => (deps.getD i []).contains j || (deps.getD i []).any fun e => (anc.getD e []).contains j) &&
 (List.range l.length).all (fun i => zag l i == none || (List.range l.length).all fun j => i == j || zag l j != zag l i) &&
 (List.range l.length).all (fun i => (zaq l i).looks.all fun t => (List.range l.length).all fun j => j == i || zag l j != some t || (anc.getD i []).contains j || (anc.getD j []).contains i) &&
 decide (c < l.length) && callB (zaq l c) &&
 (List.range l.length).all (fun i => i == c || (if zaI anc c i=true then
   !(zaq l i).op.isCall && (zaq l i).gd.isNone && (List.range i).all (fun j => !zaI anc c j || zb9 anc i j) && ((zaq l i).op.calm || (List.range l.length).all fun j => !zcw anc c j || !(zaq l j).op.touch || zb9 anc i j)
  else zb7 (zaq l i))) &&
 (List.range l.length).all (fun j => (List.range l.length).all fun i => !zb9 anc j i || !zaI anc c i || zaI anc c j) && !zb9 anc c c
section
variable {P:Program} [Tabs P]
theorem zbN {o:SO} (h:zb7 o=true):∃ d op,o=⟨some d,op,none⟩ ∧ op.calm=true ∧ op.isCall=false:=by
 obtain ⟨d,op,g⟩:=o
 unfold zb7 at h
 simp only [Bool.and_eq_true,Bool.not_eq_true',Option.isNone_iff_eq_none,Option.isSome_iff_exists] at h
 obtain ⟨⟨⟨h1,h2⟩,h3⟩,d',h4⟩:=h
 subst h3 h4
 exact ⟨d',op,rfl,h1,h2⟩
theorem callB_is {o:SO} (h:callB o=true):∃ d op,o=⟨some d,op,none⟩ ∧ op.isCall=true:=by
 obtain ⟨d,op,g⟩:=o
 unfold callB at h
 simp only [Bool.and_eq_true,Option.isNone_iff_eq_none,Option.isSome_iff_exists] at h
 obtain ⟨⟨h1,h3⟩,d',h4⟩:=h
 subst h3 h4
 exact ⟨d',op,rfl,h1⟩
theorem zjf {o:SO} (h:goB o=true):∃ d op,o=⟨some d,op,none⟩ ∧ (op.isCall || op.grows)=true:=by
 obtain ⟨d,op,g⟩:=o
 unfold goB at h
 simp only [Bool.and_eq_true,Option.isNone_iff_eq_none,Option.isSome_iff_exists] at h
 obtain ⟨⟨h1,h3⟩,d',h4⟩:=h
 subst h3 h4
 exact ⟨d',op,rfl,h1⟩
theorem zb6 {so:SOp} (hc:so.isCall=true) {objs:List OB} {tm:List AV} {K K':List OB → AV → Prop} (hk:∀ o v,K o v → K' o v) (h:wpS P so objs tm K):wpS P so objs tm K':=by
 cases so <;> simp only [SOp.isCall,reduceCtorEq] at hc <;> simp only [wpS] at h ⊢
 case call => exact h.mono hk
 case pcall => exact ⟨h.1,h.2.mono fun o r h3 => ⟨h3.1,hk _ _ h3.2⟩⟩
 case callv =>
  revert h
  split
  ·exact fun h => ⟨h.1,h.2.mono hk⟩
  ·exact fun h => h.elim
 case inv =>
  revert h
  split
  ·split
   ·exact fun h => h.mono hk
   ·exact fun h => h.elim
  ·exact fun h => h.elim
theorem ze0 {so:SOp} (hc:(so.isCall || so.grows)=true) {objs:List OB} {tm:List AV} {K K':List OB → AV → Prop} (hk:∀ o v,K o v → K' o v) (h:wpS P so objs tm K):wpS P so objs tm K':=by
 by_cases h0:so.isCall=true
 ·exact zb6 h0 hk h
 ·cases so <;> simp only [SOp.isCall,SOp.grows,reduceCtorEq,Bool.or_self,Bool.or_true,Bool.or_false,not_true_eq_false,Bool.false_eq_true] at hc h0 <;> simp only [wpS] at h ⊢
  case bslo =>
   revert h; split
   ·exact fun h => ⟨h.1,hk _ _ h.2⟩
   ·exact fun h => h.elim
  case app =>
   revert h; split
   ·split
    ·split
     ·exact fun h => ⟨h.1,hk _ _ h.2⟩
     ·exact fun h => h.elim
    ·exact fun h => ⟨h.1,hk _ _ h.2⟩
    ·exact fun h => h.elim
   ·exact fun h => h.elim
  case cappo =>
   revert h; split
   ·exact fun h => ⟨h.1,hk _ _ h.2⟩
   ·exact fun h => h.elim
theorem zcR:∀ (pre:List SO) (objs:List OB) (tm:List AV) (F:List OB → List AV → Prop),(∀ so ∈ pre,zb7 so=true) → (pre.map (·.dst)).Nodup → wpR P pre objs tm F →
  ∃ t1,F objs t1 ∧ t1.length=tm.length ∧ (∀ s,(∀ so ∈ pre,so.dst ≠ some s) → t1[s]? = tm[s]?) ∧
   ∀ A so B,pre=A ++ so :: B → ∃ ti v,wpS P so.op objs ti (fun o x => o=objs ∧ x=v) ∧ (∀ s,(∃ a ∈ A,a.dst=some s) → ti[s]? = t1[s]?) ∧ (∀ s,(∀ a ∈ A,a.dst ≠ some s) → ti[s]? = tm[s]?) ∧ ∀ d,so.dst=some d → d < tm.length → t1[d]? = some v
 | [],objs,tm,F,_,_,h => ⟨tm,h,rfl,fun s _ => rfl,fun A so B e => by cases A <;> cases e⟩
 | so :: pre,objs,tm,F,hc,hn,h => by
  obtain ⟨d,op,rfl,c1,c2⟩:=zbN (hc so (by simp))
  rw [List.map_cons,List.nodup_cons] at hn
  simp only [wpR] at h
  obtain ⟨v,h1,h2⟩:=zhh c1 c2 h
  obtain ⟨t1,k1,k2,k3,k4⟩:=zcR pre objs (tm.set d v) F (fun so hs => hc so (List.mem_cons_of_mem _ hs)) hn.2 h2
  have hd:∀ so ∈ pre,so.dst ≠ some d:=fun so hs e => hn.1 (by show some d ∈ _; rw [← e]; exact List.mem_map_of_mem hs)
  refine ⟨t1,k1,by rw [k2,List.length_set],fun s hs => ?_,fun A so B e => ?_⟩
  ·rw [k3 s fun so h => hs so (List.mem_cons_of_mem _ h)]
   have:d ≠ s:=fun e => hs ⟨some d,op,none⟩ (by simp) (by rw [e])
   exact List.getElem?_set_ne this
  ·cases A with
   | nil =>
    rw [List.nil_append] at e
    injection e with e1 e2
    subst e1
    refine ⟨tm,v,h1,(fun s ⟨a,ha,_⟩ => by cases ha),(fun s _ => rfl),fun d' e hl => ?_⟩
    injection e with e
    subst e
    rw [k3 d hd]
    exact List.getElem?_set_self hl
   | cons a A =>
    rw [List.cons_append] at e
    injection e with e1 e2
    subst e1
    obtain ⟨ti,v',m1,m2,m3,m4⟩:=k4 A so B e2
    refine ⟨ti,v',m1,fun s ⟨a,ha,has⟩ => ?_,fun s hs => ?_,fun d' e hl => m4 d' e (by rw [List.length_set]; exact hl)⟩
    ·by_cases hA:∃ a ∈ A,a.dst=some s
     ·exact m2 s hA
     ·have hA':∀ a ∈ A,a.dst ≠ some s:=fun a ha e => hA ⟨a,ha,e⟩
      rcases List.mem_cons.1 ha with rfl | ha
      ·injection has with has
       subst has
       rw [m3 _ hA',k3 _ hd]
      ·exact absurd has (hA' a ha)
    ·rw [m3 s fun a ha => hs a (List.mem_cons_of_mem _ ha)]
     have:d ≠ s:=fun e => hs ⟨some d,op,none⟩ (by simp) (by rw [e])
     exact List.getElem?_set_ne this
def Mix (l:List SO) (k:Nat) (listed:Array Bool) (t1 tm t:List AV):Prop :=
 t.length=tm.length ∧ (∀ s j,j < k → listed.getD j false=true → zag l j=some s → t[s]? = t1[s]?) ∧ ∀ s,(∀ j,j < k → listed.getD j false=true → zag l j ≠ some s) → t[s]? = tm[s]?
theorem Mix.step {l:List SO} {k i d:Nat} {listed:Array Bool} {t1 tm t:List AV} {v:AV} (h:Mix l k listed t1 tm t) (hi:i < k) (his:i < listed.size) (hd:zag l i=some d) (hdis:∀ a b,a < k → b < k → a ≠ b → zag l a ≠ none → zag l a ≠ zag l b) (hu:listed.getD i false=false) (hv:d < tm.length → t1[d]? = some v) (hlen:t1.length=tm.length):Mix l k (listed.setIfInBounds i true) t1 tm (t.set d v):=by
 obtain ⟨h1,h2,h3⟩:=h
 have hset:∀ j,(listed.setIfInBounds i true).getD j false=if j=i then true else listed.getD j false:=fun j => zaR listed i j false his
 refine ⟨by rw [List.length_set]; exact h1,fun s j hj hl hs => ?_,fun s hs => ?_⟩
 ·by_cases e:s=d
  ·subst e
   by_cases hlt:s < t.length
   ·rw [List.getElem?_set_self hlt,hv (by omega)]
   ·rw [List.getElem?_eq_none (by rw [List.length_set]; omega),List.getElem?_eq_none (by omega)]
  ·rw [List.getElem?_set_ne (Ne.symm e)]
   rw [hset] at hl
   split at hl
   ·rename_i e2
    subst e2
    rw [hd] at hs
    injection hs with hs
    exact absurd hs.symm e
   ·exact h2 s j hj hl hs
 ·have e:¬ d=s:=fun e => hs i hi (by rw [hset,if_pos rfl]) (by rw [hd,e])
  rw [List.getElem?_set_ne e]
  refine h3 s fun j hj hl => hs j hj ?_
  rw [hset]
  split
  ·rfl
  ·exact hl
end
section
theorem zaX {n:Nat} {p:Nat → Bool} {l:List SO} {so:SO}:so ∈ zbP n p l ↔ ∃ i,i < n ∧ p i=true ∧ zaq l i=so:=by
 unfold zbP
 simp only [List.mem_map,List.mem_filter,List.mem_range,and_assoc]
theorem zbJ {n i:Nat} {p:Nat → Bool} (l:List SO) (hi:i < n) (hp:p i=true):∃ B:(Nat → Bool) → List SO,(∀ q,q i=true → zbP n q l=zbP i q l ++ zaq l i :: B q) ∧ (∀ q,q i=false → zbP n q l=zbP i q l ++ B q) ∧ ∀ q q',(∀ j,i < j → q j=q' j) → B q=B q':=by
 obtain ⟨m,rfl⟩:∃ m,n=i + 1 + m:=⟨n - (i + 1),by omega⟩
 refine ⟨fun q => (((List.range m).map (i + 1 + ·)).filter q).map (zaq l),fun q hq => ?_,fun q hq => ?_,fun q q' h => ?_⟩
 ·unfold zbP
  rw [List.range_add,List.range_succ]
  simp [List.filter_append,hq]
 ·unfold zbP
  rw [List.range_add,List.range_succ]
  simp [List.filter_append,hq]
 ·dsimp only
  congr 1
  refine List.filter_congr fun j hj => h j ?_
  obtain ⟨x,_,rfl⟩:=List.mem_map.1 hj
  omega
theorem zdf {n:Nat} {p q:Nat → Bool} (l:List SO) (h:∀ i,i < n → p i=q i):zbP n p l=zbP n q l:=by
 unfold zbP
 congr 1
 exact List.filter_congr fun j hj => h j (List.mem_range.1 hj)
theorem zcM {n:Nat} {p:Nat → Bool} (l:List SO) (h:∀ i,i < n → p i=false):zbP n p l=[]:=by
 unfold zbP
 rw [List.filter_eq_nil_iff.2 fun j hj => by rw [h j (List.mem_range.1 hj)]; exact Bool.false_ne_true]
 rfl
theorem zal {l:List SO} {i:Nat} (hi:i < l.length):zag l i=(zaq l i).dst:=by
 unfold zag zaq
 rw [List.getElem?_eq_getElem hi]; rfl
theorem zcC {l:List SO} {i:Nat} {so:SO} (h:l[i]? = some so):zaq l i=so:=by
 unfold zaq; rw [h]; rfl
end
section
variable {P:Program} [Tabs P] {C:Cx} [On P C] {K:zas}
theorem crg_ok (id:Nat) (ops:Array Oper) (l:List SO) (hl:ops.toList.mapM (trO P ops.toList)=some l) (c:Nat) (hok:crgOk l (ops.toList.map zah) (za5 (ops.toList.map zah)) c=true) (hm:P.follows .mixedOrders=true) {objs:List OB} {tm:List AV}
  (h:wpR P (zbP l.length (zcw (za5 (ops.toList.map zah)) c) l) objs tm fun _ t1 => wpR P [zaq l c] objs t1 fun o2 t2 => wpR P (zbP l.length (zcw (za5 (ops.toList.map zah)) c) l) o2 tm (fun _ t => t=t1) ∧ wpR P (zbP l.length (zaI (za5 (ops.toList.map zah)) c) l) o2 t2 fun o t => K .normal o t):∀ a w,Rel C objs tm a w → (Code.region id ops true).wp P (zcx C K) a w:=by
 have hnl:ops.size=l.length:=by
  have:=(zbc _ _ _ hl).1
  simpa using this
 unfold crgOk at hok
 simp only [Bool.and_eq_true] at hok
 obtain ⟨⟨⟨⟨⟨⟨⟨hd1,hd2⟩,hd3⟩,hcl⟩,hcall⟩,hcls⟩,htr⟩,hcc⟩:=hok
 have hpre:zaV l (ops.toList.map zah) (za5 (ops.toList.map zah)) 0=true:=by
  unfold zaV
  simp only [Bool.and_eq_true]
  exact ⟨⟨⟨⟨⟨⟨by simp,hd1⟩,by simp⟩,by simp⟩,by simp⟩,by simp⟩,by simp [zcP]⟩
 have hap0:∀ an,zaS l an 0=[]:=fun an => by simp [zaS]
 simp only [Bool.and_eq_true,decide_eq_true_eq,List.all_eq_true,List.mem_range,Bool.or_eq_true,bne_iff_ne,ne_eq,beq_iff_eq,List.any_eq_true,List.contains_iff_mem] at hd1 hd2 hd3 hcl hcls htr
 have hlen:ops.toList.length=l.length:=by simpa using hnl
 have hdep:∀ i,i < ops.size → (∀ e ∈ (ops.toList.map zah).getD i [],e < i) ∧ ∀ j ∈ (za5 (ops.toList.map zah)).getD i [],j ∈ (ops.toList.map zah).getD i [] ∨ ∃ e ∈ (ops.toList.map zah).getD i [],j ∈ (za5 (ops.toList.map zah)).getD e []:=fun i hi => hd1 i (by omega)
 have halt:=zgH (ops.toList.map zah) (za5 (ops.toList.map zah)) ops.size hdep
 have hfin:=zbF (P:=P) (C:=C) (K:=K) id ops l l hl (.inl rfl) 0 hpre hm (objs:=objs) (tm:=tm)
 generalize za5 (ops.toList.map zah)=anc at *
 clear hd1 hdep hpre
 have hdis:∀ a b,a < l.length → b < l.length → a ≠ b → zag l a ≠ none → zag l a ≠ zag l b:=fun a b ha hb hab hn e => by
  rcases hd2 a ha with h0 | h0
  ·exact hn h0
  ·rcases h0 b hb with h1 | h1
   ·exact hab h1
   ·exact h1 e.symm
 have only:∀ s j j',j < l.length → j' < l.length → zag l j=some s → zag l j'=some s → j'=j:=by
  intro s j j' h1 h2 h3 h4
  by_cases e:j'=j
  ·exact e
  ·exact absurd (h4.trans h3.symm) (hdis j' j h2 h1 e (by rw [h4]; simp))
 obtain ⟨cd,cop,hce,hcop⟩:=callB_is hcall
 have hcd:zag l c=some cd:=by rw [zal hcl,hce]
 have hcc':¬ c ∈ anc.getD c []:=fun g => by
  have:=halt c (by omega) c g
  omega
 have kind:∀ i,i < l.length → i=c ∨ zcw anc c i=true ∨ zaI anc c i=true:=by
  intro i hi
  unfold zcw zaI
  by_cases e:i=c
  ·exact .inl e
  ·right
   cases hq:zb9 anc i c
   ·left; simp [e]
   ·right; rfl
 have preNe:∀ i,zcw anc c i=true → i ≠ c ∧ zaI anc c i=false:=by
  intro i hp
  unfold zcw at hp
  unfold zaI
  simpa using hp
 have postC:zaI anc c c=false:=by
  unfold zaI zb9
  simpa using hcc'
 have postNe:∀ i,zaI anc c i=true → i ≠ c:=fun i hp e => by rw [e,postC] at hp; cases hp
 have hcalm:∀ i,i < l.length → zcw anc c i=true → ∃ d op,zaq l i=⟨some d,op,none⟩ ∧ op.calm=true ∧ op.isCall=false:=by
  intro i hi hp
  obtain ⟨h1,h2⟩:=preNe i hp
  rcases hcls i hi with h0 | h0
  ·exact absurd h0 h1
  ·rw [if_neg (by rw [h2]; exact Bool.false_ne_true)] at h0
   exact zbN h0
 have hpc:∀ so ∈ zbP l.length (zcw anc c) l,zb7 so=true:=by
  intro so hs
  obtain ⟨i,hi,hp,rfl⟩:=zaX.1 hs
  obtain ⟨h1,h2⟩:=preNe i hp
  rcases hcls i hi with h0 | h0
  ·exact absurd h0 h1
  ·rwa [if_neg (by rw [h2]; exact Bool.false_ne_true)] at h0
 have hnd:((zbP l.length (zcw anc c) l).map (·.dst)).Nodup:=by
  unfold zbP
  rw [List.map_map]
  have h0:((List.range l.length).filter (zcw anc c)).Nodup:=List.nodup_range.sublist List.filter_sublist
  refine List.Pairwise.map _ ?_ (List.Pairwise.and_mem.1 h0)
  rintro a b ⟨ha,hb,hab⟩ e
  rw [List.mem_filter,List.mem_range] at ha hb
  obtain ⟨d,op,e1,_⟩:=hcalm a ha.1 ha.2
  refine hdis a b ha.1 hb.1 hab ?_ ?_
  ·rw [zal ha.1,e1]; simp
  ·rw [zal ha.1,zal hb.1]; exact e
 obtain ⟨t1,h1,hl1,ho1,hs1⟩:=zcR _ _ _ _ hpc hnd h
 rw [hce] at h1
 simp only [wpR,zaj] at h1
 have hout:∀ s,(∀ j,j < l.length → zcw anc c j=true → zag l j ≠ some s) → t1[s]? = tm[s]?:=fun s hs => ho1 s fun so hso e => by
  obtain ⟨i,g1,g2,rfl⟩:=zaX.1 hso
  exact hs i g1 g2 (by rw [zal g1]; exact e)
 have hcdp:t1[cd]? = tm[cd]?:=hout cd fun j hj hp e => (preNe j hp).1 (only cd c j hcl hj hcd e)
 have agree:∀ (listed:Array Bool) (x1 t:List AV) (i:Nat),i < l.length → listed.getD i false=false → (∀ j ∈ anc.getD i [],listed.getD j false=true) → (∀ j,j < l.length → listed.getD j false=true → ∀ e ∈ anc.getD j [],listed.getD e false=true) → Mix l l.length listed x1 tm t →
   ∀ s ∈ (zaq l i).looks,((∀ j,j < l.length → zag l j=some s → listed.getD j false=true ∧ j ∈ anc.getD i [] ∧ t[s]? = x1[s]?) ∨ (∃ j,j < l.length ∧ zag l j=some s ∧ (j=i ∨ i ∈ anc.getD j []) ∧ listed.getD j false=false ∧ t[s]? = tm[s]?)) ∧ ((∀ j,j < l.length → zag l j ≠ some s) → t[s]? = tm[s]?):=by
  intro listed x1 t i hi hun hanc hclo hmix s hs
  refine ⟨?_,fun hno => hmix.2.2 s fun j g1 _ => hno j g1⟩
  by_cases hj:∃ j,j < l.length ∧ zag l j=some s
  ·obtain ⟨j,hj1,hj2⟩:=hj
   have tmcase:listed.getD j false=false → t[s]? = tm[s]?:=fun hu =>
    hmix.2.2 s fun j' g1 g2 g3 => by rw [only s j j' hj1 g1 hj2 g3,hu] at g2; cases g2
   rcases hd3 i hi s hs j hj1 with ((g | g) | g) | g
   ·subst g; exact .inr ⟨j,hj1,hj2,.inl rfl,hun,tmcase hun⟩
   ·exact absurd hj2 g
   ·left
    intro j' g1 g2
    obtain rfl:=only s j j' hj1 g1 hj2 g2
    exact ⟨hanc _ g,g,hmix.2.1 s _ hj1 (hanc _ g) hj2⟩
   ·have hu:listed.getD j false=false:=by
     cases hq:listed.getD j false with
     | false => rfl
     | true =>
      have:=hclo j hj1 hq i g
      rw [hun] at this; cases this
    exact .inr ⟨j,hj1,hj2,.inr g,hu,tmcase hu⟩
  ·exact .inl fun j g1 g2 => absurd ⟨j,g1,g2⟩ hj
 have evOf:∀ (i:Nat) (t ti:List AV),(∀ s ∈ (zaq l i).looks,t[s]? = ti[s]?) → ∀ x ∈ (zaq l i).op.svs,x.ev t=x.ev ti:=by
  intro i t ti hs x hx
  cases x with
  | c v => rfl
  | t s =>
   simp only [SV.ev]
   rw [hs s (List.mem_append_left _ (List.mem_filterMap.2 ⟨_,hx,rfl⟩))]
 have hval:∀ (o:List OB) (x1:List AV),(∀ s j,j < l.length → zcw anc c j=true → zag l j=some s → x1[s]? = t1[s]?) → (∀ A so B,zbP l.length (zcw anc c) l=A ++ so :: B → ∃ ti v,wpS P so.op o ti (fun o' x => o'=o ∧ x=v) ∧ (∀ s,(∃ a ∈ A,a.dst=some s) → ti[s]? = t1[s]?) ∧ (∀ s,(∀ a ∈ A,a.dst ≠ some s) → ti[s]? = tm[s]?) ∧ ∀ d,so.dst=some d → d < tm.length → t1[d]? = some v) →
   ∀ (listed:Array Bool) (t:List AV) (i d:Nat) (op:SOp),i < l.length → zcw anc c i=true → zaq l i=⟨some d,op,none⟩ → listed.getD i false=false → (∀ j ∈ anc.getD i [],listed.getD j false=true) → (∀ j,j < l.length → listed.getD j false=true → ∀ e ∈ anc.getD j [],listed.getD e false=true) → Mix l l.length listed x1 tm t →
   ∃ v,wpS P op o t (fun o' x => o'=o ∧ x=v) ∧ (d < tm.length → x1[d]? = some v):=by
  intro o x1 hxe hseq listed t i d op hi hp hso hun hanc hclo hmix
  obtain ⟨B,hB1,_,_⟩:=zbJ l hi hp
  obtain ⟨ti,v,m1,m2,m3,m4⟩:=hseq _ _ _ (hB1 _ hp)
  have hdi:zag l i=some d:=by rw [zal hi,hso]
  refine ⟨v,?_,fun hlt => by rw [hxe d i hi hp hdi]; exact m4 d (by rw [hso]) hlt⟩
  have hA:∀ a,a ∈ zbP i (zcw anc c) l ↔ ∃ j,j < i ∧ zcw anc c j=true ∧ zaq l j=a:=fun a => zaX
  have tiTm:∀ s j,j < l.length → zag l j=some s → ¬ (j < i ∧ zcw anc c j=true) → ti[s]? = tm[s]?:=by
   intro s j hj1 hj2 hn
   refine m3 s fun a ha e => ?_
   obtain ⟨j',g1,g2,rfl⟩:=(hA a).1 ha
   have:zag l j'=some s:=by rw [zal (by omega)]; exact e
   have:=only s j j' hj1 (by omega) hj2 this
   subst this
   exact hn ⟨g1,g2⟩
  have hlook:∀ s ∈ (zaq l i).looks,t[s]? = ti[s]?:=by
   intro s hs
   obtain ⟨k1,k2⟩:=agree listed x1 t i hi hun hanc hclo hmix s hs
   by_cases hj:∃ j,j < l.length ∧ zag l j=some s
   ·obtain ⟨j,hj1,hj2⟩:=hj
    rcases k1 with k1 | ⟨j',g1,g2,g3,g4,g5⟩
    ·obtain ⟨q1,q2,q3⟩:=k1 j hj1 hj2
     have hji:=halt i (by omega) j q2
     have hpj:zcw anc c j=true:=by
      rcases kind j hj1 with e | e | e
      ·subst e
       have:zaI anc j i=true:=by unfold zaI zb9; exact List.contains_iff_mem.2 q2
       rw [(preNe i hp).2] at this; cases this
      ·exact e
      ·have:zaI anc c i=true:=by
        rcases htr i hi j hj1 with (h0 | h0) | h0
        ·unfold zb9 at h0
         rw [List.contains_iff_mem.2 q2] at h0; cases h0
        ·rw [e] at h0; cases h0
        ·exact h0
       rw [(preNe i hp).2] at this; cases this
     rw [q3,hxe s j hj1 hpj hj2]
     exact (m2 s ⟨_,(hA _).2 ⟨j,hji,hpj,rfl⟩,by rw [← zal hj1]; exact hj2⟩).symm
    ·rw [g5]
     refine (tiTm s j' g1 g2 fun hn => ?_).symm
     rcases g3 with rfl | g3
     ·omega
     ·have:=halt j' (by omega) i g3
      omega
   ·rw [k2 fun j g1 g2 => hj ⟨j,g1,g2⟩]
    refine (m3 s fun a ha e => ?_).symm
    obtain ⟨j',g1,g2,rfl⟩:=(hA a).1 ha
    exact hj ⟨j',by omega,by rw [zal (by omega)]; exact e⟩
  have hev:=evOf i t ti hlook
  rw [hso] at hev m1
  rw [zaP hev]
  exact m1
 let zas (listed:Array Bool) (o:List OB) (t:List AV):Prop:=∃ o2 ts,wpR P (zbP l.length (zcw anc c) l) o2 tm (fun _ t => t=t1) ∧ ts.length=tm.length ∧ (∀ s,(∀ j,j < l.length → zag l j ≠ some s) → ts[s]? = tm[s]?) ∧ (∀ s j,j < l.length → zcw anc c j=true → zag l j=some s → ts[s]? = t1[s]?) ∧
   (∀ s j,j < l.length → zaI anc c j=true → listed.getD j false=false → zag l j=some s → ts[s]? = tm[s]?) ∧ wpR P (zbP l.length (fun i => zaI anc c i && !listed.getD i false) l) o ts (fun o t => K .normal o t) ∧ Mix l l.length listed ts tm t ∧ ((∀ j,j < l.length → zcw anc c j=true → (zaq l j).op.touch=true → listed.getD j false=true) ∨ o=o2)
 refine hfin (fun listed o t => (∀ j,j < l.length → listed.getD j false=true → ∀ e ∈ anc.getD j [],listed.getD e false=true) ∧
  ((listed.getD c false=false ∧ o=objs ∧ Mix l l.length listed t1 tm t) ∨ (listed.getD c false=true ∧ zas listed o t))) (fun o t => o=objs ∧ t=tm) ?_ ?_ ?_ ?_
 ·rintro listed o t hs _ h2 ⟨rfl,rfl⟩
  have hall:∀ j,j < l.length → listed.getD j false=false:=fun j hj => h2 j (Nat.zero_le _) (by omega)
  refine ⟨(fun j hj hl => by rw [hall j hj] at hl; cases hl),.inl ⟨hall c hcl,rfl,rfl,(fun s j hj hl => ?_),(fun s _ => rfl)⟩⟩
  rw [hall j hj] at hl; cases hl
 ·intro listed o t i so hs hso _ hin hun hanci hT
  obtain ⟨hclo,hT⟩:=hT
  have hi:i < l.length:=by omega
  obtain rfl:=zcC hso
  have hset:∀ j,(listed.setIfInBounds i true).getD j false=if j=i then true else listed.getD j false:=fun j => zaR listed i j false (by omega)
  have hclo':∀ j,j < l.length → (listed.setIfInBounds i true).getD j false=true → ∀ e ∈ anc.getD j [],(listed.setIfInBounds i true).getD e false=true:=by
   intro j hj hl e he
   rw [hset] at hl ⊢
   split
   ·rfl
   ·split at hl
    ·rename_i e1; subst e1; exact hanci e he
    ·exact hclo j hj hl e he
  rcases kind i hi with hic | hp | hp
  ·-- the call
   subst hic
   rcases hT with ⟨hA1,rfl,hmix⟩ | ⟨hB1,_⟩
   ·rw [hce]
    simp only [wpR,zaj]
    have hlook:∀ s ∈ (zaq l i).looks,t[s]? = t1[s]?:=by
     intro s hs
     obtain ⟨k1,k2⟩:=agree listed t1 t i hi hun hanci hclo hmix s hs
     by_cases hj:∃ j,j < l.length ∧ zag l j=some s
     ·obtain ⟨j,hj1,hj2⟩:=hj
      rcases k1 with k1 | ⟨j',g1,g2,g3,g4,g5⟩
      ·exact (k1 j hj1 hj2).2.2
      ·rw [g5]
       refine (hout s fun j2 q1 q2 q3 => ?_).symm
       have:=only s j' j2 g1 q1 g2 q3
       subst this
       obtain ⟨w1,w2⟩:=preNe j2 q2
       rcases g3 with g3 | g3
       ·exact w1 g3
       ·have:zaI anc i j2=true:=by unfold zaI zb9; exact List.contains_iff_mem.2 g3
        rw [w2] at this; cases this
     ·rw [k2 fun j g1 g2 => hj ⟨j,g1,g2⟩,hout s fun j g1 _ g2 => hj ⟨j,g1,g2⟩]
    have hev:=evOf i t t1 hlook
    rw [hce] at hev
    rw [zaP hev]
    refine zb6 hcop (fun o2 v hq => ?_) h1
    refine ⟨hclo',.inr ⟨by rw [hset,if_pos rfl],o2,t1.set cd v,hq.1,by rw [List.length_set]; exact hl1,fun s hs => ?_,fun s j hj hp hd => ?_,fun s j hj hp hu hd => ?_,?_,?_,.inr rfl⟩⟩
    ·have hne:¬ cd=s:=fun e => hs i hi (by rw [hcd,e])
     rw [List.getElem?_set_ne hne]
     exact hout s fun j g1 _ => hs j g1
    ·have hne:¬ cd=s:=fun e => (preNe j hp).1 (only s i j hi hj (by rw [hcd,e]) hd)
     exact List.getElem?_set_ne hne
    ·have hne:¬ cd=s:=fun e => postNe j hp (only s i j hi hj (by rw [hcd,e]) hd)
     rw [List.getElem?_set_ne hne]
     refine hout s fun j2 q1 q2 q3 => ?_
     have:=only s j j2 hj q1 hd q3
     subst this
     rw [(preNe j2 q2).2] at hp; cases hp
    ·rw [zdf l (q:=zaI anc i) fun j hj => ?_]
     ·exact hq.2
     ·cases hpj:zaI anc i j with
      | false => rfl
      | true =>
       have hl0:listed.getD j false=false:=by
        cases hq2:listed.getD j false with
        | false => rfl
        | true =>
         have:=hclo j hj hq2 i (by unfold zaI zb9 at hpj; exact List.contains_iff_mem.1 hpj)
         rw [hun] at this; cases this
       rw [hset,if_neg (postNe j hpj),hl0]; rfl
    ·have hm2:Mix l l.length listed (t1.set cd v) tm t:=by
      refine ⟨hmix.1,fun s j hj hl hd => ?_,hmix.2.2⟩
      have hne:¬ cd=s:=fun e => by
       have:=only s i j hi hj (by rw [hcd,e]) hd
       subst this
       rw [hun] at hl; cases hl
      rw [List.getElem?_set_ne hne]
      exact hmix.2.1 s j hj hl hd
     exact hm2.step hi (by omega) hcd hdis hun (fun hlt => List.getElem?_set_self (by omega)) (by rw [List.length_set]; exact hl1)
   ·rw [hun] at hB1; cases hB1
  ·-- what does not wait for it
   obtain ⟨d,op,hso2,c1,c2⟩:=hcalm i hi hp
   have hdi:zag l i=some d:=by rw [zal hi,hso2]
   rcases hT with ⟨hA1,rfl,hmix⟩ | ⟨hB1,o2,ts,q1,q2,q3,q4,q5,q6,hmix,q7⟩
   ·obtain ⟨x,g1,g2⟩:=hval o t1 (fun s j _ _ _ => rfl) hs1 listed t i d op hi hp hso2 hun hanci hclo hmix
    rw [hso2]
    simp only [wpR,zaj]
    obtain ⟨y,g3,_,rfl⟩:=za6 c1 c2 g1
    refine g3 _ ⟨hclo',.inl ⟨?_,rfl,hmix.step hi (by omega) hdi hdis hun g2 hl1⟩⟩
    rw [hset,if_neg (Ne.symm (preNe i hp).1)]; exact hA1
   ·obtain ⟨t1',rfl,_,_,hs2⟩:=zcR _ _ _ _ hpc hnd q1
    obtain ⟨x,g1,g2⟩:=hval o2 ts q4 hs2 listed t i d op hi hp hso2 hun hanci hclo hmix
    have g1:wpS P op o t (fun o' z => o'=o ∧ z=x):=by
     rcases q7 with q7 | rfl
     ·cases ht:op.touch with
      | false => exact zeI ht g1
      | true =>
       have:=q7 i hi hp (by rw [hso2]; exact ht)
       rw [hun] at this; cases this
     ·exact g1
    rw [hso2]
    simp only [wpR,zaj]
    obtain ⟨y,g3,_,rfl⟩:=za6 c1 c2 g1
    refine g3 _ ⟨hclo',.inr ⟨?_,o2,ts,q1,q2,q3,q4,fun s j hj hpj hu hd => ?_,?_,hmix.step hi (by omega) hdi hdis hun g2 q2,?_⟩⟩
    ·rw [hset,if_neg (Ne.symm (preNe i hp).1)]; exact hB1
    ·refine q5 s j hj hpj ?_ hd
     rw [hset] at hu
     split at hu
     ·cases hu
     ·exact hu
    ·rw [zdf l (q:=fun i => zaI anc c i && !listed.getD i false) fun j hj => ?_]
     ·exact q6
     ·rw [hset]
      split
      ·rename_i e; subst e; rw [(preNe j hp).2]; rfl
      ·rfl
    ·rcases q7 with q7 | q7
     ·left
      intro j hj hpj htj
      rw [hset]
      split
      ·rfl
      ·exact q7 j hj hpj htj
     ·exact .inr q7
  ·-- what waits for it
   rcases hT with ⟨hA1,_⟩ | ⟨hB1,o2,ts,q1,q2,q3,q4,q5,q6,hmix,q7⟩
   ·have:=hanci c (by unfold zaI zb9 at hp; exact List.contains_iff_mem.1 hp)
    rw [hA1] at this; cases this
   have hcl2:(zaq l i).op.isCall=false ∧ (zaq l i).gd=none ∧ (∀ j,j < i → zaI anc c j=true → j ∈ anc.getD i []) ∧ ((zaq l i).op.calm=true ∨ ∀ j,j < l.length → zcw anc c j=true → (zaq l j).op.touch=true → j ∈ anc.getD i []):=by
    rcases hcls i hi with h0 | h0
    ·exact absurd h0 (postNe i hp)
    ·rw [if_pos hp] at h0
     simp only [Bool.and_eq_true,Bool.not_eq_true',Option.isNone_iff_eq_none,List.all_eq_true,List.mem_range,Bool.or_eq_true] at h0
     obtain ⟨⟨⟨h2,h3⟩,h4⟩,h5⟩:=h0
     refine ⟨h2,h3,fun j hj hpj => ?_,?_⟩
     ·rcases h4 j hj with h6 | h6
      ·rw [hpj] at h6; cases h6
      ·unfold zb9 at h6; exact List.contains_iff_mem.1 h6
     ·rcases h5 with h5 | h5
      ·exact .inl h5
      ·right
       intro j hj hpj htj
       rcases h5 j hj with (h6 | h6) | h6
       ·rw [hpj] at h6; cases h6
       ·rw [htj] at h6; cases h6
       ·unfold zb9 at h6; exact List.contains_iff_mem.1 h6
   obtain ⟨k1,k2,k3,k4⟩:=hcl2
   have hrem:zbP l.length (fun i => zaI anc c i && !listed.getD i false) l=zaq l i :: zbP l.length (fun j => zaI anc c j && !(listed.setIfInBounds i true).getD j false) l:=by
    obtain ⟨B,hB1,hB2,hB3⟩:=zbJ l hi hp
    rw [hB1 (fun i => zaI anc c i && !listed.getD i false) (by rw [hp,hun]; rfl),hB2 (fun j => zaI anc c j && !(listed.setIfInBounds i true).getD j false) (by rw [hset,if_pos rfl]; simp)]
    rw [zcM l (n:=i) fun j hj => ?_,zcM l (n:=i) fun j hj => ?_,List.nil_append,List.nil_append]
    ·congr 1
     refine hB3 _ _ fun j hj => ?_
     rw [hset,if_neg (by omega)]
    ·cases hpj:zaI anc c j with
     | false => rfl
     | true => rw [hset,if_neg (by omega),hanci j (k3 j hj hpj)]; rfl
    ·cases hpj:zaI anc c j with
     | false => rfl
     | true => rw [hanci j (k3 j hj hpj)]; rfl
   rw [hrem] at q6
   have hlook:∀ s ∈ (zaq l i).looks,t[s]? = ts[s]?:=by
    intro s hs
    obtain ⟨w1,w2⟩:=agree listed ts t i hi hun hanci hclo hmix s hs
    by_cases hj:∃ j,j < l.length ∧ zag l j=some s
    ·obtain ⟨j,hj1,hj2⟩:=hj
     rcases w1 with w1 | ⟨j',g1,g2,g3,g4,g5⟩
     ·exact (w1 j hj1 hj2).2.2
     ·rw [g5]
      refine (q5 s j' g1 ?_ g4 g2).symm
      rcases g3 with rfl | g3
      ·exact hp
      ·rcases htr j' g1 i hi with (h0 | h0) | h0
       ·unfold zb9 at h0
        rw [List.contains_iff_mem.2 g3] at h0; cases h0
       ·rw [hp] at h0; cases h0
       ·exact h0
    ·rw [w2 fun j g1 g2 => hj ⟨j,g1,g2⟩,q3 s fun j g1 g2 => hj ⟨j,g1,g2⟩]
   have hev:=evOf i t ts hlook
   have hdst:zag l i=(zaq l i).dst:=zal hi
   generalize hSo:zaq l i=so at k1 k2 k4 q6 hev hdst ⊢
   obtain ⟨d,op,g⟩:=so
   dsimp only at k1 k2 k4 hev hdst
   subst k2
   simp only [wpR] at q6 ⊢
   rw [zaP hev]
   have fin:∀ o3 v,wpR P (zbP l.length (fun j => zaI anc c j && !(listed.setIfInBounds i true).getD j false) l) o3 (zaj ts d v) (fun o t => K .normal o t) → ((∀ j,j < l.length → zcw anc c j=true → (zaq l j).op.touch=true → listed.getD j false=true) ∨ o3=o2) →
     (∀ j,j < l.length → (listed.setIfInBounds i true).getD j false=true → ∀ e ∈ anc.getD j [],(listed.setIfInBounds i true).getD e false=true) ∧ (((listed.setIfInBounds i true).getD c false=false ∧ o3=objs ∧ Mix l l.length (listed.setIfInBounds i true) t1 tm (zaj t d v)) ∨ ((listed.setIfInBounds i true).getD c false=true ∧ zas (listed.setIfInBounds i true) o3 (zaj t d v))):=by
    intro o3 v hw hq
    have hsd:∀ s,d ≠ some s → (zaj ts d v)[s]? = ts[s]?:=by
     intro s hs
     cases d with
     | none => rfl
     | some d => exact List.getElem?_set_ne (fun e => hs (by rw [e]))
    refine ⟨hclo',.inr ⟨?_,o2,zaj ts d v,q1,?_,fun s hs => ?_,fun s j hj hpj hd => ?_,fun s j hj hpj hu hd => ?_,hw,?_,?_⟩⟩
    ·rw [hset,if_neg (Ne.symm (postNe i hp))]; exact hB1
    ·cases d with
     | none => exact q2
     | some d => rw [zaj,List.length_set]; exact q2
    ·rw [hsd s (by rw [← hdst]; exact hs i hi)]
     exact q3 s hs
    ·rw [hsd s (fun e => ?_)]
     ·exact q4 s j hj hpj hd
     ·rw [← hdst] at e
      have:=only s i j hi hj e hd
      subst this
      rw [(preNe j hpj).2] at hp; cases hp
    ·rw [hset] at hu
     split at hu
     ·cases hu
     ·rename_i hji
      rw [hsd s (fun e => ?_)]
      ·exact q5 s j hj hpj hu hd
      ·rw [← hdst] at e
       exact hji (only s i j hi hj e hd)
    ·cases d with
     | none =>
      refine ⟨hmix.1,fun s j hj hl hd => ?_,fun s hs => ?_⟩
      ·rw [hset] at hl
       split at hl
       ·rename_i e; subst e; rw [hdst] at hd; cases hd
       ·exact hmix.2.1 s j hj hl hd
      ·refine hmix.2.2 s fun j hj hl => hs j hj ?_
       rw [hset]
       split
       ·rfl
       ·exact hl
     | some d =>
      have hm2:Mix l l.length listed (ts.set d v) tm t:=by
       refine ⟨hmix.1,fun s j hj hl hd => ?_,hmix.2.2⟩
       have hne:¬ d=s:=fun e => by
        subst e
        have:=only d i j hi hj hdst hd
        subst this
        rw [hun] at hl; cases hl
       rw [List.getElem?_set_ne hne]
       exact hmix.2.1 s j hj hl hd
      exact hm2.step hi (by omega) hdst hdis hun (fun hlt => List.getElem?_set_self (by omega)) (by rw [List.length_set]; exact q2)
    ·rcases hq with hq | hq
     ·left
      intro j hj hpj htj
      rw [hset]
      split
      ·rfl
      ·exact hq j hj hpj htj
     ·exact .inr hq
   cases hc:op.calm with
   | true =>
    obtain ⟨v,h2,h3⟩:=za6 hc k1 q6
    exact h2 _ (fin _ _ h3 q7)
   | false =>
    obtain ⟨o3,v,h2,h3⟩:=zd6 hc q6
    refine h2 _ (fin _ _ h3 (.inl fun j hj hpj htj => ?_))
    rcases k4 with k4 | k4
    ·rw [hc] at k4; cases k4
    ·exact hanci j (k4 j hj hpj htj)
 ·intro listed o t hs hall hT
  have hall:∀ j,j < l.length → listed.getD j false=true:=fun j hj => hall j (by omega)
  rcases hT.2 with ⟨hA1,_⟩ | ⟨hB1,o2,ts,q1,q2,q3,q4,q5,q6,hmix,q7⟩
  ·rw [hall c hcl] at hA1; cases hA1
  ·rw [zcM l fun j hj => by rw [hall j hj]; simp] at q6
   have:t=ts:=by
    refine List.ext_getElem? fun s => ?_
    by_cases hj:∃ j,j < l.length ∧ zag l j=some s
    ·obtain ⟨j,hj1,hj2⟩:=hj
     exact hmix.2.1 s j hj1 (hall j hj1) hj2
    ·rw [hmix.2.2 s fun j g1 _ g3 => hj ⟨j,g1,g3⟩,q3 s fun j g1 g3 => hj ⟨j,g1,g3⟩]
   rw [this]
   exact q6
 ·simp only [List.take_zero,wpD,hap0,zcH,and_self]
end
end Go.Proofs.YtbeoijfmfkifeaaGreatDoor.Sx
