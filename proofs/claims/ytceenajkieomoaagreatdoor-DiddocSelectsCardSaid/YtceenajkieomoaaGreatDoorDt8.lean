/- The texts that the proofs of these statements reach, in their order, as few files. -/
import Derived.Test.YtceenajkieomoaaGreatDoorDt7
set_option linter.unusedVariables false
set_option linter.unusedSimpArgs false
set_option maxRecDepth 100000
namespace Go.Proofs.YtceenajkieomoaaGreatDoor
open Go.RowKit Sx
open Int renaming cast_ofNat_Int->ye
open List renaming Perm->qw, append_assoc->zy, cons_append->qy, getElem?_append_left->qd, getElem?_eq_getElem->zm, getElem?_eq_some_iff->zf, getElem?_set->za, getElem?_set_ne->zi, getElem?_set_self->zl, getElem_mem->jc, length_append->zk, length_cons->zu, length_map->qq, length_nil->qk, length_set->zh, length_take->qc, map_append->jg, map_cons->zo, map_nil->qb, mem_append->zq, mem_cons->zv, mem_cons_of_mem->qm, mem_iff_getElem->y6, mem_singleton->jy, nil_append->ja, nodup_cons->xy, not_mem_nil->jz, sublist_cons_self->jm, take_add_one->yb, take_of_length_le->ju, take_zero->xg
open Nat renaming le_refl->ze, le_trans->jk, zero_le->zd
section
attribute [local irreducible] run
theorem zbL {s:List UInt8} (hs:s.length<=1048576) (ρ:Rs):(zag s ρ).1.2.1.length<=1048576:=by
 unfold zag
 split
 ·exact zd _
 split
 ·exact zd _
 ·rename_i h;have h:(zbz s ρ.pos).2.2=0:=by simpa using h
  by_cases h0:0<=ρ.pos
  ·have:=(zif h0 h).2.1;show (zbz s ρ.pos).1.2.1.length<=_;omega
  ·exfalso;unfold zbz at h;rw[if_pos (.inl (by omega))] at h;exact absurd h (by decide)
theorem zck {k:Int} {t:List UInt8} (hk:(Lit.int .i64 k).wf=true) (ht:t.length<=1048576):JOk (.mk k t [] []):=by
 rw[JOk];exact⟨hk,by omega,by simp,by simp,by simp,by rw[zdC];trivial⟩
theorem zfS:∀{a b:List JV},zdC a->zdC b->zdC (a++b)
 | [],b,_,hb=>hb
 | v::l,b,ha,hb=>by
  rw[zdC] at ha;rw[qy,zdC];exact⟨ha.1,zfS ha.2 hb⟩
def OkV (val:Rs->Tk->JV×Rs):Prop:=∀ρ t,t.2.1.length<=1048576->JOk (val ρ t).1
theorem zkX {s:List UInt8} (hs:s.length<=1048576) {val:Rs->Tk->JV×Rs} (hv:OkV val):∀(n:Nat) (ρ:Rs) (t:Tk) (acc:List JV),t.2.1.length<=1048576->zdC acc->zdC (zcS s val n ρ t acc).1
 | 0,ρ,t,acc,_,h=>h
 | n+1,ρ,t,acc,ht,h=>by
  rw[zcS]
  split
  ·exact h
  dsimp only;have h1:=hv ρ t ht;generalize val ρ t=a at h1 ⊢;have h2:zdC (acc++[a.1]):=zfS h (by rw[zdC,zdC];exact⟨h1,trivial⟩)
  split
  ·exact h2
  ·exact zkX hs hv n _ _ _ (zbL hs _) h2
theorem zkJ {s:List UInt8} (hs:s.length<=1048576) {val:Rs->Tk->JV×Rs} (hv:OkV val):∀(n:Nat) (ρ:Rs) (t:Tk) (ks:List (List UInt8)) (its:List JV),t.2.1.length<=1048576->(∀k∈ks,k.length<=1048576)->zdC its->zdC (zb6 s val n ρ t ks its).1.2/\∀k∈(zb6 s val n ρ t ks its).1.1,k.length<=1048576
 | 0,ρ,t,ks,its,_,hk,h=>⟨h,hk⟩
 | n+1,ρ,t,ks,its,ht,hk,h=>by
  rw[zb6]
  split
  ·exact⟨h,hk⟩
  dsimp only;generalize zag s (zkU ρ t ks)=a;have hb:=zbL hs (zbb a.2 a.1 58);generalize zag s (zbb a.2 a.1 58)=b at hb ⊢;have h1:=hv b.2 b.1 hb;generalize val b.2 b.1=v at h1 ⊢;have h2:zdC (its++[v.1]):=zfS h (by rw[zdC,zdC];exact⟨h1,trivial⟩);have hk2:∀k∈ks++[t.2.1],k.length<=1048576:=by
   intro k hm;rcases zq.1 hm with hm|hm
   ·exact hk k hm
   ·rw[jy] at hm;subst hm;exact ht
  generalize zag s v.2=c
  split
  ·exact⟨h2,hk2⟩
  ·exact zkJ hs hv n _ _ _ _ (zbL hs _) hk2 h2
theorem word_wf (l:List UInt8):(Lit.int .i64 (zfA l)).wf=true:=by
 unfold zfA
 split
 ·decide
 split
 ·decide
 ·decide
theorem zlc (l:List UInt8):(zc3 l).2.length<=100:=by
 unfold zc3
 split
 ·exact zd _
 ·exact can_len _ _
theorem zgi {s:List UInt8} (hs:s.length<=1048576):∀(f d:Nat),OkV (fun ρ t=>zav s f ρ t d)
 | 0,d=>fun ρ t _=>zck (by decide) (zd _)
 | f+1,d=>fun ρ t ht=>by
  dsimp only;rw[zav]
  split
  ·exact zck (by decide) (zd _)
  split
  ·exact zck (by decide) (zd _)
  split
  ·exact zck (by decide) (zd _)
  split
  ·exact zck (word_wf _) (zd _)
  split
  ·unfold zgV;dsimp only
   split
   ·exact zck (by decide) (zd _)
   ·have h1:=zkX hs (zgi hs f (d+1)) (s.length+2) (zag s (zaZ ρ t)).2 (zag s (zaZ ρ t)).1 [] (zbL hs _) (by rw[zdC];trivial);have h2:=(zh5 (s:=s) (zdF hs f (d+1)) (s.length+2) (zag s (zaZ ρ t)).2 (zag s (zaZ ρ t)).1 [] (by rw[zdf];trivial)).2;rw[JOk];simp only[qk] at h2;exact⟨by decide,by simp,by simp,by simp,by omega,h1⟩
  split
  ·unfold zgY;dsimp only
   split
   ·exact zck (by decide) (zd _)
   ·obtain⟨h1,h3⟩:=zkJ hs (zgi hs f (d+1)) (s.length+2) (zag s (zaZ ρ t)).2 (zag s (zaZ ρ t)).1 [] [] (zbL hs _) (by simp) (by rw[zdC];trivial);have h2:=(zh1 (s:=s) (zdF hs f (d+1)) (s.length+2) (zag s (zaZ ρ t)).2 (zag s (zaZ ρ t)).1 [] [] (by rw[zdf];trivial)).2;rw[JOk];simp only[qk] at h2;exact⟨by decide,by simp,by have:=h2.2;omega,fun k hm=>by have:=h3 k hm;omega,by have:=h2.1;omega,h1⟩
  split
  ·exact zck (by decide) (by have:=zlc t.2.1;omega)
  ·exact zck (by decide) ht
theorem znu {s:List UInt8} (hs:s.length<=1048576):JOk (zcO s).1:=by
 unfold zcO;rw[if_neg (by omega)];dsimp only;generalize hρ:(if (zag s (zav s 65 (zag s rs0).2 (zag s rs0).1 0).2).2.fail=0/\¬(zag s (zav s 65 (zag s rs0).2 (zag s rs0).1 0).2).1.1=1 then za3 (zag s (zav s 65 (zag s rs0).2 (zag s rs0).1 0).2).2 (zag s (zav s 65 (zag s rs0).2 (zag s rs0).1 0).2).1.2.2 140 else (zag s (zav s 65 (zag s rs0).2 (zag s rs0).1 0).2).2)=ρ
 by_cases c:¬ρ.fail=0
 ·rw[if_pos c];exact zck (by decide) (zd _)
 ·rw[if_neg c];exact zgi hs 65 0 _ _ (zbL hs _)
end
section
attribute [local irreducible] run
def PrF (null:Bool) (p:PrP):Prop:=PrOk null p/\p.name.length<=140737488351232/\p.val.length<=140737488351232
def PsF (null:Bool) (l:List PrP):Prop:=l.length<=64/\∀p∈l,PrF null p
structure LkF (x:LkP):Prop where
 rel:x.rel.length<=140737488351232
 typ:x.typ.length<=140737488351232
 href:x.href.length<=140737488351232
 tmp:x.tmp.length<=140737488351232
 tit:PsF false x.tit
 pro:PsF true x.pro
structure JrF (subj:List UInt8) (al:List (List UInt8)) (pr:List PrP) (lk:List LkP):Prop where
 sl:subj.length<=140737488351232
 aln:al.length<=64
 alb:∀a∈al,a.length<=140737488351232
 prf:PsF true pr
 lkn:lk.length<=64
 lkf:∀x∈lk,LkF x
theorem PsF.ok {null:Bool} {l:List PrP} (h:PsF null l):∀p∈l,PrOk null p:=fun p hp=>(h.2 p hp).1
/-! what a decoder gives is as it should be, if there was no error -/
theorem JOk.txt {v:JV} (h:JOk v):v.text.length<=140737488351232:=h.lens.2.2.1
/-! the value that was made is a value that may be decoded -/
structure ObF (ks:List (List UInt8)) (its:List JV) (n:Nat):Prop where
 kl:ks.length<=n
 il:its.length<=n
 kb:∀k∈ks,k.length<=140737488351232
 ok:zdC its
 bd:zdf its
theorem ObF.nil:ObF [] [] 0:=⟨ze 0,ze 0,by simp,by rw[zdC];trivial,by rw[zdf];trivial⟩
theorem ObF.snoc {ks:List (List UInt8)} {its:List JV} {n:Nat} {key:List UInt8} {v:JV} (h:ObF ks its n) (hk:key.length<=140737488351232) (hv:JOk v/\JBd v):ObF (ks++[key]) (its++[v]) (n+1) :=
 ⟨by have:=h.kl;simp;exact this,by have:=h.il;simp;exact this,fun k hm=>by
  rcases zq.1 hm with hm|hm
  ·exact h.kb k hm
  ·rw[jy] at hm;subst hm;exact hk,zfS h.ok (by rw[zdC,zdC];exact⟨hv.1,trivial⟩),zfT h.bd (by rw[zdf,zdf];exact⟨hv.2,trivial⟩)⟩
theorem ObF.add {ks:List (List UInt8)} {its:List JV} {n:Nat} {key:List UInt8} {v:JV} (h:ObF ks its n) (hk:key.length<=140737488351232) (hv:JOk v/\JBd v):ObF (addK ks key v) (addI its v) (n+1):=by
 unfold addK addI
 by_cases c:fillB v=true
 ·rw[if_pos c,if_pos c];exact h.snoc hk hv
 ·rw[if_neg c,if_neg c];exact⟨Nat.le_succ_of_le h.kl,Nat.le_succ_of_le h.il,h.kb,h.ok,h.bd⟩
theorem ObF.val {ks:List (List UInt8)} {its:List JV} {n:Nat} (h:ObF ks its n) (hn:n<=1000000):JOk (job ks its)/\JBd (job ks its):=by
 have h1:=h.kl;have h2:=h.il;unfold job;rw[JOk,JBd];exact⟨⟨by decide,by simp,by omega,h.kb,by omega,h.ok⟩,by omega,by omega,h.bd⟩
def PsB (l:List PrP):Prop:=l.length<=1000000/\∀p∈l,p.name.length<=140737488351232/\p.val.length<=140737488351232
theorem PsF.b {null:Bool} {l:List PrP} (h:PsF null l):PsB l:=⟨jk h.1 (by decide),fun p hp=>(h.2 p hp).2⟩
structure LkB (x:LkP):Prop where
 rel:x.rel.length<=140737488351232
 typ:x.typ.length<=140737488351232
 href:x.href.length<=140737488351232
 tmp:x.tmp.length<=140737488351232
 tit:PsB x.tit
 pro:PsB x.pro
theorem LkF.b {x:LkP} (h:LkF x):LkB x:=⟨h.rel,h.typ,h.href,h.tmp,h.tit.b,h.pro.b⟩
structure JrBd (subj:List UInt8) (al:List (List UInt8)) (pr:List PrP) (lk:List LkP):Prop where
 sl:subj.length<=140737488351232
 aln:al.length<=1000000
 alb:∀a∈al,a.length<=140737488351232
 prf:PsB pr
 lkn:lk.length<=1000000
 lkf:∀x∈lk,LkB x
theorem JrF.b {subj:List UInt8} {al:List (List UInt8)} {pr:List PrP} {lk:List LkP} (h:JrF subj al pr lk):JrBd subj al pr lk :=
 ⟨h.sl,jk h.aln (by decide),h.alb,h.prf.b,jk h.lkn (by decide),fun x hx=>(h.lkf x hx).b⟩
end
section
attribute [local irreducible] run
mutual
def JTx:JV->Prop
 | .mk k t ks its=>t.length<=1048576/\zf1 its
def zf1:List JV->Prop
 | []=>True
 | v::l=>JTx v/\zf1 l
end
theorem zo2:∀{l:List JV} (h:zf1 l) {i:Nat} (hi:i<l.length),JTx l[i]
 | a::l,h,0,hi=>by rw[zf1] at h;exact h.1
 | a::l,h,i+1,hi=>by rw[zf1] at h;exact zo2 h.2 (by simpa using hi)
theorem JTx.its {v:JV} (h:JTx v) {i:Nat} (hi:i<v.items.length):JTx v.items[i]:=by
 cases v with
 | mk k t ks its=>rw[JTx] at h;exact zo2 h.2 hi
theorem JTx.txt {v:JV} (h:JTx v):v.text.length<=1048576:=by
 cases v;rw[JTx] at h;exact h.1
theorem zcj {k:Int} {t:List UInt8} (ht:t.length<=1048576):JTx (.mk k t [] []):=by
 rw[JTx];exact⟨ht,by rw[zf1];trivial⟩
theorem zii:∀{a b:List JV},zf1 a->zf1 b->zf1 (a++b)
 | [],b,_,hb=>hb
 | v::l,b,ha,hb=>by
  rw[zf1] at ha;rw[qy,zf1];exact⟨ha.1,zii ha.2 hb⟩
def TxV (val:Rs->Tk->JV×Rs):Prop:=∀ρ t,t.2.1.length<=1048576->JTx (val ρ t).1
theorem zkW {s:List UInt8} (hs:s.length<=1048576) {val:Rs->Tk->JV×Rs} (hv:TxV val):∀(n:Nat) (ρ:Rs) (t:Tk) (acc:List JV),t.2.1.length<=1048576->zf1 acc->zf1 (zcS s val n ρ t acc).1
 | 0,ρ,t,acc,_,h=>h
 | n+1,ρ,t,acc,ht,h=>by
  rw[zcS]
  split
  ·exact h
  dsimp only;have h1:=hv ρ t ht;generalize val ρ t=a at h1 ⊢;have h2:zf1 (acc++[a.1]):=zii h (by rw[zf1,zf1];exact⟨h1,trivial⟩)
  split
  ·exact h2
  ·exact zkW hs hv n _ _ _ (zbL hs _) h2
theorem zkI {s:List UInt8} (hs:s.length<=1048576) {val:Rs->Tk->JV×Rs} (hv:TxV val):∀(n:Nat) (ρ:Rs) (t:Tk) (ks:List (List UInt8)) (its:List JV),t.2.1.length<=1048576->zf1 its->zf1 (zb6 s val n ρ t ks its).1.2
 | 0,ρ,t,ks,its,_,h=>h
 | n+1,ρ,t,ks,its,ht,h=>by
  rw[zb6]
  split
  ·exact h
  dsimp only;generalize zag s (zkU ρ t ks)=a;have hb:=zbL hs (zbb a.2 a.1 58);generalize zag s (zbb a.2 a.1 58)=b at hb ⊢;have h1:=hv b.2 b.1 hb;generalize val b.2 b.1=v at h1 ⊢;have h2:zf1 (its++[v.1]):=zii h (by rw[zf1,zf1];exact⟨h1,trivial⟩);generalize zag s v.2=c
  split
  ·exact h2
  ·exact zkI hs hv n _ _ _ _ (zbL hs _) h2
theorem zgh {s:List UInt8} (hs:s.length<=1048576):∀(f d:Nat),TxV (fun ρ t=>zav s f ρ t d)
 | 0,d=>fun ρ t _=>zcj (zd _)
 | f+1,d=>fun ρ t ht=>by
  dsimp only;rw[zav]
  split
  ·exact zcj (zd _)
  split
  ·exact zcj (zd _)
  split
  ·exact zcj (zd _)
  split
  ·exact zcj (zd _)
  split
  ·unfold zgV;dsimp only
   split
   ·exact zcj (zd _)
   ·have h1:=zkW hs (zgh hs f (d+1)) (s.length+2) (zag s (zaZ ρ t)).2 (zag s (zaZ ρ t)).1 [] (zbL hs _) (by rw[zf1];trivial);rw[JTx];exact⟨by simp,h1⟩
  split
  ·unfold zgY;dsimp only
   split
   ·exact zcj (zd _)
   ·have h1:=zkI hs (zgh hs f (d+1)) (s.length+2) (zag s (zaZ ρ t)).2 (zag s (zaZ ρ t)).1 [] [] (zbL hs _) (by rw[zf1];trivial);rw[JTx];exact⟨by simp,h1⟩
  split
  ·exact zcj (by have:=zlc t.2.1;omega)
  ·exact zcj ht
theorem znt {s:List UInt8} (hs:s.length<=1048576):JTx (zcO s).1:=by
 unfold zcO;rw[if_neg (by omega)];dsimp only;generalize hρ:(if (zag s (zav s 65 (zag s rs0).2 (zag s rs0).1 0).2).2.fail=0/\¬(zag s (zav s 65 (zag s rs0).2 (zag s rs0).1 0).2).1.1=1 then za3 (zag s (zav s 65 (zag s rs0).2 (zag s rs0).1 0).2).2 (zag s (zav s 65 (zag s rs0).2 (zag s rs0).1 0).2).1.2.2 140 else (zag s (zav s 65 (zag s rs0).2 (zag s rs0).1 0).2).2)=ρ
 by_cases c:¬ρ.fail=0
 ·rw[if_pos c];exact zcj (zd _)
 ·rw[if_neg c];exact zgh hs 65 0 _ _ (zbL hs _)
theorem jtx_z:JTx jvZ:=by rw[jvZ,JTx];exact⟨by simp,by rw[zf1];trivial⟩
theorem zke {v:JV} (hv:JTx v) (key:List UInt8):JTx (zaB v key).1:=by
 unfold zaB
 split
 ·split
  ·rename_i x hx;obtain⟨hi,rfl⟩:=zf.1 hx;exact hv.its hi
  ·exact jtx_z
 ·exact jtx_z
end
open Nat renaming reduceAdd -> z6, reduceSub -> z7, reduceLeDiff -> z8, reduceLT -> j4, reduceMul -> j5, reduceEqDiff -> j6
open Int renaming reduceToNat -> j7, reduceAdd -> j8, reduceSub -> j9, reduceMul -> x6, reduceNeg -> x7, reduceLT -> x8, reduceLE -> x9, reduceEq -> y4, reduceNe -> y5
section
attribute [local irreducible] run
def vB14 (X Y:AV):OB:=.box 25 [.i .i64 7,.s [],X,Y]
section
variable [Tabs Tryz.prog] {objs:List OB} {K:List OB->AV->Prop} {L:List (Nat×OB)}
theorem znU {X Y:AV} {R1 R2:List (Nat×OB)} (ks:List (List UInt8)) (its:List JV) (key:List UInt8) (hl:its.length=ks.length) (hlen0:ks.length<=10000000) (hX:SlO 9 1 ks.length (ks.map .s) X R1) (hY:SlO 25 4 its.length (zab its) Y R2) (hO:zaV (R1++(R2++L)) objs)
  (h1:key∈ks->∀o w,zaV (R1++(R2++L)) o->K o (.tup [.agg (zap w),.b true])) (h2:¬key∈ks->∀o,zaV (R1++(R2++L)) o->K o (.tup [.agg [.i .i64 0,.s [],.nil,.nil],.b false])):zaf Tryz.prog 42 [.agg [.i .i64 7,.s [],X,Y],.s key] objs K:=by
 refine zcu is_ref14_Get fun C _=>?_;rw[c_ref14_Get];have hO2:=(hO.new (vB14 X Y)).new zvB;unfold vB14 zvB at hO2;refine zaa fun Z hZ=>?_;have flatX:X.flat=true:=by rcases hX with ⟨_,_,rfl,_⟩|⟨_,_,rfl,_⟩<;>rfl
 have flatY:Y.flat=true:=by rcases hY with ⟨_,_,rfl,_⟩|⟨_,_,rfl,_⟩<;>rfl
 have flatV:(AV.agg [.i .i64 7,.s [],X,Y]).flat=true:=by
  rcases hX with ⟨_,_,rfl,_⟩|⟨_,_,rfl,_⟩<;>rcases hY with ⟨_,_,rfl,_⟩|⟨_,_,rfl,_⟩<;>rfl
 simp only[sxZ,z6,z7,z8,j4,j5,j6,j7,j8,j9,x6,x7,x8,x9,y4,y5,reduceCtorEq,↓reduceIte,flatV];have elen:(objs++[OB.box 25 [.i .i64 7,.s [],X,Y]]).length=objs.length+1:=by simp
 rw[elen] at hO2;generalize objs.length=qv at hO2 ⊢;generalize objs++[OB.box 25 [.i .i64 7,.s [],X,Y]]++[OB.box 25 [.i .i64 0,.s [],.nil,.nil]]=o at hO2 ⊢;have e0:=hO2.get (i:=qv) (x:=.box 25 [.i .i64 7,.s [],X,Y]) (by simp);have e1:=hO2.get (i:=qv+1) (x:=.box 25 [.i .i64 0,.s [],.nil,.nil]) (by simp);have gs:∀x,(o.set (qv+1) x)[qv+1]? = some x:=fun x=>zl (hO2.lt (i:=qv+1) (x:=.box 25 [.i .i64 0,.s [],.nil,.nil]) (by simp));have fin:∀x,zaV (R1++(R2++L)) (o.set (qv+1) x):=fun x=>(zaV.set (A:=[]) x hO2).sub ((jm _ _).trans (jm _ _));subst hZ;refine zaa fun Z hZ=>?_;simp only[sxZ,z6,z7,z8,j4,j5,j6,j7,j8,j9,x6,x7,x8,x9,y4,y5,reduceCtorEq,↓reduceIte,e0,decide_true,Bool.not_true];subst hZ;refine zaa fun Z hZ=>?_;refine zaa fun W hW=>?_;refine zaL (fun o' tm=>o=o'/\tm.length=38/\tm[1]? = some (.s key)/\tm[2]? = some (.p qv 0)/\tm[4]? = some (.p (qv+1) 0)/\tm[13]? = some (.i .i64 (ks.length:Int))/\tm[14]? = some (.i .i64 0)) ?_ ?_
 ·rcases id hX with ⟨z1,z2,rfl,_⟩|⟨b1,g1,rfl,rfl⟩
  ·simp only[sxZ,z6,z7,z8,j4,j5,j6,j7,j8,j9,x6,x7,x8,x9,y4,y5,reduceCtorEq,↓reduceIte,zac,e0,z1,ye,and_self]
  ·have eb1:=hO2.get (i:=b1) (x:=.orow 9 1 g1 ks.length (ks.map .s)) (by simp);simp only[sxZ,z6,z7,z8,j4,j5,j6,j7,j8,j9,x6,x7,x8,x9,y4,y5,reduceCtorEq,↓reduceIte,zac,e0,eb1,and_self]
 rintro _ tm ⟨rfl,hlen,t1,t2,t4,t13,t14⟩;subst hW;rw[za8];refine zaK (fun n o' tm=>∃i:Nat,i<=ks.length/\n=ks.length - i/\o=o'/\(∀j,j<i->ks[j]?≠some key)/\tm.length=38/\tm[1]? = some (.s key)/\tm[2]? = some (.p qv 0)/\tm[4]? = some (.p (qv+1) 0)/\tm[13]? = some (.i .i64 (ks.length:Int))/\tm[14]? = some (.i .i64 (i:Int))) ks.length ⟨0,zd _,rfl,rfl,fun j h=>by omega,hlen,t1,t2,t4,t13,t14⟩ ?_;clear hlen t1 t2 t4 t13 t14;rintro n _ tm ⟨i,hi,rfl,rfl,hall,hlen,t1,t2,t4,t13,t14⟩;refine zaa fun W hW=>?_
 by_cases hlt:(i:Int)<(ks.length:Int)
 ·have hi':i<ks.length:=by omega
  have hi2:i<its.length:=by omega
  rcases hX with ⟨z1,_⟩|⟨b1,g1,rfl,rfl⟩
  ·omega
  rcases hY with ⟨z1,_⟩|⟨b2,g2,rfl,rfl⟩
  ·omega
  have eb1:=hO2.get (i:=b1) (x:=.orow 9 1 g1 ks.length (ks.map .s)) (by simp);have eb2:=hO2.get (i:=b2) (x:=.orow 25 4 g2 its.length (zab its)) (by simp);have kv:(ks.map AV.s)[i*1]? = some (.s ks[i]):=by rw[Nat.mul_one,List.getElem?_map,zm hi'];rfl
  have kv2:ks[i]? = some ks[i]:=zm hi';have kv3:ks[i]∈ks:=jc hi';generalize ks[i]=x at kv kv2 kv3;simp only[sxZ,z6,z7,z8,j4,j5,j6,j7,j8,j9,x6,x7,x8,x9,y4,y5,reduceCtorEq,↓reduceIte,za,hlen,t1,t2,t4,t13,t14,hlt];subst hW;refine zaa fun W hW=>?_;simp only[sxZ,z6,z7,z8,j4,j5,j6,j7,j8,j9,x6,x7,x8,x9,y4,y5,reduceCtorEq,↓reduceIte,za,hlen];subst hW;refine zaa fun V hV=>?_;rw[za8];refine zaa fun W hW=>?_;simp only[sxZ,z6,z7,z8,j4,j5,j6,j7,j8,j9,x6,x7,x8,x9,y4,y5,reduceCtorEq,↓reduceIte,za,hlen,t14];subst hW;refine zaa fun W hW=>?_
  by_cases c2:x=key
  ·have hlt2:(i:Int)<(its.length:Int):=by omega
   have jv:=zea hi2;have jvl:=zaI its;have hw:=fun o ho=>h1 (by rw[<-c2];exact kv3) o its[i] ho;have hq:=zad its[i];rw[hq] at jv;simp only[sxZ,z6,z7,z8,j4,j5,j6,j7,j8,j9,x6,x7,x8,x9,y4,y5,reduceCtorEq,↓reduceIte,za,hlen,t1,t2,e0,eb1,eb2,kv,qq,c2,hlt2,decide_true];refine⟨⟨by omega,by omega⟩,?_⟩;subst hW;simp only[sxZ,z6,z7,z8,j4,j5,j6,j7,j8,j9,x6,x7,x8,x9,y4,y5,reduceCtorEq,↓reduceIte,za,hlen,t1,t2,t4,e0,e1,eb2,jv,gs];refine⟨⟨by omega,by omega⟩,by omega,?_⟩;rw[<-hq];exact hw _ (fin _)
  ·simp only[sxZ,z6,z7,z8,j4,j5,j6,j7,j8,j9,x6,x7,x8,x9,y4,y5,reduceCtorEq,↓reduceIte,za,hlen,t1,t2,e0,eb1,kv,qq,c2,decide_false];refine⟨⟨by omega,by omega⟩,?_⟩;subst hW;simp only[sxZ,z6,z7,z8,j4,j5,j6,j7,j8,j9,x6,x7,x8,x9,y4,y5,reduceCtorEq,↓reduceIte,za,hlen,t1,t2,t4];subst hV;simp only[sxZ,z6,z7,z8,j4,j5,j6,j7,j8,j9,x6,x7,x8,x9,y4,y5,reduceCtorEq,↓reduceIte,za,hlen,t1,t2,t4,t13,t14];refine⟨by omega,ks.length - (i+1),by omega,i+1,by omega,rfl,fun j hj=>?_,rfl⟩
   by_cases e:j=i
   ·subst e;rw[kv2];intro h;injection h with h;exact c2 h
   ·exact hall j (by omega)
 simp only[sxZ,z6,z7,z8,j4,j5,j6,j7,j8,j9,x6,x7,x8,x9,y4,y5,reduceCtorEq,↓reduceIte,za,hlen,t1,t2,t4,t13,t14,hlt];subst hW;subst hZ;simp only[sxZ,z6,z7,z8,j4,j5,j6,j7,j8,j9,x6,x7,x8,x9,y4,y5,reduceCtorEq,↓reduceIte,za,hlen,t1,t2,t4,t13,t14,hlt,e1,gs];refine h2 (fun h=>?_) _ (fin _);obtain⟨j,hj⟩:=List.mem_iff_getElem?.1 h;exact hall j (by have:=(zf.1 hj).1;omega) hj
end
end
section
attribute [local irreducible] run
theorem zkp {i:Nat} {T T':Nat} {cs cs':List AV} {L:List (Nat×OB)} (h:zaU ((i,.box T cs)::L)) (hp:zao cs'=true):zaU ((i,.box T' cs')::L):=by
 intro y hy b g n xs hb;rcases zv.1 hy with rfl|hy
 ·show OB.box T' _=_;rw[zef hp]
 ·exact h y (qm _ hy) b g n xs fun y hy=>by
   rcases zv.1 hy with rfl|hy
   ·exact hb (i,.box T' cs') (by simp)
   ·exact hb y (qm _ hy)
theorem zgR {p:Nat} {s:List UInt8} {ρ ρ':Rs} {L:List (Nat×OB)} (h:zaU ((p,zaR s ρ)::L)):zaU ((p,zaR s ρ')::L):=zkp h rfl
theorem zhD {E1 s1 n1 E2 s2 n2:Nat} {x1 x2:List AV} {X Y:AV} {R1 R2 L:List (Nat×OB)} {p qt qv qr:Nat} {s:List UInt8} {ρ ρ':Rs} {T:Tk} {k:Int} (h1:SlO E1 s1 n1 x1 X R1) (h2:SlO E2 s2 n2 x2 Y R2) (h:zaU ((p,zaR s ρ)::L)):zaU ((p,zaR s ρ')::(qt,zba T)::(qv,jvB k X Y)::(qr,zvB)::(R1++(R2++L))):=by
 intro y hy b g m ys hb;simp only[zv,zq] at hy;rcases hy with rfl|rfl|rfl|rfl|hy|hy|hy
 ·exact congrArg (OB.box _) (zef rfl)
 ·exact congrArg (OB.box _) (zef rfl)
 ·have q1:=zjO h1 (b:=b) (g:=g) (m:=m) (ys:=ys) fun y hy=>hb y (by simp[hy]);have q2:=zjO h2 (b:=b) (g:=g) (m:=m) (ys:=ys) fun y hy=>hb y (by simp[hy]);show OB.box _ _=_;simp only[zo,qb,q1,q2]
  rfl
 ·exact congrArg (OB.box _) (zef rfl)
 ·rcases h1 with ⟨_,_,_,rfl⟩|⟨b',g',_,rfl⟩
  ·cases hy
  ·simp only[zv,jz,or_false] at hy;subst hy;rfl
 ·rcases h2 with ⟨_,_,_,rfl⟩|⟨b',g',_,rfl⟩
  ·cases hy
  ·simp only[zv,jz,or_false] at hy;subst hy;rfl
 ·refine h y (qm _ hy) b g m ys fun z hz=>?_;rcases zv.1 hz with rfl|hz
  ·exact hb (p,zaR s ρ') (by simp)
  ·exact hb z (by simp[hz])
section
variable [Tabs Tryz.prog] [Utf Tryz.prog] {objs:List OB} {K:List OB->AV->Prop} {L:List (Nat×OB)} {p:Nat} {s:List UInt8} {ρ:Rs}
def ValK (s:List UInt8) (p:Nat) (d:Nat) (val:Rs->Tk->JV×Rs):Prop :=
 ∀{objs:List OB} {K:List OB->AV->Prop} {L:List (Nat×OB)} {ρ:Rs} (t:Tk),GB s ρ->GT ρ t->t.2.1.length<=s.length->zaU ((p,zaR s ρ)::L)->zaV ((p,zaR s ρ)::L) objs->(∀o,zaV ((p,zaR s (val ρ t).2)::L) o->K o (.agg (zap (val ρ t).1)))->zaf Tryz.prog 20 [.p p 0,ziG t,.i .i64 (d:Int)] objs K
omit [Tabs Tryz.prog] [Utf Tryz.prog] in
theorem zb0 (h:GB s ρ):(zag s ρ).1.2.1.length<=s.length:=by
 unfold zag
 split
 ·exact zd _
 split
 ·exact zd _
 ·rename_i h1 h2;have:=zif (s:=s) h.p0 (by simpa using h2);exact this.2.1
theorem array_k {val:Rs->Tk->JV×Rs} {d:Nat} (hv:ValK s p d val) (hg:GV s val) (hn:∀ρ t,(val ρ t).2.fail=0->ρ.nodes+1<=(val ρ t).2.nodes) (hs:s.length<=1048576) (hB:GB s ρ) (hC:zaU ((p,zaR s ρ)::L)) (hO:zaV ((p,zaR s ρ)::L) objs)
  (hk:∀o,zaV ((p,zaR s (zgV s val ρ).2)::L) o->K o (.agg (zap (zgV s val ρ).1))):zaf Tryz.prog 61 [.p p 0,.i .i64 (d:Int)] objs K:=by
 refine znS (E1:=9) (s1:=1) (E2:=25) (s2:=4) (zgV s val ρ).1 (zgR hC) hk ?_;refine zcu is_ref14_parser_array fun C _=>?_;have fin:∀{o:List OB} {ρ':Rs} {acc:List JV} {X:AV} {R:List (Nat×OB)} {qt qv qr:Nat} {T V W:OB},zgV s val ρ=(.mk 6 [] [] acc,ρ')->SlO 25 4 acc.length (zab acc) X R->zaV ((p,zaR s ρ')::(qt,T)::(qv,V)::(qr,W)::(R++L)) o ->
   ∃X' R1 Y R2,SlO 9 1 (zgV s val ρ).1.keys.length ((zgV s val ρ).1.keys.map .s) X' R1/\SlO 25 4 (zgV s val ρ).1.items.length (zab (zgV s val ρ).1.items) Y R2/\zaV ((p,zaR s (zgV s val ρ).2)::(R1++(R2++L))) (o.set qr (jvB 6 .nil X))/\AV.agg [.i .i64 6,.s [],.nil,X]=.agg [.i .i64 (zgV s val ρ).1.kind,.s (zgV s val ρ).1.text,X',Y]:=by
  intro o ρ' acc X R qt qv qr T V W he hS hO;rw[he];refine⟨.nil,[],X,R,.inl ⟨rfl,rfl,rfl,rfl⟩,hS,?_,rfl⟩;exact(zaV.set (A:=[(p,zaR s ρ'),(qt,T),(qv,V)]) (jvB 6 .nil X) hO).sub ((((jm _ _).trans (jm _ _)).trans (jm _ _)).cons_cons _)
 rw[c_ref14_parser_array];refine zaa fun Y hY=>?_;simp only[sxZ,z6,z7,z8,j4,j5,j6,j7,j8,j9,x6,x7,x8,x9,y4,y5,reduceCtorEq,↓reduceIte];have hO1:=hO.new zvB;unfold zvB at hO1;generalize hqr:objs.length=qr at hO1 ⊢;generalize objs++[OB.box 25 [.i .i64 0,.s [],.nil,.nil]]=o1 at hO1 ⊢;subst hY;refine zaa fun Y hY=>?_;simp only[sxZ,z6,z7,z8,j4,j5,j6,j7,j8,j9,x6,x7,x8,x9,y4,y5,reduceCtorEq,↓reduceIte,gn1,sn1];have hO2:=hO1.new (jvB 6 .nil .nil);unfold jvB at hO2;generalize hqv:o1.length=qv at hO2 ⊢;generalize o1++[OB.box 25 [.i .i64 6,.s [],.nil,.nil]]=o2 at hO2 ⊢;subst hY;refine zaa fun Y hY=>?_;simp only[sxZ,z6,z7,z8,j4,j5,j6,j7,j8,j9,x6,x7,x8,x9,y4,y5,reduceCtorEq,↓reduceIte];have hO2':zaV ((p,zaR s ρ)::(qv,jvB 6 .nil .nil)::(qr,zvB)::L) o2:=hO2.perm ((qw.cons _ (qw.swap _ _ _)).trans (qw.swap _ _ _));refine zae (zc2 (by omega) hO2' fun o3 hO3=>?_);have hB1:=zbC hB;have hT1:=zb0 hB;have hrarr:zgV s val ρ=if isP (zag s ρ).1 93=true then (.mk 6 [] [] [],(zag s ρ).2) else (.mk 6 [] [] (zcS s val (s.length+2) (zag s ρ).2 (zag s ρ).1 []).1,(zcS s val (s.length+2) (zag s ρ).2 (zag s ρ).1 []).2):=rfl
 have hn0:=zbs s ρ;generalize zag s ρ=N at hO3 hB1 hT1 hrarr hn0 ⊢;obtain⟨T,ρ1⟩:=N;simp only at hO3 hB1 hT1 hrarr hn0 ⊢;unfold ziG tkC;simp only[sxZ,z6,z7,z8,j4,j5,j6,j7,j8,j9,x6,x7,x8,x9,y4,y5,reduceCtorEq,↓reduceIte,gn1,sn1];have f1:∀x y z,OB.box 56 [.i .i64 x,.s y,.i .i64 z]=zba (x,y,z):=fun _ _ _=>rfl;rw[f1];have hO4:=hO3.new (zba T);have hO4:zaV ((p,zaR s ρ1)::(o3.length,zba T)::(qv,jvB 6 .nil .nil)::(qr,zvB)::([]++L)) (o3++[zba T]):=hO4.perm (qw.swap _ _ _);generalize o3.length=qt at hO4 ⊢;generalize o3++[zba (T.1,T.2.1,T.2.2)]=o4 at hO4 ⊢;have st:∀(o:List OB) (ρ':Rs) (T':Tk) (X:AV) (R:List (Nat×OB)),zaV ((p,zaR s ρ')::(qt,zba T')::(qv,jvB 6 .nil X)::(qr,zvB)::(R++L)) o->o[p]? = some (.box 53 [.s s,.i .i64 ρ'.pos,.i .i64 (ρ'.nodes:Int),.i .i64 ρ'.fail,.i .i64 ρ'.wh])/\o[qt]? = some (.box 56 [.i .i64 T'.1,.s T'.2.1,.i .i64 T'.2.2])/\o[qv]? = some (.box 25 [.i .i64 6,.s [],.nil,X])/\o[qr]? = some (.box 25 [.i .i64 0,.s [],.nil,.nil])/\(∀x,(o.set qr x)[qr]? = some x)/\(∀x,(o.set qt x)[qt]? = some x)/\(∀x,(o.set qv x)[qv]? = some x) :=
  fun o ρ' T' X R h=>⟨h.get (by simp[zaR]),h.get (by simp[zba,tkC]),h.get (by simp[jvB]),h.get (by simp[zvB]),fun x=>zl (h.lt (i:=qr) (x:=zvB) (by simp)),fun x=>zl (h.lt (i:=qt) (x:=zba T') (by simp)),fun x=>zl (h.lt (i:=qv) (x:=jvB 6 .nil X) (by simp))⟩
 subst hY;refine zaa fun Y hY=>?_;obtain⟨e1,e2,e3,e4,s1,s2,s3⟩:=st _ _ _ _ _ hO4;simp only[sxZ,z6,z7,z8,j4,j5,j6,j7,j8,j9,x6,x7,x8,x9,y4,y5,reduceCtorEq,↓reduceIte,e2];refine zae (zgk T 93 ?_)
 cases hcl:isP T 93 with
 | true=>
  rw[hcl,if_pos rfl] at hrarr;simp only[sxZ,z6,z7,z8,j4,j5,j6,j7,j8,j9,x6,x7,x8,x9,y4,y5,reduceCtorEq,↓reduceIte,e3,e4,s1];exact fin hrarr (.inl ⟨rfl,by rw[zaH],rfl,rfl⟩) hO4
 | false=>
  rw[hcl,if_neg Bool.false_ne_true] at hrarr;simp only[sxZ,z6,z7,z8,j4,j5,j6,j7,j8,j9,x6,x7,x8,x9,y4,y5,reduceCtorEq,↓reduceIte];subst hY;refine zaa fun Y hY=>?_;clear e1 e2 e3 e4 s1 s2 s3;have last:∀(o:List OB) (ρ':Rs) (T':Tk) (acc:List JV) (X:AV) (R:List (Nat×OB)) (tm:List AV),zgV s val ρ=(.mk 6 [] [] acc,ρ')->SlO 25 4 acc.length (zab acc) X R->zaV ((p,zaR s ρ')::(qt,zba T')::(qv,jvB 6 .nil X)::(qr,zvB)::(R++L)) o->True:=fun _ _ _ _ _ _ _ _ _ _=>trivial;simp only[sxZ,z6,z7,z8,j4,j5,j6,j7,j8,j9,x6,x7,x8,x9,y4,y5,reduceCtorEq,↓reduceIte];refine zaK (fun n o tm=>∃(i:Nat) (ρ':Rs) (T':Tk) (acc:List JV) (X:AV) (R:List (Nat×OB)),n=s.length+2 - i/\acc.length=i/\zgV s val ρ=(.mk 6 [] [] (zcS s val n ρ' T' acc).1,(zcS s val n ρ' T' acc).2)/\GB s ρ'/\GT ρ' T'/\T'.2.1.length<=s.length/\(ρ'.fail=0->i<=ρ'.nodes)/\SlO 25 4 acc.length (zab acc) X R/\zaV ((p,zaR s ρ')::(qt,zba T')::(qv,jvB 6 .nil X)::(qr,zvB)::(R++L)) o /\
    tm.length=49/\tm[0]? = some (.p p 0)/\tm[1]? = some (.i .i64 (d:Int))/\tm[4]? = some (.p qr 0)/\tm[5]? = some (.p qv 0)/\tm[6]? = some (.p qt 0)) (s.length+2) ⟨0,ρ1,T,[],.nil,[],rfl,rfl,hrarr,hB1.1,hB1.2,hT1,fun _=>zd _,.inl ⟨rfl,by rw[zaH],rfl,rfl⟩,hO4,rfl,rfl,rfl,rfl,rfl,rfl⟩ ?_
  clear hO hO1 hO2 hO2' hO3 hO4 hrarr hB1 hT1 hcl hn0;rintro n o tm ⟨i,ρ',T',acc,X,R,rfl,hi,hrarr,hGB,hGT,hTx,hnd,hS,hO,hlen,t0,t1,t4,t5,t6⟩;obtain⟨e1,e2,e3,e4,s1,s2,s3⟩:=st _ _ _ _ _ hO;refine zaa fun Z hZ=>?_
  by_cases c1:ρ'.fail=0
  rotate_left
  ·have he:zcS s val (s.length+2 - i) ρ' T' acc=(acc,ρ'):=by
    cases s.length+2 - i with
    | zero=>rw[zcS]
    | succ m=>rw[zcS,if_pos c1]
   rw[he] at hrarr;simp only[sxZ,z6,z7,z8,j4,j5,j6,j7,j8,j9,x6,x7,x8,x9,y4,y5,reduceCtorEq,↓reduceIte,za,hlen,t0,e1,c1];subst hZ;subst hY;simp only[sxZ,z6,z7,z8,j4,j5,j6,j7,j8,j9,x6,x7,x8,x9,y4,y5,reduceCtorEq,↓reduceIte,za,hlen,t4,t5,e3,e4,s1];exact fin hrarr hS hO
  have hil:i<=s.length:=by
   have h1:=hnd c1;have h2:=hGB.n0 c1;have h3:=hGB.p1;omega
  obtain⟨m,hm⟩:∃m,s.length+2 - i=m+1:=⟨s.length+1 - i,by omega⟩;rw[hm,zcS,if_neg (fun h=>h c1)] at hrarr;simp only at hrarr;simp only[sxZ,z6,z7,z8,j4,j5,j6,j7,j8,j9,x6,x7,x8,x9,y4,y5,reduceCtorEq,↓reduceIte,za,hlen,t0,e1,c1];subst hZ;rw[za8];refine zaa fun Z hZ=>?_;have hvc:=fun {objs:List OB} {K:List OB->AV->Prop} {L:List (Nat×OB)} (h1) (h2) (h3)=>hv (objs:=objs) (K:=K) (L:=L) (ρ:=ρ') T' hGB hGT hTx h1 h2 h3;have hg1:=hg ρ' T' hGB hGT;have hn1:=hn ρ' T';generalize val ρ' T'=a at hvc hg1 hn1 hrarr;obtain⟨v,ρ2⟩:=a;simp only at hvc hg1 hn1 hrarr;obtain⟨c0,c1',c2,c3,hcv⟩:∃c0 c1 c2 c3,zap v=[c0,c1,c2,c3]:=⟨_,_,_,_,zad v⟩;have hCL:zaU ((p,zaR s ρ')::(qt,zba T')::(qv,jvB 6 .nil X)::(qr,zvB)::(R++L)):=zhD (E1:=0) (s1:=0) (R1:=[]) (.inl ⟨rfl,rfl,rfl,rfl⟩) hS hC;refine zaL (fun o tm=>∃X' R',SlO 25 4 (acc++[v]).length (zab (acc++[v])) X' R'/\zaV ((p,zaR s ρ2)::(qt,zba T')::(qv,jvB 6 .nil X')::(qr,zvB)::(R'++L)) o/\tm.length=49/\tm[0]? = some (.p p 0)/\tm[1]? = some (.i .i64 (d:Int))/\tm[4]? = some (.p qr 0)/\tm[5]? = some (.p qv 0)/\tm[6]? = some (.p qt 0)) ?_ ?_
  ·simp only[sxZ,z6,z7,z8,j4,j5,j6,j7,j8,j9,x6,x7,x8,x9,y4,y5,reduceCtorEq,↓reduceIte,za,hlen,t0,t1,t5,t6,e2,e3];refine zae (hvc hCL hO fun o2 hO2=>?_);obtain⟨e1',e2',e3',e4',s1',s2',s3'⟩:=st _ _ _ _ _ hO2;rw[hcv];rcases hS with ⟨z1,z2,rfl,rfl⟩|⟨b,g,rfl,rfl⟩
   ·have a0:acc=[]:=List.eq_nil_of_length_eq_zero z1;have hlt:=hO2.lt (i:=qv) (x:=jvB 6 .nil .nil) (by simp);have hne:¬o2.length=qv:=by omega
    have gx:∀x,(o2++[x])[qv]? = some (.box 25 [.i .i64 6,.s [],.nil,.nil]):=fun x=>by rw[qd hlt];exact e3'
    simp only[sxZ,z6,z7,z8,j4,j5,j6,j7,j8,j9,x6,x7,x8,x9,y4,y5,reduceCtorEq,↓reduceIte,za,hlen,t0,t1,t5,t6,e2',e3',gn1,sn1,gx,hne,zac,zh,t4,and_self,and_true];have hN:=hO2.new (.orow 25 4 0 1 [c0,c1',c2,c3]);have hR:=hN.set (A:=[(o2.length,OB.orow 25 4 0 1 [c0,c1',c2,c3]),(p,zaR s ρ2),(qt,zba T')]) (jvB 6 .nil (.orow o2.length 0));refine⟨_,[(o2.length,.orow 25 4 0 1 [c0,c1',c2,c3])],.inr ⟨_,_,rfl,by rw[a0,ja,zaO,zaH,hcv];rfl⟩,hR.perm ?_⟩;exact List.perm_middle (l₁:=[(p,zaR s ρ2),(qt,zba T'),(qv,jvB 6 .nil (.orow o2.length 0)),(qr,zvB)]).symm
   ·have e5:=hO2.get (i:=b) (x:=.orow 25 4 g acc.length (zab acc)) (by simp);have hlt:=hO2.lt (i:=qv) (x:=jvB 6 .nil (.orow b g)) (by simp);have hlt4:=hO2.lt (i:=b) (x:=.orow 25 4 g acc.length (zab acc)) (by simp);have hne:¬b=qv:=by
     intro h;have:=hO2.1;simp only[zo,jg,xy] at this;exact this.2.2.1 (by simp[h])
    have gs:∀x,(o2.set b x)[b]? = some x:=fun x=>zl hlt4;have gx:∀x,(o2.set b x)[qv]? = some (.box 25 [.i .i64 6,.s [],.nil,.orow b g]):=fun x=>by rw[zi hne];exact e3'
    have hjl:=zaI acc;simp only[sxZ,z6,z7,z8,j4,j5,j6,j7,j8,j9,x6,x7,x8,x9,y4,y5,reduceCtorEq,↓reduceIte,za,hlen,t0,t1,t5,t6,e2',e3',e5,gs,gx,hne,zac,zh,t4,and_self,and_true];refine⟨⟨by omega,by omega⟩,?_⟩;have hN:=hO2.set (A:=[(p,zaR s ρ2),(qt,zba T'),(qv,jvB 6 .nil (.orow b g)),(qr,zvB)]) (.orow 25 4 (g+1) (acc.length+1) (zab acc++[c0,c1',c2,c3]));have hR:=hN.set (A:=[(p,zaR s ρ2),(qt,zba T')]) (jvB 6 .nil (.orow b (g+1)));exact⟨_,[(b,.orow 25 4 (g+1) (acc.length+1) (zab acc++[c0,c1',c2,c3]))],.inr ⟨_,_,rfl,by rw[zgA,zaO,zaH,hcv];rfl⟩,hR⟩
  ·clear hO hS hlen t0 t1 t4 t5 t6 e1 e2 e3 e4 s1 s2 s3 hCL hvc hv hg hn;rintro o5 tm ⟨X',R',hS,hO5,hlen,t0,t1,t4,t5,t6⟩;subst hZ;refine zaa fun Z hZ=>?_;simp only[sxZ,z6,z7,z8,j4,j5,j6,j7,j8,j9,x6,x7,x8,x9,y4,y5,reduceCtorEq,↓reduceIte,za,hlen,t0];refine zae (zc2 (by omega) hO5 fun o6 hO6=>?_);have hB2:=zbC hg1;have hT2:=zb0 hg1;have hn2:=zbs s ρ2;have hfz:=zcH s ρ2;generalize zag s ρ2=N at hO6 hB2 hT2 hn2 hfz hrarr ⊢;obtain⟨T2,ρ3⟩:=N;simp only at hO6 hB2 hT2 hn2 hfz hrarr ⊢;obtain⟨e1,e2,e3,e4,s1,s2,s3⟩:=st _ _ _ _ _ hO6;unfold ziG tkC;simp only[sxZ,z6,z7,z8,j4,j5,j6,j7,j8,j9,x6,x7,x8,x9,y4,y5,reduceCtorEq,↓reduceIte,za,hlen,t6,e2,s2];rw[f1];have hO7:=zaV.set (A:=[(p,zaR s ρ3)]) (zba T2) hO6;have hO7:zaV ((p,zaR s ρ3)::(qt,zba T2)::(qv,jvB 6 .nil X')::(qr,zvB)::(R'++L)) (o6.set qt (zba (T2.1,T2.2.1,T2.2.2))):=hO7;generalize o6.set qt (zba (T2.1,T2.2.1,T2.2.2))=o7 at hO7 ⊢;refine zbK (fun t=>t.length=49/\t[0]? = some (.p p 0)/\t[1]? = some (.i .i64 (d:Int))/\t[4]? = some (.p qr 0)/\t[5]? = some (.p qv 0)/\t[6]? = some (.p qt 0)) ?_ ?_
   ·simp only[sxZ,z6,z7,z8,j4,j5,j6,j7,j8,j9,x6,x7,x8,x9,y4,y5,reduceCtorEq,↓reduceIte,zh,za,hlen,t0,t1,t4,t5,t6,and_self]
   clear hO6 hO5 hlen t0 t1 t4 t5 t6 e1 e2 e3 e4 s1 s2 s3;rintro tm ⟨hlen,t0,t1,t4,t5,t6⟩;obtain⟨e1,e2,e3,e4,s1,s2,s3⟩:=st _ _ _ _ _ hO7;subst hZ;refine zaa fun Z hZ=>?_;simp only[sxZ,z6,z7,z8,j4,j5,j6,j7,j8,j9,x6,x7,x8,x9,y4,y5,reduceCtorEq,↓reduceIte,za,hlen,t6,e2];refine zae (zgk T2 93 ?_)
   cases hcl:isP T2 93 with
   | true=>
    rw[hcl,if_pos rfl] at hrarr;simp only[sxZ,z6,z7,z8,j4,j5,j6,j7,j8,j9,x6,x7,x8,x9,y4,y5,reduceCtorEq,↓reduceIte,za,hlen,t4,t5,e3,e4,s1];exact fin hrarr hS hO7
   | false=>
    rw[hcl,if_neg Bool.false_ne_true] at hrarr;simp only[sxZ,z6,z7,z8,j4,j5,j6,j7,j8,j9,x6,x7,x8,x9,y4,y5,reduceCtorEq,↓reduceIte,za,hlen];subst hZ;refine zaa fun Z hZ=>?_;refine zaL (fun o tm=>zaV ((p,zaR s (zbb ρ3 T2 44))::(qt,zba T2)::(qv,jvB 6 .nil X')::(qr,zvB)::(R'++L)) o/\tm.length=49/\tm[0]? = some (.p p 0)/\tm[1]? = some (.i .i64 (d:Int))/\tm[4]? = some (.p qr 0)/\tm[5]? = some (.p qv 0)/\tm[6]? = some (.p qt 0)) ?_ ?_
    ·refine zaa fun W hW=>?_
     by_cases c3:ρ3.fail=0
     rotate_left
     ·have hw:zbb ρ3 T2 44=ρ3:=by unfold zbb;rw[if_neg (fun h=>c3 h.1)]
      simp only[sxZ,z6,z7,z8,j4,j5,j6,j7,j8,j9,x6,x7,x8,x9,y4,y5,reduceCtorEq,↓reduceIte,za,hlen,t0,e1,c3];subst hW;simp only[sxZ,z6,z7,z8,j4,j5,j6,j7,j8,j9,x6,x7,x8,x9,y4,y5,reduceCtorEq,↓reduceIte,zac,zh,za,hlen,t0,t1,t4,t5,t6,hw,and_self,and_true];exact hO7
     ·simp only[sxZ,z6,z7,z8,j4,j5,j6,j7,j8,j9,x6,x7,x8,x9,y4,y5,reduceCtorEq,↓reduceIte,za,hlen,t0,t6,e1,e2,c3];refine zae (zgk T2 44 ?_)
      cases h44:isP T2 44 with
      | true=>
       have hw:zbb ρ3 T2 44=ρ3:=by unfold zbb;rw[if_neg (fun h=>by rw[h44] at h;cases h.2)]
       simp only[sxZ,z6,z7,z8,j4,j5,j6,j7,j8,j9,x6,x7,x8,x9,y4,y5,reduceCtorEq,↓reduceIte,za,hlen];subst hW;simp only[sxZ,z6,z7,z8,j4,j5,j6,j7,j8,j9,x6,x7,x8,x9,y4,y5,reduceCtorEq,↓reduceIte,zac,zh,za,hlen,t0,t1,t4,t5,t6,hw,and_self,and_true];exact hO7
      | false=>
       have hw:zbb ρ3 T2 44=za3 ρ3 T2.2.2 140:=by unfold zbb;rw[if_pos ⟨c3,h44⟩]
       simp only[sxZ,z6,z7,z8,j4,j5,j6,j7,j8,j9,x6,x7,x8,x9,y4,y5,reduceCtorEq,↓reduceIte,za,hlen];subst hW;simp only[sxZ,z6,z7,z8,j4,j5,j6,j7,j8,j9,x6,x7,x8,x9,y4,y5,reduceCtorEq,↓reduceIte,za,hlen,t0,t6,e2];refine zae (zcN hO7 T2.2.2 140 fun o8 hO8=>?_);simp only[sxZ,z6,z7,z8,j4,j5,j6,j7,j8,j9,x6,x7,x8,x9,y4,y5,reduceCtorEq,↓reduceIte,zac,zh,za,hlen,t0,t1,t4,t5,t6,hw,and_self,and_true];exact hO8
    ·clear hO7 hlen t0 t1 t4 t5 t6 e1 e2 e3 e4 s1 s2 s3;rintro o8 tm ⟨hO8,hlen,t0,t1,t4,t5,t6⟩;subst hZ;have hB3:=zfg hB2.1 T2 44;have hn3:=ze3 ρ3 T2 44;have hfz3:=ze4 ρ3 T2 44;generalize zbb ρ3 T2 44=ρ4 at hO8 hB3 hn3 hfz3 hrarr;simp only[sxZ,z6,z7,z8,j4,j5,j6,j7,j8,j9,x6,x7,x8,x9,y4,y5,reduceCtorEq,↓reduceIte,za,hlen,t0];refine zae (zc2 (by omega) hO8 fun o9 hO9=>?_);have hB4:=zbC hB3;have hT4:=zb0 hB3;have hn4:=zbs s ρ4;have hfz4:=zcH s ρ4;generalize zag s ρ4=N at hO9 hB4 hT4 hn4 hfz4 hrarr ⊢;obtain⟨T5,ρ5⟩:=N;simp only at hO9 hB4 hT4 hn4 hfz4 hrarr ⊢;obtain⟨e1,e2,e3,e4,s1,s2,s3⟩:=st _ _ _ _ _ hO9;unfold ziG tkC;simp only[sxZ,z6,z7,z8,j4,j5,j6,j7,j8,j9,x6,x7,x8,x9,y4,y5,reduceCtorEq,↓reduceIte,za,hlen,t6,e2,s2];rw[f1];have hO10:zaV ((p,zaR s ρ5)::(qt,zba T5)::(qv,jvB 6 .nil X')::(qr,zvB)::(R'++L)) (o9.set qt (zba (T5.1,T5.2.1,T5.2.2))):=zaV.set (A:=[(p,zaR s ρ5)]) (zba T5) hO9;generalize o9.set qt (zba (T5.1,T5.2.1,T5.2.2))=o10 at hO10 ⊢;refine⟨m,by omega,i+1,ρ5,T5,acc++[v],X',R',by omega,by rw[zk,hi];rfl,hrarr,hB4.1,hB4.2,hT4,fun hf=>?_,hS,hO10,?_⟩
     ·have q4:ρ4.fail=0:=by
       by_cases c:ρ4.fail=0
       ·exact c
       ·exact absurd ((hfz4 c).1.symm.trans hf) c
      have q3:ρ3.fail=0:=by
       by_cases c:ρ3.fail=0
       ·exact c
       ·exact absurd ((hfz3 c).1.symm.trans q4) c
      have q2:ρ2.fail=0:=by
       by_cases c:ρ2.fail=0
       ·exact c
       ·exact absurd ((hfz c).1.symm.trans q3) c
      have:=hn1 q2;have:=hnd c1;omega
     ·simp only[sxZ,z6,z7,z8,j4,j5,j6,j7,j8,j9,x6,x7,x8,x9,y4,y5,reduceCtorEq,↓reduceIte,zh,za,hlen,t0,t1,t4,t5,t6,and_self]
end
end
section
attribute [local irreducible] run
def SlP (ks:List (List UInt8)) (its:List JV) (X:AV) (R1:List (Nat×OB)) (Y:AV) (R2:List (Nat×OB)):Prop :=
 (ks=[]/\its=[]/\X=.nil/\R1=[]/\Y=.nil/\R2=[])\/∃b1 g1 b2 g2,X=.orow b1 g1/\R1=[(b1,.orow 9 1 g1 ks.length (ks.map .s))]/\Y=.orow b2 g2/\R2=[(b2,.orow 25 4 g2 its.length (zab its))]
theorem SlP.k {ks:List (List UInt8)} {its:List JV} {X Y:AV} {R1 R2:List (Nat×OB)} (h:SlP ks its X R1 Y R2):SlO 9 1 ks.length (ks.map .s) X R1:=by
 rcases h with ⟨rfl,rfl,rfl,rfl,rfl,rfl⟩|⟨b1,g1,b2,g2,rfl,rfl,rfl,rfl⟩
 ·exact .inl ⟨rfl,rfl,rfl,rfl⟩
 ·exact .inr ⟨_,_,rfl,rfl⟩
theorem SlP.i {ks:List (List UInt8)} {its:List JV} {X Y:AV} {R1 R2:List (Nat×OB)} (h:SlP ks its X R1 Y R2):SlO 25 4 its.length (zab its) Y R2:=by
 rcases h with ⟨rfl,rfl,rfl,rfl,rfl,rfl⟩|⟨b1,g1,b2,g2,rfl,rfl,rfl,rfl⟩
 ·exact .inl ⟨rfl,zaH,rfl,rfl⟩
 ·exact .inr ⟨_,_,rfl,rfl⟩
theorem SlP.flat {ks:List (List UInt8)} {its:List JV} {X Y:AV} {R1 R2:List (Nat×OB)} (h:SlP ks its X R1 Y R2):X.flat=true/\Y.flat=true:=by
 rcases h with ⟨rfl,rfl,rfl,rfl,rfl,rfl⟩|⟨b1,g1,b2,g2,rfl,rfl,rfl,rfl⟩<;>exact⟨rfl,rfl⟩
section
variable [Tabs Tryz.prog] [Utf Tryz.prog] {objs:List OB} {K:List OB->AV->Prop} {L:List (Nat×OB)} {p:Nat} {s:List UInt8} {ρ:Rs}
theorem object_k {val:Rs->Tk->JV×Rs} {d:Nat} (hv:ValK s p d val) (hg:GV s val) (hn:∀ρ t,(val ρ t).2.fail=0->ρ.nodes+1<=(val ρ t).2.nodes) (hvz:ValFroz val) (hs:s.length<=1048576) (hB:GB s ρ) (hC:zaU ((p,zaR s ρ)::L)) (hO:zaV ((p,zaR s ρ)::L) objs)
  (hk:∀o,zaV ((p,zaR s (zgY s val ρ).2)::L) o->K o (.agg (zap (zgY s val ρ).1))):zaf Tryz.prog 62 [.p p 0,.i .i64 (d:Int)] objs K:=by
 refine znS (E1:=9) (s1:=1) (E2:=25) (s2:=4) (zgY s val ρ).1 (zgR hC) hk ?_;refine zcu is_ref14_parser_object fun C _=>?_;have fin:∀{o:List OB} {ρ':Rs} {ks:List (List UInt8)} {its:List JV} {X Y:AV} {R1 R2:List (Nat×OB)} {qt qv qr:Nat} {T V W:OB},zgY s val ρ=(.mk 7 [] ks its,ρ')->SlP ks its X R1 Y R2->zaV ((p,zaR s ρ')::(qt,T)::(qv,V)::(qr,W)::(R1++(R2++L))) o ->
   ∃X' R1 Y' R2,SlO 9 1 (zgY s val ρ).1.keys.length ((zgY s val ρ).1.keys.map .s) X' R1/\SlO 25 4 (zgY s val ρ).1.items.length (zab (zgY s val ρ).1.items) Y' R2/\zaV ((p,zaR s (zgY s val ρ).2)::(R1++(R2++L))) (o.set qr (jvB 7 X Y))/\AV.agg [.i .i64 7,.s [],X,Y]=.agg [.i .i64 (zgY s val ρ).1.kind,.s (zgY s val ρ).1.text,X',Y']:=by
  intro o ρ' ks its X Y R1 R2 qt qv qr T V W he hS hO;rw[he];refine⟨X,R1,Y,R2,hS.k,hS.i,?_,rfl⟩;exact(zaV.set (A:=[(p,zaR s ρ'),(qt,T),(qv,V)]) (jvB 7 X Y) hO).sub ((((jm _ _).trans (jm _ _)).trans (jm _ _)).cons_cons _)
 rw[c_ref14_parser_object];refine zaa fun Z0 hZ0=>?_;simp only[sxZ,z6,z7,z8,j4,j5,j6,j7,j8,j9,x6,x7,x8,x9,y4,y5,reduceCtorEq,↓reduceIte];have hO1:=hO.new zvB;unfold zvB at hO1;generalize hqr:objs.length=qr at hO1 ⊢;generalize objs++[OB.box 25 [.i .i64 0,.s [],.nil,.nil]]=o1 at hO1 ⊢;subst hZ0;refine zaa fun Z0 hZ0=>?_;simp only[sxZ,z6,z7,z8,j4,j5,j6,j7,j8,j9,x6,x7,x8,x9,y4,y5,reduceCtorEq,↓reduceIte,gn1,sn1];have hO2:=hO1.new (jvB 7 .nil .nil);unfold jvB at hO2;generalize hqv:o1.length=qv at hO2 ⊢;generalize o1++[OB.box 25 [.i .i64 7,.s [],.nil,.nil]]=o2 at hO2 ⊢;subst hZ0;refine zaa fun Z0 hZ0=>?_;simp only[sxZ,z6,z7,z8,j4,j5,j6,j7,j8,j9,x6,x7,x8,x9,y4,y5,reduceCtorEq,↓reduceIte];have hO2':zaV ((p,zaR s ρ)::(qv,jvB 7 .nil .nil)::(qr,zvB)::L) o2:=hO2.perm ((qw.cons _ (qw.swap _ _ _)).trans (qw.swap _ _ _));refine zae (zc2 (by omega) hO2' fun o3 hO3=>?_);have hB1:=zbC hB;have hT1:=zb0 hB;have hrobj:zgY s val ρ=if isP (zag s ρ).1 125=true then (.mk 7 [] [] [],(zag s ρ).2) else (.mk 7 [] (zb6 s val (s.length+2) (zag s ρ).2 (zag s ρ).1 [] []).1.1 (zb6 s val (s.length+2) (zag s ρ).2 (zag s ρ).1 [] []).1.2,(zb6 s val (s.length+2) (zag s ρ).2 (zag s ρ).1 [] []).2):=rfl
 generalize zag s ρ=N at hO3 hB1 hT1 hrobj ⊢;obtain⟨T,ρ1⟩:=N;simp only at hO3 hB1 hT1 hrobj ⊢;unfold ziG tkC;simp only[sxZ,z6,z7,z8,j4,j5,j6,j7,j8,j9,x6,x7,x8,x9,y4,y5,reduceCtorEq,↓reduceIte,gn1,sn1];have f1:∀x y z,OB.box 56 [.i .i64 x,.s y,.i .i64 z]=zba (x,y,z):=fun _ _ _=>rfl;rw[f1];have hO4:=hO3.new (zba T);have hO4:zaV ((p,zaR s ρ1)::(o3.length,zba T)::(qv,jvB 7 .nil .nil)::(qr,zvB)::([]++([]++L))) (o3++[zba T]):=hO4.perm (qw.swap _ _ _);generalize o3.length=qt at hO4 ⊢;generalize o3++[zba (T.1,T.2.1,T.2.2)]=o4 at hO4 ⊢;have st:∀(o:List OB) (ρ':Rs) (T':Tk) (X:AV) (R1:List (Nat×OB)) (Y:AV) (R2:List (Nat×OB)),zaV ((p,zaR s ρ')::(qt,zba T')::(qv,jvB 7 X Y)::(qr,zvB)::(R1++(R2++L))) o->o[p]? = some (.box 53 [.s s,.i .i64 ρ'.pos,.i .i64 (ρ'.nodes:Int),.i .i64 ρ'.fail,.i .i64 ρ'.wh])/\o[qt]? = some (.box 56 [.i .i64 T'.1,.s T'.2.1,.i .i64 T'.2.2])/\o[qv]? = some (.box 25 [.i .i64 7,.s [],X,Y])/\o[qr]? = some (.box 25 [.i .i64 0,.s [],.nil,.nil])/\(∀x,(o.set qr x)[qr]? = some x)/\(∀x,(o.set qt x)[qt]? = some x)/\(∀x,(o.set qv x)[qv]? = some x) :=
  fun o ρ' T' X R1 Y R2 h=>⟨h.get (by simp[zaR]),h.get (by simp[zba,tkC]),h.get (by simp[jvB]),h.get (by simp[zvB]),fun x=>zl (h.lt (i:=qr) (x:=zvB) (by simp)),fun x=>zl (h.lt (i:=qt) (x:=zba T') (by simp)),fun x=>zl (h.lt (i:=qv) (x:=jvB 7 X Y) (by simp))⟩
 subst hZ0;refine zaa fun Z0 hZ0=>?_;obtain⟨e1,e2,e3,e4,s1,s2,s3⟩:=st _ _ _ _ _ _ _ hO4;simp only[sxZ,z6,z7,z8,j4,j5,j6,j7,j8,j9,x6,x7,x8,x9,y4,y5,reduceCtorEq,↓reduceIte,e2];refine zae (zgk T 125 ?_)
 cases hcl:isP T 125 with
 | true=>
  rw[hcl,if_pos rfl] at hrobj;simp only[sxZ,z6,z7,z8,j4,j5,j6,j7,j8,j9,x6,x7,x8,x9,y4,y5,reduceCtorEq,↓reduceIte,e3,e4,s1];exact fin hrobj (.inl ⟨rfl,rfl,rfl,rfl,rfl,rfl⟩) hO4
 | false=>
  rw[hcl,if_neg Bool.false_ne_true] at hrobj;simp only[sxZ,z6,z7,z8,j4,j5,j6,j7,j8,j9,x6,x7,x8,x9,y4,y5,reduceCtorEq,↓reduceIte];subst hZ0;refine zaa fun Z0 hZ0=>?_;clear e1 e2 e3 e4 s1 s2 s3;simp only[sxZ,z6,z7,z8,j4,j5,j6,j7,j8,j9,x6,x7,x8,x9,y4,y5,reduceCtorEq,↓reduceIte];refine zaK (fun n o tm=>∃(i:Nat) (ρ':Rs) (T':Tk) (ks:List (List UInt8)) (its:List JV) (X:AV) (R1:List (Nat×OB)) (Y:AV) (R2:List (Nat×OB)),n=s.length+2 - i/\ks.length=i/\its.length=i/\zgY s val ρ=(.mk 7 [] (zb6 s val n ρ' T' ks its).1.1 (zb6 s val n ρ' T' ks its).1.2,(zb6 s val n ρ' T' ks its).2)/\GB s ρ'/\T'.2.1.length<=s.length/\(ρ'.fail=0->i<=ρ'.nodes)/\SlP ks its X R1 Y R2/\zaV ((p,zaR s ρ')::(qt,zba T')::(qv,jvB 7 X Y)::(qr,zvB)::(R1++(R2++L))) o /\
    tm.length=98/\tm[0]? = some (.p p 0)/\tm[1]? = some (.i .i64 (d:Int))/\tm[4]? = some (.p qr 0)/\tm[5]? = some (.p qv 0)/\tm[6]? = some (.p qt 0)) (s.length+2) ⟨0,ρ1,T,[],[],.nil,[],.nil,[],rfl,rfl,rfl,hrobj,hB1.1,hT1,fun _=>zd _,.inl ⟨rfl,rfl,rfl,rfl,rfl,rfl⟩,hO4,rfl,rfl,rfl,rfl,rfl,rfl⟩ ?_
  clear hO hO1 hO2 hO2' hO3 hO4 hrobj hB1 hT1 hcl;rintro n o tm ⟨i,ρ',T',ks,its,X,R1,Y,R2,rfl,hi,hi2,hrobj,hGB,hTx,hnd,hS,hO,hlen,t0,t1,t4,t5,t6⟩;obtain⟨e1,e2,e3,e4,s1,s2,s3⟩:=st _ _ _ _ _ _ _ hO;refine zaa fun Z hZ=>?_
  by_cases c1:ρ'.fail=0
  rotate_left
  ·have he:zb6 s val (s.length+2 - i) ρ' T' ks its=((ks,its),ρ'):=by
    cases s.length+2 - i with
    | zero=>rw[zb6]
    | succ m=>rw[zb6,if_pos c1]
   rw[he] at hrobj;simp only[sxZ,z6,z7,z8,j4,j5,j6,j7,j8,j9,x6,x7,x8,x9,y4,y5,reduceCtorEq,↓reduceIte,za,hlen,t0,e1,c1];subst hZ;subst hZ0;simp only[sxZ,z6,z7,z8,j4,j5,j6,j7,j8,j9,x6,x7,x8,x9,y4,y5,reduceCtorEq,↓reduceIte,za,hlen,t4,t5,e3,e4,s1,hS.flat.1,hS.flat.2];exact fin hrobj hS hO
  have hil:i<=s.length:=by
   have h1:=hnd c1;have h2:=hGB.n0 c1;have h3:=hGB.p1;omega
  obtain⟨m,hm⟩:∃m,s.length+2 - i=m+1:=⟨s.length+1 - i,by omega⟩;rw[hm,zb6,if_neg (fun h=>h c1)] at hrobj;simp only at hrobj;simp only[sxZ,z6,z7,z8,j4,j5,j6,j7,j8,j9,x6,x7,x8,x9,y4,y5,reduceCtorEq,↓reduceIte,za,hlen,t0,e1,c1];subst hZ;rw[za8];clear s1 s2 s3 e1 e4;refine zaa fun Z hZ=>?_;have hk1:∀t,t=ks->zkU ρ' T' t=(if T'.2.1∈ks then za3 (if ¬T'.1=3 then za3 ρ' T'.2.2 140 else ρ') T'.2.2 143 else if ¬T'.1=3 then za3 ρ' T'.2.2 140 else ρ'):=fun t h=>by rw[h];rfl
  have hk1:=hk1 ks rfl;have hGk:=gb_key hGB T' ks;have hnk:=rkey_n ρ' T' ks;generalize hρa:(if ¬T'.1=3 then za3 ρ' T'.2.2 140 else ρ')=ρa at hk1;refine zaL (fun o tm=>zaV ((p,zaR s ρa)::(qt,zba T')::(qv,jvB 7 X Y)::(qr,zvB)::(R1++(R2++L))) o/\tm.length=98/\tm[0]? = some (.p p 0)/\tm[1]? = some (.i .i64 (d:Int))/\tm[4]? = some (.p qr 0)/\tm[5]? = some (.p qv 0)/\tm[6]? = some (.p qt 0)) ?_ ?_
  ·refine zaa fun W hW=>?_
   by_cases c3:T'.1=3
   ·rw[if_neg (fun h=>h c3)] at hρa;subst hρa;simp only[sxZ,z6,z7,z8,j4,j5,j6,j7,j8,j9,x6,x7,x8,x9,y4,y5,reduceCtorEq,↓reduceIte,za,hlen,t6,e2,c3];subst hW;simp only[sxZ,z6,z7,z8,j4,j5,j6,j7,j8,j9,x6,x7,x8,x9,y4,y5,reduceCtorEq,↓reduceIte,zac,zh,za,hlen,t0,t1,t4,t5,t6,and_self,and_true];exact hO
   ·rw[if_pos c3] at hρa;simp only[sxZ,z6,z7,z8,j4,j5,j6,j7,j8,j9,x6,x7,x8,x9,y4,y5,reduceCtorEq,↓reduceIte,za,hlen,t6,e2,c3];subst hW;simp only[sxZ,z6,z7,z8,j4,j5,j6,j7,j8,j9,x6,x7,x8,x9,y4,y5,reduceCtorEq,↓reduceIte,za,hlen,t0,t6,e2];refine zae (zcN hO T'.2.2 140 fun o8 hO8=>?_);rw[hρa] at hO8;simp only[sxZ,z6,z7,z8,j4,j5,j6,j7,j8,j9,x6,x7,x8,x9,y4,y5,reduceCtorEq,↓reduceIte,zac,zh,za,hlen,t0,t1,t4,t5,t6,and_self,and_true];exact hO8
  clear hO hlen t0 t1 t4 t5 t6 e2 e3;rintro oa tm ⟨hO,hlen,t0,t1,t4,t5,t6⟩;subst hZ;refine zaa fun Z hZ=>?_;refine zaL (fun o tm=>zaV ((p,zaR s (zkU ρ' T' ks))::(qt,zba T')::(qv,jvB 7 X Y)::(qr,zvB)::(R1++(R2++L))) o/\tm.length=98/\tm[0]? = some (.p p 0)/\tm[1]? = some (.i .i64 (d:Int))/\tm[4]? = some (.p qr 0)/\tm[5]? = some (.p qv 0)/\tm[6]? = some (.p qt 0)) ?_ ?_
  ·obtain⟨e1,e2,e3,e4,s1,s2,s3⟩:=st _ _ _ _ _ _ _ hO;refine zaa fun W hW=>?_;have hPerm:((p,zaR s ρa)::(qt,zba T')::(qv,jvB 7 X Y)::(qr,zvB)::(R1++(R2++L))).Perm (R1++(R2++((p,zaR s ρa)::(qt,zba T')::(qv,jvB 7 X Y)::(qr,zvB)::L))):=by
    have h0:∀(A B C:List (Nat×OB)),(A++(B++C)).Perm (B++(A++C)):=fun A B C=>by
     rw[<-zy,<-zy];exact qw.append_right C List.perm_append_comm
    refine(h0 [(p,zaR s ρa),(qt,zba T'),(qv,jvB 7 X Y),(qr,zvB)] R1 (R2++L)).trans ?_;exact qw.append_left R1 (h0 [(p,zaR s ρa),(qt,zba T'),(qv,jvB 7 X Y),(qr,zvB)] R2 L)
   simp only[sxZ,z6,z7,z8,j4,j5,j6,j7,j8,j9,x6,x7,x8,x9,y4,y5,reduceCtorEq,↓reduceIte,za,hlen,t5,t6,e2,e3];refine zae (znU ks its T'.2.1 (by omega) (by omega) hS.k hS.i (hO.perm hPerm) (fun hm o w ho=>?_) (fun hm o ho=>?_))
   ·have ho:=ho.perm hPerm.symm;rw[if_pos hm] at hk1;rw[zad];simp only[sxZ,z6,z7,z8,j4,j5,j6,j7,j8,j9,x6,x7,x8,x9,y4,y5,reduceCtorEq,↓reduceIte,za,hlen,gn1,sn1];have ho2:=ho.app [OB.box 25 [.i .i64 w.kind,.s w.text,.row w.keys.length (w.keys.map .s),.row w.items.length (zab w.items)]];obtain⟨e1',e2',e3',_,_,_,_⟩:=st _ _ _ _ _ _ _ ho2;subst hW;simp only[sxZ,z6,z7,z8,j4,j5,j6,j7,j8,j9,x6,x7,x8,x9,y4,y5,reduceCtorEq,↓reduceIte,za,hlen,t0,t6,e2'];refine zae (zcN ho2 T'.2.2 143 fun o8 hO8=>?_);rw[<-hk1] at hO8;simp only[sxZ,z6,z7,z8,j4,j5,j6,j7,j8,j9,x6,x7,x8,x9,y4,y5,reduceCtorEq,↓reduceIte,zac,zh,za,hlen,t0,t1,t4,t5,t6,and_self,and_true];exact hO8
   ·have ho:=ho.perm hPerm.symm;rw[if_neg hm] at hk1;simp only[sxZ,z6,z7,z8,j4,j5,j6,j7,j8,j9,x6,x7,x8,x9,y4,y5,reduceCtorEq,↓reduceIte,za,hlen,gn1,sn1];have ho2:=ho.app [OB.box 25 [.i .i64 0,.s [],.nil,.nil]];subst hW;rw[<-hk1] at ho2;simp only[sxZ,z6,z7,z8,j4,j5,j6,j7,j8,j9,x6,x7,x8,x9,y4,y5,reduceCtorEq,↓reduceIte,zac,zh,za,hlen,t0,t1,t4,t5,t6,and_self,and_true];exact ho2
  clear hO hlen t0 t1 t4 t5 t6 hk1 hρa;generalize zkU ρ' T' ks=ρk at hrobj hGk hnk;rintro ob tm ⟨hO,hlen,t0,t1,t4,t5,t6⟩;subst hZ;refine zaa fun Z hZ=>?_;obtain⟨e1,e2,e3,e4,s1,s2,s3⟩:=st _ _ _ _ _ _ _ hO;simp only[sxZ,z6,z7,z8,j4,j5,j6,j7,j8,j9,x6,x7,x8,x9,y4,y5,reduceCtorEq,↓reduceIte,za,hlen,t6,e2];refine zbK (fun tm=>tm.length=98/\tm[0]? = some (.p p 0)/\tm[1]? = some (.i .i64 (d:Int))/\tm[4]? = some (.p qr 0)/\tm[5]? = some (.p qv 0)/\tm[6]? = some (.p qt 0)/\tm[9]? = some (.s T'.2.1)) ?_ ?_
  ·simp only[sxZ,z6,z7,z8,j4,j5,j6,j7,j8,j9,x6,x7,x8,x9,y4,y5,reduceCtorEq,↓reduceIte,zh,za,hlen,t0,t1,t4,t5,t6,and_self]
  clear hlen t0 t1 t4 t5 t6;rintro tm ⟨hlen,t0,t1,t4,t5,t6,t9⟩;subst hZ;refine zaa fun Z hZ=>?_;refine zaa fun W0 hW0=>?_;simp only[sxZ,z6,z7,z8,j4,j5,j6,j7,j8,j9,x6,x7,x8,x9,y4,y5,reduceCtorEq,↓reduceIte,za,hlen,t0];refine zae (zc2 (by omega) hO fun o6 hO6=>?_);have hB_ρ2:=zbC hGk;have hT_ρ2:=zb0 hGk;have hn_ρ2:=zbs s ρk;have hz_ρ2:=zcH s ρk;generalize zag s ρk=N at hO6 hB_ρ2 hT_ρ2 hn_ρ2 hz_ρ2 hrobj ⊢;obtain⟨T2,ρ2⟩:=N;simp only at hO6 hB_ρ2 hT_ρ2 hn_ρ2 hz_ρ2 hrobj ⊢;obtain⟨e1,e2,e3,e4,s1,s2,s3⟩:=st _ _ _ _ _ _ _ hO6;unfold ziG tkC;simp only[sxZ,z6,z7,z8,j4,j5,j6,j7,j8,j9,x6,x7,x8,x9,y4,y5,reduceCtorEq,↓reduceIte,za,hlen,t6,e2,s2];rw[f1];have hO7:zaV ((p,zaR s ρ2)::(qt,zba T2)::(qv,jvB 7 X Y)::(qr,zvB)::(R1++(R2++L))) (o6.set qt (zba (T2.1,T2.2.1,T2.2.2))):=zaV.set (A:=[(p,zaR s ρ2)]) (zba T2) hO6;generalize o6.set qt (zba (T2.1,T2.2.1,T2.2.2))=o7 at hO7 ⊢;refine zbK (fun tm=>tm.length=98/\tm[0]? = some (.p p 0)/\tm[1]? = some (.i .i64 (d:Int))/\tm[4]? = some (.p qr 0)/\tm[5]? = some (.p qv 0)/\tm[6]? = some (.p qt 0)/\tm[9]? = some (.s T'.2.1)) ?_ ?_
  ·simp only[sxZ,z6,z7,z8,j4,j5,j6,j7,j8,j9,x6,x7,x8,x9,y4,y5,reduceCtorEq,↓reduceIte,zh,za,hlen,t0,t1,t4,t5,t6,t9,and_self]
  clear hO6 hO hlen t0 t1 t4 t5 t6 t9 e1 e2 e3 e4 s1 s2 s3;rintro tm ⟨hlen,t0,t1,t4,t5,t6,t9⟩;have hO:=hO7;clear hO7;subst hW0;refine zaL (fun o tm=>zaV ((p,zaR s (zbb ρ2 T2 58))::(qt,zba T2)::(qv,jvB 7 X Y)::(qr,zvB)::(R1++(R2++L))) o/\tm.length=98/\tm[0]? = some (.p p 0)/\tm[1]? = some (.i .i64 (d:Int))/\tm[4]? = some (.p qr 0)/\tm[5]? = some (.p qv 0)/\tm[6]? = some (.p qt 0)/\tm[9]? = some (.s T'.2.1)) ?_ ?_
  ·obtain⟨e1,e2,e3,e4,s1,s2,s3⟩:=st _ _ _ _ _ _ _ hO;refine zaa fun W hW=>?_
   by_cases c3:ρ2.fail=0
   rotate_left
   ·have hw:zbb ρ2 T2 58=ρ2:=by unfold zbb;rw[if_neg (fun h=>c3 h.1)]
    simp only[sxZ,z6,z7,z8,j4,j5,j6,j7,j8,j9,x6,x7,x8,x9,y4,y5,reduceCtorEq,↓reduceIte,za,hlen,t0,e1,c3];subst hW;simp only[sxZ,z6,z7,z8,j4,j5,j6,j7,j8,j9,x6,x7,x8,x9,y4,y5,reduceCtorEq,↓reduceIte,zac,zh,za,hlen,t0,t1,t4,t5,t6,t9,hw,and_self,and_true];exact hO
   ·simp only[sxZ,z6,z7,z8,j4,j5,j6,j7,j8,j9,x6,x7,x8,x9,y4,y5,reduceCtorEq,↓reduceIte,za,hlen,t0,t6,e1,e2,c3];refine zae (zgk T2 58 ?_)
    cases h44:isP T2 58 with
    | true=>
     have hw:zbb ρ2 T2 58=ρ2:=by unfold zbb;rw[if_neg (fun h=>by rw[h44] at h;cases h.2)]
     simp only[sxZ,z6,z7,z8,j4,j5,j6,j7,j8,j9,x6,x7,x8,x9,y4,y5,reduceCtorEq,↓reduceIte,za,hlen];subst hW;simp only[sxZ,z6,z7,z8,j4,j5,j6,j7,j8,j9,x6,x7,x8,x9,y4,y5,reduceCtorEq,↓reduceIte,zac,zh,za,hlen,t0,t1,t4,t5,t6,t9,hw,and_self,and_true];exact hO
    | false=>
     have hw:zbb ρ2 T2 58=za3 ρ2 T2.2.2 140:=by unfold zbb;rw[if_pos ⟨c3,h44⟩]
     simp only[sxZ,z6,z7,z8,j4,j5,j6,j7,j8,j9,x6,x7,x8,x9,y4,y5,reduceCtorEq,↓reduceIte,za,hlen];subst hW;simp only[sxZ,z6,z7,z8,j4,j5,j6,j7,j8,j9,x6,x7,x8,x9,y4,y5,reduceCtorEq,↓reduceIte,za,hlen,t0,t6,e2];refine zae (zcN hO T2.2.2 140 fun o8 hO8=>?_);simp only[sxZ,z6,z7,z8,j4,j5,j6,j7,j8,j9,x6,x7,x8,x9,y4,y5,reduceCtorEq,↓reduceIte,zac,zh,za,hlen,t0,t1,t4,t5,t6,t9,hw,and_self,and_true];exact hO8
  clear hO hlen t0 t1 t4 t5 t6 t9;rintro oc tm ⟨hO,hlen,t0,t1,t4,t5,t6,t9⟩;have hG3:=zfg hB_ρ2.1 T2 58;have hn3:=ze3 ρ2 T2 58;have hz3:=ze4 ρ2 T2 58;generalize zbb ρ2 T2 58=ρ3 at hO hG3 hn3 hz3 hrobj;subst hZ;refine zaa fun Z hZ=>?_;simp only[sxZ,z6,z7,z8,j4,j5,j6,j7,j8,j9,x6,x7,x8,x9,y4,y5,reduceCtorEq,↓reduceIte,za,hlen,t0];refine zae (zc2 (by omega) hO fun o6 hO6=>?_);have hB4:=zbC hG3;have hT4:=zb0 hG3;have hn4:=zbs s ρ3;have hz4:=zcH s ρ3;generalize zag s ρ3=N at hO6 hB4 hT4 hn4 hz4 hrobj ⊢;obtain⟨T4,ρ4⟩:=N;simp only at hO6 hB4 hT4 hn4 hz4 hrobj ⊢;have hvc:=fun {objs:List OB} {K:List OB->AV->Prop} {L:List (Nat×OB)} (h1) (h2) (h3)=>hv (objs:=objs) (K:=K) (L:=L) (ρ:=ρ4) T4 hB4.1 hB4.2 hT4 h1 h2 h3;have hg5:=hg ρ4 T4 hB4.1 hB4.2;have hn5:=hn ρ4 T4;have hz5:=hvz ρ4 T4;generalize val ρ4 T4=a at hvc hg5 hn5 hz5 hrobj;obtain⟨v,ρ5⟩:=a;simp only at hvc hg5 hn5 hz5 hrobj;obtain⟨c0,c1',c2,c3,hcv⟩:∃c0 c1 c2 c3,zap v=[c0,c1,c2,c3]:=⟨_,_,_,_,zad v⟩;have hcf:(AV.agg [c0,c1',c2,c3]).flat=true:=by
   have:=zad v;rw[hcv] at this;injection this with q0 this
   injection this with q1 this
   injection this with q2 this
   injection this with q3 _
   subst q0 q1 q2 q3
   rfl
  have hCL:zaU ((p,zaR s ρ4)::(qt,zba T2)::(qv,jvB 7 X Y)::(qr,zvB)::(R1++(R2++L))):=zhD hS.k hS.i hC;unfold ziG tkC;simp only[sxZ,z6,z7,z8,j4,j5,j6,j7,j8,j9,x6,x7,x8,x9,y4,y5,reduceCtorEq,↓reduceIte,za,hlen,t0,t1];refine zae (hvc hCL hO6 fun o7 hO7=>?_);rw[hcv];simp only[sxZ,z6,z7,z8,j4,j5,j6,j7,j8,j9,x6,x7,x8,x9,y4,y5,reduceCtorEq,↓reduceIte,za,hlen,gn1,sn1,hcf];have hO8:=hO7.new (.box 25 [c0,c1',c2,c3]);generalize o7.length=qi at hO8 ⊢;generalize o7++[OB.box 25 [c0,c1',c2,c3]]=o8 at hO8 ⊢;refine zbK (fun tm=>tm.length=98/\tm[0]? = some (.p p 0)/\tm[1]? = some (.i .i64 (d:Int))/\tm[4]? = some (.p qr 0)/\tm[5]? = some (.p qv 0)/\tm[6]? = some (.p qt 0)/\tm[9]? = some (.s T'.2.1)/\tm[10]? = some (.p qi 0)) ?_ ?_
  ·simp only[sxZ,z6,z7,z8,j4,j5,j6,j7,j8,j9,x6,x7,x8,x9,y4,y5,reduceCtorEq,↓reduceIte,zh,za,hlen,t0,t1,t4,t5,t6,t9,and_self]
  clear hO hO6 hO7 hlen t0 t1 t4 t5 t6 t9;rintro tm ⟨hlen,t0,t1,t4,t5,t6,t9,t10⟩;subst hZ;refine zaa fun Z hZ=>?_;have hO8p:zaV ((p,zaR s ρ5)::(qt,zba T2)::(qv,jvB 7 X Y)::(qr,zvB)::(R1++(R2++L))) o8:=hO8.sub (jm _ _);obtain⟨e1,e2,e3,e4,s1,s2,s3⟩:=st _ _ _ _ _ _ _ hO8p;have ei:=hO8.get (i:=qi) (x:=.box 25 [c0,c1',c2,c3]) (by simp);refine zaL (fun o tm=>∃X' R1' Y' R2',SlP (ks++[T'.2.1]) (its++[v]) X' R1' Y' R2'/\zaV ((p,zaR s ρ5)::(qt,zba T2)::(qv,jvB 7 X' Y')::(qr,zvB)::(R1'++(R2'++L))) o/\tm.length=98/\tm[0]? = some (.p p 0)/\tm[1]? = some (.i .i64 (d:Int))/\tm[4]? = some (.p qr 0)/\tm[5]? = some (.p qv 0)/\tm[6]? = some (.p qt 0)) ?_ ?_
  ·rcases hS with ⟨z1,z2,rfl,rfl,rfl,rfl⟩|⟨b1,g1,b2,g2,rfl,rfl,rfl,rfl⟩
   ·have hlq:=(zf.1 e3).1;have hli:=(zf.1 ei).1;have n1:¬qv=o8.length:=by omega
    have n2:¬qi=o8.length:=by omega
    have h1:∀x,(o8++[x])[qv]? = some (.box 25 [.i .i64 7,.s [],.nil,.nil]):=fun x=>by rw[qd hlq];exact e3
    have h2:∀x,(o8++[x])[qi]? = some (.box 25 [c0,c1',c2,c3]):=fun x=>by rw[qd hli];exact ei
    have h3:∀x y,(o8++[x]++[y])[qv]? = some (.box 25 [.i .i64 7,.s [],.nil,.nil]):=fun x y=>by rw[qd (by simp;omega)];exact h1 x
    have h4:∀x y z,((o8++[x]++[y]).set qv z)[qv]? = some z:=fun x y z=>zl (by simp;omega);subst z1 z2;simp only[sxZ,z6,z7,z8,j4,j5,j6,j7,j8,j9,x6,x7,x8,x9,y4,y5,reduceCtorEq,↓reduceIte,za,hlen,t5,t9,t10,e3,ei,gn1,sn1,h1,h2,h3,h4,n1,n2,zac,zh,List.set_set,t0,t1,t4,t6,and_self,and_true,not_false_eq_true,true_and];have hN:=(hO8p.new (.orow 9 1 0 1 [AV.s T'.2.1])).new (.orow 25 4 0 1 [c0,c1',c2,c3]);have elen:(o8++[OB.orow 9 1 0 1 [AV.s T'.2.1]]).length=o8.length+1:=by simp
    rw[elen] at hN;have hR:=hN.set (A:=[(o8.length+1,OB.orow 25 4 0 1 [c0,c1',c2,c3]),(o8.length,OB.orow 9 1 0 1 [AV.s T'.2.1]),(p,zaR s ρ5),(qt,zba T2)]) (jvB 7 (.orow o8.length 0) (.orow (o8.length+1) 0));refine⟨_,[(o8.length,OB.orow 9 1 0 1 [AV.s T'.2.1])],_,[(o8.length+1,OB.orow 25 4 0 1 [c0,c1',c2,c3])],.inr ⟨_,_,_,_,rfl,rfl,rfl,by rw[zaO,zaH,hcv];rfl⟩,hR.perm ?_⟩;refine(List.perm_append_comm (l₁:=[(o8.length+1,OB.orow 25 4 0 1 [c0,c1',c2,c3]),(o8.length,OB.orow 9 1 0 1 [AV.s T'.2.1])]) (l₂:=[(p,zaR s ρ5),(qt,zba T2),(qv,jvB 7 (.orow o8.length 0) (.orow (o8.length+1) 0)),(qr,zvB)])).append_right L |>.trans ?_;exact qw.cons _ (qw.cons _ (qw.cons _ (qw.cons _ (qw.swap _ _ _))))
   ·have eb1:=hO8.get (i:=b1) (x:=.orow 9 1 g1 ks.length (ks.map .s)) (by simp);have eb2:=hO8.get (i:=b2) (x:=.orow 25 4 g2 its.length (zab its)) (by simp);have hlq:=(zf.1 e3).1;have hl1:=(zf.1 eb1).1;have hl2:=(zf.1 eb2).1;have hnd8:=hO8.1;simp only[zo,jg,qb,xy,qy,ja,zv,zq,jz,or_false,not_or] at hnd8;have n1:¬qv=b1:=hnd8.2.2.2.1.2.1;have n2:¬qi=b1:=hnd8.1.2.2.2.2.1;have n3:¬b1=b2:=hnd8.2.2.2.2.2.1.1;have n4:¬qv=b2:=hnd8.2.2.2.1.2.2.1;have n1':¬b1=qv:=fun h=>n1 h.symm;have n2':¬b1=qi:=fun h=>n2 h.symm;have n4':¬b2=qv:=fun h=>n4 h.symm;have h0:∀x,(o8.set b1 x)[b1]? = some x:=fun x=>zl hl1;have h1:∀x,(o8.set b1 x)[qv]? = some (.box 25 [.i .i64 7,.s [],.orow b1 g1,.orow b2 g2]):=fun x=>by rw[zi n1'];exact e3
    have h2:∀x,(o8.set b1 x)[qi]? = some (.box 25 [c0,c1',c2,c3]):=fun x=>by rw[zi n2'];exact ei
    have h5:∀x,(o8.set b1 x)[b2]? = some (.orow 25 4 g2 its.length (zab its)):=fun x=>by rw[zi n3];exact eb2
    have h3:∀x y,((o8.set b1 x).set b2 y)[qv]? = some (.box 25 [.i .i64 7,.s [],.orow b1 g1,.orow b2 g2]):=fun x y=>by rw[zi n4'];exact h1 x
    have h4:∀x y z,(((o8.set b1 x).set b2 y).set qv z)[qv]? = some z:=fun x y z=>zl (by simp;omega);have hjl:=zaI its;simp only[sxZ,z6,z7,z8,j4,j5,j6,j7,j8,j9,x6,x7,x8,x9,y4,y5,reduceCtorEq,↓reduceIte,za,hlen,t5,t9,t10,e3,ei,eb1,h0,h1,h2,h3,h4,h5,n1,n2,zac,zh,List.set_set,t0,t1,t4,t6,and_self,and_true,not_false_eq_true,true_and];refine⟨⟨by omega,by omega⟩,⟨by omega,by omega⟩,?_⟩;have hN:=hO8p.set (A:=[(p,zaR s ρ5),(qt,zba T2),(qv,jvB 7 (.orow b1 g1) (.orow b2 g2)),(qr,zvB)]) (.orow 9 1 (g1+1) (ks.length+1) (ks.map AV.s++[AV.s T'.2.1]));have hN:=hN.set (A:=[(p,zaR s ρ5),(qt,zba T2),(qv,jvB 7 (.orow b1 g1) (.orow b2 g2)),(qr,zvB),(b1,OB.orow 9 1 (g1+1) (ks.length+1) (ks.map AV.s++[AV.s T'.2.1]))]) (.orow 25 4 (g2+1) (its.length+1) (zab its++[c0,c1',c2,c3]));have hR:=hN.set (A:=[(p,zaR s ρ5),(qt,zba T2)]) (jvB 7 (.orow b1 (g1+1)) (.orow b2 (g2+1)));exact⟨_,[(b1,OB.orow 9 1 (g1+1) (ks.length+1) (ks.map AV.s++[AV.s T'.2.1]))],_,[(b2,OB.orow 25 4 (g2+1) (its.length+1) (zab its++[c0,c1',c2,c3]))],.inr ⟨_,_,_,_,rfl,by rw[jg,zk];rfl,rfl,by rw[zgA,zaO,zaH,hcv,zk];rfl⟩,hR⟩
  clear hO8 hO8p hS hlen t0 t1 t4 t5 t6 t9 t10 e1 e2 e3 e4 s1 s2 s3 ei hCL hvc hv hg hn hcf hB hGB hTx;rintro oc tm ⟨X',R1',Y',R2',hS,hO,hlen,t0,t1,t4,t5,t6⟩;subst hZ;refine zaa fun Z hZ=>?_;simp only[sxZ,z6,z7,z8,j4,j5,j6,j7,j8,j9,x6,x7,x8,x9,y4,y5,reduceCtorEq,↓reduceIte,za,hlen,t0];refine zae (zc2 (by omega) hO fun o6 hO6=>?_);have hB_ρ6:=zbC hg5;have hT_ρ6:=zb0 hg5;have hn_ρ6:=zbs s ρ5;have hz_ρ6:=zcH s ρ5;generalize zag s ρ5=N at hO6 hB_ρ6 hT_ρ6 hn_ρ6 hz_ρ6 hrobj ⊢;obtain⟨T6,ρ6⟩:=N;simp only at hO6 hB_ρ6 hT_ρ6 hn_ρ6 hz_ρ6 hrobj ⊢;obtain⟨e1,e2,e3,e4,s1,s2,s3⟩:=st _ _ _ _ _ _ _ hO6;unfold ziG tkC;simp only[sxZ,z6,z7,z8,j4,j5,j6,j7,j8,j9,x6,x7,x8,x9,y4,y5,reduceCtorEq,↓reduceIte,za,hlen,t6,e2,s2];rw[f1];have hO7:zaV ((p,zaR s ρ6)::(qt,zba T6)::(qv,jvB 7 X' Y')::(qr,zvB)::(R1'++(R2'++L))) (o6.set qt (zba (T6.1,T6.2.1,T6.2.2))):=zaV.set (A:=[(p,zaR s ρ6)]) (zba T6) hO6;generalize o6.set qt (zba (T6.1,T6.2.1,T6.2.2))=o7 at hO7 ⊢;refine zbK (fun tm=>tm.length=98/\tm[0]? = some (.p p 0)/\tm[1]? = some (.i .i64 (d:Int))/\tm[4]? = some (.p qr 0)/\tm[5]? = some (.p qv 0)/\tm[6]? = some (.p qt 0)) ?_ ?_
  ·simp only[sxZ,z6,z7,z8,j4,j5,j6,j7,j8,j9,x6,x7,x8,x9,y4,y5,reduceCtorEq,↓reduceIte,zh,za,hlen,t0,t1,t4,t5,t6,and_self]
  clear hO6 hO hlen t0 t1 t4 t5 t6 e1 e2 e3 e4 s1 s2 s3;rintro tm ⟨hlen,t0,t1,t4,t5,t6⟩;have hO:=hO7;clear hO7;subst hZ;refine zaa fun Z hZ=>?_;obtain⟨e1,e2,e3,e4,s1,s2,s3⟩:=st _ _ _ _ _ _ _ hO;simp only[sxZ,z6,z7,z8,j4,j5,j6,j7,j8,j9,x6,x7,x8,x9,y4,y5,reduceCtorEq,↓reduceIte,za,hlen,t6,e2];refine zae (zgk T6 125 ?_)
  cases hcl:isP T6 125 with
  | true=>
   rw[hcl,if_pos rfl] at hrobj;simp only[sxZ,z6,z7,z8,j4,j5,j6,j7,j8,j9,x6,x7,x8,x9,y4,y5,reduceCtorEq,↓reduceIte,za,hlen,t4,t5,e3,e4,s1,hS.flat.1,hS.flat.2];exact fin hrobj hS hO
  | false=>
  rw[hcl,if_neg Bool.false_ne_true] at hrobj;simp only[sxZ,z6,z7,z8,j4,j5,j6,j7,j8,j9,x6,x7,x8,x9,y4,y5,reduceCtorEq,↓reduceIte,za,hlen];refine zbK (fun tm=>tm.length=98/\tm[0]? = some (.p p 0)/\tm[1]? = some (.i .i64 (d:Int))/\tm[4]? = some (.p qr 0)/\tm[5]? = some (.p qv 0)/\tm[6]? = some (.p qt 0)) ?_ ?_
  ·simp only[sxZ,z6,z7,z8,j4,j5,j6,j7,j8,j9,x6,x7,x8,x9,y4,y5,reduceCtorEq,↓reduceIte,zh,za,hlen,t0,t1,t4,t5,t6,and_self]
  clear hlen t0 t1 t4 t5 t6 e1 e2 e3 e4 s1 s2 s3;rintro tm ⟨hlen,t0,t1,t4,t5,t6⟩;subst hZ;refine zaa fun Z hZ=>?_;refine zaL (fun o tm=>zaV ((p,zaR s (zbb ρ6 T6 44))::(qt,zba T6)::(qv,jvB 7 X' Y')::(qr,zvB)::(R1'++(R2'++L))) o/\tm.length=98/\tm[0]? = some (.p p 0)/\tm[1]? = some (.i .i64 (d:Int))/\tm[4]? = some (.p qr 0)/\tm[5]? = some (.p qv 0)/\tm[6]? = some (.p qt 0)) ?_ ?_
  ·obtain⟨e1,e2,e3,e4,s1,s2,s3⟩:=st _ _ _ _ _ _ _ hO;refine zaa fun W hW=>?_
   by_cases c3:ρ6.fail=0
   rotate_left
   ·have hw:zbb ρ6 T6 44=ρ6:=by unfold zbb;rw[if_neg (fun h=>c3 h.1)]
    simp only[sxZ,z6,z7,z8,j4,j5,j6,j7,j8,j9,x6,x7,x8,x9,y4,y5,reduceCtorEq,↓reduceIte,za,hlen,t0,e1,c3];subst hW;simp only[sxZ,z6,z7,z8,j4,j5,j6,j7,j8,j9,x6,x7,x8,x9,y4,y5,reduceCtorEq,↓reduceIte,zac,zh,za,hlen,t0,t1,t4,t5,t6,hw,and_self,and_true];exact hO
   ·simp only[sxZ,z6,z7,z8,j4,j5,j6,j7,j8,j9,x6,x7,x8,x9,y4,y5,reduceCtorEq,↓reduceIte,za,hlen,t0,t6,e1,e2,c3];refine zae (zgk T6 44 ?_)
    cases h44:isP T6 44 with
    | true=>
     have hw:zbb ρ6 T6 44=ρ6:=by unfold zbb;rw[if_neg (fun h=>by rw[h44] at h;cases h.2)]
     simp only[sxZ,z6,z7,z8,j4,j5,j6,j7,j8,j9,x6,x7,x8,x9,y4,y5,reduceCtorEq,↓reduceIte,za,hlen];subst hW;simp only[sxZ,z6,z7,z8,j4,j5,j6,j7,j8,j9,x6,x7,x8,x9,y4,y5,reduceCtorEq,↓reduceIte,zac,zh,za,hlen,t0,t1,t4,t5,t6,hw,and_self,and_true];exact hO
    | false=>
     have hw:zbb ρ6 T6 44=za3 ρ6 T6.2.2 140:=by unfold zbb;rw[if_pos ⟨c3,h44⟩]
     simp only[sxZ,z6,z7,z8,j4,j5,j6,j7,j8,j9,x6,x7,x8,x9,y4,y5,reduceCtorEq,↓reduceIte,za,hlen];subst hW;simp only[sxZ,z6,z7,z8,j4,j5,j6,j7,j8,j9,x6,x7,x8,x9,y4,y5,reduceCtorEq,↓reduceIte,za,hlen,t0,t6,e2];refine zae (zcN hO T6.2.2 140 fun o8 hO8=>?_);simp only[sxZ,z6,z7,z8,j4,j5,j6,j7,j8,j9,x6,x7,x8,x9,y4,y5,reduceCtorEq,↓reduceIte,zac,zh,za,hlen,t0,t1,t4,t5,t6,hw,and_self,and_true];exact hO8
  clear hO hlen t0 t1 t4 t5 t6;rintro oc tm ⟨hO,hlen,t0,t1,t4,t5,t6⟩;have hG7:=zfg hB_ρ6.1 T6 44;have hn7:=ze3 ρ6 T6 44;have hz7:=ze4 ρ6 T6 44;generalize zbb ρ6 T6 44=ρ7 at hO hG7 hn7 hz7 hrobj;subst hZ;simp only[sxZ,z6,z7,z8,j4,j5,j6,j7,j8,j9,x6,x7,x8,x9,y4,y5,reduceCtorEq,↓reduceIte,za,hlen,t0];refine zae (zc2 (by omega) hO fun o9 hO9=>?_);have hB8:=zbC hG7;have hT8:=zb0 hG7;have hn8:=zbs s ρ7;have hz8:=zcH s ρ7;generalize zag s ρ7=N at hO9 hB8 hT8 hn8 hz8 hrobj ⊢;obtain⟨T8,ρ8⟩:=N;simp only at hO9 hB8 hT8 hn8 hz8 hrobj ⊢;obtain⟨e1,e2,e3,e4,s1,s2,s3⟩:=st _ _ _ _ _ _ _ hO9;unfold ziG tkC;simp only[sxZ,z6,z7,z8,j4,j5,j6,j7,j8,j9,x6,x7,x8,x9,y4,y5,reduceCtorEq,↓reduceIte,za,hlen,t6,e2,s2];rw[f1];have hO10:zaV ((p,zaR s ρ8)::(qt,zba T8)::(qv,jvB 7 X' Y')::(qr,zvB)::(R1'++(R2'++L))) (o9.set qt (zba (T8.1,T8.2.1,T8.2.2))):=zaV.set (A:=[(p,zaR s ρ8)]) (zba T8) hO9;generalize o9.set qt (zba (T8.1,T8.2.1,T8.2.2))=o10 at hO10 ⊢;have zz:∀{a b:Rs},zmZ a b->b.fail=0->a.fail=0:=fun {a b} h hb=>by
   by_cases c:a.fail=0
   ·exact c
   ·exact absurd ((h c).1.symm.trans hb) c
  refine⟨m,by omega,i+1,ρ8,T8,ks++[T'.2.1],its++[v],X',R1',Y',R2',by omega,by rw[zk,hi];rfl,by rw[zk,hi2];rfl,hrobj,hB8.1,hT8,fun hf=>?_,hS,hO10,?_⟩
  ·have q7:=zz hz8 hf;have q6:=zz hz7 q7;have q5:=zz hz_ρ6 q6;have q4:=zz hz5 q5;have:=hn5 q5;have:=hnd c1;omega
  ·simp only[sxZ,z6,z7,z8,j4,j5,j6,j7,j8,j9,x6,x7,x8,x9,y4,y5,reduceCtorEq,↓reduceIte,zh,za,hlen,t0,t1,t4,t5,t6,and_self]
end
end
section
attribute [local irreducible] run
theorem zmS {L L':List (Nat×OB)} (h:zaU L) (hm:∀y,y∈L'↔y∈L):zaU L':=fun y hy b g n xs hb=>h y ((hm y).1 hy) b g n xs fun z hz=>hb z ((hm z).2 hz)
theorem zfl {x:Nat×OB} {i T:Nat} {cs:List AV} {L:List (Nat×OB)} (h:zaU (x::L)) (hp:zao cs=true):zaU (x::(i,.box T cs)::L) :=
 zmS (zdS (i:=i) (T:=T) h hp) fun y=>by simp only[zv];exact⟨fun h=>by rcases h with h|h|h<;>simp[h],fun h=>by rcases h with h|h|h<;>simp[h]⟩
theorem den_leaf {k:Int} {x:List UInt8} {G:Gh} {I:Imm} {y:Value} (h:Den G I (.agg [.i .i64 k,.s x,.nil,.nil]) y):Den G I (.agg (zap (.mk k x [] []))) y:=by
 rw[zap,zaH];simp only[zaj,Den] at h ⊢;obtain⟨zs,rfl,⟨z0,m0,rfl,q0,z1,m1,rfl,q1,z2,m2,rfl,q2,z3,m3,rfl,q3,q4⟩,hz⟩:=h;refine⟨_,rfl,⟨_,_,rfl,q0,_,_,rfl,q1,_,_,rfl,?_,_,_,rfl,?_,q4⟩,hz⟩
 ·exact⟨none,0,[],q2,⟨ze _,fun ad h=>by cases h⟩,rfl,by simp,by simp⟩
 ·exact⟨none,0,[],q3,⟨ze _,fun ad h=>by cases h⟩,rfl,by simp,by simp⟩
def Res (K:List OB->AV->Prop) (v:JV) (o:List OB) (r:AV):Prop:=(∀G I y,Den G I r y->Den G I (.agg (zap v)) y)/\K o (.agg (zap v))
theorem zeA {K:List OB->AV->Prop} {k:Int} {x:List UInt8} {o:List OB} (h:K o (.agg (zap (.mk k x [] [])))):Res K (.mk k x [] []) o (.agg [.i .i64 k,.s x,.nil,.nil]):=⟨fun _ _ _ hy=>den_leaf hy,h⟩
section
variable [Tabs Tryz.prog] [Utf Tryz.prog] {p:Nat} {s:List UInt8}
theorem value_k (hs:s.length<=1048576):∀f d,f+d=65->d<=64->ValK s p d (fun ρ t=>zav s f ρ t d):=by
 intro f
 induction f with
 | zero=>intro d hd hd2;omega
 | succ f ih=>
  intro d hd hd2;unfold ValK;intro objs K L ρ t hB hT hTx hC hO hk;dsimp only at hk;refine jres (.agg (zap (zav s (f+1) ρ t d).1)) ?_;show zaf _ _ _ _ (Res K (zav s (f+1) ρ t d).1);refine zcu is_ref14_parser_value fun C _=>?_;obtain⟨k5,k4,kw,k6,k7,kw2⟩:=vk_kind (t:=t);rw[c_ref14_parser_value];refine zaa fun Z hZ=>?_;unfold ziG tkC;simp only[sxZ,z6,z7,z8,j4,j5,j6,j7,j8,j9,x6,x7,x8,x9,y4,y5,reduceCtorEq,↓reduceIte];have hO1:=(hO.new (zba t)).new zvB;have elen:(objs++[zba t]).length=objs.length+1:=by simp
  rw[elen] at hO1;unfold zba tkC zvB at hO1;generalize objs.length=qt at hO1 ⊢;generalize objs++[OB.box 56 [.i .i64 t.1,.s t.2.1,.i .i64 t.2.2]]++[OB.box 25 [.i .i64 0,.s [],.nil,.nil]]=o at hO1 ⊢;have hO1:zaV ((p,zaR s ρ)::(qt,zba t)::(qt+1,zvB)::L) o:=hO1.perm ((List.reverse_perm [(p,zaR s ρ),(qt,zba t),(qt+1,zvB)]).append_right L);generalize qt+1=qr at hO1 ⊢;have fin:∀(o:List OB) (ρ':Rs) (x:OB) (M:List (Nat×OB)),zaV ((p,zaR s ρ')::(qt,zba t)::(qr,zvB)::(M++L)) o->zaV ((p,zaR s ρ')::L) (o.set qr x):=fun o ρ' x M h=>(zaV.set (A:=[(p,zaR s ρ'),(qt,zba t)]) x h).sub ((((List.sublist_append_right M L).trans (jm _ _)).trans (jm _ _)).cons_cons _);have st:∀(o:List OB) (ρ':Rs) (M:List (Nat×OB)),zaV ((p,zaR s ρ')::(qt,zba t)::(qr,zvB)::(M++L)) o->o[p]? = some (.box 53 [.s s,.i .i64 ρ'.pos,.i .i64 (ρ'.nodes:Int),.i .i64 ρ'.fail,.i .i64 ρ'.wh])/\o[qt]? = some (.box 56 [.i .i64 t.1,.s t.2.1,.i .i64 t.2.2])/\o[qr]? = some (.box 25 [.i .i64 0,.s [],.nil,.nil])/\(∀x,(o.set qr x)[qr]? = some x) :=
   fun o ρ' M h=>⟨h.get (by simp[zaR]),h.get (by simp[zba,tkC]),h.get (by simp[zvB]),fun x=>zl (h.lt (i:=qr) (x:=zvB) (by simp))⟩
  have hO1:zaV ((p,zaR s ρ)::(qt,zba t)::(qr,zvB)::([]++L)) o:=hO1;obtain⟨e1,e2,e3,s1⟩:=st _ _ _ hO1;subst hZ;refine zaa fun Z hZ=>?_;refine zaL (fun o' tm=>o=o'/\tm.length=117/\tm[0]? = some (.p p 0)/\tm[2]? = some (.i .i64 (d:Int))/\tm[4]? = some (.p qt 0)/\tm[6]? = some (.p qr 0)/\tm[7]? = some (.b (!decide (vkE t=0)))) ?_ ?_
  ·by_cases a3:t.1=3
   ·have hv:¬vkE t=0:=by have:=k5.2 a3;omega
    simp only[sxZ,z6,z7,z8,j4,j5,j6,j7,j8,j9,x6,x7,x8,x9,y4,y5,reduceCtorEq,↓reduceIte,e2,a3,zac,hv,decide_false,Bool.not_false,and_self]
   by_cases a4:t.1=4
   ·have hv:¬vkE t=0:=by have:=k4.2 a4;omega
    simp only[sxZ,z6,z7,z8,j4,j5,j6,j7,j8,j9,x6,x7,x8,x9,y4,y5,reduceCtorEq,↓reduceIte,e2,a3,a4,zac,hv,decide_false,Bool.not_false,and_self]
   by_cases a5:t.1=5
   ·have hv:¬vkE t=0:=by have:=kw.2 a5;omega
    simp only[sxZ,z6,z7,z8,j4,j5,j6,j7,j8,j9,x6,x7,x8,x9,y4,y5,reduceCtorEq,↓reduceIte,e2,a3,a4,a5,zac,hv,decide_false,Bool.not_false,and_self]
   simp only[sxZ,z6,z7,z8,j4,j5,j6,j7,j8,j9,x6,x7,x8,x9,y4,y5,reduceCtorEq,↓reduceIte,e2,a3,a4,a5];refine zae (zgk t 91 ?_)
   cases h91:isP t 91 with
   | true=>
    have hv:¬vkE t=0:=by have:=k6.2 h91;omega
    simp only[sxZ,z6,z7,z8,j4,j5,j6,j7,j8,j9,x6,x7,x8,x9,y4,y5,reduceCtorEq,↓reduceIte,zac,hv,decide_false,Bool.not_false,and_self]
   | false=>
    simp only[sxZ,z6,z7,z8,j4,j5,j6,j7,j8,j9,x6,x7,x8,x9,y4,y5,reduceCtorEq,↓reduceIte,e2];refine zae (zgk t 123 ?_)
    cases h123:isP t 123 with
    | true=>
     have hv:¬vkE t=0:=by have:=k7.2 h123;omega
     simp only[sxZ,z6,z7,z8,j4,j5,j6,j7,j8,j9,x6,x7,x8,x9,y4,y5,reduceCtorEq,↓reduceIte,zac,hv,decide_false,Bool.not_false,and_self]
    | false=>
     have hv:vkE t=0:=by
      have n5:¬vkE t=5:=fun h=>a3 (k5.1 h);have n4:¬vkE t=4:=fun h=>a4 (k4.1 h);have nw:¬(vkE t=1\/vkE t=2\/vkE t=3):=fun h=>a5 (kw.1 h);have n6:¬vkE t=6:=fun h=>by rw[k6.1 h] at h91;cases h91
      have n7:¬vkE t=7:=fun h=>by rw[k7.1 h] at h123;cases h123
      have:=vk_val t;omega
     simp only[sxZ,z6,z7,z8,j4,j5,j6,j7,j8,j9,x6,x7,x8,x9,y4,y5,reduceCtorEq,↓reduceIte,zac,hv,decide_true,Bool.not_true,and_self]
  rintro o' tm ⟨rfl,hlen,t0,t2,t4,t6,t7⟩;subst hZ;refine zaa fun Z hZ=>?_
  by_cases c0:ρ.fail=0
  rotate_left
  ·rw[zav,if_pos c0] at hk ⊢;simp only[sxZ,z6,z7,z8,j4,j5,j6,j7,j8,j9,x6,x7,x8,x9,y4,y5,reduceCtorEq,↓reduceIte,za,hlen,t0,t6,e1,e3,c0,s1];exact zeA (hk _ (fin _ _ _ _ hO1))
  rw[zav,if_neg (fun h=>h c0)] at hk ⊢;simp only[sxZ,z6,z7,z8,j4,j5,j6,j7,j8,j9,x6,x7,x8,x9,y4,y5,reduceCtorEq,↓reduceIte,za,hlen,t0,e1,c0];subst hZ;refine zaa fun Z hZ=>?_
  by_cases cv:vkE t=0
  ·rw[if_pos cv] at hk ⊢;simp only[cv,decide_true,Bool.not_true] at t7;simp only[sxZ,z6,z7,z8,j4,j5,j6,j7,j8,j9,x6,x7,x8,x9,y4,y5,reduceCtorEq,↓reduceIte,za,hlen,t0,t4,t7,e2];refine zae (zcN hO1 t.2.2 140 fun o2 hO2=>?_);obtain⟨e1,e2,e3,s1⟩:=st _ _ _ hO2;simp only[sxZ,z6,z7,z8,j4,j5,j6,j7,j8,j9,x6,x7,x8,x9,y4,y5,reduceCtorEq,↓reduceIte,za,hlen,t6,e3,s1];exact zeA (hk _ (fin _ _ _ _ hO2))
  rw[if_neg cv] at hk ⊢;simp only[cv,decide_false,Bool.not_false] at t7;simp only[sxZ,z6,z7,z8,j4,j5,j6,j7,j8,j9,x6,x7,x8,x9,y4,y5,reduceCtorEq,↓reduceIte,za,hlen,t7];subst hZ;refine zaa fun Z hZ=>?_
  by_cases c2:t.1=2/\d=64
  ·rw[if_pos c2] at hk ⊢;have c2b:(d:Int)=64:=by omega
   have c2a:=c2.1;simp only[sxZ,z6,z7,z8,j4,j5,j6,j7,j8,j9,x6,x7,x8,x9,y4,y5,reduceCtorEq,↓reduceIte,za,hlen,t0,t2,t4,e2,c2a,c2b];refine zae (zcN hO1 t.2.2 141 fun o2 hO2=>?_);obtain⟨e1,e2,e3,s1⟩:=st _ _ _ hO2;simp only[sxZ,z6,z7,z8,j4,j5,j6,j7,j8,j9,x6,x7,x8,x9,y4,y5,reduceCtorEq,↓reduceIte,za,hlen,t6,e3,s1];exact zeA (hk _ (fin _ _ _ _ hO2))
  rw[if_neg c2] at hk ⊢;refine zaL (fun o' tm=>o=o'/\tm.length=117/\tm[0]? = some (.p p 0)/\tm[2]? = some (.i .i64 (d:Int))/\tm[4]? = some (.p qt 0)/\tm[6]? = some (.p qr 0)) ?_ ?_
  ·by_cases c2a:t.1=2
   ·have c2b:¬(d:Int)=64:=fun h=>c2 ⟨c2a,by omega⟩;simp only[sxZ,z6,z7,z8,j4,j5,j6,j7,j8,j9,x6,x7,x8,x9,y4,y5,reduceCtorEq,↓reduceIte,za,hlen,t0,t2,t4,t6,e2,c2a,c2b,zac,zh,and_self]
   ·simp only[sxZ,z6,z7,z8,j4,j5,j6,j7,j8,j9,x6,x7,x8,x9,y4,y5,reduceCtorEq,↓reduceIte,za,hlen,t0,t2,t4,t6,e2,c2a,zac,zh,and_self]
  clear hlen t0 t2 t4 t6 t7;rintro o' tm ⟨rfl,hlen,t0,t2,t4,t6⟩;subst hZ;refine zaa fun Z hZ=>?_;have hO2:=hO1.new (.box 25 [.i .i64 5,.s t.2.1,.nil,.nil]);have hO2:zaV ((p,zaR s ρ)::(qt,zba t)::(qr,zvB)::([(o.length,.box 25 [.i .i64 5,.s t.2.1,.nil,.nil])]++L)) (o++[.box 25 [.i .i64 5,.s t.2.1,.nil,.nil]]):=hO2.perm (List.perm_middle (l₁:=[(p,zaR s ρ),(qt,zba t),(qr,zvB)])).symm;simp only[sxZ,z6,z7,z8,j4,j5,j6,j7,j8,j9,x6,x7,x8,x9,y4,y5,reduceCtorEq,↓reduceIte,za,hlen,t4,e2,gn1,sn1];have hqv:¬o.length=qt/\¬o.length=p:=by
   have h1:=hO1.lt (i:=qt) (x:=zba t) (by simp);have h2:=hO1.lt (i:=p) (x:=zaR s ρ) (by simp);omega
  generalize o.length=qv at hO2 hqv ⊢;generalize o++[OB.box 25 [.i .i64 5,.s t.2.1,.nil,.nil]]=o2 at hO2 ⊢;refine zbK (fun tm=>tm.length=117/\tm[0]? = some (.p p 0)/\tm[2]? = some (.i .i64 (d:Int))/\tm[4]? = some (.p qt 0)/\tm[6]? = some (.p qr 0)/\tm[8]? = some (.p qv 0)) ?_ ?_
  ·simp only[sxZ,z6,z7,z8,j4,j5,j6,j7,j8,j9,x6,x7,x8,x9,y4,y5,reduceCtorEq,↓reduceIte,zh,za,hlen,t0,t2,t4,t6,and_self]
  clear hlen t0 t2 t4 t6 e1 e2 e3 s1 hO1;rintro tm ⟨hlen,t0,t2,t4,t6,t8⟩;subst hZ;refine zaa fun Z hZ=>?_;have hcnt:zaZ ρ t=(if 20000<(if t.1=4/\¬(zc3 t.2.1).1=0 then za3 ρ t.2.2 (zc3 t.2.1).1 else ρ).nodes+1 then za3 ⟨(if t.1=4/\¬(zc3 t.2.1).1=0 then za3 ρ t.2.2 (zc3 t.2.1).1 else ρ).pos,(if t.1=4/\¬(zc3 t.2.1).1=0 then za3 ρ t.2.2 (zc3 t.2.1).1 else ρ).nodes+1,(if t.1=4/\¬(zc3 t.2.1).1=0 then za3 ρ t.2.2 (zc3 t.2.1).1 else ρ).fail,(if t.1=4/\¬(zc3 t.2.1).1=0 then za3 ρ t.2.2 (zc3 t.2.1).1 else ρ).wh⟩ t.2.2 142 else ⟨(if t.1=4/\¬(zc3 t.2.1).1=0 then za3 ρ t.2.2 (zc3 t.2.1).1 else ρ).pos,(if t.1=4/\¬(zc3 t.2.1).1=0 then za3 ρ t.2.2 (zc3 t.2.1).1 else ρ).nodes+1,(if t.1=4/\¬(zc3 t.2.1).1=0 then za3 ρ t.2.2 (zc3 t.2.1).1 else ρ).fail,(if t.1=4/\¬(zc3 t.2.1).1=0 then za3 ρ t.2.2 (zc3 t.2.1).1 else ρ).wh⟩):=rfl;have hxn:(if t.1=4/\¬(zc3 t.2.1).1=0 then za3 ρ t.2.2 (zc3 t.2.1).1 else ρ).nodes=ρ.nodes:=by
   split
   ·exact zei _ _ _
   ·rfl
  generalize hx:(if t.1=4/\¬(zc3 t.2.1).1=0 then za3 ρ t.2.2 (zc3 t.2.1).1 else ρ)=x at hcnt hxn;refine zaL (fun o tm=>zaV ((p,zaR s x)::(qt,zba t)::(qr,zvB)::([(qv,.box 25 [.i .i64 (if t.1=4 then 4 else 5),.s (if t.1=4 then (zc3 t.2.1).2 else t.2.1),.nil,.nil])]++L)) o/\tm.length=117/\tm[0]? = some (.p p 0)/\tm[2]? = some (.i .i64 (d:Int))/\tm[4]? = some (.p qt 0)/\tm[6]? = some (.p qr 0)/\tm[8]? = some (.p qv 0)) ?_ ?_
  ·obtain⟨e1,e2,e3,s1⟩:=st _ _ _ hO2
   by_cases a4:t.1=4
   rotate_left
   ·rw[if_neg (fun h=>a4 h.1)] at hx;subst hx;simp only[sxZ,z6,z7,z8,j4,j5,j6,j7,j8,j9,x6,x7,x8,x9,y4,y5,reduceCtorEq,↓reduceIte,za,hlen,t0,t2,t4,t6,t8,e2,a4,zac,zh,and_self,and_true,if_false];exact hO2
   have eqv:=hO2.get (i:=qv) (x:=.box 25 [.i .i64 5,.s t.2.1,.nil,.nil]) (by simp);simp only[sxZ,z6,z7,z8,j4,j5,j6,j7,j8,j9,x6,x7,x8,x9,y4,y5,reduceCtorEq,↓reduceIte,za,hlen,t4,e2,a4];refine zae (zny t.2.1 (by omega) ?_)
   by_cases cn:(zc3 t.2.1).1=0
   ·rw[if_neg (fun h=>h.2 cn)] at hx;subst hx;simp only[sxZ,z6,z7,z8,j4,j5,j6,j7,j8,j9,x6,x7,x8,x9,y4,y5,reduceCtorEq,↓reduceIte,za,hlen,t0,t2,t4,t6,t8,cn,eqv,zac,zh,and_self,and_true,if_pos];exact zaV.set (A:=[(p,zaR s ρ),(qt,zba t),(qr,zvB)]) (.box 25 [.i .i64 4,.s (zc3 t.2.1).2,.nil,.nil]) hO2
   ·rw[if_pos ⟨a4,cn⟩] at hx;simp only[sxZ,z6,z7,z8,j4,j5,j6,j7,j8,j9,x6,x7,x8,x9,y4,y5,reduceCtorEq,↓reduceIte,za,hlen,t0,t4,e2,cn];refine zae (zcN hO2 t.2.2 (zc3 t.2.1).1 fun o3 hO3=>?_);rw[hx] at hO3;have eqv:=hO3.get (i:=qv) (x:=.box 25 [.i .i64 5,.s t.2.1,.nil,.nil]) (by simp);simp only[sxZ,z6,z7,z8,j4,j5,j6,j7,j8,j9,x6,x7,x8,x9,y4,y5,reduceCtorEq,↓reduceIte,za,hlen,t0,t2,t4,t6,t8,eqv,zac,zh,and_self,and_true,if_pos];exact zaV.set (A:=[(p,zaR s x),(qt,zba t),(qr,zvB)]) (.box 25 [.i .i64 4,.s (zc3 t.2.1).2,.nil,.nil]) hO3
  clear hlen t0 t2 t4 t6 t8 hO2 hx;generalize hkk:(if t.1=4 then (4:Int) else 5)=kk;generalize hxx:(if t.1=4 then (zc3 t.2.1).2 else t.2.1)=xx;rintro o3 tm ⟨hO3,hlen,t0,t2,t4,t6,t8⟩;subst hZ;refine zaa fun Z hZ=>?_;have f2:∀b:Rs,OB.box 53 [.s s,.i .i64 b.pos,.i .i64 ((b.nodes:Int)+1),.i .i64 b.fail,.i .i64 b.wh]=zaR s ⟨b.pos,b.nodes+1,b.fail,b.wh⟩:=fun _=>rfl;have hnb:=hB.n1;refine zaL (fun o tm=>zaV ((p,zaR s (zaZ ρ t))::(qt,zba t)::(qr,zvB)::([(qv,.box 25 [.i .i64 kk,.s xx,.nil,.nil])]++L)) o/\tm.length=117/\tm[0]? = some (.p p 0)/\tm[2]? = some (.i .i64 (d:Int))/\tm[4]? = some (.p qt 0)/\tm[6]? = some (.p qr 0)/\tm[8]? = some (.p qv 0)) ?_ ?_
  ·obtain⟨e1,e2,e3,s1⟩:=st _ _ _ hO3;refine zaa fun W hW=>?_;simp only[sxZ,z6,z7,z8,j4,j5,j6,j7,j8,j9,x6,x7,x8,x9,y4,y5,reduceCtorEq,↓reduceIte,za,hlen,t0,e1];refine⟨⟨by omega,by omega⟩,?_⟩;rw[f2];have hO4:=zaV.set (A:=[]) (zaR s ⟨x.pos,x.nodes+1,x.fail,x.wh⟩) hO3;have hO4:zaV ((p,zaR s ⟨x.pos,x.nodes+1,x.fail,x.wh⟩)::(qt,zba t)::(qr,zvB)::([(qv,.box 25 [.i .i64 kk,.s xx,.nil,.nil])]++L)) (o3.set p (zaR s ⟨x.pos,x.nodes+1,x.fail,x.wh⟩)):=hO4;generalize o3.set p (zaR s ⟨x.pos,x.nodes+1,x.fail,x.wh⟩)=o4 at hO4 ⊢;obtain⟨e1,e2,e3,s1⟩:=st _ _ _ hO4;subst hW
   by_cases c7:20000<x.nodes+1
   ·rw[if_pos c7] at hcnt;have c7':(20000:Int)<((x.nodes+1:Nat):Int):=by omega
    simp only[sxZ,z6,z7,z8,j4,j5,j6,j7,j8,j9,x6,x7,x8,x9,y4,y5,reduceCtorEq,↓reduceIte,za,hlen,t0,t2,t4,t6,e1,e2,c7'];refine zae (zcN hO4 t.2.2 142 fun o5 hO5=>?_);rw[<-hcnt] at hO5;simp only[sxZ,z6,z7,z8,j4,j5,j6,j7,j8,j9,x6,x7,x8,x9,y4,y5,reduceCtorEq,↓reduceIte,za,hlen,t0,t2,t4,t6,t8,zac,zh,and_self,and_true];exact hO5
   ·rw[if_neg c7] at hcnt;have c7':¬(20000:Int)<((x.nodes+1:Nat):Int):=by omega
    rw[<-hcnt] at hO4;simp only[sxZ,z6,z7,z8,j4,j5,j6,j7,j8,j9,x6,x7,x8,x9,y4,y5,reduceCtorEq,↓reduceIte,za,hlen,t0,t2,t4,t6,t8,e1,c7',zac,zh,and_self,and_true];exact hO4
  clear hO3 hlen t0 t2 t4 t6 t8 hcnt hxn x;rintro o4 tm ⟨hO4,hlen,t0,t2,t4,t6,t8⟩;have hGc:=zlE hB hT (vk_end cv) c0;have hGv:GV s (fun ρ t=>zav s f ρ t (d+1)):=zfV s f (d+1);generalize zaZ ρ t=ρc at hO4 hGc hk ⊢;obtain⟨e1,e2,e3,s1⟩:=st _ _ _ hO4;subst hZ;refine zaa fun Z hZ=>?_;rw[za8];have hCa:zaU ((p,zaR s ρc)::(qt,zba t)::(qr,zvB)::([(qv,.box 25 [.i .i64 kk,.s xx,.nil,.nil])]++L)):=zfl (zfl (zfl (zgR hC) rfl) rfl) rfl
  by_cases a5:t.1=5
  ·rw[if_pos a5] at hk ⊢;simp only[sxZ,z6,z7,z8,j4,j5,j6,j7,j8,j9,x6,x7,x8,x9,y4,y5,reduceCtorEq,↓reduceIte,za,hlen,t4,e2,a5];refine zae (rword_k t.2.1 ?_);simp only[sxZ,z6,z7,z8,j4,j5,j6,j7,j8,j9,x6,x7,x8,x9,y4,y5,reduceCtorEq,↓reduceIte,za,hlen,t6,e3,s1];exact zeA (hk _ (fin _ _ _ _ hO4))
  rw[if_neg a5] at hk ⊢;simp only[sxZ,z6,z7,z8,j4,j5,j6,j7,j8,j9,x6,x7,x8,x9,y4,y5,reduceCtorEq,↓reduceIte,za,hlen,t4,e2,a5];refine zae (zgk t 91 ?_)
  cases h91:isP t 91 with
  | true=>
   have h2:=(zlA h91).1;have hd3:d<64:=by
    rcases Nat.lt_or_ge d 64 with h|h
    ·exact h
    ·exact absurd ⟨h2,by omega⟩ c2
   have hval:ValK s p (d+1) (fun ρ t=>zav s f ρ t (d+1)):=ih (d+1) (by omega) (by omega);have hn1:=fun ρ t=>(zhY s f (d+1)).2 ρ t (by omega);rw[h91] at hk;rw[if_pos rfl] at hk ⊢;simp only[sxZ,z6,z7,z8,j4,j5,j6,j7,j8,j9,x6,x7,x8,x9,y4,y5,reduceCtorEq,↓reduceIte,za,hlen,t0,t2];refine⟨⟨by omega,by omega⟩,?_⟩;rw[show ((d:Int)+1)=((d+1:Nat):Int) from rfl];refine zae (array_k hval hGv hn1 hs hGc hCa hO4 fun o9 hO9=>?_);obtain⟨e1,e2,e3,s1⟩:=st _ _ _ hO9;generalize (zgV s (fun ρ t=>zav s f ρ t (d+1)) ρc).1=v at hk ⊢;have hk2:=hk _ (fin _ _ (.box 25 (zap v)) _ hO9);have hjc:=zad v;rw[hjc] at hk2 ⊢;simp only[sxZ,z6,z7,z8,j4,j5,j6,j7,j8,j9,x6,x7,x8,x9,y4,y5,reduceCtorEq,↓reduceIte,za,hlen,t6,e3,s1];exact⟨fun G I y hy=>by rw[hjc];exact hy,by rw[hjc];exact hk2⟩
  | false=>
  rw[h91] at hk;rw[if_neg Bool.false_ne_true] at hk ⊢;simp only[sxZ,z6,z7,z8,j4,j5,j6,j7,j8,j9,x6,x7,x8,x9,y4,y5,reduceCtorEq,↓reduceIte,za,hlen,t4,e2];refine zae (zgk t 123 ?_)
  cases h123:isP t 123 with
  | true=>
   have h2:=(zlA h123).1;have hd3:d<64:=by
    rcases Nat.lt_or_ge d 64 with h|h
    ·exact h
    ·exact absurd ⟨h2,by omega⟩ c2
   have hval:ValK s p (d+1) (fun ρ t=>zav s f ρ t (d+1)):=ih (d+1) (by omega) (by omega);have hn1:=fun ρ t=>(zhY s f (d+1)).2 ρ t (by omega);rw[h123] at hk;rw[if_pos rfl] at hk ⊢;simp only[sxZ,z6,z7,z8,j4,j5,j6,j7,j8,j9,x6,x7,x8,x9,y4,y5,reduceCtorEq,↓reduceIte,za,hlen,t0,t2];refine⟨⟨by omega,by omega⟩,?_⟩;rw[show ((d:Int)+1)=((d+1:Nat):Int) from rfl];refine zae (object_k hval hGv hn1 (fun ρ t=>zjR s f ρ t (d+1)) hs hGc hCa hO4 fun o9 hO9=>?_);obtain⟨e1,e2,e3,s1⟩:=st _ _ _ hO9;generalize (zgY s (fun ρ t=>zav s f ρ t (d+1)) ρc).1=v at hk ⊢;have hk2:=hk _ (fin _ _ (.box 25 (zap v)) _ hO9);have hjc:=zad v;rw[hjc] at hk2 ⊢;simp only[sxZ,z6,z7,z8,j4,j5,j6,j7,j8,j9,x6,x7,x8,x9,y4,y5,reduceCtorEq,↓reduceIte,za,hlen,t6,e3,s1];exact⟨fun G I y hy=>by rw[hjc];exact hy,by rw[hjc];exact hk2⟩
  | false=>
  rw[h123] at hk;rw[if_neg Bool.false_ne_true] at hk ⊢;have eqv:=hO4.get (i:=qv) (x:=.box 25 [.i .i64 kk,.s xx,.nil,.nil]) (by simp);simp only[sxZ,z6,z7,z8,j4,j5,j6,j7,j8,j9,x6,x7,x8,x9,y4,y5,reduceCtorEq,↓reduceIte,za,hlen];subst hZ;simp only[sxZ,z6,z7,z8,j4,j5,j6,j7,j8,j9,x6,x7,x8,x9,y4,y5,reduceCtorEq,↓reduceIte,za,hlen,t6,t8,eqv,e3,s1];have hkv:(if t.1=4 then (JV.mk 4 (zc3 t.2.1).2 [] [],ρc) else (JV.mk 5 t.2.1 [] [],ρc))=(JV.mk kk xx [] [],ρc):=by
   rw[<-hkk,<-hxx]
   split<;>rfl
  rw[hkv] at hk ⊢;exact zeA (hk _ (fin _ _ _ _ hO4))
end
end
section
attribute [local irreducible] run
section
variable [Tabs Tryz.prog] [Utf Tryz.prog] {objs:List OB} {K:List OB->AV->Prop}
theorem zkY (s:List UInt8) (hs:s.length<=1048576) (hk:K objs (zh8 (zcO s))):zaf Tryz.prog 9 [.s s] objs K:=by
 refine jres (zh8 (zcO s)) ?_;refine za4 is_ref14_Parse rfl fun C _=>?_;have hr:zcO s=(if 1048576<s.length then (jvZ,0,142) else
   if ¬(if (zag s (zav s 65 (zag s rs0).2 (zag s rs0).1 0).2).2.fail=0/\¬(zag s (zav s 65 (zag s rs0).2 (zag s rs0).1 0).2).1.1=1 then za3 (zag s (zav s 65 (zag s rs0).2 (zag s rs0).1 0).2).2 (zag s (zav s 65 (zag s rs0).2 (zag s rs0).1 0).2).1.2.2 140 else (zag s (zav s 65 (zag s rs0).2 (zag s rs0).1 0).2).2).fail=0 then (jvZ,(if (zag s (zav s 65 (zag s rs0).2 (zag s rs0).1 0).2).2.fail=0/\¬(zag s (zav s 65 (zag s rs0).2 (zag s rs0).1 0).2).1.1=1 then za3 (zag s (zav s 65 (zag s rs0).2 (zag s rs0).1 0).2).2 (zag s (zav s 65 (zag s rs0).2 (zag s rs0).1 0).2).1.2.2 140 else (zag s (zav s 65 (zag s rs0).2 (zag s rs0).1 0).2).2).wh,(if (zag s (zav s 65 (zag s rs0).2 (zag s rs0).1 0).2).2.fail=0/\¬(zag s (zav s 65 (zag s rs0).2 (zag s rs0).1 0).2).1.1=1 then za3 (zag s (zav s 65 (zag s rs0).2 (zag s rs0).1 0).2).2 (zag s (zav s 65 (zag s rs0).2 (zag s rs0).1 0).2).1.2.2 140 else (zag s (zav s 65 (zag s rs0).2 (zag s rs0).1 0).2).2).fail) else ((zav s 65 (zag s rs0).2 (zag s rs0).1 0).1,(s.length:Int),0)):=rfl
 rw[if_neg (by omega)] at hr;have finE:∀{a e:Int},zcO s=(jvZ,a,e)->((∀G I y,Den G I (.tup [.agg zvC,.i .i64 a,.i .i64 e]) y->Den G I (zh8 (zcO s)) y)/\K objs (zh8 (zcO s))):=fun {a e} h=>⟨fun G I y hy=>by rw[h];exact den_zv hy,hk⟩;have c1:¬(1048576:Int)<s.length:=by omega
 rw[c_ref14_Parse];refine zaa fun Z hZ=>?_;simp only[sxZ,z6,z7,z8,j4,j5,j6,j7,j8,j9,x6,x7,x8,x9,y4,y5,reduceCtorEq,↓reduceIte];subst hZ;refine zaa fun Z hZ=>?_;simp only[sxZ,z6,z7,z8,j4,j5,j6,j7,j8,j9,x6,x7,x8,x9,y4,y5,reduceCtorEq,↓reduceIte,c1];subst hZ;refine zaa fun Z hZ=>?_;simp only[sxZ,z6,z7,z8,j4,j5,j6,j7,j8,j9,x6,x7,x8,x9,y4,y5,reduceCtorEq,↓reduceIte];have hO:zaV ((1,zaR s rs0)::[(0,zvB)]) [zvB,zaR s rs0]:=⟨by simp,fun x hx=>by
  simp only[zv,jz,or_false] at hx;rcases hx with rfl|rfl<;>rfl⟩
 have hCn:zaU []:=fun y hy=>by cases hy
 have hC:∀ρ,zaU ((1,zaR s ρ)::[(0,zvB)]):=fun ρ=>zdS (zdS hCn rfl) rfl;have hB:GB s rs0:=⟨by decide,by show (0:Int)<=_;omega,fun _=>by decide,by show (0:Int)<=_;omega⟩;have f0:[OB.box 25 [.i .i64 0,.s [],.nil,.nil],OB.box 53 [.s s,.i .i64 0,.i .i64 0,.i .i64 0,.i .i64 0]]=[zvB,zaR s rs0]:=rfl;rw[f0];generalize [zvB,zaR s rs0]=o0 at hO ⊢;subst hZ;refine zaa fun Z hZ=>?_;simp only[sxZ,z6,z7,z8,j4,j5,j6,j7,j8,j9,x6,x7,x8,x9,y4,y5,reduceCtorEq,↓reduceIte];refine zae (zc2 (by omega) hO fun o1 hO1=>?_);have hB1:=zbC hB;have hT1:=zb0 hB;generalize zag s rs0=N at hO1 hB1 hT1 hr ⊢;obtain⟨T1,ρ1⟩:=N;simp only at hO1 hB1 hT1 hr ⊢;have hval:ValK s 1 0 (fun ρ t=>zav s 65 ρ t 0):=value_k hs 65 0 rfl (by decide);have hvc:=fun {objs:List OB} {K:List OB->AV->Prop} {L:List (Nat×OB)} (h1) (h2) (h3)=>hval (objs:=objs) (K:=K) (L:=L) (ρ:=ρ1) T1 hB1.1 hB1.2 hT1 h1 h2 h3;have hg2:=zfV s 65 0 ρ1 T1 hB1.1 hB1.2;simp only at hvc hg2;generalize zav s 65 ρ1 T1 0=R at hvc hg2 hr;obtain⟨v,ρ2⟩:=R;simp only at hvc hg2 hr;unfold ziG tkC;simp only[sxZ,z6,z7,z8,j4,j5,j6,j7,j8,j9,x6,x7,x8,x9,y4,y5,reduceCtorEq,↓reduceIte];refine zae (hvc (hC _) hO1 fun o2 hO2=>?_);have hjc:=zad v;rw[hjc];simp only[sxZ,z6,z7,z8,j4,j5,j6,j7,j8,j9,x6,x7,x8,x9,y4,y5,reduceCtorEq,↓reduceIte,gn1,sn1];have hO3:=hO2.new (.box 25 (zap v));rw[hjc] at hO3;have hO3:zaV ((1,zaR s ρ2)::(o2.length,.box 25 [.i .i64 v.kind,.s v.text,.row v.keys.length (v.keys.map .s),.row v.items.length (zab v.items)])::[(0,zvB)]) (o2++[.box 25 [.i .i64 v.kind,.s v.text,.row v.keys.length (v.keys.map .s),.row v.items.length (zab v.items)]]):=hO3.perm (qw.swap _ _ _);generalize o2.length=qv at hO3 ⊢;generalize o2++[OB.box 25 [.i .i64 v.kind,.s v.text,.row v.keys.length (v.keys.map .s),.row v.items.length (zab v.items)]]=o3 at hO3 ⊢;subst hZ;refine zaa fun Z hZ=>?_;refine zaa fun W hW=>?_;simp only[sxZ,z6,z7,z8,j4,j5,j6,j7,j8,j9,x6,x7,x8,x9,y4,y5,reduceCtorEq,↓reduceIte];refine zae (zc2 (by omega) hO3 fun o4 hO4=>?_);generalize zag s ρ2=N at hO4 hr ⊢;obtain⟨T3,ρ3⟩:=N;simp only at hO4 hr ⊢;unfold ziG tkC;simp only[sxZ,z6,z7,z8,j4,j5,j6,j7,j8,j9,x6,x7,x8,x9,y4,y5,reduceCtorEq,↓reduceIte,gn1,sn1];have f1:∀x y z,OB.box 56 [.i .i64 x,.s y,.i .i64 z]=zba (x,y,z):=fun _ _ _=>rfl;rw[f1];have hO5:=hO4.new (zba T3);have hO5:zaV ((1,zaR s ρ3)::(o4.length,zba T3)::(qv,.box 25 [.i .i64 v.kind,.s v.text,.row v.keys.length (v.keys.map .s),.row v.items.length (zab v.items)])::[(0,zvB)]) (o4++[zba (T3.1,T3.2.1,T3.2.2)]):=hO5.perm (qw.swap _ _ _);generalize o4.length=qt at hO5 ⊢;generalize o4++[zba (T3.1,T3.2.1,T3.2.2)]=o5 at hO5 ⊢;subst hW;have e1:=hO5.get (i:=1) (x:=zaR s ρ3) (by simp);have e2:=hO5.get (i:=qt) (x:=zba T3) (by simp);unfold zaR at e1;unfold zba tkC at e2;generalize hρ:(if ρ3.fail=0/\¬T3.1=1 then za3 ρ3 T3.2.2 140 else ρ3)=ρ4 at hr;refine zaL (fun o tm=>zaV ((1,zaR s ρ4)::(qt,zba T3)::(qv,.box 25 [.i .i64 v.kind,.s v.text,.row v.keys.length (v.keys.map .s),.row v.items.length (zab v.items)])::[(0,zvB)]) o/\tm.length=52/\tm[0]? = some (.s s)/\tm[2]? = some (.p 0 0)/\tm[5]? = some (.p 1 0)/\tm[6]? = some (.p qv 0)) ?_ ?_
 ·by_cases c3:ρ3.fail=0
  ·by_cases c4:T3.1=1
   ·rw[if_neg (fun h=>h.2 c4)] at hρ;subst hρ;simp only[sxZ,z6,z7,z8,j4,j5,j6,j7,j8,j9,x6,x7,x8,x9,y4,y5,reduceCtorEq,↓reduceIte,e1,e2,c3,c4,zac,and_self,and_true];exact hO5
   ·rw[if_pos ⟨c3,c4⟩] at hρ;simp only[sxZ,z6,z7,z8,j4,j5,j6,j7,j8,j9,x6,x7,x8,x9,y4,y5,reduceCtorEq,↓reduceIte,e1,e2,c3,c4];refine zae (zcN hO5 T3.2.2 140 fun o6 hO6=>?_);rw[hρ] at hO6;simp only[sxZ,z6,z7,z8,j4,j5,j6,j7,j8,j9,x6,x7,x8,x9,y4,y5,reduceCtorEq,↓reduceIte,zac,and_self,and_true];exact hO6
  ·rw[if_neg (fun h=>c3 h.1)] at hρ;subst hρ;simp only[sxZ,z6,z7,z8,j4,j5,j6,j7,j8,j9,x6,x7,x8,x9,y4,y5,reduceCtorEq,↓reduceIte,e1,e2,c3,zac,and_self,and_true];exact hO5
 clear hO5 e1 e2;rintro o6 tm ⟨hO6,hlen,t0,t2,t5,t6⟩;have e1:=hO6.get (i:=1) (x:=zaR s ρ4) (by simp);have e0:=hO6.get (i:=0) (x:=zvB) (by simp);have ev:=hO6.get (i:=qv) (x:=.box 25 [.i .i64 v.kind,.s v.text,.row v.keys.length (v.keys.map .s),.row v.items.length (zab v.items)]) (by simp);have hlt:=(zf.1 e0).1;have gs:∀x,(o6.set 0 x)[0]? = some x:=fun x=>zl hlt;unfold zaR at e1;unfold zvB at e0;subst hZ;refine zaa fun Z hZ=>?_
 by_cases c5:ρ4.fail=0
 ·rw[if_neg (fun h=>h c5)] at hr;simp only[sxZ,z6,z7,z8,j4,j5,j6,j7,j8,j9,x6,x7,x8,x9,y4,y5,reduceCtorEq,↓reduceIte,za,hlen,t5,e1,c5];subst hZ;simp only[sxZ,z6,z7,z8,j4,j5,j6,j7,j8,j9,x6,x7,x8,x9,y4,y5,reduceCtorEq,↓reduceIte,za,hlen,t0,t2,t6,e0,ev,gs];simp only[pub,AV.plain,zaS,zbA,sxZ,z6,z7,z8,j4,j5,j6,j7,j8,j9,x6,x7,x8,x9,y4,y5,reduceCtorEq,↓reduceIte];exact⟨fun G I y hy=>by rw[hr,zh8,hjc];exact hy,hk⟩
 ·rw[if_pos c5] at hr;simp only[sxZ,z6,z7,z8,j4,j5,j6,j7,j8,j9,x6,x7,x8,x9,y4,y5,reduceCtorEq,↓reduceIte,za,hlen,t2,t5,e0,e1,c5,gs];exact finE hr
end
section
variable [Tabs Tryz.prog] [Pow Tryz.prog] [Utf Tryz.prog]
end
end
section
attribute [local irreducible] run
theorem JTx.idB {v:JV} (hv:JTx v):IdB v:=by
 refine⟨jk (zke hv kId).txt (by decide),fun key y hy=>?_⟩;obtain⟨i,hi,rfl⟩:=y6.1 hy;exact jk (zke ((zke hv key).its hi) kId).txt (by decide)
def sA17:List UInt8:=[123,34,105,100,34,58,34,100,105,100,58,119,101,98,58,97,46,101,120,97,109,112,108,101,34,44,34,115,101,114,118,105,99,101,34,58,91,123,34,105,100,34,58,34,35,102,105,108,101,115,34,44,34,116,121,112,101,34,58,34,88,34,44,34,115,101,114,118,105,99,101,69,110,100,112,111,105,110,116,34,58,34,104,116,116,112,115,58,47,47,97,46,101,120,97,109,112,108,101,47,102,47,34,125,93,125]
def zjx:List UInt8:=[100,105,100,58,119,101,98,58,97,46,101,120,97,109,112,108,101]
def zmI:List UInt8:=zjx++[35,102,105,108,101,115]
def zmr:JV:=.mk 7 [] [kId,zbh,zbH] [.mk 5 [35,102,105,108,101,115] [] [],.mk 5 [88] [] [],.mk 5 [104,116,116,112,115,58,47,47,97,46,101,120,97,109,112,108,101,47,102,47] [] []]
def zm1:JV:=.mk 7 [] [kId,zbr] [.mk 5 zjx [] [],.mk 6 [] [] [zmr]]
theorem eA17:(zcO sA17).1=zm1:=by kernel_rfl
theorem dA17:ddE zm1=(0,⟨zjx,[],[],[],[⟨zmI,[[88]],[[104,116,116,112,115,58,47,47,97,46,101,120,97,109,112,108,101,47,102,47]]⟩]⟩):=by kernel_rfl
theorem selA17:zfN zm1 zmI=(zmr,true):=by kernel_rfl
theorem okA17:JKp zm1:=by
 unfold zm1 zmr;simp[JKp,zkt,kId,zbh,zbH,zbr,zjx]
theorem jokA17:JOk zm1:=by
 unfold zm1 zmr;simp[JOk,zdC,Lit.wf,IntKind.min,IntKind.max,IntKind.signed,IntKind.bits,kId,zbh,zbH,zbr,zjx]
section
variable [Tabs Tryz.prog] [Utf Tryz.prog] {objs:List OB} {K:List OB->AV->Prop}
theorem sane17_k [Shp Tryz.prog] (hk:K objs (.b true)):zaf Tryz.prog 7 [] objs K:=by
 refine za4 is_law17_sane rfl fun C _=>?_;rw[c_law17_sane];have hB:IdB zm1:=okA17.idB;refine zaa fun Z hZ=>?_;simp only[sxZ,z6,z7,z8,j4,j5,j6,j7,j8,j9,x6,x7,x8,x9,y4,y5,reduceCtorEq,↓reduceIte];subst hZ;refine zaa fun Z hZ=>?_;simp only[sxZ,z6,z7,z8,j4,j5,j6,j7,j8,j9,x6,x7,x8,x9,y4,y5,reduceCtorEq,↓reduceIte];refine zae (zkY sA17 (by decide) ?_);have e1:=eA17;obtain⟨⟨x,a,e⟩,hx⟩:∃R,zcO sA17=R:=⟨_,rfl⟩;rw[hx] at e1 ⊢;dsimp only at e1;subst e1;unfold zh8;obtain⟨a0,a1,a2,a3,hA⟩:∃a0 a1 a2 a3,zap zm1=[a0,a1,a2,a3]:=⟨_,_,_,_,zad zm1⟩;rw[hA];simp only[sxZ,z6,z7,z8,j4,j5,j6,j7,j8,j9,x6,x7,x8,x9,y4,y5,reduceCtorEq,↓reduceIte,gn1,sn1];subst hZ;refine zaa fun Z hZ=>?_;simp only[sxZ,z6,z7,z8,j4,j5,j6,j7,j8,j9,x6,x7,x8,x9,y4,y5,reduceCtorEq,↓reduceIte];rw[<-hA];refine zae (dd_k zm1 jokA17 okA17.bd hB ?_);rw[dA17];unfold zpU doc;rw[hA];simp only[sxZ,z6,z7,z8,j4,j5,j6,j7,j8,j9,x6,x7,x8,x9,y4,y5,reduceCtorEq,↓reduceIte,gn1,sn1];subst hZ;refine zaa fun Z hZ=>?_;simp only[sxZ,z6,z7,z8,j4,j5,j6,j7,j8,j9,x6,x7,x8,x9,y4,y5,reduceCtorEq,↓reduceIte];rw[<-hA];refine zae (sel_k zm1 zmI jokA17 okA17.bd hB ?_);rw[selA17];unfold zbd;rw[hA,zad zmr];simp only[sxZ,z6,z7,z8,j4,j5,j6,j7,j8,j9,x6,x7,x8,x9,y4,y5,reduceCtorEq,↓reduceIte,gn1,sn1];subst hZ;refine zaa fun Z hZ=>?_;have n1:(((1:Nat):Int)=1)=True:=by simp
 have hsv:zgX [⟨zmI,[[88]],[[104,116,116,112,115,58,47,47,97,46,101,120,97,109,112,108,101,47,102,47]]⟩]=[.s zmI,.row 1 [.s [88]],.row 1 [.s [104,116,116,112,115,58,47,47,97,46,101,120,97,109,112,108,101,47,102,47]]]:=rfl;have hid:zmI=[100,105,100,58,119,101,98,58,97,46,101,120,97,109,112,108,101,35,102,105,108,101,115]:=rfl;rw[hsv];simp only[sxZ,z6,z7,z8,j4,j5,j6,j7,j8,j9,x6,x7,x8,x9,y4,y5,reduceCtorEq,↓reduceIte,n1,decide_true,zu,qk,zo,qb];rw[hid];simp only[sxZ,z6,z7,z8,j4,j5,j6,j7,j8,j9,x6,x7,x8,x9,y4,y5,reduceCtorEq,↓reduceIte,n1,decide_true,zu,qk,zo,qb];refine⟨by decide,by decide,?_⟩;subst hZ;simp only[sxZ,z6,z7,z8,j4,j5,j6,j7,j8,j9,x6,x7,x8,x9,y4,y5,reduceCtorEq,↓reduceIte];rw[show zmr.kind=7 from rfl];exact hk
end
end
section
attribute [local irreducible] run
def IdF (m i id:List UInt8):Prop:=zdp m i id=(0,(zdp m i id).2)/\zcv (zdp m i id).2=id
theorem resD_can {m i r:List UInt8} (h:(zdp m i r).1=0):CanD (zdp m i r).2:=by
 have hz:∀s,(zdw s).1=0->CanD (zdw s).2:=fun s hs=>CanD.of4 (s:=s) (by rw[<-hs]);unfold zdp at h ⊢
 split
 ·rename_i c;rw[if_pos c] at h;exact hz _ h
 ·rename_i c;rw[if_neg c] at h
  split
  ·rename_i c2;rw[if_pos c2] at h;exact hz _ h
  ·rename_i c2;rw[if_neg c2] at h;cases h
theorem res_fmt {m i:List UInt8} {u:DidU} (h:CanD u):zdp m i (zcv u)=(0,u):=by
 unfold zdp;have hp:Lib.hasPrefix (zcv u) zbq=true:=by
  unfold zcv zbX;simp only[zy];exact List.isPrefixOf_iff_prefix.2 (List.prefix_append _ _)
 rw[if_pos hp];exact h.back
theorem zov {m i:List UInt8} {y:JV} (h:(zdg m i y).1=0):IdF m i (zdg m i y).2:=by
 unfold zdg at h ⊢
 split
 ·rename_i c;rw[if_pos c] at h;cases h
 ·rename_i c;rw[if_neg c] at h
  split
  ·rename_i c2;rw[if_pos c2] at h;cases h
  ·rename_i c2;have hc:=resD_can (Decidable.not_not.1 c2);show IdF m i (zcv _);unfold IdF;rw[res_fmt hc];exact⟨rfl,rfl⟩
structure DocF (m i:List UInt8) (d:DoP):Prop where
 did:zb2 (zbX m i)=(0,m,i)
 id:d.id=zbX m i
 sh:ShO d
 mts:∀x∈d.mts,IdF m i x.id
 svs:∀x∈d.svs,IdF m i x.id
theorem zjq {α:Type} (f:JV->Int×α):∀l:List JV,(zfJ f l).1=0->∀x∈(zfJ f l).2,∃y∈l,x=(f y).2/\(f y).1=0
 | [],_,x,hx=>by cases hx
 | y::l,h,x,hx=>by
  rw[zfJ] at h hx
  by_cases c:(f y).1=0
  ·rw[if_neg (show ¬(f y).1≠0 from fun e=>e c)] at h hx
   by_cases c2:(zfJ f l).1=0
   ·rw[if_neg (show ¬(zfJ f l).1≠0 from fun e=>e c2)] at h hx;rcases zv.1 hx with rfl|hx
    ·exact⟨y,by simp,rfl,c⟩
    ·obtain⟨z,hz,e⟩:=zjq f l c2 x hx;exact⟨z,qm _ hz,e⟩
   ·rw[if_pos c2] at h;exact absurd h c2
  ·rw[if_pos c] at h;exact absurd h c
theorem zk7 {α:Type} {v:JV} {key:List UInt8} {f:JV->Int×α} (h:(opD v key (elD f)).1=0):∀x∈(opD v key (elD f)).2,∃y∈(zaB v key).1.items,x=(f y).2/\(f y).1=0:=by
 unfold opD at h ⊢
 split
 ·rename_i c;rw[if_pos c] at h;unfold elD at h ⊢
  split
  ·rename_i c2;rw[if_pos c2] at h
   split
   ·intro x hx;cases hx
   ·rename_i c3;rw[if_neg c3] at h;exact zjq f _ h
  ·intro x hx;cases hx
 ·intro x hx;cases hx
theorem mt_id {m i:List UInt8} {y:JV} (h:(mtD m i y).1=0):(zdg m i y).1=0/\(mtD m i y).2.id=(zdg m i y).2:=by
 unfold mtD at h ⊢
 by_cases c:(zdg m i y).1=0
 ·rw[if_neg (show ¬(zdg m i y).1≠0 from fun e=>e c)] at h ⊢;refine⟨c,?_⟩
  split
  ·rfl
  ·rename_i c2;rw[if_neg c2] at h;cases h
 ·rw[if_pos c] at h;exact absurd h c
theorem sv_id {m i:List UInt8} {y:JV} (h:(svD m i y).1=0):(zdg m i y).1=0/\(svD m i y).2.id=(zdg m i y).2:=by
 unfold svD at h ⊢
 by_cases c:(zdg m i y).1=0
 ·rw[if_neg (show ¬(zdg m i y).1≠0 from fun e=>e c)] at h ⊢;refine⟨c,?_⟩
  by_cases c2:(olD (zaB y zbh).1).1=0
  ·rw[if_neg (show ¬(olD (zaB y zbh).1).1≠0 from fun e=>e c2)] at h ⊢
   split
   ·rfl
   ·rename_i c3;rw[if_neg c3] at h
    by_cases c4:(olD (zaB y zbH).1).1=0
    ·rw[if_neg (show ¬(olD (zaB y zbH).1).1≠0 from fun e=>e c4)]
    ·rw[if_pos c4] at h;exact absurd h c4
  ·rw[if_pos c2] at h;exact absurd h c2
 ·rw[if_pos c] at h;exact absurd h c
theorem sb_did {v:JV} (h:(sbD v).1=0):zb2 (tmD v kId).1=(0,(sbD v).2):=by
 unfold sbD at h ⊢
 split
 ·rename_i c;rw[if_pos c] at h;cases h
 ·rename_i c;rw[if_neg c] at h
  split
  ·rename_i c2;rw[if_pos c2] at h;cases h
  ·rename_i c2;have c2:=Decidable.not_not.1 c2;exact Prod.ext c2 rfl
theorem dd_parts {v:JV} (h:(ddE v).1=0):(sbD v).1=0/\(opD v zce ltD).1=0/\(opD v zbE olD).1=0/\(opD v zbP (elD (mtD (sbD v).2.1 (sbD v).2.2))).1=0/\(opD v zbr (elD (svD (sbD v).2.1 (sbD v).2.2))).1=0/\(ddE v).2=⟨zbX (sbD v).2.1 (sbD v).2.2,(opD v zce ltD).2,(opD v zbE olD).2,(opD v zbP (elD (mtD (sbD v).2.1 (sbD v).2.2))).2,(opD v zbr (elD (svD (sbD v).2.1 (sbD v).2.2))).2⟩:=by
 unfold ddE at h ⊢
 by_cases c1:(sbD v).1=0
 rotate_left
 ·rw[if_pos c1] at h;exact absurd h c1
 by_cases c2:(opD v zce ltD).1=0
 rotate_left
 ·rw[if_neg (fun e=>e c1),if_pos c2] at h;exact absurd h c2
 by_cases c3:(opD v zbE olD).1=0
 rotate_left
 ·rw[if_neg (fun e=>e c1),if_neg (fun e=>e c2),if_pos c3] at h;exact absurd h c3
 by_cases c4:(opD v zbP (elD (mtD (sbD v).2.1 (sbD v).2.2))).1=0
 rotate_left
 ·rw[if_neg (fun e=>e c1),if_neg (fun e=>e c2),if_neg (fun e=>e c3),if_pos c4] at h;exact absurd h c4
 by_cases c5:(opD v zbr (elD (svD (sbD v).2.1 (sbD v).2.2))).1=0
 rotate_left
 ·rw[if_neg (fun e=>e c1),if_neg (fun e=>e c2),if_neg (fun e=>e c3),if_neg (fun e=>e c4),if_pos c5] at h;exact absurd h c5
 refine⟨c1,c2,c3,c4,c5,?_⟩;rw[if_neg (fun e=>e c1),if_neg (fun e=>e c2),if_neg (fun e=>e c3),if_neg (fun e=>e c4),if_neg (fun e=>e c5)]
theorem dd_fit {v:JV} (h:(ddE v).1=0):DocF (sbD v).2.1 (sbD v).2.2 (ddE v).2:=by
 obtain⟨c1,c2,c3,c4,c5,e⟩:=dd_parts h;have hs:=ddE_sh v;rw[e] at hs ⊢;refine⟨did_can (sb_did c1),rfl,hs,fun x hx=>?_,fun x hx=>?_⟩
 ·obtain⟨y,_,rfl,hy⟩:=zk7 c4 x hx;obtain⟨h1,h2⟩:=mt_id hy;rw[h2];exact zov h1
 ·obtain⟨y,_,rfl,hy⟩:=zk7 c5 x hx;obtain⟨h1,h2⟩:=sv_id hy;rw[h2];exact zov h1
end
section
attribute [local irreducible] run
def rdF (m i:List UInt8) (v:JV):Int:=orE (orE (orE (orE (orE (orE (rtE v kId) (rsD v zce false).1) (rsD v zbE true).1) (roD v zbP).1) (feD (rmD m i) (roD v zbP).2)) (roD v zbr).1) (feD (rvD m i) (roD v zbr).2)
def rdO (m i:List UInt8) (v:JV):DoP:=⟨zbX m i,(rsD v zce false).2,(rsD v zbE true).2,(roD v zbP).2.map (fun y=>(rmD m i y).2),(roD v zbr).2.map (fun y=>(rvD m i y).2)⟩
def rdE (v:JV):Int×DoP :=
 if v.kind≠7 then (160,doZ)
 else if (zb2 (zaB v kId).1.text).1≠0 then (160,doZ)
 else if rdF (zb2 (zaB v kId).1.text).2.1 (zb2 (zaB v kId).1.text).2.2 v≠0 then (rdF (zb2 (zaB v kId).1.text).2.1 (zb2 (zaB v kId).1.text).2.2 v,doZ)
 else (0,rdO (zb2 (zaB v kId).1.text).2.1 (zb2 (zaB v kId).1.text).2.2 v)
theorem rdF_eq (m i:List UInt8) (v:JV):rdF m i v=orE (rtE v kId) (orE (opD v zce ltD).1 (orE (opD v zbE olD).1 (orE (opD v zbP (elD (mtD m i))).1 (opD v zbr (elD (svD m i))).1))):=by
 unfold rdF;rw[(zhc v zce false).1,(zhc v zbE true).1];rw[if_pos rfl,if_neg (show ¬(false=true) by decide)];rw[zaE _ (roD v zbr).1,(ro_el (rv_sv m i) v zbr).1,zaE _ (roD v zbP).1,(ro_el (rm_mt m i) v zbP).1];simp only[zaE]
theorem rd_dd (v:JV):rdE v=ddE v:=by
 unfold rdE
 by_cases h7:v.kind=7
 rotate_left
 ·have hs:sbD v=(160,[],[]):=by unfold sbD;rw[if_pos (zhP h7 kId)]
  rw[if_pos h7];unfold ddE;rw[hs]
  rfl
 rw[if_neg (show ¬v.kind≠7 from fun e=>e h7)];obtain⟨t1,t2⟩:=tm_rt v kId
 by_cases ht:rtE v kId=0
 ·have hs:sbD v=if (zb2 (zaB v kId).1.text).1≠0 then (160,[],[]) else (0,(zb2 (zaB v kId).1.text).2):=by
   unfold sbD;rw[if_neg (show ¬(tmD v kId).2=false by rw[t1.2 ht];decide),t2 ht]
  by_cases hd:(zb2 (zaB v kId).1.text).1=0
  rotate_left
  ·rw[if_pos hd] at hs ⊢;unfold ddE;rw[hs];rfl
  rw[if_neg (fun e=>e hd)] at hs;rw[if_neg (show ¬(zb2 (zaB v kId).1.text).1≠0 from fun e=>e hd)];generalize (zb2 (zaB v kId).1.text).2=mi at hs;obtain⟨m,i⟩:=mi;dsimp only;have hF:=rdF_eq m i v;have a2:=(zhc v zce false).2;have c2:=(zhc v zbE true).2;have a1:=(zhc v zce false).1;have c1:=(zhc v zbE true).1;rw[if_pos rfl] at c2 c1;rw[if_neg (show ¬(false=true) by decide)] at a2 a1;rw[a1] at a2;rw[c1] at c2;have m2:=(ro_el (rm_mt m i) v zbP).2;have s2:=(ro_el (rv_sv m i) v zbr).2;rw[ht,zd9] at hF;unfold ddE rdO;rw[hs];dsimp only;rw[if_neg (show ¬((0:Int)≠0) by decide)];generalize rdF m i v=F at hF
  by_cases ha:(opD v zce ltD).1=0
  rotate_left
  ·rw[zeG ha] at hF;rw[if_pos ha,hF,if_pos ha]
  rw[if_neg (show ¬(opD v zce ltD).1≠0 from fun e=>e ha)];rw[ha,zd9] at hF
  by_cases hc:(opD v zbE olD).1=0
  rotate_left
  ·rw[zeG hc] at hF;rw[if_pos hc,hF,if_pos hc]
  rw[if_neg (show ¬(opD v zbE olD).1≠0 from fun e=>e hc)];rw[hc,zd9] at hF
  by_cases hm:(opD v zbP (elD (mtD m i))).1=0
  rotate_left
  ·rw[zeG hm] at hF;rw[if_pos hm,hF,if_pos hm]
  rw[if_neg (show ¬(opD v zbP (elD (mtD m i))).1≠0 from fun e=>e hm)];rw[hm,zd9] at hF
  by_cases hv:(opD v zbr (elD (svD m i))).1=0
  rotate_left
  ·rw[if_pos hv,hF,if_pos hv]
  rw[if_neg (show ¬(opD v zbr (elD (svD m i))).1≠0 from fun e=>e hv),hF,if_neg (fun e=>e hv)];rw[a2 ha,c2 hc,m2 hm,s2 hv]
 ·have hf:(tmD v kId).2=false:=by
   cases e:(tmD v kId).2 with
   | true=>exact absurd (t1.1 e) ht
   | false=>rfl
  have hs:sbD v=(160,[],[]):=by unfold sbD;rw[if_pos hf]
  have h160:=(zfO v kId).resolve_left ht;have hd:ddE v=(160,doZ):=by unfold ddE;rw[hs];rfl
  rw[hd]
  by_cases h:(zb2 (zaB v kId).1.text).1=0
  ·rw[if_neg (fun e=>e h),rdF_eq,zeG ht,if_pos ht,h160]
  ·rw[if_pos h]
end
section
attribute [local irreducible] run
def zmY (E n:Nat) (cs:List AV) (o:List OB) (X:AV):Prop:=(n=0/\cs=[]/\X=.nil)\/∃r g,X=.orow r g/\3<=r/\o[r]? = some (.orow E 3 g n cs)
theorem zmY.call {E n:Nat} {cs:List AV} {o o':List OB} {X:AV} {b:Nat} {Y:OB} (h:zmY E n cs o X) (hx:Ext o o' b Y) (hb:b=2):zmY E n cs o' X:=by
 rcases h with h|⟨r,g,h1,h2,h3⟩
 ·exact .inl h
 ·exact .inr ⟨r,g,h1,h2,hx.2.2 r _ (by omega) h3 trivial⟩
theorem zmY.mono {E n:Nat} {cs:List AV} {o:List OB} {X:AV} (h:zmY E n cs o X) (z:OB):zmY E n cs (o++[z]) X:=by
 rcases h with h|⟨r,g,h1,h2,h3⟩
 ·exact .inl h
 ·exact .inr ⟨r,g,h1,h2,zar h3 z⟩
theorem zmY.set {E n:Nat} {cs:List AV} {o:List OB} {X:AV} (h:zmY E n cs o X) {j:Nat} {Z:OB} (hz:o[j]? = some Z) (hne:∀g n cs,Z≠.orow E 3 g n cs) (W:OB):zmY E n cs (o.set j W) X:=by
 rcases h with h|⟨r,g,h1,h2,h3⟩
 ·exact .inl h
 ·exact .inr ⟨r,g,h1,h2,zaW h3 (fun e=>by rw[e,h3] at hz;injection hz with hz;exact hne _ _ _ hz.symm) W⟩
theorem zmY.lt {E n:Nat} {cs:List AV} {o:List OB} {X:AV} (h:zmY E n cs o X):X.plain=true\/∃r g,X=.orow r g/\r<o.length:=by
 rcases h with ⟨_,_,rfl⟩|⟨r,g,h1,h2,h3⟩
 ·exact .inl rfl
 ·exact .inr ⟨r,g,h1,(zf.1 h3).1⟩
def DoB (F:List UInt8) (A Ct:List (List UInt8)) (M X:AV):OB:=.box 34 [.s F,.row A.length (A.map .s),.row Ct.length (Ct.map .s),M,X]
structure DSu (o1 o:List OB) (m i:List UInt8) (e:Int) (jb:Nat) (F:List UInt8) (A Ct:List (List UInt8)) (ms:List MtP) (vs:List SvP) (M X:AV):Prop where
 ex:Ext o1 o 2 (rqB m i e)
 ej:o[jb]? = some (DoB F A Ct M X)
 rm:zmY 48 ms.length (zhp ms) o M
 rv:zmY 46 vs.length (zgX vs) o X
theorem DSu.plm {o1 o:List OB} {m i:List UInt8} {e:Int} {jb:Nat} {F:List UInt8} {A Ct:List (List UInt8)} {ms:List MtP} {vs:List SvP} {M X:AV} (h:DSu o1 o m i e jb F A Ct ms vs M X):PlM o.length (DoB F A Ct M X):=by
 intro c hc;simp only[zv,jz,or_false] at hc;rcases hc with rfl|rfl|rfl|rfl|rfl
 ·exact .inl rfl
 ·exact .inl (zbe _)
 ·exact .inl (zbe _)
 ·exact h.rm.lt
 ·exact h.rv.lt
theorem DSu.app {o1 o:List OB} {m i:List UInt8} {e:Int} {jb:Nat} {F:List UInt8} {A Ct:List (List UInt8)} {ms:List MtP} {vs:List SvP} {M X:AV} (h:DSu o1 o m i e jb F A Ct ms vs M X) (z:OB):DSu o1 (o++[z]) m i e jb F A Ct ms vs M X :=
 ⟨h.ex.app z,zar h.ej z,h.rm.mono z,h.rv.mono z⟩
theorem DSu.call {o1 o o':List OB} {m i:List UInt8} {e e':Int} {jb:Nat} {F:List UInt8} {A Ct:List (List UInt8)} {ms:List MtP} {vs:List SvP} {M X:AV} (h:DSu o1 o m i e jb F A Ct ms vs M X) (hx:Ext o o' 2 (rqB m i e')) (hj:jb≠2):DSu o1 o' m i e' jb F A Ct ms vs M X :=
 ⟨h.ex.trans hx,hx.2.2 jb _ hj h.ej h.plm,h.rm.call hx rfl,h.rv.call hx rfl⟩
theorem ro_len (v:JV) (key:List UInt8):(roD v key).2.length<=64:=by
 unfold roD
 split
 ·exact zd _
 split
 ·exact zd _
 split
 ·exact zd _
 ·dsimp only;omega
theorem ro_it (v:JV) (key:List UInt8):∀y∈(roD v key).2,y∈(zaB v key).1.items:=by
 unfold roD
 split
 ·intro y hy;cases hy
 split
 ·intro y hy;cases hy
 split
 ·intro y hy;cases hy
 ·exact fun y hy=>hy
theorem zkf {α:Type} (f:JV->Int×α) (y:JV):∀l:List JV,feD f (l++[y])=orE (feD f l) (f y).1
 | []=>by show orE (f y).1 0=orE 0 (f y).1;rw[zfE,zd9]
 | x::l=>by show orE (f x).1 (feD f (l++[y]))=orE (orE (f x).1 (feD f l)) (f y).1;rw[zkf f y l,zaE]
section
variable [Tabs Tryz.prog] {objs:List OB} {K:List OB->AV->Prop}
theorem rdd_k (v:JV) (hv:JOk v) (hj:JBd v) (hb:IdB v) (hk:K objs (zpU (rdE v))):zaf Tryz.prog 11 [.agg (zap v)] objs K:=by
 refine zfG (zpU (rdE v)) ?_;have kz:∀e:Int,rdE v=(e,doZ)->(∀G I y,Den G I (.tup [.agg [.s [],.nil,.nil,.nil,.nil],.i .i64 e]) y->Den G I (zpU (rdE v)) y)/\K objs (zpU (rdE v)):=fun e he=>⟨fun G I y h=>by rw[he];exact zhA (fun z hz=>zaz hz) (fun z hz=>zaz hz) (fun z hz=>zaz hz) (fun z hz=>zaz hz) h,hk⟩;refine za4 is_ref17_Decode (by simp only[zao,AV.plain,zaN,Bool.and_self]) fun C _=>?_;have ejv:=zad v;have hm:maxLen=2 ^ 63 - 1:=rfl;have hpv:PlO (OB.box 25 [.i .i64 v.kind,.s v.text,.row v.keys.length (v.keys.map .s),.row v.items.length (zab v.items)]):=by
  show zao _=true;rw[<-ejv];exact zaN v
 rw[c_ref17_Decode,ejv];refine zaa fun Z hZ=>?_;simp only[sxZ,z6,z7,z8,j4,j5,j6,j7,j8,j9,x6,x7,x8,x9,y4,y5,reduceCtorEq,↓reduceIte];have q0:[OB.box 25 [.i .i64 v.kind,.s v.text,.row v.keys.length (v.keys.map .s),.row v.items.length (zab v.items)],OB.box 34 [.s [],.nil,.nil,.nil,.nil]][0]? = some (OB.box 25 [.i .i64 v.kind,.s v.text,.row v.keys.length (v.keys.map .s),.row v.items.length (zab v.items)]):=rfl;have q1:[OB.box 25 [.i .i64 v.kind,.s v.text,.row v.keys.length (v.keys.map .s),.row v.items.length (zab v.items)],OB.box 34 [.s [],.nil,.nil,.nil,.nil]][1]? = some (OB.box 34 [.s [],.nil,.nil,.nil,.nil]):=rfl;have ql:[OB.box 25 [.i .i64 v.kind,.s v.text,.row v.keys.length (v.keys.map .s),.row v.items.length (zab v.items)],OB.box 34 [.s [],.nil,.nil,.nil,.nil]].length=2:=rfl;generalize [OB.box 25 [.i .i64 v.kind,.s v.text,.row v.keys.length (v.keys.map .s),.row v.items.length (zab v.items)],OB.box 34 [.s [],.nil,.nil,.nil,.nil]]=o0 at q0 q1 ql ⊢;subst hZ;refine zaa fun Z hZ=>?_;unfold rdE at kz hk ⊢;have hl0:=(zf.1 q1).1
 by_cases c7:v.kind=7
 rotate_left
 ·rw[if_pos c7] at kz hk ⊢;have:=kz 160 rfl;simp only[sxZ,z6,z7,z8,j4,j5,j6,j7,j8,j9,x6,x7,x8,x9,y4,y5,reduceCtorEq,↓reduceIte,q0,q1,c7,hl0,za];exact this
 rw[if_neg (show ¬v.kind≠7 from fun e=>e c7)] at kz hk ⊢;simp only[sxZ,z6,z7,z8,j4,j5,j6,j7,j8,j9,x6,x7,x8,x9,y4,y5,reduceCtorEq,↓reduceIte,q0,c7];subst hZ;refine zaa fun Z hZ=>?_;simp only[sxZ,z6,z7,z8,j4,j5,j6,j7,j8,j9,x6,x7,x8,x9,y4,y5,reduceCtorEq,↓reduceIte];have e0:=zar q0 (OB.box 76 [.s [],.s [],.i .i64 0]);have e1:=zar q1 (OB.box 76 [.s [],.s [],.i .i64 0]);have e2:(o0++[OB.box 76 [.s [],.s [],.i .i64 0]])[2]? = some (rqB [] [] 0):=by rw[<-ql];exact gn1 _ _
 have el:(o0++[OB.box 76 [.s [],.s [],.i .i64 0]]).length=3:=by simp[ql]
 rw[ql];generalize o0++[OB.box 76 [.s [],.s [],.i .i64 0]]=o1 at e0 e1 e2 el ⊢;clear q0 q1 ql hl0;subst hZ;refine zaa fun Z hZ=>?_;simp only[sxZ,z6,z7,z8,j4,j5,j6,j7,j8,j9,x6,x7,x8,x9,y4,y5,reduceCtorEq,↓reduceIte,e0];rw[<-ejv];refine zae (zfP [] [] v 0 kId 2 hv e2 fun o2 x2=>?_);rw[zd9] at x2;have hbt:=hb.1;have f0:=x2.keep e0 (by decide) hpv;have f1:=x2.keep e1 (by decide) rfl;simp only[sxZ,z6,z7,z8,j4,j5,j6,j7,j8,j9,x6,x7,x8,x9,y4,y5,reduceCtorEq,↓reduceIte];refine zae (zdG (zaB v kId).1.text (by omega) ?_);have hdl:=zeO (zaB v kId).1.text;generalize zb2 (zaB v kId).1.text=R at kz hk hdl ⊢;obtain⟨e,m,i⟩:=R;dsimp only at kz hk hdl ⊢;simp only[sxZ,z6,z7,z8,j4,j5,j6,j7,j8,j9,x6,x7,x8,x9,y4,y5,reduceCtorEq,↓reduceIte,gn1,sn1];have g0:=zar f0 (OB.box 62 [.s m,.s i]);have g1:=zar f1 (OB.box 62 [.s m,.s i]);have gD:(o2++[OB.box 62 [.s m,.s i]])[o2.length]? = some (OB.box 62 [.s m,.s i]):=gn1 _ _;have x3:=x2.app (OB.box 62 [.s m,.s i]);have hd3:=x2.2.1;generalize o2.length=db at gD hd3 ⊢;generalize o2++[OB.box 62 [.s m,.s i]]=o3 at g0 g1 gD x3 ⊢;clear f0 f1 x2;rw[el] at hd3;have hl3:=(zf.1 g1).1;subst hZ;refine zaa fun Z hZ=>?_
 by_cases c:e=0
 rotate_left
 ·rw[if_pos c] at kz hk ⊢;have:=kz 160 rfl;simp only[sxZ,z6,z7,z8,j4,j5,j6,j7,j8,j9,x6,x7,x8,x9,y4,y5,reduceCtorEq,↓reduceIte,c,g1,hl3,za];exact this
 subst c;rw[if_neg (show ¬((0:Int)≠0) by decide)] at kz hk ⊢;simp only[sxZ,z6,z7,z8,j4,j5,j6,j7,j8,j9,x6,x7,x8,x9,y4,y5,reduceCtorEq,↓reduceIte];subst hZ;refine zaa fun Z hZ=>?_;have g2:=x3.1;unfold rqB at g2;simp only[sxZ,z6,z7,z8,j4,j5,j6,j7,j8,j9,x6,x7,x8,x9,y4,y5,reduceCtorEq,↓reduceIte,gD,g2];have x4:=x3.set (rqB m i (rtE v kId));have h0:=zaW g0 (r:=2) (by decide) (rqB m i (rtE v kId));have h1:=zaW g1 (r:=2) (by decide) (rqB m i (rtE v kId));have hD:=zaW gD (r:=2) (by omega) (rqB m i (rtE v kId));unfold rqB at x4 h0 h1 hD;generalize o3.set 2 (OB.box 76 [.s m,.s i,.i .i64 (rtE v kId)])=o4 at x4 h0 h1 hD ⊢;have x4:Ext o1 o4 2 (rqB m i (rtE v kId)):=x4;clear g0 g1 gD g2 x3 hl3;subst hZ;refine zaa fun Z hZ=>?_;have hA:=x4.app (OB.box 34 [.s [],.nil,.nil,.nil,.nil]);have a0:=zar h0 (OB.box 34 [.s [],.nil,.nil,.nil,.nil]);have aD:=zar hD (OB.box 34 [.s [],.nil,.nil,.nil,.nil]);have aj:(o4++[OB.box 34 [.s [],.nil,.nil,.nil,.nil]])[o4.length]? = some (OB.box 34 [.s [],.nil,.nil,.nil,.nil]):=gn1 _ _;have hl4:=x4.2.1;have hdl4:=(zf.1 hD).1;refine zaL (fun o t=>∃jb,Ext o1 o 2 (rqB m i (orE (rtE v kId) (rsD v zce false).1))/\3<=jb/\o[jb]? = some (.box 34 [.s (zbX m i),.row (rsD v zce false).2.length ((rsD v zce false).2.map .s),.nil,.nil,.nil])/\t.length=87/\t[1]? = some (.p 0 0)/\t[2]? = some (.p 1 0)/\t[4]? = some (.p 2 0)/\t[7]? = some (.p jb 0)) ?_ ?_
 ·simp only[sxZ,z6,z7,z8,j4,j5,j6,j7,j8,j9,x6,x7,x8,x9,y4,y5,reduceCtorEq,↓reduceIte,h0,hD,a0,aD,gn1];refine⟨?_,?_⟩
  ·generalize o4++[OB.box 34 [.s [],.nil,.nil,.nil,.nil]]=oA at a0 aD aj hA ⊢;refine zae (zb1 m i (by omega) (by omega) ?_);simp only[sxZ,z6,z7,z8,j4,j5,j6,j7,j8,j9,x6,x7,x8,x9,y4,y5,reduceCtorEq,↓reduceIte,a0,aD];rw[<-ejv];refine zae (ze8 m i v _ zce false 2 hv hA.1 fun o5 x5=>?_);have d0:=x5.keep a0 (by decide) hpv;have dD:=x5.keep aD (by omega) rfl;have dj:=x5.keep aj (by omega) rfl;rw[ejv];simp only[sxZ,z6,z7,z8,j4,j5,j6,j7,j8,j9,x6,x7,x8,x9,y4,y5,reduceCtorEq,↓reduceIte,d0,dD,dj];rw[zac];exact⟨o4.length,(hA.trans x5).own o4.length _ (by omega) (by omega),by omega,zl (zf.1 dj).1,rfl,rfl,rfl,rfl,rfl⟩
  ·refine zae (zb1 m i (by omega) (by omega) ?_);simp only[sxZ,z6,z7,z8,j4,j5,j6,j7,j8,j9,x6,x7,x8,x9,y4,y5,reduceCtorEq,↓reduceIte,h0,hD,a0,aD,gn1];refine⟨?_,?_⟩
   ·generalize o4++[OB.box 34 [.s [],.nil,.nil,.nil,.nil]]=oA at a0 aD aj hA ⊢;rw[<-ejv];refine zae (ze8 m i v _ zce false 2 hv hA.1 fun o5 x5=>?_);have d0:=x5.keep a0 (by decide) hpv;have dD:=x5.keep aD (by omega) rfl;have dj:=x5.keep aj (by omega) rfl;rw[ejv];simp only[sxZ,z6,z7,z8,j4,j5,j6,j7,j8,j9,x6,x7,x8,x9,y4,y5,reduceCtorEq,↓reduceIte,d0,dD,dj];rw[zac];exact⟨o4.length,(hA.trans x5).own o4.length _ (by omega) (by omega),by omega,zl (zf.1 dj).1,rfl,rfl,rfl,rfl,rfl⟩
   ·rw[<-ejv];refine zae (ze8 m i v _ zce false 2 hv x4.1 fun o5 x5=>?_);have d0:=x5.keep h0 (by decide) hpv;have dD:=x5.keep hD (by omega) rfl;have b0:=zar d0 (OB.box 34 [.s [],.nil,.nil,.nil,.nil]);have bD:=zar dD (OB.box 34 [.s [],.nil,.nil,.nil,.nil]);rw[ejv];simp only[sxZ,z6,z7,z8,j4,j5,j6,j7,j8,j9,x6,x7,x8,x9,y4,y5,reduceCtorEq,↓reduceIte,d0,dD,b0,bD,gn1,sn1];rw[zac];have hl5:=x5.2.1;exact⟨o5.length,(x4.trans x5).app _,by omega,gn1 _ _,rfl,rfl,rfl,rfl,rfl⟩
 clear hA a0 aD aj hl4 hdl4 h0 h1 hD x4 hd3;rintro o tm ⟨jb,hE,hjb,ej,hlen,t1,t2,t4,t7⟩;have f0:=hE.keep e0 (by decide) hpv;subst hZ;refine zaa fun Z hZ=>?_;simp only[sxZ,z6,z7,z8,j4,j5,j6,j7,j8,j9,x6,x7,x8,x9,y4,y5,reduceCtorEq,↓reduceIte,za,hlen,t1,t4,f0];rw[<-ejv];refine zae (ze8 m i v _ zbE true 2 hv hE.1 fun o3 x3=>?_);have hE3:=hE.trans x3;have ej3:=x3.keep ej (by omega) (by show zao _=true;simp only[zao,AV.plain,zbe,Bool.and_self]);have hjl:=(zf.1 ej3).1;simp only[sxZ,z6,z7,z8,j4,j5,j6,j7,j8,j9,x6,x7,x8,x9,y4,y5,reduceCtorEq,↓reduceIte,za,hlen,t7,ej3,hjl];generalize hA:(rsD v zce false).2=A at ej3 ⊢;generalize hC:(rsD v zbE true).2=Ct;have hE4:=hE3.own jb (.box 34 [.s (zbX m i),.row A.length (A.map .s),.row Ct.length (Ct.map .s),.nil,.nil]) (by omega) (by omega);have ej4:(o3.set jb (.box 34 [.s (zbX m i),.row A.length (A.map .s),.row Ct.length (Ct.map .s),.nil,.nil]))[jb]? = some (.box 34 [.s (zbX m i),.row A.length (A.map .s),.row Ct.length (Ct.map .s),.nil,.nil]):=zl hjl;generalize o3.set jb (.box 34 [.s (zbX m i),.row A.length (A.map .s),.row Ct.length (Ct.map .s),.nil,.nil])=o4 at hE4 ej4 ⊢;clear f0 x3 hE3 ej3 hE ej hjl o;have f0:=hE4.keep e0 (by decide) hpv;subst hZ;refine zbK (fun t3=>t3.length=87/\t3[1]? = some (.p 0 0)/\t3[2]? = some (.p 1 0)/\t3[4]? = some (.p 2 0)/\t3[7]? = some (.p jb 0)) ?_ ?_
 ·simp only[sxZ,z6,z7,z8,j4,j5,j6,j7,j8,j9,x6,x7,x8,x9,y4,y5,reduceCtorEq,↓reduceIte,zh,za,hlen,t1,t2,t4,t7,and_self]
 clear hlen t1 t2 t4 t7 tm;rintro tm ⟨hlen,t1,t2,t4,t7⟩;refine zaa fun Z hZ=>?_;have hD:DSu o1 o4 m i (orE (orE (rtE v kId) (rsD v zce false).1) (rsD v zbE true).1) jb (zbX m i) A Ct [] [] .nil .nil:=⟨hE4,ej4,.inl ⟨rfl,rfl,rfl⟩,.inl ⟨rfl,rfl,rfl⟩⟩;refine zaa fun W hW=>?_;simp only[sxZ,z6,z7,z8,j4,j5,j6,j7,j8,j9,x6,x7,x8,x9,y4,y5,reduceCtorEq,↓reduceIte,za,hlen,t1,t4,f0];rw[<-ejv];refine zae (zns m i v _ zbP 2 hv hE4.1 fun o5 x5=>?_);have D5:=hD.call x5 (by omega);have hit:=ro_len v zbP;have hok:∀y∈(roD v zbP).2,JOk y/\JBd y/\(zaB y kId).1.text.length<=100000000:=fun y hy=>hb.it hv hj zbP y (ro_it v zbP y hy);simp only[sxZ,z6,z7,z8,j4,j5,j6,j7,j8,j9,x6,x7,x8,x9,y4,y5,reduceCtorEq,↓reduceIte,za,hlen];clear hD hE4 ej4 x5 f0;generalize hMM:(roD v zbP).2=its at hit hok ⊢;generalize hM4:orE (orE (orE (rtE v kId) (rsD v zce false).1) (rsD v zbE true).1) (roD v zbP).1=e4 at D5;have hl4:=zaI its;subst hW;rw[za8];refine zaK (fun n o tm=>∃(j:Nat),j<=its.length/\n=its.length - j/\(∃M,DSu o1 o m i (orE e4 (feD (rmD m i) (its.take j))) jb (zbX m i) A Ct ((its.take j).map fun y=>(rmD m i y).2) [] M .nil)/\tm.length=87/\tm[1]? = some (.p 0 0)/\tm[2]? = some (.p 1 0)/\tm[4]? = some (.p 2 0)/\tm[7]? = some (.p jb 0)/\tm[44]? = some (.row its.length (zab its))/\tm[45]? = some (.i .i64 (its.length:Int))/\tm[46]? = some (.i .i64 (j:Int))) its.length ⟨0,zd _,rfl,⟨.nil,by rw[xg,feD,zfE];exact D5⟩,?_⟩ ?_
 ·simp only[sxZ,z6,z7,z8,j4,j5,j6,j7,j8,j9,x6,x7,x8,x9,y4,y5,reduceCtorEq,↓reduceIte,zh,za,hlen,t1,t2,t4,t7,ye,and_self]
 clear D5 hlen t1 t2 t4 t7 tm;rintro n o tm ⟨j,hjl,rfl,⟨M,D⟩,hlen,t1,t2,t4,t7,t44,t45,t46⟩;refine zaa fun W hW=>?_
 by_cases hlt:(j:Int)<(its.length:Int)
 ·have hi':j<its.length:=by omega
  have kv:=zea hi';obtain⟨y1,y2,y3⟩:=hok its[j] (jc hi');have htk:its.take (j+1)=its.take j++[its[j]]:=by rw[yb,zm hi'];rfl
  generalize its[j]=y at kv htk y1 y2 y3;have hfe:orE e4 (feD (rmD m i) (its.take (j+1)))=orE (orE e4 (feD (rmD m i) (its.take j))) (rmD m i y).1:=by rw[htk,zkf,zaE]
  have hmp:(its.take (j+1)).map (fun y=>(rmD m i y).2)=(its.take j).map (fun y=>(rmD m i y).2)++[(rmD m i y).2]:=by rw[htk,jg];rfl
  have hfl:((its.take j).map fun y=>(rmD m i y).2).length=j:=by rw[qq,qc];omega
  generalize orE e4 (feD (rmD m i) (its.take j))=E at D hfe;generalize (its.take j).map (fun y=>(rmD m i y).2)=acc at D hmp hfl;have ey:=zad y;have hpy:PlO (OB.box 25 [.i .i64 y.kind,.s y.text,.row y.keys.length (y.keys.map .s),.row y.items.length (zab y.items)]):=by
   show zao _=true;rw[<-ey];exact zaN y
  rw[ey] at kv;simp only[sxZ,z6,z7,z8,j4,j5,j6,j7,j8,j9,x6,x7,x8,x9,y4,y5,reduceCtorEq,↓reduceIte,za,hlen,t45,t46,hlt];subst hW;refine zaa fun W hW=>?_;simp only[sxZ,z6,z7,z8,j4,j5,j6,j7,j8,j9,x6,x7,x8,x9,y4,y5,reduceCtorEq,↓reduceIte,za,hlen];subst hW;refine zaa fun V hV=>?_;rw[za8];refine zaa fun W hW=>?_;simp only[sxZ,z6,z7,z8,j4,j5,j6,j7,j8,j9,x6,x7,x8,x9,y4,y5,reduceCtorEq,↓reduceIte,za,hlen,t44,t46,kv];refine⟨⟨by omega,by omega,by omega⟩,by omega,?_⟩;simp only[sxZ,z6,z7,z8,j4,j5,j6,j7,j8,j9,x6,x7,x8,x9,y4,y5,reduceCtorEq,↓reduceIte,za,hlen,gn1,sn1];have Da:=D.app (OB.box 25 [.i .i64 y.kind,.s y.text,.row y.keys.length (y.keys.map .s),.row y.items.length (zab y.items)]);have eya:(o++[OB.box 25 [.i .i64 y.kind,.s y.text,.row y.keys.length (y.keys.map .s),.row y.items.length (zab y.items)]])[o.length]? = some (OB.box 25 [.i .i64 y.kind,.s y.text,.row y.keys.length (y.keys.map .s),.row y.items.length (zab y.items)]):=gn1 _ _;have hol:=D.ex.2.1;rw[el] at hol;generalize o.length=p at eya hol ⊢;generalize o++[OB.box 25 [.i .i64 y.kind,.s y.text,.row y.keys.length (y.keys.map .s),.row y.items.length (zab y.items)]]=oa at Da eya ⊢;clear D;subst hW;refine zbK (fun t3=>t3.length=87/\t3[1]? = some (.p 0 0)/\t3[2]? = some (.p 1 0)/\t3[4]? = some (.p 2 0)/\t3[7]? = some (.p jb 0)/\t3[9]? = some (.p p 0)/\t3[44]? = some (.row its.length (zab its))/\t3[45]? = some (.i .i64 (its.length:Int))/\t3[46]? = some (.i .i64 (j:Int))) ?_ ?_
  ·simp only[sxZ,z6,z7,z8,j4,j5,j6,j7,j8,j9,x6,x7,x8,x9,y4,y5,reduceCtorEq,↓reduceIte,zh,za,hlen,t1,t2,t4,t7,t44,t45,t46,and_self]
  clear hlen t1 t2 t4 t7 t44 t45 t46 tm;rintro tm ⟨hlen,t1,t2,t4,t7,t9,t44,t45,t46⟩;have eja:=Da.ej;unfold DoB at eja;simp only[sxZ,z6,z7,z8,j4,j5,j6,j7,j8,j9,x6,x7,x8,x9,y4,y5,reduceCtorEq,↓reduceIte,za,hlen,t4,t7,t9,eya,eja];rw[<-ey];refine zae (rqm_k m i y E 2 y1 (by omega) (by omega) y3 Da.ex.1 fun ob xb=>?_);have Db:=Da.call xb (by omega);have eyb:=xb.keep eya (by omega) hpy;clear Da eya eja xb;generalize rmD m i y=R at hfe hmp Db ⊢;obtain⟨er,xm⟩:=R;dsimp only at hfe hmp Db ⊢;rw[ey];unfold mtc;have ejb:=Db.ej;unfold DoB at ejb;have hjb2:=(zf.1 ejb).1;have hob:=Db.ex.2.1;rw[el] at hob;have hmc:zhp [xm]=[.s xm.id,.s xm.typ,.s xm.ctl]:=rfl;have hca:=zld acc;rcases Db.rm with ⟨h0,h1,rfl⟩|⟨r,g,rfl,hr3,hr⟩
  ·have ejb':∀z,(ob++[z])[jb]? = some (OB.box 34 [.s (zbX m i),.row A.length (A.map .s),.row Ct.length (Ct.map .s),.nil,.nil]):=fun z=>zar ejb z;simp only[sxZ,z6,z7,z8,j4,j5,j6,j7,j8,j9,x6,x7,x8,x9,y4,y5,reduceCtorEq,↓reduceIte,za,hlen,t4,t7,t9,eyb,ejb,ejb'];subst hV;simp only[sxZ,z6,z7,z8,j4,j5,j6,j7,j8,j9,x6,x7,x8,x9,y4,y5,reduceCtorEq,↓reduceIte,za,hlen,t1,t2,t4,t7,t44,t45,t46];refine⟨by omega,its.length - (j+1),by omega,j+1,by omega,rfl,⟨.orow ob.length 0,?_⟩,rfl⟩;rw[hfe,hmp];refine⟨(Db.ex.app _).own jb _ (by omega) (by omega),?_,.inr ⟨ob.length,0,rfl,by omega,?_⟩,(Db.rv.mono _).set (ejb' _) (by intro _ _ _ h;cases h) _⟩
   ·rw[zl (by rw[zk];omega)];rfl
   ·rw[zi (by omega),gn1,zig,h1,hmc,zk,h0];rfl
  ·have hrl:=(zf.1 hr).1;have hrj:¬r=jb:=fun h=>by rw[h,ejb] at hr;cases hr
   simp only[sxZ,z6,z7,z8,j4,j5,j6,j7,j8,j9,x6,x7,x8,x9,y4,y5,reduceCtorEq,↓reduceIte,za,hlen,t4,t7,t9,eyb,ejb,hr,hrj];refine⟨⟨by omega,by omega⟩,?_⟩;subst hV;simp only[sxZ,z6,z7,z8,j4,j5,j6,j7,j8,j9,x6,x7,x8,x9,y4,y5,reduceCtorEq,↓reduceIte,za,hlen,t1,t2,t4,t7,t44,t45,t46];refine⟨by omega,its.length - (j+1),by omega,j+1,by omega,rfl,⟨.orow r (g+1),?_⟩,rfl⟩;rw[hfe,hmp];have hS:=zaW ejb (r:=r) hrj (OB.orow 48 3 (g+1) (acc.length+1) (zhp acc++[.s xm.id,.s xm.typ,.s xm.ctl]));refine⟨(Db.ex.own r _ (by omega) (by omega)).own jb _ (by omega) (by omega),?_,.inr ⟨r,g+1,rfl,by omega,?_⟩,(Db.rv.set hr (by intro _ _ _ h;injection h with h;cases h) _).set hS (by intro _ _ _ h;cases h) _⟩
   ·rw[zl (by rw[zh];omega)];rfl
   ·rw[zi (fun h=>hrj h.symm),zl hrl,zig,hmc,zk];rfl
 have hn:j=its.length:=by omega
 rw[hn,ju (ze _)] at D;simp only[sxZ,z6,z7,z8,j4,j5,j6,j7,j8,j9,x6,x7,x8,x9,y4,y5,reduceCtorEq,↓reduceIte,za,hlen,t45,t46,hlt];subst hW;simp only[sxZ,z6,z7,z8,j4,j5,j6,j7,j8,j9,x6,x7,x8,x9,y4,y5,reduceCtorEq,↓reduceIte,za,hlen];subst hZ;refine zbK (fun t3=>t3.length=87/\t3[1]? = some (.p 0 0)/\t3[2]? = some (.p 1 0)/\t3[4]? = some (.p 2 0)/\t3[7]? = some (.p jb 0)) ?_ ?_
 ·simp only[sxZ,z6,z7,z8,j4,j5,j6,j7,j8,j9,x6,x7,x8,x9,y4,y5,reduceCtorEq,↓reduceIte,zh,za,hlen,t1,t2,t4,t7,and_self]
 clear hlen t1 t2 t4 t7 t44 t45 t46 tm;rintro tm ⟨hlen,t1,t2,t4,t7⟩;refine zaa fun Z hZ=>?_;have f0:=D.ex.keep e0 (by decide) hpv;have hFd:rdF m i v=orE (orE (orE e4 (feD (rmD m i) its)) (roD v zbr).1) (feD (rvD m i) (roD v zbr).2):=by unfold rdF;rw[hMM,<-hM4]
 have hOd:rdO m i v=⟨zbX m i,A,Ct,its.map (fun y=>(rmD m i y).2),(roD v zbr).2.map (fun y=>(rvD m i y).2)⟩:=by unfold rdO;rw[hA,hC,hMM]
 have hmsl:(its.map fun y=>(rmD m i y).2).length<=64:=by rw[qq];exact hit
 clear hok hit hl4 hlt hn hjl;generalize (its.map fun y=>(rmD m i y).2)=ms at D hOd hmsl;refine zaa fun W hW=>?_;simp only[sxZ,z6,z7,z8,j4,j5,j6,j7,j8,j9,x6,x7,x8,x9,y4,y5,reduceCtorEq,↓reduceIte,za,hlen,t1,t4,f0];rw[<-ejv];refine zae (zns m i v _ zbr 2 hv D.ex.1 fun o5 x5=>?_);have D5:=D.call x5 (by omega);have hit:=ro_len v zbr;have hok:∀y∈(roD v zbr).2,JOk y/\JBd y/\(zaB y kId).1.text.length<=100000000:=fun y hy=>hb.it hv hj zbr y (ro_it v zbr y hy);simp only[sxZ,z6,z7,z8,j4,j5,j6,j7,j8,j9,x6,x7,x8,x9,y4,y5,reduceCtorEq,↓reduceIte,za,hlen];clear D x5 f0;generalize (roD v zbr).2=itv at hit hok hFd hOd ⊢;generalize hV4:orE (orE e4 (feD (rmD m i) its)) (roD v zbr).1=e5 at D5 hFd;have hl4:=zaI itv;subst hW;rw[za8];refine zaK (fun n o tm=>∃(j:Nat),j<=itv.length/\n=itv.length - j/\(∃X,DSu o1 o m i (orE e5 (feD (rvD m i) (itv.take j))) jb (zbX m i) A Ct ms ((itv.take j).map fun y=>(rvD m i y).2) M X)/\tm.length=87/\tm[1]? = some (.p 0 0)/\tm[2]? = some (.p 1 0)/\tm[4]? = some (.p 2 0)/\tm[7]? = some (.p jb 0)/\tm[61]? = some (.row itv.length (zab itv))/\tm[62]? = some (.i .i64 (itv.length:Int))/\tm[63]? = some (.i .i64 (j:Int))) itv.length ⟨0,zd _,rfl,⟨.nil,by rw[xg,feD,zfE];exact D5⟩,?_⟩ ?_
 ·simp only[sxZ,z6,z7,z8,j4,j5,j6,j7,j8,j9,x6,x7,x8,x9,y4,y5,reduceCtorEq,↓reduceIte,zh,za,hlen,t1,t2,t4,t7,ye,and_self]
 clear D5 hlen t1 t2 t4 t7 tm;rintro n o tm ⟨j,hjl,rfl,⟨X,D⟩,hlen,t1,t2,t4,t7,t61,t62,t63⟩;refine zaa fun W hW=>?_
 by_cases hlt:(j:Int)<(itv.length:Int)
 ·have hi':j<itv.length:=by omega
  have kv:=zea hi';obtain⟨y1,y2,y3⟩:=hok itv[j] (jc hi');have htk:itv.take (j+1)=itv.take j++[itv[j]]:=by rw[yb,zm hi'];rfl
  generalize itv[j]=y at kv htk y1 y2 y3;have hfe:orE e5 (feD (rvD m i) (itv.take (j+1)))=orE (orE e5 (feD (rvD m i) (itv.take j))) (rvD m i y).1:=by rw[htk,zkf,zaE]
  have hmp:(itv.take (j+1)).map (fun y=>(rvD m i y).2)=(itv.take j).map (fun y=>(rvD m i y).2)++[(rvD m i y).2]:=by rw[htk,jg];rfl
  have hfl:((itv.take j).map fun y=>(rvD m i y).2).length=j:=by rw[qq,qc];omega
  generalize orE e5 (feD (rvD m i) (itv.take j))=E at D hfe;generalize (itv.take j).map (fun y=>(rvD m i y).2)=acc at D hmp hfl;have ey:=zad y;have hpy:PlO (OB.box 25 [.i .i64 y.kind,.s y.text,.row y.keys.length (y.keys.map .s),.row y.items.length (zab y.items)]):=by
   show zao _=true;rw[<-ey];exact zaN y
  rw[ey] at kv;simp only[sxZ,z6,z7,z8,j4,j5,j6,j7,j8,j9,x6,x7,x8,x9,y4,y5,reduceCtorEq,↓reduceIte,za,hlen,t62,t63,hlt];subst hW;refine zaa fun W hW=>?_;simp only[sxZ,z6,z7,z8,j4,j5,j6,j7,j8,j9,x6,x7,x8,x9,y4,y5,reduceCtorEq,↓reduceIte,za,hlen];subst hW;refine zaa fun V hV=>?_;rw[za8];refine zaa fun W hW=>?_;simp only[sxZ,z6,z7,z8,j4,j5,j6,j7,j8,j9,x6,x7,x8,x9,y4,y5,reduceCtorEq,↓reduceIte,za,hlen,t61,t63,kv];refine⟨⟨by omega,by omega,by omega⟩,by omega,?_⟩;simp only[sxZ,z6,z7,z8,j4,j5,j6,j7,j8,j9,x6,x7,x8,x9,y4,y5,reduceCtorEq,↓reduceIte,za,hlen,gn1,sn1];have Da:=D.app (OB.box 25 [.i .i64 y.kind,.s y.text,.row y.keys.length (y.keys.map .s),.row y.items.length (zab y.items)]);have eya:(o++[OB.box 25 [.i .i64 y.kind,.s y.text,.row y.keys.length (y.keys.map .s),.row y.items.length (zab y.items)]])[o.length]? = some (OB.box 25 [.i .i64 y.kind,.s y.text,.row y.keys.length (y.keys.map .s),.row y.items.length (zab y.items)]):=gn1 _ _;have hol:=D.ex.2.1;rw[el] at hol;generalize o.length=p at eya hol ⊢;generalize o++[OB.box 25 [.i .i64 y.kind,.s y.text,.row y.keys.length (y.keys.map .s),.row y.items.length (zab y.items)]]=oa at Da eya ⊢;clear D;subst hW;refine zbK (fun t3=>t3.length=87/\t3[1]? = some (.p 0 0)/\t3[2]? = some (.p 1 0)/\t3[4]? = some (.p 2 0)/\t3[7]? = some (.p jb 0)/\t3[11]? = some (.p p 0)/\t3[61]? = some (.row itv.length (zab itv))/\t3[62]? = some (.i .i64 (itv.length:Int))/\t3[63]? = some (.i .i64 (j:Int))) ?_ ?_
  ·simp only[sxZ,z6,z7,z8,j4,j5,j6,j7,j8,j9,x6,x7,x8,x9,y4,y5,reduceCtorEq,↓reduceIte,zh,za,hlen,t1,t2,t4,t7,t61,t62,t63,and_self]
  clear hlen t1 t2 t4 t7 t61 t62 t63 tm;rintro tm ⟨hlen,t1,t2,t4,t7,t11,t61,t62,t63⟩;have eja:=Da.ej;unfold DoB at eja;simp only[sxZ,z6,z7,z8,j4,j5,j6,j7,j8,j9,x6,x7,x8,x9,y4,y5,reduceCtorEq,↓reduceIte,za,hlen,t4,t7,t11,eya,eja];rw[<-ey];refine zae (rqv_k m i y E 2 y1 (by omega) (by omega) y3 Da.ex.1 fun ob xb=>?_);have Db:=Da.call xb (by omega);have eyb:=xb.keep eya (by omega) hpy;clear Da eya eja xb;generalize rvD m i y=R at hfe hmp Db ⊢;obtain⟨er,xm⟩:=R;dsimp only at hfe hmp Db ⊢;rw[ey];unfold svc;have ejb:=Db.ej;unfold DoB at ejb;have hjb2:=(zf.1 ejb).1;have hob:=Db.ex.2.1;rw[el] at hob;have hmc:zgX [xm]=[.s xm.id,.row xm.typ.length (xm.typ.map .s),.row xm.eps.length (xm.eps.map .s)]:=rfl;have hca:=zkz acc;rcases Db.rv with ⟨h0,h1,rfl⟩|⟨r,g,rfl,hr3,hr⟩
  ·have ejb':∀z,(ob++[z])[jb]? = some (OB.box 34 [.s (zbX m i),.row A.length (A.map .s),.row Ct.length (Ct.map .s),M,.nil]):=fun z=>zar ejb z;simp only[sxZ,z6,z7,z8,j4,j5,j6,j7,j8,j9,x6,x7,x8,x9,y4,y5,reduceCtorEq,↓reduceIte,za,hlen,t4,t7,t11,eyb,ejb,ejb'];subst hV;simp only[sxZ,z6,z7,z8,j4,j5,j6,j7,j8,j9,x6,x7,x8,x9,y4,y5,reduceCtorEq,↓reduceIte,za,hlen,t1,t2,t4,t7,t61,t62,t63];refine⟨by omega,itv.length - (j+1),by omega,j+1,by omega,rfl,⟨.orow ob.length 0,?_⟩,rfl⟩;rw[hfe,hmp];refine⟨(Db.ex.app _).own jb _ (by omega) (by omega),?_,(Db.rm.mono _).set (ejb' _) (by intro _ _ _ h;cases h) _,.inr ⟨ob.length,0,rfl,by omega,?_⟩⟩
   ·rw[zl (by rw[zk];omega)];rfl
   ·rw[zi (by omega),gn1,zhR,h1,hmc,zk,h0];rfl
  ·have hrl:=(zf.1 hr).1;have hrj:¬r=jb:=fun h=>by rw[h,ejb] at hr;cases hr
   simp only[sxZ,z6,z7,z8,j4,j5,j6,j7,j8,j9,x6,x7,x8,x9,y4,y5,reduceCtorEq,↓reduceIte,za,hlen,t4,t7,t11,eyb,ejb,hr,hrj];refine⟨⟨by omega,by omega⟩,?_⟩;subst hV;simp only[sxZ,z6,z7,z8,j4,j5,j6,j7,j8,j9,x6,x7,x8,x9,y4,y5,reduceCtorEq,↓reduceIte,za,hlen,t1,t2,t4,t7,t61,t62,t63];refine⟨by omega,itv.length - (j+1),by omega,j+1,by omega,rfl,⟨.orow r (g+1),?_⟩,rfl⟩;rw[hfe,hmp];have hS:=zaW ejb (r:=r) hrj (OB.orow 46 3 (g+1) (acc.length+1) (zgX acc++[.s xm.id,.row xm.typ.length (xm.typ.map .s),.row xm.eps.length (xm.eps.map .s)]));refine⟨(Db.ex.own r _ (by omega) (by omega)).own jb _ (by omega) (by omega),?_,(Db.rm.set hr (by intro _ _ _ h;injection h with h;cases h) _).set hS (by intro _ _ _ h;cases h) _,.inr ⟨r,g+1,rfl,by omega,?_⟩⟩
   ·rw[zl (by rw[zh];omega)];rfl
   ·rw[zi (fun h=>hrj h.symm),zl hrl,zhR,hmc,zk];rfl
 have hn:j=itv.length:=by omega
 rw[hn,ju (ze _)] at D;rw[<-hFd] at D;simp only[sxZ,z6,z7,z8,j4,j5,j6,j7,j8,j9,x6,x7,x8,x9,y4,y5,reduceCtorEq,↓reduceIte,za,hlen,t62,t63,hlt];subst hW;simp only[sxZ,z6,z7,z8,j4,j5,j6,j7,j8,j9,x6,x7,x8,x9,y4,y5,reduceCtorEq,↓reduceIte,za,hlen];subst hZ;have f1:=D.ex.keep e1 (by decide) rfl;have hf1l:=(zf.1 f1).1;have f2:=D.ex.1;unfold rqB at f2;have ej:=D.ej;unfold DoB at ej;have hjb1:jb≠1:=by omega
 refine zaa fun Z hZ=>?_
 by_cases c:rdF m i v=0
 rotate_left
 ·rw[if_pos c] at kz hk ⊢;have:=kz _ rfl;simp only[sxZ,z6,z7,z8,j4,j5,j6,j7,j8,j9,x6,x7,x8,x9,y4,y5,reduceCtorEq,↓reduceIte,za,hlen,t2,t4,f2,f1,hf1l,c];exact this
 rw[if_neg (fun e=>e c),hOd] at hk ⊢;rw[c] at f2;simp only[sxZ,z6,z7,z8,j4,j5,j6,j7,j8,j9,x6,x7,x8,x9,y4,y5,reduceCtorEq,↓reduceIte,za,hlen,t4,f2];subst hZ;generalize (itv.map fun y=>(rvD m i y).2)=vs at D hk ⊢;have s1:∀X,(o.set 1 X)[1]? = some X:=fun X=>zl hf1l;have pb1:∀O:List OB,zft O 4 (zhp ms)=some (zhp ms):=fun O=>zdL (zgy _);have pb2:∀O:List OB,zft O 4 (zgX vs)=some (zgX vs):=fun O=>zdL (zf8 _);rcases D.rm with ⟨a1,a2,rfl⟩|⟨r,g,rfl,hr3,hr⟩
 ·rcases D.rv with ⟨b1,b2,rfl⟩|⟨r',g',rfl,hr3',hr'⟩
  ·simp only[sxZ,z6,z7,z8,j4,j5,j6,j7,j8,j9,x6,x7,x8,x9,y4,y5,reduceCtorEq,↓reduceIte,za,hlen,t2,t7,ej,f1,hf1l,s1,zbe];exact⟨fun G I y h=>zhA (fun z hz=>hz) (fun z hz=>hz) (zfL.den (.inr ⟨rfl,a1,a2⟩)) (zfL.den (.inr ⟨rfl,b1,b2⟩)) h,hk⟩
  ·have hr1:¬1=r':=by omega
   simp only[sxZ,z6,z7,z8,j4,j5,j6,j7,j8,j9,x6,x7,x8,x9,y4,y5,reduceCtorEq,↓reduceIte,za,hlen,t2,t7,ej,f1,hf1l,s1,hr',hr1,zbe,zf8,pb2];exact⟨fun G I y h=>zhA (fun z hz=>hz) (fun z hz=>hz) (zfL.den (.inr ⟨rfl,a1,a2⟩)) (fun z hz=>hz) h,hk⟩
 ·have hr1:¬1=r:=by omega
  rcases D.rv with ⟨b1,b2,rfl⟩|⟨r',g',rfl,hr3',hr'⟩
  ·simp only[sxZ,z6,z7,z8,j4,j5,j6,j7,j8,j9,x6,x7,x8,x9,y4,y5,reduceCtorEq,↓reduceIte,za,hlen,t2,t7,ej,f1,hf1l,s1,hr,hr1,zbe,zgy,pb1];exact⟨fun G I y h=>zhA (fun z hz=>hz) (fun z hz=>hz) (fun z hz=>hz) (zfL.den (.inr ⟨rfl,b1,b2⟩)) h,hk⟩
  ·have hr1':¬1=r':=by omega
   simp only[sxZ,z6,z7,z8,j4,j5,j6,j7,j8,j9,x6,x7,x8,x9,y4,y5,reduceCtorEq,↓reduceIte,za,hlen,t2,t7,ej,f1,hf1l,s1,hr,hr1,hr',hr1',zbe,zgy,zf8,pb1,pb2];exact⟨fun G I y h=>h,hk⟩
end
end
section
attribute [local irreducible] run
theorem hit_ref (m i id:List UInt8) (y:JV):hitB m i id y=((zaB y kId).2&&(decide ((zaB y kId).1.kind=5)&&(decide ((zdp m i (zaB y kId).1.text).1=0)&&decide (zcv (zdp m i (zaB y kId).1.text).2=id)))):=by
 unfold hitB zdg tmD;generalize zaB y kId=R;obtain⟨s,ok⟩:=R;dsimp only
 cases ok with
 | false=>simp
 | true=>
  by_cases h5:s.kind=5
  ·by_cases hr:(zdp m i s.text).1=0<;>simp[h5,hr]
  ·simp[h5]
section
variable [Tabs Tryz.prog] {objs:List OB} {K:List OB->AV->Prop}
theorem rsel_k (v:JV) (id:List UInt8) (hv:JOk v) (hj:JBd v) (hb:IdB v) (hk:K objs (zbd (zfN v id))):zaf Tryz.prog 14 [.agg (zap v),.s id] objs K:=by
 refine zfG (zbd (zfN v id)) ?_;have kz:zfN v id=(jvZ,false)->(∀G I y,Den G I (.tup [.agg [.i .i64 0,.s [],.nil,.nil],.b false]) y->Den G I (zbd (zfN v id)) y)/\K objs (zbd (zfN v id)):=fun he=>⟨fun G I y h=>by rw[he];exact zcs (fun z hz=>zpR (k:=0) (t:=[]) hz) h,hk⟩;have ky:∀y:JV,zfN v id=(y,true)->(∀G I z,Den G I (.tup [.agg [.i .i64 y.kind,.s y.text,.row y.keys.length (y.keys.map .s),.row y.items.length (zab y.items)],.b true]) z->Den G I (zbd (zfN v id)) z)/\K objs (zbd (zfN v id)):=fun y he=>⟨fun G I z h=>by rw[he];unfold zbd;rw[zad y];exact h,hk⟩;refine za4 is_ref17_Select (by simp only[zao,AV.plain,zaN,Bool.and_self]) fun C _=>?_;rw[c_ref17_Select];have ejv:=zad v;have hsl:=zhU v;have hcan:(ddE v).1=0->zb2 (ddE v).2.id=(0,(sbD v).2.1,(sbD v).2.2)/\(ddE v).2.id.length<=100000:=fun h=>by
  have hf:=dd_fit h;rw[hf.id];exact⟨hf.did,by rw[zcE];omega⟩
 have hm:maxLen=2 ^ 63 - 1:=rfl;rw[ejv];refine zaa fun Z hZ=>?_;simp only[sxZ,z6,z7,z8,j4,j5,j6,j7,j8,j9,x6,x7,x8,x9,y4,y5,reduceCtorEq,↓reduceIte];subst hZ;refine zaa fun Z hZ=>?_;simp only[sxZ,z6,z7,z8,j4,j5,j6,j7,j8,j9,x6,x7,x8,x9,y4,y5,reduceCtorEq,↓reduceIte];rw[<-ejv];refine zae (rdd_k v hv hj hb ?_);rw[rd_dd];unfold zfN at kz ky hk ⊢;generalize ddE v=R at kz ky hk hcan ⊢;obtain⟨e,d⟩:=R;dsimp only at kz ky hk hcan ⊢;unfold zpU doc;rw[ejv];dsimp only;simp only[sxZ,z6,z7,z8,j4,j5,j6,j7,j8,j9,x6,x7,x8,x9,y4,y5,reduceCtorEq,↓reduceIte];subst hZ;refine zaa fun Z hZ=>?_
 by_cases c:e=0
 rotate_left
 ·rw[if_pos c] at kz hk ⊢;have:=kz rfl;simp only[sxZ,z6,z7,z8,j4,j5,j6,j7,j8,j9,x6,x7,x8,x9,y4,y5,reduceCtorEq,↓reduceIte,c];exact this
 subst c;rw[if_neg (show ¬((0:Int)≠0) by decide)] at kz ky hk ⊢;obtain⟨hcan,hidl⟩:=hcan rfl;simp only[sxZ,z6,z7,z8,j4,j5,j6,j7,j8,j9,x6,x7,x8,x9,y4,y5,reduceCtorEq,↓reduceIte];subst hZ;refine zaa fun Z hZ=>?_;simp only[sxZ,z6,z7,z8,j4,j5,j6,j7,j8,j9,x6,x7,x8,x9,y4,y5,reduceCtorEq,↓reduceIte];refine zae (zdG d.id (by omega) ?_);rw[hcan];generalize sbD v=R at kz ky hk hsl ⊢;obtain⟨e,m,i⟩:=R;dsimp only at kz ky hk hsl ⊢;simp only[sxZ,z6,z7,z8,j4,j5,j6,j7,j8,j9,x6,x7,x8,x9,y4,y5,reduceCtorEq,↓reduceIte];subst hZ;refine zaa fun Z hZ=>?_;refine zaa fun W hW=>?_;simp only[sxZ,z6,z7,z8,j4,j5,j6,j7,j8,j9,x6,x7,x8,x9,y4,y5,reduceCtorEq,↓reduceIte];subst hW;rw[za8];refine zaK (fun n o tm=>∃k:Nat,k<=2/\n=2 - k/\(∀y∈zfD v k,hitB m i id y=false)/\o[0]? = some (OB.box 25 [.i .i64 v.kind,.s v.text,.row v.keys.length (v.keys.map .s),.row v.items.length (zab v.items)])/\o[1]? = some (OB.box 25 [.i .i64 0,.s [],.nil,.nil])/\o[3]? = some (.box 62 [.s m,.s i])/\tm.length=85/\tm[1]? = some (.s id)/\tm[2]? = some (.p 0 0)/\tm[4]? = some (.p 1 0)/\tm[8]? = some (.p 3 0)/\tm[34]? = some (.row 2 [.s [118,101,114,105,102,105,99,97,116,105,111,110,77,101,116,104,111,100],.s [115,101,114,118,105,99,101]])/\tm[35]? = some (.i .i64 2)/\tm[36]? = some (.i .i64 (k:Int))) 2 ⟨0,zd _,rfl,(fun y hy=>by cases hy),rfl,rfl,rfl,rfl,rfl,rfl,rfl,rfl,rfl,rfl,rfl⟩ ?_;rintro n o tm ⟨k,hk2,rfl,hno,o0,o1,o3,hlen,t1,t2,t4,t8,t34,t35,t36⟩;refine zaa fun W hW=>?_
 by_cases hlt:(k:Int)<2
 ·obtain⟨key,hkey,hpart,hrest⟩:∃key,([AV.s [118,101,114,105,102,105,99,97,116,105,111,110,77,101,116,104,111,100],.s [115,101,114,118,105,99,101]]:List AV)[k*1]? = some (.s key)/\zfD v (k+1)=zfD v k++(zaB v key).1.items/\∃post,zk5 v=zfD v (k+1)++post:=by
   rcases(show k=0\/k=1 by omega) with rfl|rfl
   ·exact⟨zbP,rfl,rfl,(zaB v zbr).1.items,rfl⟩
   ·exact⟨zbr,rfl,rfl,[],(List.append_nil _).symm⟩
  simp only[sxZ,z6,z7,z8,j4,j5,j6,j7,j8,j9,x6,x7,x8,x9,y4,y5,reduceCtorEq,↓reduceIte,za,hlen,t35,t36,hlt];subst hW;refine zaa fun W hW=>?_;simp only[sxZ,z6,z7,z8,j4,j5,j6,j7,j8,j9,x6,x7,x8,x9,y4,y5,reduceCtorEq,↓reduceIte,za,hlen];subst hW;refine zaa fun Y hY=>?_;rw[za8];refine zaa fun W hW=>?_;simp only[sxZ,z6,z7,z8,j4,j5,j6,j7,j8,j9,x6,x7,x8,x9,y4,y5,reduceCtorEq,↓reduceIte,za,hlen,t34,t36,hkey]
  (and_intros<;>try omega)
  subst hW;refine zaa fun W hW=>?_;simp only[sxZ,z6,z7,z8,j4,j5,j6,j7,j8,j9,x6,x7,x8,x9,y4,y5,reduceCtorEq,↓reduceIte,za,hlen,t2,o0];rw[<-ejv];refine zae (zcc v key hv ?_);have hits:=hb.it hv hj key;have hbd:=(zil hj key).lens.2;generalize zaB v key=R at hpart hits hbd ⊢;obtain⟨x,ok⟩:=R;unfold zbd;dsimp only at hpart hits hbd ⊢;rw[zad x];simp only[sxZ,z6,z7,z8,j4,j5,j6,j7,j8,j9,x6,x7,x8,x9,y4,y5,reduceCtorEq,↓reduceIte,za,hlen,gn1,sn1];have a0:=zar o0 (OB.box 25 [.i .i64 x.kind,.s x.text,.row x.keys.length (x.keys.map .s),.row x.items.length (zab x.items)]);have a1:=zar o1 (OB.box 25 [.i .i64 x.kind,.s x.text,.row x.keys.length (x.keys.map .s),.row x.items.length (zab x.items)]);have a3:=zar o3 (OB.box 25 [.i .i64 x.kind,.s x.text,.row x.keys.length (x.keys.map .s),.row x.items.length (zab x.items)]);have aX:(o++[OB.box 25 [.i .i64 x.kind,.s x.text,.row x.keys.length (x.keys.map .s),.row x.items.length (zab x.items)]])[o.length]? = some (OB.box 25 [.i .i64 x.kind,.s x.text,.row x.keys.length (x.keys.map .s),.row x.items.length (zab x.items)]):=gn1 _ _;generalize o.length=p at aX ⊢;generalize o++[OB.box 25 [.i .i64 x.kind,.s x.text,.row x.keys.length (x.keys.map .s),.row x.items.length (zab x.items)]]=oa at a0 a1 a3 aX ⊢;clear o0 o1 o3;subst hW;refine zaa fun W hW=>?_;simp only[sxZ,z6,z7,z8,j4,j5,j6,j7,j8,j9,x6,x7,x8,x9,y4,y5,reduceCtorEq,↓reduceIte,za,hlen,aX];subst hW;clear aX;generalize x.items=its at hpart hits hbd ⊢;have hl4:=zaI its;rw[za8];refine zaK (fun n o tm=>∃j:Nat,j<=its.length/\n=its.length - j/\(∀y∈its.take j,hitB m i id y=false)/\o[0]? = some (OB.box 25 [.i .i64 v.kind,.s v.text,.row v.keys.length (v.keys.map .s),.row v.items.length (zab v.items)])/\o[1]? = some (OB.box 25 [.i .i64 0,.s [],.nil,.nil])/\o[3]? = some (.box 62 [.s m,.s i])/\tm.length=85/\tm[1]? = some (.s id)/\tm[2]? = some (.p 0 0)/\tm[4]? = some (.p 1 0)/\tm[8]? = some (.p 3 0)/\tm[34]? = some (.row 2 [.s [118,101,114,105,102,105,99,97,116,105,111,110,77,101,116,104,111,100],.s [115,101,114,118,105,99,101]])/\tm[35]? = some (.i .i64 2)/\tm[36]? = some (.i .i64 (k:Int))/\tm[47]? = some (.row its.length (zab its))/\tm[48]? = some (.i .i64 (its.length:Int))/\tm[49]? = some (.i .i64 (j:Int))) its.length ⟨0,zd _,rfl,(fun y hy=>by cases hy),a0,a1,a3,?_⟩ ?_
  ·simp only[sxZ,z6,z7,z8,j4,j5,j6,j7,j8,j9,x6,x7,x8,x9,y4,y5,reduceCtorEq,↓reduceIte,zh,za,hlen,t1,t2,t4,t8,t34,t35,t36,ye,and_self]
  clear hlen t1 t2 t4 t8 t34 t35 t36 a0 a1 a3 tm;rintro n o tm ⟨j,hjl,rfl,hnj,o0,o1,o3,hlen,t1,t2,t4,t8,t34,t35,t36,t47,t48,t49⟩;refine zaa fun W hW=>?_
  by_cases hlt2:(j:Int)<(its.length:Int)
  ·have hi':j<its.length:=by omega
   have kv:=zea hi';obtain⟨y1,y2,y3⟩:=hits its[j] (jc hi');have htk:its.take (j+1)=its.take j++[its[j]]:=by rw[yb,zm hi'];rfl
   have hsp:its=its.take j++its[j]::its.drop (j+1):=by rw[<-List.drop_eq_getElem_cons hi',List.take_append_drop]
   generalize its[j]=y at kv htk hsp y1 y2 y3;have ey:=zad y;rw[ey] at kv;simp only[sxZ,z6,z7,z8,j4,j5,j6,j7,j8,j9,x6,x7,x8,x9,y4,y5,reduceCtorEq,↓reduceIte,za,hlen,t48,t49,hlt2];subst hW;refine zaa fun W hW=>?_;simp only[sxZ,z6,z7,z8,j4,j5,j6,j7,j8,j9,x6,x7,x8,x9,y4,y5,reduceCtorEq,↓reduceIte,za,hlen];subst hW;refine zaa fun U hU=>?_;rw[za8];refine zaa fun W hW=>?_;simp only[sxZ,z6,z7,z8,j4,j5,j6,j7,j8,j9,x6,x7,x8,x9,y4,y5,reduceCtorEq,↓reduceIte,za,hlen,t47,t49,kv]
   (and_intros<;>try omega)
   simp only[sxZ,z6,z7,z8,j4,j5,j6,j7,j8,j9,x6,x7,x8,x9,y4,y5,reduceCtorEq,↓reduceIte,za,hlen,gn1,sn1];have b0:=zar o0 (OB.box 25 [.i .i64 y.kind,.s y.text,.row y.keys.length (y.keys.map .s),.row y.items.length (zab y.items)]);have b1:=zar o1 (OB.box 25 [.i .i64 y.kind,.s y.text,.row y.keys.length (y.keys.map .s),.row y.items.length (zab y.items)]);have b3:=zar o3 (OB.box 25 [.i .i64 y.kind,.s y.text,.row y.keys.length (y.keys.map .s),.row y.items.length (zab y.items)]);have bY:(o++[OB.box 25 [.i .i64 y.kind,.s y.text,.row y.keys.length (y.keys.map .s),.row y.items.length (zab y.items)]])[o.length]? = some (OB.box 25 [.i .i64 y.kind,.s y.text,.row y.keys.length (y.keys.map .s),.row y.items.length (zab y.items)]):=gn1 _ _;generalize o.length=p at bY ⊢;generalize o++[OB.box 25 [.i .i64 y.kind,.s y.text,.row y.keys.length (y.keys.map .s),.row y.items.length (zab y.items)]]=ob at b0 b1 b3 bY ⊢;clear o0 o1 o3;subst hW;refine zaa fun W hW=>?_;simp only[sxZ,z6,z7,z8,j4,j5,j6,j7,j8,j9,x6,x7,x8,x9,y4,y5,reduceCtorEq,↓reduceIte,za,hlen,t8,bY,b3];rw[<-ey];refine zae (zcc y kId y1 ?_);have hh:=hit_ref m i id y;generalize zaB y kId=R at hh y3 ⊢;obtain⟨s,ok⟩:=R;dsimp only at hh y3 ⊢;unfold zbd;dsimp only;rw[zad s];simp only[sxZ,z6,z7,z8,j4,j5,j6,j7,j8,j9,x6,x7,x8,x9,y4,y5,reduceCtorEq,↓reduceIte,za,hlen,gn1,sn1];have d0:=zar b0 (OB.box 25 [.i .i64 s.kind,.s s.text,.row s.keys.length (s.keys.map .s),.row s.items.length (zab s.items)]);have d1:=zar b1 (OB.box 25 [.i .i64 s.kind,.s s.text,.row s.keys.length (s.keys.map .s),.row s.items.length (zab s.items)]);have d3:=zar b3 (OB.box 25 [.i .i64 s.kind,.s s.text,.row s.keys.length (s.keys.map .s),.row s.items.length (zab s.items)]);have dY:=zar bY (OB.box 25 [.i .i64 s.kind,.s s.text,.row s.keys.length (s.keys.map .s),.row s.items.length (zab s.items)]);have dS:(ob++[OB.box 25 [.i .i64 s.kind,.s s.text,.row s.keys.length (s.keys.map .s),.row s.items.length (zab s.items)]])[ob.length]? = some (OB.box 25 [.i .i64 s.kind,.s s.text,.row s.keys.length (s.keys.map .s),.row s.items.length (zab s.items)]):=gn1 _ _;generalize ob.length=q at dS ⊢;generalize ob++[OB.box 25 [.i .i64 s.kind,.s s.text,.row s.keys.length (s.keys.map .s),.row s.items.length (zab s.items)]]=oc at d0 d1 d3 dY dS ⊢;clear b0 b1 b3 bY;subst hW;refine zaa fun W hW=>?_;simp only[sxZ,z6,z7,z8,j4,j5,j6,j7,j8,j9,x6,x7,x8,x9,y4,y5,reduceCtorEq,↓reduceIte,za,hlen,t8,dS,d3];refine zae (zgo m i s.text (by omega) (by omega) (by omega) ?_);obtain⟨u1,u2,u3,u4,u5⟩:=zeB m i s.text;generalize zdp m i s.text=R at hh u1 u2 u3 u4 u5 ⊢;obtain⟨e2,u⟩:=R;dsimp only at hh u1 u2 u3 u4 u5 ⊢;have hfk:=fun {objs:List OB} {K:List OB->AV->Prop} (h:K objs (.s (zcv u)))=>zhh u (by omega) (by omega) (by omega) (by omega) (by omega) (objs:=objs) (K:=K) h;generalize zcv u=fu at hh hfk;unfold zbm at hfk ⊢;simp only[sxZ,z6,z7,z8,j4,j5,j6,j7,j8,j9,x6,x7,x8,x9,y4,y5,reduceCtorEq,↓reduceIte,za,hlen,gn1,sn1];have f0:=zar d0 (OB.box 87 [.s u.meth,.s u.id,.s u.path,.s u.query,.s u.frag,.b u.hq,.b u.hf])
   have f1:=zar d1 (OB.box 87 [.s u.meth,.s u.id,.s u.path,.s u.query,.s u.frag,.b u.hq,.b u.hf]);have f3:=zar d3 (OB.box 87 [.s u.meth,.s u.id,.s u.path,.s u.query,.s u.frag,.b u.hq,.b u.hf]);have fY:=zar dY (OB.box 87 [.s u.meth,.s u.id,.s u.path,.s u.query,.s u.frag,.b u.hq,.b u.hf]);have fS:=zar dS (OB.box 87 [.s u.meth,.s u.id,.s u.path,.s u.query,.s u.frag,.b u.hq,.b u.hf]);have fU:(oc++[OB.box 87 [.s u.meth,.s u.id,.s u.path,.s u.query,.s u.frag,.b u.hq,.b u.hf]])[oc.length]? = some (OB.box 87 [.s u.meth,.s u.id,.s u.path,.s u.query,.s u.frag,.b u.hq,.b u.hf]):=gn1 _ _;generalize oc.length=q2 at fU ⊢;generalize oc++[OB.box 87 [.s u.meth,.s u.id,.s u.path,.s u.query,.s u.frag,.b u.hq,.b u.hf]]=od at f0 f1 f3 fY fS fU ⊢;clear d0 d1 d3 dY dS;subst hW;have hl1:=(zf.1 f1).1
   cases ok with
   | false=>
    simp only[sxZ,z6,z7,z8,j4,j5,j6,j7,j8,j9,x6,x7,x8,x9,y4,y5,reduceCtorEq,↓reduceIte,za,hlen,t1,fS,fU];subst hU;simp only[sxZ,z6,z7,z8,j4,j5,j6,j7,j8,j9,x6,x7,x8,x9,y4,y5,reduceCtorEq,↓reduceIte,za,hlen,t1,t2,t4,t8,t34,t35,t36,t47,t48,t49];refine⟨by omega,its.length - (j+1),by omega,j+1,by omega,rfl,?_,f0,f1,f3,rfl⟩;intro z hz;rw[htk] at hz;rcases zq.1 hz with h|h
    ·exact hnj z h
    ·rw[jy] at h;subst h;rw[hh];simp
   | true=>
   by_cases c5:s.kind=5
   rotate_left
   ·simp only[sxZ,z6,z7,z8,j4,j5,j6,j7,j8,j9,x6,x7,x8,x9,y4,y5,reduceCtorEq,↓reduceIte,za,hlen,t1,fS,fU,c5,decide_true,decide_false];subst hU;simp only[sxZ,z6,z7,z8,j4,j5,j6,j7,j8,j9,x6,x7,x8,x9,y4,y5,reduceCtorEq,↓reduceIte,za,hlen,t1,t2,t4,t8,t34,t35,t36,t47,t48,t49];refine⟨by omega,its.length - (j+1),by omega,j+1,by omega,rfl,?_,f0,f1,f3,rfl⟩;intro z hz;rw[htk] at hz;rcases zq.1 hz with h|h
    ·exact hnj z h
    ·rw[jy] at h;subst h;rw[hh];simp[c5]
   by_cases c:e2=0
   rotate_left
   ·simp only[sxZ,z6,z7,z8,j4,j5,j6,j7,j8,j9,x6,x7,x8,x9,y4,y5,reduceCtorEq,↓reduceIte,za,hlen,t1,fS,fU,c5,c,decide_true,decide_false];subst hU;simp only[sxZ,z6,z7,z8,j4,j5,j6,j7,j8,j9,x6,x7,x8,x9,y4,y5,reduceCtorEq,↓reduceIte,za,hlen,t1,t2,t4,t8,t34,t35,t36,t47,t48,t49];refine⟨by omega,its.length - (j+1),by omega,j+1,by omega,rfl,?_,f0,f1,f3,rfl⟩;intro z hz;rw[htk] at hz;rcases zq.1 hz with h|h
    ·exact hnj z h
    ·rw[jy] at h;subst h;rw[hh];simp[c]
   subst c;simp only[sxZ,z6,z7,z8,j4,j5,j6,j7,j8,j9,x6,x7,x8,x9,y4,y5,reduceCtorEq,↓reduceIte,za,hlen,t1,fS,c5,decide_true,decide_false,fU];refine zae (hfk ?_)
   by_cases cs:fu=id
   ·subst cs;have:=ky y (by
     obtain⟨post,hpost⟩:=hrest;have e9:∀(a b:List JV),its=a++y::b->zfD v k++its++post=(zfD v k++a)++y::(b++post):=fun a b h=>by rw[h];simp
     rw[hpost,hpart,e9 _ _ hsp,zlH (fun z hz=>?_) (by rw[hh];simp[c5])];rcases zq.1 hz with h|h
     ·exact hno z h
     ·exact hnj z h)
    simp only[sxZ,z6,z7,z8,j4,j5,j6,j7,j8,j9,x6,x7,x8,x9,y4,y5,reduceCtorEq,↓reduceIte,za,hlen,t1,t2,t4,t8,fY,f1,hl1,zaS,zbA,decide_true];exact this
   ·simp only[sxZ,z6,z7,z8,j4,j5,j6,j7,j8,j9,x6,x7,x8,x9,y4,y5,reduceCtorEq,↓reduceIte,za,hlen,t1,cs,decide_true,decide_false];subst hU;simp only[sxZ,z6,z7,z8,j4,j5,j6,j7,j8,j9,x6,x7,x8,x9,y4,y5,reduceCtorEq,↓reduceIte,za,hlen,t1,t2,t4,t8,t34,t35,t36,t47,t48,t49];refine⟨by omega,its.length - (j+1),by omega,j+1,by omega,rfl,?_,f0,f1,f3,rfl⟩;intro z hz;rw[htk] at hz;rcases zq.1 hz with h|h
    ·exact hnj z h
    ·rw[jy] at h;subst h;rw[hh];simp[cs]
  have hn:j=its.length:=by omega
  rw[hn,ju (ze _)] at hnj;simp only[sxZ,z6,z7,z8,j4,j5,j6,j7,j8,j9,x6,x7,x8,x9,y4,y5,reduceCtorEq,↓reduceIte,za,hlen,t48,t49,hlt2];subst hW;simp only[sxZ,z6,z7,z8,j4,j5,j6,j7,j8,j9,x6,x7,x8,x9,y4,y5,reduceCtorEq,↓reduceIte,za,hlen];subst hY;simp only[sxZ,z6,z7,z8,j4,j5,j6,j7,j8,j9,x6,x7,x8,x9,y4,y5,reduceCtorEq,↓reduceIte,za,hlen,t1,t2,t4,t8,t34,t35,t36];refine⟨by omega,2 - (k+1),by omega,k+1,by omega,rfl,?_,by rw[ejv];exact o0,o1,o3,rfl⟩;rw[hpart];intro z hz;rcases zq.1 hz with h|h
  ·exact hno z h
  ·exact hnj z h
 have hn:k=2:=by omega
 subst hn;have:=kz (by
  rw[List.find?_eq_none.2 fun z hz=>by rw[hno z hz];decide])
 have hl1:=(zf.1 o1).1;simp only[sxZ,z6,z7,z8,j4,j5,j6,j7,j8,j9,x6,x7,x8,x9,y4,y5,reduceCtorEq,↓reduceIte,za,hlen,t35,t36,hlt];subst hW;simp only[sxZ,z6,z7,z8,j4,j5,j6,j7,j8,j9,x6,x7,x8,x9,y4,y5,reduceCtorEq,↓reduceIte,za,hlen];subst hZ;simp only[sxZ,z6,z7,z8,j4,j5,j6,j7,j8,j9,x6,x7,x8,x9,y4,y5,reduceCtorEq,↓reduceIte,za,hlen,t4,o1,hl1];exact this
end
end
section
attribute [local irreducible] run
section
variable [Tabs Tryz.prog] {objs:List OB} {K:List OB->AV->Prop}
end
end
section
attribute [local irreducible] run
section
variable [Tabs Tryz.prog] {objs:List OB} {K:List OB->AV->Prop}
end
end
section
attribute [local irreducible] run
section
variable [Tabs Tryz.prog] {objs:List OB} {K:List OB->AV->Prop}
end
end
section
attribute [local irreducible] run
theorem jc_mk (k:Int) (t:List UInt8) (ks:List (List UInt8)) (its:List JV):zap (.mk k t ks its)=[.i .i64 k,.s t,.row ks.length (ks.map .s),.row its.length (zab its)]:=zad _
section
variable [Tabs Tryz.prog] {objs:List OB} {K:List OB->AV->Prop}
def ObX (k:Int) (t:List UInt8) (ks:List (List UInt8)) (its:List JV) (X:List AV):Prop:=X=zap (.mk k t ks its)\/(ks=[]/\its=[]/\X=[.i .i64 k,.s t,.nil,.nil])
omit [Tabs Tryz.prog] in
theorem zn2 {o:List OB} {d n:Nat} {xs:List AV} (h:zao xs=true):pub o d (.row n xs)=some (.row n xs):=by
 have h2:(AV.row n xs).plain=true:=h
 cases d<;>(simp only[pub];rw[if_pos h2])
omit [Tabs Tryz.prog] in
theorem zn3 {o:List OB} {d:Nat}:pub o d .nil=some .nil:=by cases d<;>(simp only[pub];rfl)
omit [Tabs Tryz.prog] in
theorem ObX.sh {k:Int} {t:List UInt8} {ks:List (List UInt8)} {its:List JV} {X:List AV} (h:ObX k t ks its X):∃A B,X=[.i .i64 k,.s t,A,B]/\A.plain=true/\B.plain=true/\(∀o d,pub o d A=some A)/\∀o d,pub o d B=some B:=by
 rcases h with rfl|⟨_,_,rfl⟩
 ·rw[jc_mk];exact⟨_,_,rfl,zaS ks,zbA its,fun o d=>zn2 (zaS ks),fun o d=>zn2 (zbA its)⟩
 ·exact⟨_,_,rfl,rfl,rfl,fun o d=>zn3,fun o d=>zn3⟩
end
end
section
attribute [local irreducible] run
section
variable [Tabs Tryz.prog] {objs:List OB} {K:List OB->AV->Prop}
end
end
section
attribute [local irreducible] run
/-! bounds of what was read -/
theorem zo5 {v:JV} (hv:JOk v):∀y∈v.items,JOk y:=fun y hy=>by
 obtain⟨i,hi,rfl⟩:=y6.1 hy;exact hv.its hi
theorem zpj {u:DidU} (h:ShD u):(zcv u).length<=200000:=by
 obtain⟨h1,h2,h3,h4,h5⟩:=h;unfold zcv;rw[zk,zk,zk,zcE];have z1:((if u.hq=true then [63]++u.query else []):List UInt8).length<=u.query.length+1:=by
  split<;>simp
 have z2:((if u.hf=true then [35]++u.frag else []):List UInt8).length<=u.frag.length+1:=by
  split<;>simp
 omega
theorem IdF.len {m i id:List UInt8} (h:IdF m i id):id.length<=200000:=by
 have:=zpj (zeB m i id);rw[h.2] at this;exact this
end
section
attribute [local irreducible] run
section
variable [Tabs Tryz.prog]
end
end
section
attribute [local irreducible] run
section
variable [Tabs Tryz.prog] {objs:List OB} {K:List OB->AV->Prop}
end
end
section
attribute [local irreducible] run
section
variable [Tabs Tryz.prog]
end
end
section
attribute [local irreducible] run
section
variable [Tabs Tryz.prog]
end
end
section
attribute [local irreducible] run
section
variable [Tabs Tryz.prog] {objs:List OB} {K:List OB->AV->Prop} {L:List (Nat×OB)}
end
end
section
attribute [local irreducible] run
section
variable [Tabs Tryz.prog]
end
end
section
attribute [local irreducible] run
section
variable [Tabs Tryz.prog]
end
end
section
attribute [local irreducible] run
section
variable [Tabs Tryz.prog] {objs:List OB} {K:List OB->AV->Prop}
end
section
variable [Tabs Tryz.prog] [Pow Tryz.prog] [Utf Tryz.prog]
end
end
section
attribute [local irreducible] run
section
variable [Tabs Tryz.prog] [Utf Tryz.prog]
end
end
section
attribute [local irreducible] run
theorem sel_ok {v:JV} (hv:JOk v) (id:List UInt8):JOk (zfN v id).1:=by
 unfold zfN
 split
 ·exact jok_z
 ·split
  ·rename_i y hy;have:=List.mem_of_find?_eq_some hy;rcases zq.1 this with h|h
   ·exact zo5 (zij hv _) y h
   ·exact zo5 (zij hv _) y h
  ·exact jok_z
section
variable [Tabs Tryz.prog] [Utf Tryz.prog]
theorem diddocSelects_c [Shp Tryz.prog] (l0:List UInt8) (w0:l0.length<=140737488351232) (l1:List UInt8) (w1:l1.length<=140737488351232):zaf Tryz.prog 4 [.s l0,.s l1] [] (fun _ r=>r=.b true):=by
 refine za4 is_law17_DiddocSelects rfl fun C _=>?_;rw[c_law17_DiddocSelects];refine zaa fun Z hZ=>?_;simp only[sxZ,z6,z7,z8,j4,j5,j6,j7,j8,j9,x6,x7,x8,x9,y4,y5,reduceCtorEq,↓reduceIte];subst hZ;refine zaa fun Z hZ=>?_;simp only[sxZ,z6,z7,z8,j4,j5,j6,j7,j8,j9,x6,x7,x8,x9,y4,y5,reduceCtorEq,↓reduceIte];refine zae (sane17_k ?_);simp only[sxZ,z6,z7,z8,j4,j5,j6,j7,j8,j9,x6,x7,x8,x9,y4,y5,reduceCtorEq,↓reduceIte];subst hZ;refine zaa fun Z hZ=>?_
 by_cases hlen:(3000:Int)<(l0.length:Int)
 ·simp only[sxZ,z6,z7,z8,j4,j5,j6,j7,j8,j9,x6,x7,x8,x9,y4,y5,reduceCtorEq,↓reduceIte,hlen]
 by_cases hle1:(300:Int)<(l1.length:Int)
 ·simp only[sxZ,z6,z7,z8,j4,j5,j6,j7,j8,j9,x6,x7,x8,x9,y4,y5,reduceCtorEq,↓reduceIte,hlen,hle1]
 simp only[sxZ,z6,z7,z8,j4,j5,j6,j7,j8,j9,x6,x7,x8,x9,y4,y5,reduceCtorEq,↓reduceIte,hlen,hle1];subst hZ;refine zaa fun Z hZ=>?_;simp only[sxZ,z6,z7,z8,j4,j5,j6,j7,j8,j9,x6,x7,x8,x9,y4,y5,reduceCtorEq,↓reduceIte];refine zae (zkY l0 (by omega) ?_);have hok:=znu (s:=l0) (by omega);have hbd:=znv (s:=l0) (by omega);have hbi:=(znt (s:=l0) (by omega)).idB;obtain⟨⟨v,a,e⟩,hx⟩:∃R,zcO l0=R:=⟨_,rfl⟩;rw[hx] at hok hbd hbi ⊢;dsimp only at hok hbd hbi;unfold zh8;have hxk:=sel_ok hok l1;have P1:=fun {objs:List OB} {K:List OB->AV->Prop} (h:K objs (zbd (zfN v l1)))=>sel_k v l1 hok hbd hbi (objs:=objs) (K:=K) h;have P2:=fun {objs:List OB} {K:List OB->AV->Prop} (h:K objs (zbd (zfN v l1)))=>rsel_k v l1 hok hbd hbi (objs:=objs) (K:=K) h;generalize zfN v l1=R at hxk P1 P2;obtain⟨x,ok⟩:=R;dsimp only at hxk;have hsm:=fun {objs:List OB} {K:List OB->AV->Prop} (h:K objs (.b (zdE x x)))=>same14_k (x.size+1) x x (Nat.lt_succ_self _) hxk (objs:=objs) (K:=K) h;rw[zha] at hsm;unfold zbd at P1 P2;dsimp only at P1 P2;rw[zad x] at P1 P2 hsm;rw[zad v] at P1 P2 ⊢;simp only[sxZ,z6,z7,z8,j4,j5,j6,j7,j8,j9,x6,x7,x8,x9,y4,y5,reduceCtorEq,↓reduceIte,gn1,sn1];subst hZ;refine zaa fun Z hZ=>?_;simp only[sxZ,z6,z7,z8,j4,j5,j6,j7,j8,j9,x6,x7,x8,x9,y4,y5,reduceCtorEq,↓reduceIte];refine zae (P1 ?_);simp only[sxZ,z6,z7,z8,j4,j5,j6,j7,j8,j9,x6,x7,x8,x9,y4,y5,reduceCtorEq,↓reduceIte,gn1,sn1];subst hZ;refine zaa fun Z hZ=>?_;simp only[sxZ,z6,z7,z8,j4,j5,j6,j7,j8,j9,x6,x7,x8,x9,y4,y5,reduceCtorEq,↓reduceIte];refine zae (P2 ?_);simp only[sxZ,z6,z7,z8,j4,j5,j6,j7,j8,j9,x6,x7,x8,x9,y4,y5,reduceCtorEq,↓reduceIte,gn1,sn1];subst hZ;refine zaa fun Z hZ=>?_;have hbb:(ok==ok)=true:=by cases ok<;>rfl
 simp only[sxZ,z6,z7,z8,j4,j5,j6,j7,j8,j9,x6,x7,x8,x9,y4,y5,reduceCtorEq,↓reduceIte,hbb];refine zae (hsm ?_);simp only[sxZ,z6,z7,z8,j4,j5,j6,j7,j8,j9,x6,x7,x8,x9,y4,y5,reduceCtorEq,↓reduceIte];subst hZ;simp only[sxZ,z6,z7,z8,j4,j5,j6,j7,j8,j9,x6,x7,x8,x9,y4,y5,reduceCtorEq,↓reduceIte]
end
end
instance tabs_utf:Utf Tryz.prog:=⟨fun _ _=>⟨trivial⟩⟩
end Go.Proofs.YtceenajkieomoaaGreatDoor
