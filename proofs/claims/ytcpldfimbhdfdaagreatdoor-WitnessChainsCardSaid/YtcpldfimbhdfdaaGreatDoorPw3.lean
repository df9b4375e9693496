/- The texts that the proofs of these statements reach, in their order, as few files. -/
import Derived.Shelf.Strings.Builder1
import Derived.Shelf.Strings.Builder2
import Derived.Shelf.Strings.OnBuilder
import Derived.Shelf.Strings.Trim
import Derived.Shelf.Small.Utf8
import Derived.Shelf.Small.Strs
import Derived.Shelf.Small.Wraps
import Derived.Shelf.Strings.BuilderF
import Derived.Shelf.Strings.BuilderK
import Derived.Shelf.Utf8.RuneCount
import Derived.Shelf.Strings.Builder2Cap
import Derived.Shelf.Strconv.Itoa0
import Derived.Shelf.Strconv.Itoa1
import Derived.Shelf.LaysM
import Derived.Shelf.Strconv.Itoa2
import Derived.Shelf.Strconv.Itoa3
import Derived.Shelf.Strconv.Itoa4
import Derived.Shelf.Strings.Search1
import Derived.Shelf.Strings.Search2
import Derived.Shelf.Strings.Search3
import Derived.Shelf.Strings.Cut
import Derived.Shelf.Strings.Count
import Derived.Shelf.Strings.Shaped
import Derived.Shelf.Strings.LastIndex
import Derived.Shelf.Strings.Prefix
import Derived.Shelf.Strings.Split
import Derived.Shelf.Strings.Replace
import Derived.Shelf.Strings.SplitShaped
import Derived.Shelf.Unicode.Decode
import Derived.Shelf.Strings.Runes
import Derived.Shelf.Strings.RuneCount
import Derived.Shelf.Strings.IndexAny
import Derived.Shelf.Strings.AsciiSet
import Derived.Shelf.Strings.IndexAnyAll
import Derived.Shelf.Strings.Explode
import Derived.Shelf.Unicode.DecodeSlow
import Derived.Shelf.Unicode.DecodeAny
import Derived.Shelf.Unicode.DecodeLast
import Derived.Shelf.Strings.BuilderCap
import Derived.Shelf.Slices.Turned
import Derived.Ground.Names2Prog
import Derived.Shelf.Slices.Clone
import Derived.Ground.SlgnProg
import Derived.Shelf.SlicesE.Clone
import Derived.Ground.PaProg
import Derived.Shelf.Path.Small
import Derived.Test.YtcpldfimbhdfdaaGreatDoorProg
import Derived.WalkKit
import Derived.WalkLawsBesides
import Derived.WalkSmall
import Derived.WalkSpells
import Derived.Lib.Hide
import Derived.Lib.IndexAny
import Derived.ShutString
import Derived.Lib.Strings
import Derived.Deep.QuietTactic
import Derived.BigQuiet
import Derived.Laws.BytesArg
import Derived.Laws.IdiomStrings
import Derived.Lib.ConvBytes
import Derived.Lib.AppendStr
import Derived.Lib.LaidTab
import Derived.Lib.ItoaNum
import Derived.ChangeAgain
import Derived.Laws.Rows
import Derived.Lib.ItoaMem
import Derived.Lib.ItoaLen
import Derived.Lib.Walk
import Derived.Lib.ItoaWalk
import Derived.Lib.AppendIntMem
import Derived.BigCall
import Derived.BigGuard
import Derived.Test.YtcpldfimbhdfdaaGreatDoorPw2
set_option linter.unusedVariables false
set_option linter.unusedSimpArgs false
set_option maxRecDepth 100000
namespace Go.Proofs.YtcpldfimbhdfdaaGreatDoor.Sx
open Go.RowKit
open List renaming all_eq_true->zo, contains_iff_mem->qn, getD_eq_getElem?_getD->jl, getElem?_eq_getElem->zq, getElem?_set->za, getElem?_set_ne->zf, getElem?_set_self->zm, length_set->zd, length_take->qg, mem_append_left->je, mem_cons->zp, mem_cons_of_mem->qm, mem_cons_self->qr, mem_filter->jf, mem_range->zr, not_mem_nil->ja, range->zb, replicate->zu
open Nat renaming le_refl->zg, lt_or_ge->ze, zero_le->zt
open Option renaming map_eq_some_iff->qe, some->zi
def rkO (l:List SO) (anc:List (List Nat)) (i:Nat):Nat:=2*((zb l.length).filter fun j=>goB (zar l j)&&zcV anc i j).length+(if goB (zar l i)=true then 1 else 0)
def zao (l:List SO):List Nat:=(zb l.length).filter fun j=>goB (zar l j)
def crsOk (l:List SO) (deps anc:List (List Nat)):Bool :=
 (zb l.length).all (fun i=>(deps.getD i []).all (fun e=>decide (e<i))&&(anc.getD i []).all fun j=>(deps.getD i []).contains j||(deps.getD i []).any fun e=>(anc.getD e []).contains j) &&
 (zb l.length).all (fun i=>zae l i==none||(zb l.length).all fun j=>i==j||zae l j != zae l i) &&
 (zb l.length).all (fun i=>(zar l i).looks.all fun t=>(zb l.length).all fun j=>j==i||zae l j != some t||(anc.getD i []).contains j||(anc.getD j []).contains i) &&
 (zb l.length).all (fun i=>goB (zar l i)||zcU (zar l i)) &&
 (zb l.length).all (fun i=>(zb l.length).all fun j=>!zcV anc i j||decide (rkO l anc j<=rkO l anc i)) &&
 (zb l.length).all (fun c=>!goB (zar l c)||(zb l.length).all fun j=>j==c||decide (rkO l anc j<rkO l anc c)||zcV anc j c) &&
 (zb (zao l).length).all (fun k=>rkO l anc ((zao l).getD k 0)==2*k+1) &&
 (zb l.length).all (fun i=>decide (rkO l anc i<=2*(zao l).length)&&(!goB (zar l i)||i==(zao l).getD (rkO l anc i / 2) 0))
def lvL (l:List SO) (anc:List (List Nat)) (k:Nat):List SO:=zcb l.length (fun i=>rkO l anc i==2*k) l
def zaI (P:Program) [Tabs P]:List (List SO×List AV×List AV)->List OB->Prop
 | [],_=>True
 | e::r,o=>wpR P e.1 o e.2.1 (fun _ x=>x=e.2.2)/\zaI P r o
def wpT (P:Program) [Tabs P]:List (List SO×SO)->List (List SO×List AV×List AV)->List SO->List OB->List AV->(List OB->List AV->Prop)->Prop
 | [],_,last,o,t,K=>wpR P last o t K
 | (L,c)::r,hist,last,o,t,K=>wpR P L o t fun _ u=>wpR P [c] o u fun o' t'=>zaI P ((L,t,u)::hist) o'/\wpT P r ((L,t,u)::hist) last o' t' K
def zay (l:List SO) (anc:List (List Nat)):Nat->Nat->List (List SO×SO)
 | 0,_=>[]
 | r+1,k=>(lvL l anc k,zar l ((zao l).getD k 0))::zay l anc r (k+1)
section
variable {P:Program} [Tabs P]
theorem zdt:∀{h:List (List SO×List AV×List AV)} {o:List OB},zaI P h o->∀e∈h,wpR P e.1 o e.2.1 (fun _ x=>x=e.2.2)
 | [],o,_,e,he=>by cases he
 | x::h,o,hr,e,he=>by
  rcases zp.1 he with rfl|he
  ·exact hr.1
  ·exact zdt hr.2 e he
theorem zcg:∀(pre:List SO) (objs:List OB) (tm:List AV) (F:List OB->List AV->Prop),(∀so∈pre,zcU so=true)->wpR P pre objs tm F->∃u,F objs u/\wpR P pre objs tm (fun _ x=>x=u)
 | [],objs,tm,F,_,h=>⟨tm,h,rfl⟩
 | so::pre,objs,tm,F,hc,h=>by
  obtain⟨d,op,rfl,c1,c2⟩:=zb9 (hc so (by simp));simp only[wpR] at h ⊢;obtain⟨v,h1,h2⟩:=za7 c1 c2 h;obtain⟨u,k1,k2⟩:=zcg pre objs _ F (fun so hs=>hc so (qm _ hs)) h2;exact⟨u,k1,h1 _ k2⟩
end
section
variable {P:Program} [Tabs P] {C:Cx} [On P C] {K:zat}
theorem crs_ok (id:Nat) (ops:Array Oper) (l:List SO) (hl:ops.toList.mapM (trO P ops.toList)=some l) (hok:crsOk l (ops.toList.map zag) (zbs (ops.toList.map zag))=true) (hm:P.follows .mixedOrders=true) {objs:List OB} {tm:List AV}
  (h:wpT P (zay l (zbs (ops.toList.map zag)) (zao l).length 0) [] (lvL l (zbs (ops.toList.map zag)) (zao l).length) objs tm fun o t=>K .normal o t):∀a w,Rel C objs tm a w->(Code.region id ops true).wp P (zdf C K) a w:=by
 have hnl:ops.size=l.length:=by
  have:=(zbD _ _ _ hl).1;simpa using this
 unfold crsOk at hok;simp only[Bool.and_eq_true] at hok;obtain⟨⟨⟨⟨⟨⟨⟨hd1,hd2⟩,hd3⟩,hkd⟩,hrk⟩,hcl⟩,hci⟩,hbd⟩:=hok;have hpre:zbi l (ops.toList.map zag) (zbs (ops.toList.map zag)) 0=true:=by
  unfold zbi;simp only[Bool.and_eq_true];exact⟨⟨⟨⟨⟨⟨by simp,hd1⟩,by simp⟩,by simp⟩,by simp⟩,by simp⟩,by simp[zd2]⟩
 have hap0:∀an,za3 l an 0=[]:=fun an=>by simp[za3]
 simp only[Bool.and_eq_true,decide_eq_true_eq,zo,zr,Bool.or_eq_true,bne_iff_ne,ne_eq,beq_iff_eq,List.any_eq_true,qn,Bool.not_eq_true'] at hd1 hd2 hd3 hkd hrk hcl hci hbd;have hlen:ops.toList.length=l.length:=by simpa using hnl
 have hdep:∀i,i<ops.size->(∀e∈(ops.toList.map zag).getD i [],e<i)/\∀j∈(zbs (ops.toList.map zag)).getD i [],j∈(ops.toList.map zag).getD i []\/∃e∈(ops.toList.map zag).getD i [],j∈(zbs (ops.toList.map zag)).getD e []:=fun i hi=>hd1 i (by omega);have halt:=zh7 (ops.toList.map zag) (zbs (ops.toList.map zag)) ops.size hdep;have hfin:=zcx (P:=P) (C:=C) (K:=K) id ops l l hl (.inl rfl) 0 hpre hm (objs:=objs) (tm:=tm);generalize zbs (ops.toList.map zag)=anc at *;clear hd1 hdep hpre;have ancIff:∀i j,zcV anc i j=true↔j∈anc.getD i []:=fun i j=>by unfold zcV;exact qn
 have hdis:∀a b,a<l.length->b<l.length->a≠b->zae l a≠none->zae l a≠zae l b:=fun a b ha hb hab hn e=>by
  rcases hd2 a ha with h0|h0
  ·exact hn h0
  ·rcases h0 b hb with h1|h1
   ·exact hab h1
   ·exact h1 e.symm
 have only:∀s j j',j<l.length->j'<l.length->zae l j=some s->zae l j'=some s->j'=j:=by
  intro s j j' h1 h2 h3 h4
  by_cases e:j'=j
  ·exact e
  ·exact absurd (h4.trans h3.symm) (hdis j' j h2 h1 e (by rw[h4];simp))
 have hrk':∀i j,i<l.length->j<l.length->j∈anc.getD i []->rkO l anc j<=rkO l anc i:=by
  intro i j hi hj hm;rcases hrk i hi j hj with h0|h0
  ·rw[(ancIff i j).2 hm] at h0;cases h0
  ·exact h0
 have evenOdd:∀i,rkO l anc i % 2=if goB (zar l i)=true then 1 else 0:=by
  intro i;unfold rkO;split<;>omega
 have calmOf:∀i,i<l.length->∀j,rkO l anc i=2*j->∃d op,zar l i=⟨some d,op,none⟩/\op.calm=true/\op.isCall=false:=by
  intro i hi j hj;have:=evenOdd i;rw[hj] at this;have hn:¬goB (zar l i)=true:=fun h=>by rw[if_pos h] at this;omega
  rcases hkd i hi with h0|h0
  ·exact absurd h0 hn
  ·exact zb9 h0
 have lvCalm:∀k,∀so∈lvL l anc k,zcU so=true:=by
  intro k so hs;obtain⟨i,hi,hp,rfl⟩:=zaW.1 hs;have hp:rkO l anc i=2*k:=by simpa using hp
  have:=evenOdd i;have hn:¬goB (zar l i)=true:=fun h=>by rw[if_pos h] at this;omega
  rcases hkd i hi with h0|h0
  ·exact absurd h0 hn
  ·exact h0
 have lvNd:∀k,((lvL l anc k).map (·.dst)).Nodup:=by
  intro k;unfold lvL zcb;rw[List.map_map];have h0:((zb l.length).filter (fun i=>rkO l anc i==2*k)).Nodup:=List.nodup_range.sublist List.filter_sublist;refine List.Pairwise.map _ ?_ (List.Pairwise.and_mem.1 h0);rintro a b ⟨ha,hb,hab⟩ e;rw[jf,zr] at ha hb;obtain⟨d,op,e1,_⟩:=calmOf a ha.1 k (by simpa using ha.2);refine hdis a b ha.1 hb.1 hab ?_ ?_
  ·rw[zaj ha.1,e1];simp
  ·rw[zaj ha.1,zaj hb.1];exact e
 generalize hmm:(zao l).length=m at *;have cMem:∀k,k<m->(zao l).getD k 0<l.length/\goB (zar l ((zao l).getD k 0))=true:=by
  intro k hk;have h0:(zao l).getD k 0∈zao l:=by
   rw[jl,zq (by omega)];exact List.getElem_mem _
  unfold zao at h0 ⊢;rw[jf,zr] at h0;exact h0
 let ci:Nat->Nat:=fun k=>(zao l).getD k 0
 have ciRk:∀k,k<m->rkO l anc (ci k)=2*k+1:=fun k hk=>hci k hk;have callIs:∀i,i<l.length->goB (zar l i)=true->∃k,k<m/\i=ci k:=by
  intro i hi hc;have h1:=(hbd i hi).1;have h2:=evenOdd i;rw[if_pos hc] at h2;rcases(hbd i hi).2 with h0|h0
  ·rw[hc] at h0;cases h0
  ·exact⟨rkO l anc i / 2,by omega,h0⟩
 let Ent (e:List SO×List AV×List AV) (u:List AV) (j:Nat):Prop:=e.1=lvL l anc j/\e.2.1.length=tm.length/\e.2.2.length=tm.length/\(∀s i,i<l.length->zae l i=some s->rkO l anc i<2*j->e.2.1[s]? = u[s]?)/\(∀s,(∀i,i<l.length->rkO l anc i<2*j->zae l i≠some s)->e.2.1[s]? = tm[s]?)/\∀s i,i<l.length->zae l i=some s->rkO l anc i=2*j->e.2.2[s]? = u[s]?
 let St (k:Nat) (hist:List (List SO×List AV×List AV)) (u:List AV):Prop:=u.length=tm.length/\(∀j,j<=k->∃e∈hist,Ent e u j)/\∀s,(∀i,i<l.length->rkO l anc i<=2*k->zae l i≠some s)->u[s]? = tm[s]?
 let T (listed:Array Bool) (o:List OB) (t:List AV):Prop:=(∀j,j<l.length->listed.getD j false=true->∀e∈anc.getD j [],listed.getD e false=true)/\∃k hist u,k<=m/\(∀j,j<m->listed.getD (ci j) false=decide (j<k))/\zaI P hist o/\St k hist u /\
  (if k=m then K .normal o u else wpR P [zar l (ci k)] o u fun o' t'=>zaI P hist o'/\wpT P (zay l anc (m - k - 1) (k+1)) hist (lvL l anc m) o' t' fun o t=>K .normal o t)/\Mix l l.length listed u tm t
 have level:∀(k:Nat) (hist:List (List SO×List AV×List AV)) (o:List OB) (tb:List AV),k<=m->tb.length=tm.length->(∀s,(∀i,i<l.length->rkO l anc i<2*k->zae l i≠some s)->tb[s]? = tm[s]?)->zaI P hist o ->
   wpT P (zay l anc (m - k) k) hist (lvL l anc m) o tb (fun o t=>K .normal o t)->∃u,u.length=tm.length/\zaI P ((lvL l anc k,tb,u)::hist) o/\(∀s,(∀i,i<l.length->rkO l anc i=2*k->zae l i≠some s)->u[s]? = tb[s]?) /\
   (if k=m then K .normal o u else wpR P [zar l (ci k)] o u fun o' t'=>zaI P ((lvL l anc k,tb,u)::hist) o'/\wpT P (zay l anc (m - k - 1) (k+1)) ((lvL l anc k,tb,u)::hist) (lvL l anc m) o' t' fun o t=>K .normal o t):=by
  intro k hist o tb hk htb hb hrc hw;have out:∀u,wpR P (lvL l anc k) o tb (fun _ x=>x=u)->u.length=tm.length/\∀s,(∀i,i<l.length->rkO l anc i=2*k->zae l i≠some s)->u[s]? = tb[s]?:=by
   intro u hu;obtain⟨u',rfl,h2,h3,_⟩:=zdr _ _ _ _ (lvCalm k) (lvNd k) hu;refine⟨h2.trans htb,fun s hs=>h3 s fun so hso e=>?_⟩;obtain⟨i,g1,g2,rfl⟩:=zaW.1 hso;exact hs i g1 (by simpa using g2) (by rw[zaj g1];exact e)
  by_cases hkm:k=m
  ·subst hkm;rw[Nat.sub_self] at hw;simp only[zay,wpT] at hw;obtain⟨u,h1,h2⟩:=zcg _ _ _ _ (lvCalm k) hw;obtain⟨h3,h4⟩:=out u h2;exact⟨u,h3,⟨h2,hrc⟩,h4,by rw[if_pos rfl];exact h1⟩
  ·obtain⟨r,hr⟩:∃r,m - k=r+1:=⟨m - k - 1,by omega⟩;rw[hr] at hw;simp only[zay,wpT] at hw;obtain⟨u,h1,h2⟩:=zcg _ _ _ _ (lvCalm k) hw;obtain⟨h3,h4⟩:=out u h2;refine⟨u,h3,⟨h2,hrc⟩,h4,?_⟩;rw[if_neg hkm,hr,Nat.add_sub_cancel];exact h1
 have agree:∀(listed:Array Bool) (x1 t:List AV) (i:Nat),i<l.length->listed.getD i false=false->(∀j∈anc.getD i [],listed.getD j false=true)->(∀j,j<l.length->listed.getD j false=true->∀e∈anc.getD j [],listed.getD e false=true)->Mix l l.length listed x1 tm t ->
   ∀s∈(zar l i).looks,((∀j,j<l.length->zae l j=some s->listed.getD j false=true/\j∈anc.getD i []/\t[s]? = x1[s]?)\/(∃j,j<l.length/\zae l j=some s/\(j=i\/i∈anc.getD j [])/\listed.getD j false=false/\t[s]? = tm[s]?))/\((∀j,j<l.length->zae l j≠some s)->t[s]? = tm[s]?):=by
  intro listed x1 t i hi hun hanc hclo hmix s hs;refine⟨?_,fun hno=>hmix.2.2 s fun j g1 _=>hno j g1⟩
  by_cases hj:∃j,j<l.length/\zae l j=some s
  ·obtain⟨j,hj1,hj2⟩:=hj;have tmcase:listed.getD j false=false->t[s]? = tm[s]?:=fun hu=>
    hmix.2.2 s fun j' g1 g2 g3=>by rw[only s j j' hj1 g1 hj2 g3,hu] at g2;cases g2
   rcases hd3 i hi s hs j hj1 with ((g|g)|g)|g
   ·subst g;exact .inr ⟨j,hj1,hj2,.inl rfl,hun,tmcase hun⟩
   ·exact absurd hj2 g
   ·left;intro j' g1 g2;obtain rfl:=only s j j' hj1 g1 hj2 g2;exact⟨hanc _ g,g,hmix.2.1 s _ hj1 (hanc _ g) hj2⟩
   ·have hu:listed.getD j false=false:=by
     cases hq:listed.getD j false with
     | false=>rfl
     | true=>
      have:=hclo j hj1 hq i g;rw[hun] at this;cases this
    exact .inr ⟨j,hj1,hj2,.inr g,hu,tmcase hu⟩
  ·exact .inl fun j g1 g2=>absurd ⟨j,g1,g2⟩ hj
 have evOf:∀(i:Nat) (t ti:List AV),(∀s∈(zar l i).looks,t[s]? = ti[s]?)->∀x∈(zar l i).op.svs,x.ev t=x.ev ti:=by
  intro i t ti hs x hx
  cases x with
  | c v=>rfl
  | t s=>
   simp only[SV.ev];rw[hs s (je _ (List.mem_filterMap.2 ⟨_,hx,rfl⟩))]
 have hge:∀i j,i<l.length->j<l.length->(j=i\/i∈anc.getD j [])->rkO l anc i<=rkO l anc j:=by
  rintro i j hi hj (rfl|h)
  ·exact zg _
  ·exact hrk' j i hj hi h
 refine hfin T (fun o t=>o=objs/\t=tm) ?_ ?_ ?_ ?_
 ·rintro listed o t hs _ h2 ⟨rfl,rfl⟩;have hall:∀j,j<l.length->listed.getD j false=false:=fun j hj=>h2 j (zt _) (by omega);obtain⟨u,q1,q2,q3,q4⟩:=level 0 [] o t (zt _) rfl (fun s _=>rfl) trivial h;refine⟨(fun j hj hl=>by rw[hall j hj] at hl;cases hl),0,_,u,zt _,(fun j hj=>?_),q2,⟨q1,?_,?_⟩,q4,rfl,(fun s j hj hl=>?_),(fun s _=>rfl)⟩
  ·rw[hall _ (cMem j hj).1];symm;exact decide_eq_false (by omega)
  ·intro j hj;obtain rfl:j=0:=by omega
   exact⟨_,qr ..,rfl,rfl,q1,(fun s i hi hd hr=>by omega),(fun s _=>rfl),fun s i hi hd hr=>rfl⟩
  ·intro s hs;exact q3 s fun i hi hr=>hs i hi (by omega)
  ·rw[hall j hj] at hl;cases hl
 ·intro listed o t i so hs hso _ hin hun hanci hT;obtain⟨hclo,k,hist,u,hk,hck,hrc,⟨hul,hent,hout⟩,hcont,hmix⟩:=hT;have hi:i<l.length:=by omega
  obtain rfl:=zeB hso;have hset:∀j,(listed.setIfInBounds i true).getD j false=if j=i then true else listed.getD j false:=fun j=>zaY listed i j false (by omega)
  have hclo':∀j,j<l.length->(listed.setIfInBounds i true).getD j false=true->∀e∈anc.getD j [],(listed.setIfInBounds i true).getD e false=true:=by
   intro j hj hl e he;rw[hset] at hl ⊢
   split
   ·rfl
   ·split at hl
    ·rename_i e1;subst e1;exact hanci e he
    ·exact hclo j hj hl e he
  have low:∀j,j<l.length->(∀e∈anc.getD j [],listed.getD e false=true)->k<m->j≠ci k->rkO l anc j<=2*k:=by
   intro j hj ha hkm hne;rcases hcl (ci k) (cMem k hkm).1 with h0|h0
   ·rw[(cMem k hkm).2] at h0;cases h0
   ·rcases h0 j hj with (h1|h1)|h1
    ·exact absurd h1 hne
    ·rw[ciRk k hkm] at h1;omega
    ·have:=ha _ ((ancIff j _).1 h1);rw[hck k hkm] at this;have:=of_decide_eq_true this;omega
  by_cases hcc:goB (zar l i)=true
  ·-- a call
   obtain⟨k',hk',rfl⟩:=callIs i hi hcc;have hkk:k'=k:=by
    have e1:=hck k' hk';rw[hun] at e1;have e1:=of_decide_eq_false e1.symm;rcases ze k k' with h0|h0
    ·have h1:=low (ci k') hi hanci (by omega) (fun e=>by
      have a1:=ciRk k' hk';have a2:=ciRk k (by omega);rw[e] at a1;omega)
     rw[ciRk k' hk'] at h1;omega
    ·omega
   subst hkk;rw[if_neg (by omega)] at hcont;obtain⟨cd,cop,hce,hcop⟩:=zk0 hcc;have hcd:zae l (ci k')=some cd:=by rw[zaj hi,hce]
   have hlook:∀s∈(zar l (ci k')).looks,t[s]? = u[s]?:=by
    intro s hs;obtain⟨w1,w2⟩:=agree listed u t (ci k') hi hun hanci hclo hmix s hs
    by_cases hj:∃j,j<l.length/\zae l j=some s
    ·obtain⟨j,hj1,hj2⟩:=hj;rcases w1 with w1|⟨j',g1,g2,g3,g4,g5⟩
     ·exact(w1 j hj1 hj2).2.2
     ·rw[g5];refine(hout s fun i' q1 q2 q3=>?_).symm;have:=only s j' i' g1 q1 g2 q3;subst this;have:=hge (ci k') i' hi q1 g3;rw[ciRk k' hk'] at this;omega
    ·rw[w2 fun j g1 g2=>hj ⟨j,g1,g2⟩,hout s fun j g1 _ g2=>hj ⟨j,g1,g2⟩]
   have hev:=evOf (ci k') t u hlook;rw[hce] at hcont hev ⊢;simp only[wpR,zah] at hcont ⊢;rw[zaQ hev];refine zgj hcop (fun o2 v hq=>?_) hcont;obtain⟨hq1,hq2⟩:=hq;have hub:∀s,(∀i,i<l.length->rkO l anc i<2*(k'+1)->zae l i≠some s)->(u.set cd v)[s]? = tm[s]?:=by
    intro s hs;have hne:¬cd=s:=fun e=>hs (ci k') hi (by rw[ciRk k' hk'];omega) (by rw[hcd,e]);rw[zf hne];exact hout s fun i' g1 g2=>hs i' g1 (by omega)
   obtain⟨u',q1,q2,q3,q4⟩:=level (k'+1) hist o2 (u.set cd v) (by omega) (by rw[zd];exact hul) hub hq1 (by rw[show m - (k'+1)=m - k' - 1 by omega];exact hq2);have hkeep:∀s i',i'<l.length->zae l i'=some s->rkO l anc i'<=2*k'->u'[s]? = u[s]?:=by
    intro s i' g1 g2 g3;rw[q3 s fun i2 w1 w2 w3=>by
     have:=only s i' i2 g1 w1 g2 w3;subst this;omega]
    refine zf fun e=>?_;have:=only s i' (ci k') g1 hi g2 (by rw[hcd,e]);rw[<-this,ciRk k' hk'] at g3;omega
   refine⟨hclo',k'+1,_,u',by omega,fun j hj=>?_,q2,⟨q1,fun j hj=>?_,fun s hs=>?_⟩,q4,?_⟩
   ·rw[hset]
    by_cases e:j=k'
    ·subst e;rw[if_pos rfl];symm;exact decide_eq_true (by omega)
    ·rw[if_neg (fun h=>e (by
      have a1:=ciRk j hj;have a2:=ciRk k' hk';rw[h] at a1;omega)),hck j hj]
     congr 1;apply propext;omega
   ·by_cases e:j=k'+1
    ·subst e;refine⟨_,qr ..,rfl,by rw[zd];exact hul,q1,fun s i' g1 g2 g3=>?_,hub,fun s i' g1 g2 g3=>rfl⟩;exact(q3 s fun i2 w1 w2 w3=>by
      have:=only s i' i2 g1 w1 g2 w3;subst this;omega).symm
    ·obtain⟨en,h1,h2,h3,h4,h5,h6,h7⟩:=hent j (by omega);refine⟨en,qm _ h1,h2,h3,h4,fun s i' g1 g2 g3=>?_,h6,fun s i' g1 g2 g3=>?_⟩
     ·rw[h5 s i' g1 g2 g3,hkeep s i' g1 g2 (by omega)]
     ·rw[h7 s i' g1 g2 g3,hkeep s i' g1 g2 (by omega)]
   ·rw[q3 s fun i' g1 g2=>hs i' g1 (by omega)];exact hub s fun i' g1 g2=>hs i' g1 (by omega)
   ·have hm2:Mix l l.length listed u' tm t:=by
     refine⟨hmix.1,fun s j hj hl hd=>?_,hmix.2.2⟩;have hjl:=low j hj (hclo j hj hl) hk' (fun e=>by rw[e,hun] at hl;cases hl);rw[hkeep s j hj hd hjl];exact hmix.2.1 s j hj hl hd
    refine hm2.step hi (by omega) hcd hdis hun (fun hlt=>?_) q1;rw[q3 cd fun i2 w1 w2 w3=>by
     have:=only cd (ci k') i2 hi w1 hcd w3;subst this;rw[ciRk k' hk'] at w2;omega]
    exact zm (by omega)
  ·-- a calm operation
   have hrke:∃j,rkO l anc i=2*j:=by
    have:=evenOdd i;rw[if_neg hcc] at this;exact⟨rkO l anc i / 2,by omega⟩
   obtain⟨j,hj⟩:=hrke;have hjk:j<=k:=by
    by_cases hkm:k=m
    ·have:=(hbd i hi).1;omega
    ·have h1:=low i hi hanci (by omega) (fun e=>by
      have:=ciRk k (by omega);rw[<-e] at this;omega)
     omega
   obtain⟨d,op,hso2,c1,c2⟩:=calmOf i hi j hj;have hdi:zae l i=some d:=by rw[zaj hi,hso2]
   obtain⟨⟨L,b,x⟩,he1,rfl,he3,he4,he5,he6,he7⟩:=hent j hjk;simp only at he3 he4 he5 he6 he7;have hrun:=zdt hrc _ he1;simp only at hrun;obtain⟨x',rfl,hxl,hxo,hseq⟩:=zdr _ _ _ _ (lvCalm j) (lvNd j) hrun;have hp:(fun i=>rkO l anc i==2*j) i=true:=by simpa using hj
   obtain⟨B,hB1,_,_⟩:=zb2 (p:=fun i=>rkO l anc i==2*j) l hi hp;obtain⟨ti,v,m1,m2,m3,m4⟩:=hseq _ _ _ (hB1 _ hp);have hA:∀a,a∈zcb i (fun i=>rkO l anc i==2*j) l↔∃j',j'<i/\rkO l anc j'=2*j/\zar l j'=a:=fun a=>by
    rw[zaW];simp
   have hlook:∀s∈(zar l i).looks,t[s]? = ti[s]?:=by
    intro s hs;obtain⟨w1,w2⟩:=agree listed u t i hi hun hanci hclo hmix s hs
    by_cases hjx:∃j,j<l.length/\zae l j=some s
    ·obtain⟨j',hj1,hj2⟩:=hjx;rcases w1 with w1|⟨j2,g1,g2,g3,g4,g5⟩
     ·obtain⟨_,q2,q3⟩:=w1 j' hj1 hj2;have hji:=halt i (by omega) j' q2;have hr:=hrk' i j' hi hj1 q2;rw[q3]
      by_cases e:rkO l anc j'=2*j
      ·rw[m2 s ⟨_,(hA _).2 ⟨j',hji,e,rfl⟩,by rw[<-zaj hj1];exact hj2⟩];exact(he7 s j' hj1 hj2 e).symm
      ·rw[m3 s fun a ha e2=>by
        obtain⟨j3,z1,z2,rfl⟩:=(hA a).1 ha;have:=only s j' j3 hj1 (by omega) hj2 (by rw[zaj (by omega)];exact e2);subst this;exact e z2]
       exact(he5 s j' hj1 hj2 (by omega)).symm
     ·have hr:=hge i j2 hi g1 g3;rw[g5];rw[m3 s fun a ha e2=>by
       obtain⟨j3,z1,z2,rfl⟩:=(hA a).1 ha;have:=only s j2 j3 g1 (by omega) g2 (by rw[zaj (by omega)];exact e2);subst this;rcases g3 with rfl|g3
       ·omega
       ·have:=halt j3 (by omega) i g3;omega]
      refine(he6 s fun i2 z1 z2 z3=>?_).symm;have:=only s j2 i2 g1 z1 g2 z3;subst this;omega
    ·rw[w2 fun j g1 g2=>hjx ⟨j,g1,g2⟩];rw[m3 s fun a ha e2=>by
      obtain⟨j3,z1,z2,rfl⟩:=(hA a).1 ha;exact hjx ⟨j3,by omega,by rw[zaj (by omega)];exact e2⟩]
     exact(he6 s fun i2 z1 _ z3=>hjx ⟨i2,z1,z3⟩).symm
   have hev:=evOf i t ti hlook;have hv:d<tm.length->u[d]? = some v:=fun hlt=>by
    rw[<-he7 d i hi hdi hj];exact m4 d (by rw[hso2]) (by omega)
   rw[hso2] at hev m1 ⊢;rw[<-zaQ hev] at m1;simp only[wpR,zah];obtain⟨y,g3,_,rfl⟩:=za7 c1 c2 m1;refine g3 _ ⟨hclo',k,hist,u,hk,fun j' hj'=>?_,hrc,⟨hul,hent,hout⟩,hcont,hmix.step hi (by omega) hdi hdis hun hv hul⟩;rw[hset,if_neg (fun e=>hcc (by rw[<-e];exact(cMem j' hj').2))];exact hck j' hj'
 ·intro listed o t hs hall hT;have hall:∀j,j<l.length->listed.getD j false=true:=fun j hj=>hall j (by omega);obtain⟨hclo,k,hist,u,hk,hck,hrc,⟨hul,hent,hout⟩,hcont,hmix⟩:=hT;have hkm:k=m:=by
   rcases ze k m with h0|h0
   ·have:=hck k h0;rw[hall _ (cMem k h0).1] at this;have:=of_decide_eq_true this.symm;omega
   ·omega
  subst hkm;rw[if_pos rfl] at hcont;have:t=u:=by
   refine List.ext_getElem? fun s=>?_
   by_cases hj:∃j,j<l.length/\zae l j=some s
   ·obtain⟨j,hj1,hj2⟩:=hj;exact hmix.2.1 s j hj1 (hall j hj1) hj2
   ·rw[hmix.2.2 s fun j g1 _ g3=>hj ⟨j,g1,g3⟩,hout s fun j g1 _ g3=>hj ⟨j,g1,g3⟩]
  rw[this];exact hcont
 ·simp only[List.take_zero,wpD,hap0,zdP,and_self]
end
abbrev Hst:=List (List SO×List AV×List AV)
def EntV (l:List SO) (anc:List (List Nat)) (tm:List AV) (e:List SO×List AV×List AV) (u:List AV) (j:Nat):Prop:=e.1=lvL l anc j/\e.2.1.length=tm.length/\e.2.2.length=tm.length/\(∀s i,i<l.length->zae l i=some s->rkO l anc i<2*j->e.2.1[s]? = u[s]?)/\(∀s,(∀i,i<l.length->rkO l anc i<2*j->zae l i≠some s)->e.2.1[s]? = tm[s]?)/\∀s i,i<l.length->zae l i=some s->rkO l anc i=2*j->e.2.2[s]? = u[s]?
def StV (l:List SO) (anc:List (List Nat)) (tm:List AV) (k:Nat) (hist:Hst) (u:List AV):Prop:=u.length=tm.length/\(∀j,j<=k->∃e∈hist,EntV l anc tm e u j)/\∀s,(∀i,i<l.length->rkO l anc i<=2*k->zae l i≠some s)->u[s]? = tm[s]?
def TTV (P:Program) [Tabs P] (l:List SO) (anc:List (List Nat)) (m:Nat) (tm:List AV) (W:Nat->Hst->List OB->List AV->Prop) (listed:Array Bool) (o:List OB) (t:List AV):Prop :=
 (∀j,j<l.length->listed.getD j false=true->∀e∈anc.getD j [],listed.getD e false=true)/\∃k hist u,k<=m/\(∀j,j<m->listed.getD ((zao l).getD j 0) false=decide (j<k))/\zaI P hist o/\StV l anc tm k hist u/\W k hist o u/\Mix l l.length listed u tm t
def tvOk (l:List SO) (anc:List (List Nat)):Bool :=
 (zb l.length).all (fun i=>zae l i==none||(zb l.length).all fun j=>i==j||zae l j != zae l i) &&
 (zb l.length).all (fun i=>(zar l i).looks.all fun t=>(zb l.length).all fun j=>j==i||zae l j != some t||(anc.getD i []).contains j||(anc.getD j []).contains i) &&
 (zb l.length).all (fun i=>goB (zar l i)||zcU (zar l i)) &&
 (zb l.length).all (fun i=>(zb l.length).all fun j=>!zcV anc i j||decide (rkO l anc j<=rkO l anc i)) &&
 (zb l.length).all (fun c=>!goB (zar l c)||(zb l.length).all fun j=>j==c||decide (rkO l anc j<rkO l anc c)||zcV anc j c) &&
 (zb (zao l).length).all (fun k=>rkO l anc ((zao l).getD k 0)==2*k+1) &&
 (zb l.length).all (fun i=>decide (rkO l anc i<=2*(zao l).length)&&(!goB (zar l i)||i==(zao l).getD (rkO l anc i / 2) 0)) &&
 (zb l.length).all (fun i=>(anc.getD i []).all fun j=>decide (j<i))
section
variable {P:Program} [Tabs P]
theorem zi3 (l:List SO) (anc:List (List Nat)) (hok:tvOk l anc=true) (m:Nat) (hmm:(zao l).length=m) (tm:List AV) (W:Nat->Hst->List OB->List AV->Prop)
  (hWs:∀(k:Nat) (hist:Hst) (o:List OB) (u:List AV),k<m->W k hist o u->wpR P [zar l ((zao l).getD k 0)] o u (fun o' t'=>zaI P hist o'/\∃u',wpR P (lvL l anc (k+1)) o' t' (fun _ x=>x=u')/\W (k+1) ((lvL l anc (k+1),t',u')::hist) o' u')) :
  (∀(objs:List OB) (u:List AV),wpR P (lvL l anc 0) objs tm (fun _ x=>x=u)->W 0 [(lvL l anc 0,tm,u)] objs u->∀listed:Array Bool,(∀j,j<l.length->listed.getD j false=false)->TTV P l anc m tm W listed objs tm) /\
  (∀(listed:Array Bool) (o:List OB) (t:List AV) (i:Nat),l.length<=listed.size->i<l.length->listed.getD i false=false->(∀j∈anc.getD i [],listed.getD j false=true)->TTV P l anc m tm W listed o t->wpR P [zar l i] o t (fun o2 t2=>TTV P l anc m tm W (listed.setIfInBounds i true) o2 t2)) /\
  (∀(listed:Array Bool) (o:List OB) (t:List AV),(∀j,j<l.length->listed.getD j false=true)->TTV P l anc m tm W listed o t->∃hist,W m hist o t):=by
 unfold tvOk at hok;simp only[Bool.and_eq_true] at hok;obtain⟨⟨⟨⟨⟨⟨⟨hd2,hd3⟩,hkd⟩,hrk⟩,hcl⟩,hci⟩,hbd⟩,hlt⟩:=hok;simp only[Bool.and_eq_true,decide_eq_true_eq,zo,zr,Bool.or_eq_true,bne_iff_ne,ne_eq,beq_iff_eq,List.any_eq_true,qn,Bool.not_eq_true'] at hd2 hd3 hkd hrk hcl hci hbd hlt;have halt:∀i,i<l.length->∀j∈anc.getD i [],j<i:=fun i hi j hj=>hlt i hi j hj;have ancIff:∀i j,zcV anc i j=true↔j∈anc.getD i []:=fun i j=>by unfold zcV;exact qn
 have hdis:∀a b,a<l.length->b<l.length->a≠b->zae l a≠none->zae l a≠zae l b:=fun a b ha hb hab hn e=>by
  rcases hd2 a ha with h0|h0
  ·exact hn h0
  ·rcases h0 b hb with h1|h1
   ·exact hab h1
   ·exact h1 e.symm
 have only:∀s j j',j<l.length->j'<l.length->zae l j=some s->zae l j'=some s->j'=j:=by
  intro s j j' h1 h2 h3 h4
  by_cases e:j'=j
  ·exact e
  ·exact absurd (h4.trans h3.symm) (hdis j' j h2 h1 e (by rw[h4];simp))
 have hrk':∀i j,i<l.length->j<l.length->j∈anc.getD i []->rkO l anc j<=rkO l anc i:=by
  intro i j hi hj hm;rcases hrk i hi j hj with h0|h0
  ·rw[(ancIff i j).2 hm] at h0;cases h0
  ·exact h0
 have evenOdd:∀i,rkO l anc i % 2=if goB (zar l i)=true then 1 else 0:=by
  intro i;unfold rkO;split<;>omega
 have calmOf:∀i,i<l.length->∀j,rkO l anc i=2*j->∃d op,zar l i=⟨some d,op,none⟩/\op.calm=true/\op.isCall=false:=by
  intro i hi j hj;have:=evenOdd i;rw[hj] at this;have hn:¬goB (zar l i)=true:=fun h=>by rw[if_pos h] at this;omega
  rcases hkd i hi with h0|h0
  ·exact absurd h0 hn
  ·exact zb9 h0
 have lvCalm:∀k,∀so∈lvL l anc k,zcU so=true:=by
  intro k so hs;obtain⟨i,hi,hp,rfl⟩:=zaW.1 hs;have hp:rkO l anc i=2*k:=by simpa using hp
  have:=evenOdd i;have hn:¬goB (zar l i)=true:=fun h=>by rw[if_pos h] at this;omega
  rcases hkd i hi with h0|h0
  ·exact absurd h0 hn
  ·exact h0
 have lvNd:∀k,((lvL l anc k).map (·.dst)).Nodup:=by
  intro k;unfold lvL zcb;rw[List.map_map];have h0:((zb l.length).filter (fun i=>rkO l anc i==2*k)).Nodup:=List.nodup_range.sublist List.filter_sublist;refine List.Pairwise.map _ ?_ (List.Pairwise.and_mem.1 h0);rintro a b ⟨ha,hb,hab⟩ e;rw[jf,zr] at ha hb;obtain⟨d,op,e1,_⟩:=calmOf a ha.1 k (by simpa using ha.2);refine hdis a b ha.1 hb.1 hab ?_ ?_
  ·rw[zaj ha.1,e1];simp
  ·rw[zaj ha.1,zaj hb.1];exact e
 simp only[hmm] at hci hbd;have cMem:∀k,k<m->(zao l).getD k 0<l.length/\goB (zar l ((zao l).getD k 0))=true:=by
  intro k hk;have h0:(zao l).getD k 0∈zao l:=by
   rw[jl,zq (by omega)];exact List.getElem_mem _
  unfold zao at h0 ⊢;rw[jf,zr] at h0;exact h0
 let ci:Nat->Nat:=fun k=>(zao l).getD k 0
 have ciRk:∀k,k<m->rkO l anc (ci k)=2*k+1:=fun k hk=>hci k hk;have callIs:∀i,i<l.length->goB (zar l i)=true->∃k,k<m/\i=ci k:=by
  intro i hi hc;have h1:=(hbd i hi).1;have h2:=evenOdd i;rw[if_pos hc] at h2;rcases(hbd i hi).2 with h0|h0
  ·rw[hc] at h0;cases h0
  ·exact⟨rkO l anc i / 2,by omega,h0⟩
 have level:∀(k:Nat) (o:List OB) (tb u:List AV),tb.length=tm.length->wpR P (lvL l anc k) o tb (fun _ x=>x=u)->u.length=tm.length/\∀s,(∀i,i<l.length->rkO l anc i=2*k->zae l i≠some s)->u[s]? = tb[s]?:=by
  intro k o tb u htb hu;obtain⟨u',rfl,h2,h3,_⟩:=zdr _ _ _ _ (lvCalm k) (lvNd k) hu;refine⟨h2.trans htb,fun s hs=>h3 s fun so hso e=>?_⟩;obtain⟨i,g1,g2,rfl⟩:=zaW.1 hso;exact hs i g1 (by simpa using g2) (by rw[zaj g1];exact e)
 have agree:∀(listed:Array Bool) (x1 t:List AV) (i:Nat),i<l.length->listed.getD i false=false->(∀j∈anc.getD i [],listed.getD j false=true)->(∀j,j<l.length->listed.getD j false=true->∀e∈anc.getD j [],listed.getD e false=true)->Mix l l.length listed x1 tm t ->
   ∀s∈(zar l i).looks,((∀j,j<l.length->zae l j=some s->listed.getD j false=true/\j∈anc.getD i []/\t[s]? = x1[s]?)\/(∃j,j<l.length/\zae l j=some s/\(j=i\/i∈anc.getD j [])/\listed.getD j false=false/\t[s]? = tm[s]?))/\((∀j,j<l.length->zae l j≠some s)->t[s]? = tm[s]?):=by
  intro listed x1 t i hi hun hanc hclo hmix s hs;refine⟨?_,fun hno=>hmix.2.2 s fun j g1 _=>hno j g1⟩
  by_cases hj:∃j,j<l.length/\zae l j=some s
  ·obtain⟨j,hj1,hj2⟩:=hj;have tmcase:listed.getD j false=false->t[s]? = tm[s]?:=fun hu=>
    hmix.2.2 s fun j' g1 g2 g3=>by rw[only s j j' hj1 g1 hj2 g3,hu] at g2;cases g2
   rcases hd3 i hi s hs j hj1 with ((g|g)|g)|g
   ·subst g;exact .inr ⟨j,hj1,hj2,.inl rfl,hun,tmcase hun⟩
   ·exact absurd hj2 g
   ·left;intro j' g1 g2;obtain rfl:=only s j j' hj1 g1 hj2 g2;exact⟨hanc _ g,g,hmix.2.1 s _ hj1 (hanc _ g) hj2⟩
   ·have hu:listed.getD j false=false:=by
     cases hq:listed.getD j false with
     | false=>rfl
     | true=>
      have:=hclo j hj1 hq i g;rw[hun] at this;cases this
    exact .inr ⟨j,hj1,hj2,.inr g,hu,tmcase hu⟩
  ·exact .inl fun j g1 g2=>absurd ⟨j,g1,g2⟩ hj
 have evOf:∀(i:Nat) (t ti:List AV),(∀s∈(zar l i).looks,t[s]? = ti[s]?)->∀x∈(zar l i).op.svs,x.ev t=x.ev ti:=by
  intro i t ti hs x hx
  cases x with
  | c v=>rfl
  | t s=>
   simp only[SV.ev];rw[hs s (je _ (List.mem_filterMap.2 ⟨_,hx,rfl⟩))]
 have hge:∀i j,i<l.length->j<l.length->(j=i\/i∈anc.getD j [])->rkO l anc i<=rkO l anc j:=by
  rintro i j hi hj (rfl|h)
  ·exact zg _
  ·exact hrk' j i hj hi h
 refine⟨?_,?_,?_⟩
 ·intro objs u hu hW listed hall;obtain⟨q1,q3⟩:=level 0 objs tm u rfl hu;refine⟨(fun j hj hl=>by rw[hall j hj] at hl;cases hl),0,[(lvL l anc 0,tm,u)],u,zt _,(fun j hj=>by rw[hall _ (cMem j hj).1];symm;exact decide_eq_false (by omega)),⟨hu,trivial⟩,⟨q1,?_,?_⟩,hW,rfl,(fun s j hj hl=>?_),(fun s _=>rfl)⟩
  ·intro j hj;obtain rfl:j=0:=by omega
   exact⟨_,qr ..,rfl,rfl,q1,(fun s i hi hd hr=>by omega),(fun s _=>rfl),fun s i hi hd hr=>rfl⟩
  ·intro s hs;exact q3 s fun i hi hr=>hs i hi (by omega)
  ·rw[hall j hj] at hl;cases hl
 ·intro listed o t i hs hi hun hanci hT;obtain⟨hclo,k,hist,u,hk,hck,hrc,⟨hul,hent,hout⟩,hcont,hmix⟩:=hT;have hset:∀j,(listed.setIfInBounds i true).getD j false=if j=i then true else listed.getD j false:=fun j=>zaY listed i j false (by omega)
  have hclo':∀j,j<l.length->(listed.setIfInBounds i true).getD j false=true->∀e∈anc.getD j [],(listed.setIfInBounds i true).getD e false=true:=by
   intro j hj hl e he;rw[hset] at hl ⊢
   split
   ·rfl
   ·split at hl
    ·rename_i e1;subst e1;exact hanci e he
    ·exact hclo j hj hl e he
  have low:∀j,j<l.length->(∀e∈anc.getD j [],listed.getD e false=true)->k<m->j≠ci k->rkO l anc j<=2*k:=by
   intro j hj ha hkm hne;rcases hcl (ci k) (cMem k hkm).1 with h0|h0
   ·rw[(cMem k hkm).2] at h0;cases h0
   ·rcases h0 j hj with (h1|h1)|h1
    ·exact absurd h1 hne
    ·rw[ciRk k hkm] at h1;omega
    ·have:=ha _ ((ancIff j _).1 h1);rw[hck k hkm] at this;have:=of_decide_eq_true this;omega
  by_cases hcc:goB (zar l i)=true
  ·-- a call
   obtain⟨k',hk',rfl⟩:=callIs i hi hcc;have hkk:k'=k:=by
    have e1:=hck k' hk';rw[hun] at e1;have e1:=of_decide_eq_false e1.symm;rcases ze k k' with h0|h0
    ·have h1:=low (ci k') hi hanci (by omega) (fun e=>by
      have a1:=ciRk k' hk';have a2:=ciRk k (by omega);rw[e] at a1;omega)
     rw[ciRk k' hk'] at h1;omega
    ·omega
   subst hkk;have hcont:=hWs k' hist o u hk' hcont;obtain⟨cd,cop,hce,hcop⟩:=zk0 hcc;have hcd:zae l (ci k')=some cd:=by rw[zaj hi,hce]
   have hlook:∀s∈(zar l (ci k')).looks,t[s]? = u[s]?:=by
    intro s hs;obtain⟨w1,w2⟩:=agree listed u t (ci k') hi hun hanci hclo hmix s hs
    by_cases hj:∃j,j<l.length/\zae l j=some s
    ·obtain⟨j,hj1,hj2⟩:=hj;rcases w1 with w1|⟨j',g1,g2,g3,g4,g5⟩
     ·exact(w1 j hj1 hj2).2.2
     ·rw[g5];refine(hout s fun i' q1 q2 q3=>?_).symm;have:=only s j' i' g1 q1 g2 q3;subst this;have:=hge (ci k') i' hi q1 g3;rw[ciRk k' hk'] at this;omega
    ·rw[w2 fun j g1 g2=>hj ⟨j,g1,g2⟩,hout s fun j g1 _ g2=>hj ⟨j,g1,g2⟩]
   have hev:=evOf (ci k') t u hlook;rw[show zar l ((zao l).getD k' 0)=_ from hce] at hcont;rw[hce] at hev ⊢;simp only[wpR,zah] at hcont ⊢;rw[zaQ hev];refine zgj hcop (fun o2 v hq=>?_) hcont;obtain⟨hq1,u',hq2,hq3⟩:=hq;have hub:∀s,(∀i,i<l.length->rkO l anc i<2*(k'+1)->zae l i≠some s)->(u.set cd v)[s]? = tm[s]?:=by
    intro s hs;have hne:¬cd=s:=fun e=>hs (ci k') hi (by rw[ciRk k' hk'];omega) (by rw[hcd,e]);rw[zf hne];exact hout s fun i' g1 g2=>hs i' g1 (by omega)
   obtain⟨q1,q3⟩:=level (k'+1) o2 (u.set cd v) u' (by rw[zd];exact hul) hq2;have hkeep:∀s i',i'<l.length->zae l i'=some s->rkO l anc i'<=2*k'->u'[s]? = u[s]?:=by
    intro s i' g1 g2 g3;rw[q3 s fun i2 w1 w2 w3=>by
     have:=only s i' i2 g1 w1 g2 w3;subst this;omega]
    refine zf fun e=>?_;have:=only s i' (ci k') g1 hi g2 (by rw[hcd,e]);rw[<-this,ciRk k' hk'] at g3;omega
   refine⟨hclo',k'+1,(lvL l anc (k'+1),u.set cd v,u')::hist,u',by omega,fun j hj=>?_,⟨hq2,hq1⟩,⟨q1,fun j hj=>?_,fun s hs=>?_⟩,hq3,?_⟩
   ·rw[hset]
    by_cases e:j=k'
    ·subst e;rw[if_pos rfl];symm;exact decide_eq_true (by omega)
    ·rw[if_neg (fun h=>e (by
      have a1:rkO l anc ((zao l).getD j 0)=2*j+1:=ciRk j hj;have a2:=ciRk k' hk';rw[h] at a1;omega)),hck j hj]
     congr 1;apply propext;omega
   ·by_cases e:j=k'+1
    ·subst e;refine⟨_,qr ..,rfl,by rw[zd];exact hul,q1,fun s i' g1 g2 g3=>?_,hub,fun s i' g1 g2 g3=>rfl⟩;exact(q3 s fun i2 w1 w2 w3=>by
      have:=only s i' i2 g1 w1 g2 w3;subst this;omega).symm
    ·obtain⟨en,h1,h2,h3,h4,h5,h6,h7⟩:=hent j (by omega);refine⟨en,qm _ h1,h2,h3,h4,fun s i' g1 g2 g3=>?_,h6,fun s i' g1 g2 g3=>?_⟩
     ·rw[h5 s i' g1 g2 g3,hkeep s i' g1 g2 (by omega)]
     ·rw[h7 s i' g1 g2 g3,hkeep s i' g1 g2 (by omega)]
   ·rw[q3 s fun i' g1 g2=>hs i' g1 (by omega)];exact hub s fun i' g1 g2=>hs i' g1 (by omega)
   ·have hm2:Mix l l.length listed u' tm t:=by
     refine⟨hmix.1,fun s j hj hl hd=>?_,hmix.2.2⟩;have hjl:=low j hj (hclo j hj hl) hk' (fun e=>by rw[e,hun] at hl;cases hl);rw[hkeep s j hj hd hjl];exact hmix.2.1 s j hj hl hd
    refine hm2.step hi (by omega) hcd hdis hun (fun hlt=>?_) q1;rw[q3 cd fun i2 w1 w2 w3=>by
     have:=only cd (ci k') i2 hi w1 hcd w3;subst this;rw[ciRk k' hk'] at w2;omega]
    exact zm (by omega)
  ·-- a calm operation
   have hrke:∃j,rkO l anc i=2*j:=by
    have:=evenOdd i;rw[if_neg hcc] at this;exact⟨rkO l anc i / 2,by omega⟩
   obtain⟨j,hj⟩:=hrke;have hjk:j<=k:=by
    by_cases hkm:k=m
    ·have:=(hbd i hi).1;omega
    ·have h1:=low i hi hanci (by omega) (fun e=>by
      have:=ciRk k (by omega);rw[<-e] at this;omega)
     omega
   obtain⟨d,op,hso2,c1,c2⟩:=calmOf i hi j hj;have hdi:zae l i=some d:=by rw[zaj hi,hso2]
   obtain⟨⟨L,b,x⟩,he1,rfl,he3,he4,he5,he6,he7⟩:=hent j hjk;simp only at he3 he4 he5 he6 he7;have hrun:=zdt hrc _ he1;simp only at hrun;obtain⟨x',rfl,hxl,hxo,hseq⟩:=zdr _ _ _ _ (lvCalm j) (lvNd j) hrun;have hp:(fun i=>rkO l anc i==2*j) i=true:=by simpa using hj
   obtain⟨B,hB1,_,_⟩:=zb2 (p:=fun i=>rkO l anc i==2*j) l hi hp;obtain⟨ti,v,m1,m2,m3,m4⟩:=hseq _ _ _ (hB1 _ hp);have hA:∀a,a∈zcb i (fun i=>rkO l anc i==2*j) l↔∃j',j'<i/\rkO l anc j'=2*j/\zar l j'=a:=fun a=>by
    rw[zaW];simp
   have hlook:∀s∈(zar l i).looks,t[s]? = ti[s]?:=by
    intro s hs;obtain⟨w1,w2⟩:=agree listed u t i hi hun hanci hclo hmix s hs
    by_cases hjx:∃j,j<l.length/\zae l j=some s
    ·obtain⟨j',hj1,hj2⟩:=hjx;rcases w1 with w1|⟨j2,g1,g2,g3,g4,g5⟩
     ·obtain⟨_,q2,q3⟩:=w1 j' hj1 hj2;have hji:=halt i (by omega) j' q2;have hr:=hrk' i j' hi hj1 q2;rw[q3]
      by_cases e:rkO l anc j'=2*j
      ·rw[m2 s ⟨_,(hA _).2 ⟨j',hji,e,rfl⟩,by rw[<-zaj hj1];exact hj2⟩];exact(he7 s j' hj1 hj2 e).symm
      ·rw[m3 s fun a ha e2=>by
        obtain⟨j3,z1,z2,rfl⟩:=(hA a).1 ha;have:=only s j' j3 hj1 (by omega) hj2 (by rw[zaj (by omega)];exact e2);subst this;exact e z2]
       exact(he5 s j' hj1 hj2 (by omega)).symm
     ·have hr:=hge i j2 hi g1 g3;rw[g5];rw[m3 s fun a ha e2=>by
       obtain⟨j3,z1,z2,rfl⟩:=(hA a).1 ha;have:=only s j2 j3 g1 (by omega) g2 (by rw[zaj (by omega)];exact e2);subst this;rcases g3 with rfl|g3
       ·omega
       ·have:=halt j3 (by omega) i g3;omega]
      refine(he6 s fun i2 z1 z2 z3=>?_).symm;have:=only s j2 i2 g1 z1 g2 z3;subst this;omega
    ·rw[w2 fun j g1 g2=>hjx ⟨j,g1,g2⟩];rw[m3 s fun a ha e2=>by
      obtain⟨j3,z1,z2,rfl⟩:=(hA a).1 ha;exact hjx ⟨j3,by omega,by rw[zaj (by omega)];exact e2⟩]
     exact(he6 s fun i2 z1 _ z3=>hjx ⟨i2,z1,z3⟩).symm
   have hev:=evOf i t ti hlook;have hv:d<tm.length->u[d]? = some v:=fun hlt=>by
    rw[<-he7 d i hi hdi hj];exact m4 d (by rw[hso2]) (by omega)
   rw[hso2] at hev m1 ⊢;rw[<-zaQ hev] at m1;simp only[wpR,zah];obtain⟨y,g3,_,rfl⟩:=za7 c1 c2 m1;refine g3 _ ⟨hclo',k,hist,u,hk,fun j' hj'=>?_,hrc,⟨hul,hent,hout⟩,hcont,hmix.step hi (by omega) hdi hdis hun hv hul⟩;rw[hset,if_neg (fun e=>hcc (by rw[<-e];exact(cMem j' hj').2))];exact hck j' hj'
 ·intro listed o t hall hT;obtain⟨hclo,k,hist,u,hk,hck,hrc,⟨hul,hent,hout⟩,hcont,hmix⟩:=hT;have hkm:k=m:=by
   rcases ze k m with h0|h0
   ·have:=hck k h0;rw[hall _ (cMem k h0).1] at this;have:=of_decide_eq_true this.symm;omega
   ·omega
  subst hkm;have:t=u:=by
   refine List.ext_getElem? fun s=>?_
   by_cases hj:∃j,j<l.length/\zae l j=some s
   ·obtain⟨j,hj1,hj2⟩:=hj;exact hmix.2.1 s j hj1 (hall j hj1) hj2
   ·rw[hmix.2.2 s fun j g1 _ g3=>hj ⟨j,g1,g3⟩,hout s fun j g1 _ g3=>hj ⟨j,g1,g3⟩]
  rw[this];exact⟨hist,hcont⟩
def hsV (d:Nat) (p:AV) (h:Hst):Hst:=h.map fun e=>(e.1,e.2.1.set d p,e.2.2.set d p)
theorem zcG {a b:List AV} {d s:Nat} {p:AV} (hl:a.length=b.length) (h:s≠d->a[s]? = b[s]?):(a.set d p)[s]? = (b.set d p)[s]?:=by
 by_cases e:s=d
 ·subst e;rw[za,za,hl,if_pos rfl,if_pos rfl]
 ·rw[zf (fun h=>e h.symm),zf (fun h=>e h.symm)];exact h e
theorem tt_alloc {l:List SO} {anc:List (List Nat)} {m:Nat} {tm:List AV} {W0 W1:Nat->Hst->List OB->List AV->Prop} {listed:Array Bool} {o:List OB} {t:List AV} {d:Nat} {p:AV} {B:OB} (hd:∀i,i<l.length->zae l i≠some d)
  (hW:∀(k:Nat) (hist:Hst) (u:List AV),W0 k hist o u->zaI P (hsV d p hist) (o++[B])/\W1 k (hsV d p hist) (o++[B]) (u.set d p)) (h:TTV P l anc m tm W0 listed o t):TTV P l anc m (tm.set d p) W1 listed (o++[B]) (t.set d p):=by
 obtain⟨hclo,k,hist,u,hk,hck,hrc,⟨hul,hent,hout⟩,hw,hmix⟩:=h;obtain⟨h1,h2⟩:=hW k hist u hw;refine⟨hclo,k,hsV d p hist,u.set d p,hk,hck,h1,⟨by rw[zd,zd];exact hul,fun j hj=>?_,fun s hs=>zcG hul fun _=>hout s hs⟩,h2,?_⟩
 ·obtain⟨e,he,q1,q2,q3,q4,q5,q6⟩:=hent j hj;refine⟨(e.1,e.2.1.set d p,e.2.2.set d p),List.mem_map.2 ⟨e,he,rfl⟩,q1,by rw[zd,zd];exact q2,by rw[zd,zd];exact q3,fun s i hi hds hr=>?_,fun s hs=>zcG q2 fun _=>q5 s hs,fun s i hi hds hr=>?_⟩
  ·exact zcG (q2.trans hul.symm) fun _=>q4 s i hi hds hr
  ·exact zcG (q3.trans hul.symm) fun _=>q6 s i hi hds hr
 ·obtain⟨m1,m2,m3⟩:=hmix;exact⟨by rw[zd,zd];exact m1,fun s j hj hl hds=>zcG (m1.trans hul.symm) fun _=>m2 s j hj hl hds,fun s hs=>zcG m1 fun _=>m3 s hs⟩
section
variable (P)
def wpB (d:Nat) (T:TypeId) (z:List AV):List (List SO×SO)->Hst->List SO->List OB->List AV->(List OB->List AV->Prop)->Prop
 | [],hist,last,o,t,K=>wpR P last o t fun _ u=>zaI P (hsV d (.p o.length 0) ((last,t,u)::hist)) (o++[.box T z])/\K (o++[.box T z]) (u.set d (.p o.length 0))
 | (L,c)::r,hist,last,o,t,K=>wpR P L o t fun _ u=>
  (zaI P (hsV d (.p o.length 0) ((L,t,u)::hist)) (o++[.box T z])/\wpR P [c] (o++[.box T z]) (u.set d (.p o.length 0)) fun o' t'=>zaI P (hsV d (.p o.length 0) ((L,t,u)::hist)) o'/\wpT P r (hsV d (.p o.length 0) ((L,t,u)::hist)) last o' t' K) /\
  wpR P [c] o u fun o' t'=>zaI P ((L,t,u)::hist) o'/\wpB d T z r ((L,t,u)::hist) last o' t' K
end
theorem zeM {l:List SO} {anc:List (List Nat)} (hok:tvOk l anc=true) (k:Nat):∀so∈lvL l anc k,zcU so=true:=by
 intro so hs;unfold tvOk at hok;simp only[Bool.and_eq_true] at hok;obtain⟨⟨⟨⟨⟨⟨⟨_,_⟩,hkd⟩,_⟩,_⟩,_⟩,_⟩,_⟩:=hok;simp only[zo,zr,Bool.or_eq_true] at hkd;obtain⟨i,hi,hp,rfl⟩:=zaW.1 hs;have hp:rkO l anc i=2*k:=by simpa using hp
 have hn:¬goB (zar l i)=true:=fun h=>by unfold rkO at hp;rw[if_pos h] at hp;omega
 rcases hkd i hi with h0|h0
 ·exact absurd h0 hn
 ·exact h0
theorem zh1 {l:List SO} {k:Nat} (hk:k<(zao l).length):goB (zar l ((zao l).getD k 0))=true:=by
 have h0:(zao l).getD k 0∈zao l:=by
  rw[jl,zq hk];exact List.getElem_mem _
 unfold zao at h0 ⊢;rw[jf,zr] at h0;exact h0.2
theorem za8 {so:SO} (h:goB so=true\/zcU so=true) {o:List OB} {t:List AV} {F F':List OB->List AV->Prop} (hk:∀o t,F o t->F' o t) (hw:wpR P [so] o t F):wpR P [so] o t F':=by
 rcases h with h|h
 ·obtain⟨d,op,rfl,h1⟩:=zk0 h;simp only[wpR] at hw ⊢;exact zgj h1 (fun o v hq=>hk _ _ hq) hw
 ·obtain⟨d,op,rfl,c1,c2⟩:=zb9 h;simp only[wpR] at hw ⊢;obtain⟨v,h1,h2⟩:=za7 c1 c2 hw;exact h1 _ (hk _ _ h2)
section
variable (P)
def W1V (l:List SO) (anc:List (List Nat)) (m:Nat) (Kf:List OB->List AV->Prop) (k:Nat) (hist:Hst) (o:List OB) (u:List AV):Prop :=
 if k=m then Kf o u else wpR P [zar l ((zao l).getD k 0)] o u fun o' t'=>zaI P hist o'/\wpT P (zay l anc (m - k - 1) (k+1)) hist (lvL l anc m) o' t' Kf
def W0V (d:Nat) (T:TypeId) (z:List AV) (l:List SO) (anc:List (List Nat)) (m:Nat) (Kf:List OB->List AV->Prop) (k:Nat) (hist:Hst) (o:List OB) (u:List AV):Prop :=
 (zaI P (hsV d (.p o.length 0) hist) (o++[.box T z])/\W1V P l anc m Kf k (hsV d (.p o.length 0) hist) (o++[.box T z]) (u.set d (.p o.length 0))) /\
 (k<m->wpR P [zar l ((zao l).getD k 0)] o u fun o' t'=>zaI P hist o'/\wpB P d T z (zay l anc (m - k - 1) (k+1)) hist (lvL l anc m) o' t' Kf)
end
theorem split1 {l:List SO} {anc:List (List Nat)} (hok:tvOk l anc=true) {m:Nat} {Kf:List OB->List AV->Prop} {k:Nat} (hk:k<=m) {hist:Hst} {o:List OB} {t:List AV} (h:wpT P (zay l anc (m - k) k) hist (lvL l anc m) o t Kf):∃u,wpR P (lvL l anc k) o t (fun _ x=>x=u)/\W1V P l anc m Kf k ((lvL l anc k,t,u)::hist) o u:=by
 by_cases hkm:k=m
 ·subst hkm;rw[Nat.sub_self] at h;simp only[zay,wpT] at h;obtain⟨u,h1,h2⟩:=zcg _ _ _ _ (zeM hok k) h;exact⟨u,h2,by unfold W1V;rw[if_pos rfl];exact h1⟩
 ·obtain⟨r,hr⟩:∃r,m - k=r+1:=⟨m - k - 1,by omega⟩;rw[hr] at h;simp only[zay,wpT] at h;obtain⟨u,h1,h2⟩:=zcg _ _ _ _ (zeM hok k) h;refine⟨u,h2,?_⟩;unfold W1V;rw[if_neg hkm,hr,Nat.add_sub_cancel];exact h1
theorem split0 {d:Nat} {T:TypeId} {z:List AV} {l:List SO} {anc:List (List Nat)} (hok:tvOk l anc=true) {m:Nat} {Kf:List OB->List AV->Prop} {k:Nat} (hk:k<=m) {hist:Hst} {o:List OB} {t:List AV} (h:wpB P d T z (zay l anc (m - k) k) hist (lvL l anc m) o t Kf):∃u,wpR P (lvL l anc k) o t (fun _ x=>x=u)/\W0V P d T z l anc m Kf k ((lvL l anc k,t,u)::hist) o u:=by
 by_cases hkm:k=m
 ·subst hkm;rw[Nat.sub_self] at h;simp only[zay,wpB] at h;obtain⟨u,h1,h2⟩:=zcg _ _ _ (fun _ u=>zaI P (hsV d (.p o.length 0) ((lvL l anc k,t,u)::hist)) (o++[.box T z])/\Kf (o++[.box T z]) (u.set d (.p o.length 0))) (zeM hok k) h;refine⟨u,h2,⟨h1.1,?_⟩,fun h=>absurd h (Nat.lt_irrefl _)⟩;unfold W1V;rw[if_pos rfl];exact h1.2
 ·obtain⟨r,hr⟩:∃r,m - k=r+1:=⟨m - k - 1,by omega⟩;rw[hr] at h;simp only[zay,wpB] at h;obtain⟨u,h1,h2⟩:=zcg _ _ _ (fun _ u=>(zaI P (hsV d (.p o.length 0) ((lvL l anc k,t,u)::hist)) (o++[.box T z])/\wpR P [zar l ((zao l).getD k 0)] (o++[.box T z]) (u.set d (.p o.length 0)) fun o' t'=>zaI P (hsV d (.p o.length 0) ((lvL l anc k,t,u)::hist)) o'/\wpT P (zay l anc r (k+1)) (hsV d (.p o.length 0) ((lvL l anc k,t,u)::hist)) (lvL l anc m) o' t' Kf) /\
   wpR P [zar l ((zao l).getD k 0)] o u fun o' t'=>zaI P ((lvL l anc k,t,u)::hist) o'/\wpB P d T z (zay l anc r (k+1)) ((lvL l anc k,t,u)::hist) (lvL l anc m) o' t' Kf) (zeM hok k) h
  refine⟨u,h2,⟨h1.1.1,?_⟩,fun _=>?_⟩
  ·unfold W1V;rw[if_neg hkm,hr,Nat.add_sub_cancel];exact h1.1.2
  ·rw[hr,Nat.add_sub_cancel];exact h1.2
theorem step1 {l:List SO} {anc:List (List Nat)} (hok:tvOk l anc=true) {m:Nat} (hmm:(zao l).length=m) {Kf:List OB->List AV->Prop} (k:Nat) (hist:Hst) (o:List OB) (u:List AV) (hk:k<m) (h:W1V P l anc m Kf k hist o u):wpR P [zar l ((zao l).getD k 0)] o u (fun o' t'=>zaI P hist o'/\∃u',wpR P (lvL l anc (k+1)) o' t' (fun _ x=>x=u')/\W1V P l anc m Kf (k+1) ((lvL l anc (k+1),t',u')::hist) o' u'):=by
 unfold W1V at h;rw[if_neg (by omega)] at h;refine za8 (.inl (zh1 (by omega))) (fun o' t' hq=>⟨hq.1,split1 hok (by omega) (by rw[show m - (k+1)=m - k - 1 by omega];exact hq.2)⟩) h
theorem step0 {d:Nat} {T:TypeId} {z:List AV} {l:List SO} {anc:List (List Nat)} (hok:tvOk l anc=true) {m:Nat} (hmm:(zao l).length=m) {Kf:List OB->List AV->Prop} (k:Nat) (hist:Hst) (o:List OB) (u:List AV) (hk:k<m) (h:W0V P d T z l anc m Kf k hist o u):wpR P [zar l ((zao l).getD k 0)] o u (fun o' t'=>zaI P hist o'/\∃u',wpR P (lvL l anc (k+1)) o' t' (fun _ x=>x=u')/\W0V P d T z l anc m Kf (k+1) ((lvL l anc (k+1),t',u')::hist) o' u') :=
 za8 (.inl (zh1 (by omega))) (fun o' t' hq=>⟨hq.1,split0 hok (by omega) (by rw[show m - (k+1)=m - k - 1 by omega];exact hq.2)⟩) (h.2 hk)
end
def dumS:SO:=⟨some 1000003,.mv (.c .nil),none⟩
def l0V (l:List SO) (al:Nat):List SO:=(l.take (l.length - 1)).set al dumS
def alIs (so:SO):Option (Nat×TypeId×List AV):=match so with
 | ⟨some d,.alloc T z,none⟩=>some (d,T,z)
 | _=>none
def stIs (so:SO):Bool:=match so with
 | ⟨none,.store _ (.t _) (.t _),none⟩=>true
 | _=>false
def craOk (l:List SO) (deps anc:List (List Nat)) (al d:Nat):Bool :=
 (zb l.length).all (fun i=>(deps.getD i []).all (fun e=>decide (e<i))&&(anc.getD i []).all fun j=>(deps.getD i []).contains j||(deps.getD i []).any fun e=>(anc.getD e []).contains j) &&
 decide (al+1<l.length)&&stIs (zar l (l.length - 1))&&(zb (l.length - 1)).all (fun j=>zcV anc (l.length - 1) j) &&
 (zb (l.length - 1)).all (fun i=>i==al||(zae l i != some d))&&(anc.getD al []).isEmpty &&
 tvOk (l0V l al) anc&&decide (d<1000003)
theorem l0V_len (l:List SO) (al:Nat):(l0V l al).length=l.length - 1:=by unfold l0V;rw[zd,qg];omega
theorem zhb {l:List SO} {al i:Nat} (hi:i<l.length - 1) (hne:i≠al):zar (l0V l al) i=zar l i:=by
 unfold zar l0V;rw[zf (fun e=>hne e.symm),List.getElem?_take_of_lt hi]
theorem l0V_al {l:List SO} {al:Nat} (hi:al<l.length - 1):zar (l0V l al) al=dumS:=by
 unfold zar l0V;rw[zm (by rw[qg];omega)];rfl
section
variable {P:Program} [Tabs P] {C:Cx} [On P C] {K:zat}
theorem cra_ok (id:Nat) (ops:Array Oper) (l:List SO) (hl:ops.toList.mapM (trO P ops.toList)=some l) (al d:Nat) (T:TypeId) (z:List AV) (hal:alIs (zar l al)=some (d,T,z)) (hok:craOk l (ops.toList.map zag) (zbs (ops.toList.map zag)) al d=true) (hm:P.follows .mixedOrders=true) {objs:List OB} {tm:List AV} (htl:tm.length<=1000003)
  (h:wpB P d T z (zay (l0V l al) (zbs (ops.toList.map zag)) (zao (l0V l al)).length 0) [] (lvL (l0V l al) (zbs (ops.toList.map zag)) (zao (l0V l al)).length) objs tm fun o t=>wpR P [zar l (l.length - 1)] o t fun o t=>K .normal o t):∀a w,Rel C objs tm a w->(Code.region id ops true).wp P (zdf C K) a w:=by
 have hnl:ops.size=l.length:=by
  have:=(zbD _ _ _ hl).1;simpa using this
 unfold craOk at hok;simp only[Bool.and_eq_true] at hok;obtain⟨⟨⟨⟨⟨⟨⟨hd1,halt⟩,hst⟩,hlast⟩,hdd⟩,hae⟩,htv⟩,hdlt⟩:=hok;have hdlt:d<1000003:=of_decide_eq_true hdlt;have halt:al+1<l.length:=of_decide_eq_true halt;have hpre:zbi l (ops.toList.map zag) (zbs (ops.toList.map zag)) 0=true:=by
  unfold zbi;simp only[Bool.and_eq_true];exact⟨⟨⟨⟨⟨⟨by simp,hd1⟩,by simp⟩,by simp⟩,by simp⟩,by simp⟩,by simp[zd2]⟩
 have hap0:∀an,za3 l an 0=[]:=fun an=>by simp[za3]
 simp only[zo,zr,Bool.or_eq_true,bne_iff_ne,ne_eq,beq_iff_eq] at hlast hdd;have hfin:=zcx (P:=P) (C:=C) (K:=K) id ops l l hl (.inl rfl) 0 hpre hm (objs:=objs) (tm:=tm);generalize zbs (ops.toList.map zag)=anc at *;clear hd1 hpre;have hso:zar l al=⟨some d,.alloc T z,none⟩:=by
  generalize zar l al=so at hal;unfold alIs at hal
  split at hal
  ·injection hal with hal;injection hal with h1 h2;injection h2 with h2 h3;subst h1 h2 h3;rfl
  ·cases hal
 obtain⟨s1,e,u0,hstore⟩:∃s1 e u0,zar l (l.length - 1)=⟨none,.store s1 (.t e) (.t u0),none⟩:=by
  generalize zar l (l.length - 1)=so at hst;unfold stIs at hst
  split at hst
  ·exact⟨_,_,_,rfl⟩
  ·cases hst
 have hn0:=l0V_len l al;have hd0:∀i,i<(l0V l al).length->zae (l0V l al) i≠some d\/i=al:=by
  intro i hi
  by_cases e:i=al
  ·exact .inr e
  ·left;rw[zaj hi,zhb (by omega) e,<-zaj (by omega)];rcases hdd i (by omega) with h0|h0
   ·exact absurd h0 e
   ·exact h0
 generalize hM:(zao (l0V l al)).length=m at *
 let Kf:List OB->List AV->Prop:=fun o t=>wpR P [zar l (l.length - 1)] o t fun o t=>K .normal o t
 have hcore0:=zi3 (P:=P) (l0V l al) anc htv m hM tm (W0V P d T z (l0V l al) anc m Kf) (fun k hist o u hk hw=>step0 htv hM k hist o u hk hw);have hcore1:=fun q=>zi3 (P:=P) (l0V l al) anc htv m hM (tm.set d q) (W1V P (l0V l al) anc m Kf) (fun k hist o u hk hw=>step1 htv hM k hist o u hk hw)
 let TF:Array Bool->List OB->List AV->Prop:=fun listed o t=>
  (listed.getD (l.length - 1) false=false/\((listed.getD al false=false/\TTV P (l0V l al) anc m tm (W0V P d T z (l0V l al) anc m Kf) listed o t)\/(listed.getD al false=true/\∃q,TTV P (l0V l al) anc m (tm.set d q) (W1V P (l0V l al) anc m Kf) listed o t))) \/
  ((∀j,j<l.length->listed.getD j false=true)/\K .normal o t)
 refine hfin TF (fun o t=>o=objs/\t=tm) ?_ ?_ ?_ ?_
 ·rintro listed o t hs _ h2 ⟨rfl,rfl⟩;have hall:∀j,j<l.length->listed.getD j false=false:=fun j hj=>h2 j (zt _) (by omega);obtain⟨u,q1,q2⟩:=split0 (d:=d) (T:=T) (z:=z) htv (Kf:=Kf) (zt m) h;exact .inl ⟨hall _ (by omega),.inl ⟨hall _ (by omega),hcore0.1 o u q1 q2 listed fun j hj=>hall j (by omega)⟩⟩
 ·intro listed o t i so hs hso2 _ hin hun hanci hT;obtain rfl:=zeB hso2;have hset:∀j,(listed.setIfInBounds i true).getD j false=if j=i then true else listed.getD j false:=fun j=>zaY listed i j false (by omega)
  rcases hT with ⟨hT1,hT2⟩|⟨hT1,_⟩
  rotate_left
  ·have:=hT1 i (by omega);rw[hun] at this;cases this
  by_cases hil:i=l.length - 1
  ·-- the last one
   subst hil;have hall:∀j,j<l.length - 1->listed.getD j false=true:=fun j hj=>hanci j (by
    have:=hlast j hj;unfold zcV at this;exact qn.1 this)
   rcases hT2 with ⟨ha,_⟩|⟨_,q,hT2⟩
   ·rw[hall al (by omega)] at ha;cases ha
   obtain⟨hist,hw⟩:=(hcore1 q).2.2 listed o t (fun j hj=>hall j (by omega)) hT2;unfold W1V at hw;rw[if_pos rfl] at hw;have hw2:wpR P [zar l (l.length - 1)] o t (fun o t=>K .normal o t):=hw;rw[hstore] at hw2 ⊢;refine zcm (d:=0) (x:=0) (y:=0) (v:=0) (fun o2 t2 hk=>?_) (.inr ⟨_,_,_,rfl⟩) hw2;refine .inr ⟨fun j hj=>?_,hk⟩;rw[hset]
   by_cases e:j=l.length - 1
   ·rw[if_pos e]
   ·rw[if_neg e];exact hall j (by omega)
  have hin2:i<l.length - 1:=by omega
  have hlst:(listed.setIfInBounds i true).getD (l.length - 1) false=false:=by rw[hset,if_neg (fun e=>hil e.symm)];exact hT1
  by_cases hia:i=al
  ·-- the allocation
   subst hia;rcases hT2 with ⟨_,hT2⟩|⟨ha,_⟩
   rotate_left
   ·rw[hun] at ha;cases ha
   rw[hso];simp only[wpR,wpS,zah];have h1:=hcore0.2.1 listed o t i (by omega) (by omega) hun hanci hT2;rw[l0V_al (by omega)] at h1;have h2:TTV P (l0V l i) anc m tm (W0V P d T z (l0V l i) anc m Kf) (listed.setIfInBounds i true) o (t.set 1000003 .nil):=h1;have htlen:t.length=tm.length:=by
    obtain⟨_,k,hist,u,_,_,_,_,_,hmix⟩:=hT2;exact hmix.1
   rw[List.set_eq_of_length_le (by omega)] at h2;have h3:=tt_alloc (W1:=W1V P (l0V l i) anc m Kf) (d:=d) (p:=.p o.length 0) (B:=.box T z) (fun j hj=>by
    rcases hd0 j hj with h0|h0
    ·exact h0
    ·subst h0;rw[zaj hj,l0V_al (by omega)];unfold dumS;intro e;have e:(1000003:Nat)=d:=by injection e
     omega) (fun k hist u hw=>hw.1) h2
   exact .inl ⟨hlst,.inr ⟨by rw[hset,if_pos rfl],_,h3⟩⟩
  have hki:goB (zar l i)=true\/zcU (zar l i)=true:=by
   have h0:=htv;unfold tvOk at h0;simp only[Bool.and_eq_true] at h0;obtain⟨⟨⟨⟨⟨⟨⟨_,_⟩,hkd⟩,_⟩,_⟩,_⟩,_⟩,_⟩:=h0;simp only[zo,zr,Bool.or_eq_true] at hkd;have:=hkd i (by omega)
   rwa [zhb hin2 hia] at this
  rcases hT2 with ⟨ha,hT2⟩|⟨ha,q,hT2⟩
  ·have h1:=hcore0.2.1 listed o t i (by omega) (by omega) hun hanci hT2;rw[zhb hin2 hia] at h1;exact za8 hki (fun o2 t2 hk=>.inl ⟨hlst,.inl ⟨by rw[hset,if_neg (fun e=>hia e.symm)];exact ha,hk⟩⟩) h1
  ·have h1:=(hcore1 q).2.1 listed o t i (by omega) (by omega) hun hanci hT2;rw[zhb hin2 hia] at h1;exact za8 hki (fun o2 t2 hk=>.inl ⟨hlst,.inr ⟨by rw[hset,if_neg (fun e=>hia e.symm)];exact ha,q,hk⟩⟩) h1
 ·intro listed o t hs hall hT;rcases hT with ⟨h0,_⟩|⟨_,hk⟩
  ·rw[hall _ (by omega)] at h0;cases h0
  ·exact hk
 ·simp only[List.take_zero,wpD,hap0,zdP,and_self]
end
section
variable {P:Program} [Tabs P] {C:Cx} [On P C] {K:zat}
inductive SCode where
 | skip
 | reg (l:List SO)
 | drw (l:List SO) (k:Nat) (ap:List (Nat×Nat×Option (Nat×Bool)))
 | crg (pre:List SO) (cl:SO) (post:List SO)
 | crs (st:List (List SO×SO)) (last:List SO)
 | cra (d:Nat) (T:TypeId) (z:List AV) (st:List (List SO×SO)) (last:List SO) (sr:SO)
 | seq (x y:SCode)
 | cond (c:SV) (x y:SCode)
 | blk (id:Nat) (c:SCode)
 | loop (c:SCode)
 | exit (id:Nat)
 | ret
 | dead
def zkg (l:List SO):Bool :=
 match l.getLast? with
 | some ⟨_,.call _ args,none⟩=>args.any fun
  | .t s=>(l.any fun o=>match o with
   | ⟨some d,.fad _ _,_⟩=>d==s
   | _=>false)||l.all fun o=>!(o.dst==some s)
  | _=>false
 | _=>false
def lastApp (l:List SO):Bool :=
 match l.reverse with
 | ⟨_,.mv (.t d),none⟩::⟨some d',.call _ args,none⟩::_=>d==d'&&args.any fun
  | .t s=>l.any fun o=>match o with
   | ⟨some e,.app _ _ _ _ _,_⟩=>e==s
   | _=>false
  | _=>false
 | _=>false
def panics (ops:List Oper):Bool:=ops.any fun o=>match o.op with
 | .panic _=>true
 | _=>false
def cutApp (l:List SO):Bool:=l.any fun o=>match o with
 | ⟨some d,.trn _ _ _,none⟩=>appTo l d
 | _=>false
def cands (l:List SO):List (List SO×Nat) :=
 (if lastApp l=true then [(l,l.length - 2)] else [])++(if zkg l=true then [(l,l.length - 1)] else [])++[(l,tailAt l),(l,l.length)]++((if zkg l=true then [(l.map SO.toQ,l.length - 1)] else [])++[(l.map SO.toQ,tailAt l),(l.map SO.toQ,l.length)]++((if cutApp l=true then [(l.map SO.toR,l.length)] else [])++[(l.map SO.toP,l.length)]))
def pickD (l:List SO) (ds an:List (List Nat)):Option (List SO×Nat):=(cands l).find? fun c=>zhW c.1 ds an c.2
theorem pickD_ok {l:List SO} {ds an:List (List Nat)} {c:List SO×Nat} (h:pickD l ds an=some c):(c.1=l\/c.1=l.map SO.toP\/c.1=l.map SO.toQ\/c.1=l.map SO.toR)/\zhW c.1 ds an c.2=true:=by
 refine⟨?_,by simpa using List.find?_some h⟩;have hm:=List.mem_of_find?_eq_some h;unfold cands at hm;simp only[List.mem_append,zp,ja,or_false] at hm;rcases hm with ((hm|hm)|rfl|rfl)|(hm|rfl|rfl)|hm|rfl
 ·split at hm
  ·simp only[zp,ja,or_false] at hm;subst hm;exact .inl rfl
  ·simp at hm
 ·split at hm
  ·simp only[zp,ja,or_false] at hm;subst hm;exact .inl rfl
  ·simp at hm
 ·exact .inl rfl
 ·exact .inl rfl
 ·split at hm
  ·simp only[zp,ja,or_false] at hm;subst hm;exact .inr (.inr (.inl rfl))
  ·simp at hm
 ·exact .inr (.inr (.inl rfl))
 ·exact .inr (.inr (.inl rfl))
 ·split at hm
  ·simp only[zp,ja,or_false] at hm;subst hm;exact .inr (.inr (.inr rfl))
  ·simp at hm
 ·exact .inr (.inl rfl)
def pickF (l:List SO) (ds an:List (List Nat)):Option (List SO×Nat×List (Nat×Nat×Option (Nat×Bool))):=(zb l.length).findSome? fun k=>if zhB l ds an k=true then (zk3 l k).map fun p=>(l,l.length,[(p.1,p.2+1000000,none)]) else none
def pickA (l:List SO) (ds an:List (List Nat)):Option (List SO×Nat×List (Nat×Nat×Option (Nat×Bool))):=match pickD l ds an with
 | some c=>some (c.1,c.2,za3 c.1 an c.2)
 | none=>pickF l ds an
theorem pickA_ok {l:List SO} {ds an:List (List Nat)} {r:List SO×Nat×List (Nat×Nat×Option (Nat×Bool))} (h:pickA l ds an=some r):(∃c,pickD l ds an=some c/\r=(c.1,c.2,za3 c.1 an c.2))\/(∃k d e,zhB l ds an k=true/\zk3 l k=some (d,e)/\r=(l,l.length,[(d,e+1000000,none)])):=by
 unfold pickA at h
 split at h
 ·rename_i c hc;injection h with h;exact .inl ⟨c,hc,h.symm⟩
 ·unfold pickF at h;obtain⟨k,_,hk⟩:=List.exists_of_findSome?_eq_some h
  split at hk
  ·rename_i hok;obtain⟨p,hp,rfl⟩:=qe.1 hk;exact .inr ⟨k,p.1,p.2,hok,hp,rfl⟩
  ·cases hk
def ptrCall (P:Program) (ops:Array Oper) (l:List SO) (c:Nat):Bool:=(match ops[c]? with
 | some o=>match o.op with
  | .call x=>match x.argTypes[0]? with
   | some t=>match P.underlying t with
    | some (.pointer _)=>true
    | _=>false
   | _=>false
  | _=>false
 | none=>false)&&l.any fun o=>match o.op with
  | .app ..=>true
  | _=>false
def pickC (P:Program) (ops:Array Oper) (l:List SO) (ds an:List (List Nat)):Option Nat:=(zb l.length).find? fun c=>ptrCall P ops l c&&crgOk l ds an c
theorem pickC_ok {P:Program} {ops:Array Oper} {l:List SO} {ds an:List (List Nat)} {c:Nat} (h:pickC P ops l ds an=some c):crgOk l ds an c=true:=by
 have:=List.find?_some h;simp only[Bool.and_eq_true] at this;exact this.2
def mapCalls (P:Program) (ops:Array Oper) (l:List SO):Bool:=decide (2<=(zao l).length)&&(zao l).all fun c=>match ops[c]? with
 | some o=>match P.underlying o.type with
  | some (.map _ _)=>true
  | _=>false
 | none=>false
def zkZ (P:Program) (ops:Array Oper) (l:List SO):Bool:=(l.any fun o=>o.op.grows)&&(zb l.length).any fun i=>(zar l i).op.isCall&&match ops[i]? with
  | some o=>match o.op with
   | .call x=>match x.argTypes[0]? with
    | some t=>match P.underlying t with
     | some (.pointer _)=>true
     | _=>false
    | _=>false
   | _=>false
  | none=>false
def badP (P:Program) (ops:Array Oper) (l:List SO):Bool:=(zb l.length).any fun i=>(match (zar l i).op with
 | .pcall ..=>true
 | _=>false)&&match ops[i]? with
  | some o=>match o.op with
   | .call x=>match x.argTypes[0]? with
    | some t=>match P.underlying t with
     | some (.pointer _)=>true
     | _=>false
    | _=>false
   | _=>false
  | none=>false
def zdM (l:List SO) (ds an:List (List Nat)):Option (Nat×Nat×TypeId×List AV):=(zb l.length).findSome? fun al=>match alIs (zar l al) with
 | some r=>if craOk l ds an al r.1=true then some (al,r) else none
 | none=>none
theorem ziD {l:List SO} {ds an:List (List Nat)} {r:Nat×Nat×TypeId×List AV} (h:zdM l ds an=some r):alIs (zar l r.1)=some (r.2.1,r.2.2.1,r.2.2.2)/\craOk l ds an r.1 r.2.1=true:=by
 unfold zdM at h;obtain⟨al,_,hk⟩:=List.exists_of_findSome?_eq_some h
 split at hk
 ·rename_i q hq
  split at hk
  ·rename_i hok;injection hk with hk;subst hk
   exact⟨hq,hok⟩
  ·cases hk
 ·cases hk
def craC (l:List SO) (an:List (List Nat)) (r:Nat×Nat×TypeId×List AV):SCode:=.cra r.2.1 r.2.2.1 r.2.2.2 (zay (l0V l r.1) an (zao (l0V l r.1)).length 0) (lvL (l0V l r.1) an (zao (l0V l r.1)).length) (zar l (l.length - 1))
def pickZ (P:Program) (ops:Array Oper) (l:List SO) (ds an:List (List Nat)):Option SCode:=match pickA l ds an with
 | some c=>if badP P ops c.1=true then (match zdM l ds an with
  | some r=>some (craC l an r)
  | none=>some (.drw c.1 c.2.1 c.2.2)) else some (.drw c.1 c.2.1 c.2.2)
 | none=>(zdM l ds an).map (craC l an)
theorem zeI {P:Program} {ops:Array Oper} {l:List SO} {ds an:List (List Nat)} {sc:SCode} (h:pickZ P ops l ds an=some sc):(∃c,pickA l ds an=some c/\sc=.drw c.1 c.2.1 c.2.2)\/∃r,zdM l ds an=some r/\sc=craC l an r:=by
 unfold pickZ at h
 split at h
 ·rename_i c hc
  split at h
  ·split at h
   ·rename_i r hr;injection h with h;exact .inr ⟨r,hr,h.symm⟩
   ·injection h with h;exact .inl ⟨c,hc,h.symm⟩
  ·injection h with h;exact .inl ⟨c,hc,h.symm⟩
 ·obtain⟨r,hr,rfl⟩:=qe.1 h;exact .inr ⟨r,hr,rfl⟩
def trC (P:Program):Code->Option SCode
 | .skip=>some .skip
 | .region _ ops false=>match ops.toList.mapM (trO P ops.toList) with
  | some l=>some (.reg l)
  | none=>if panics ops.toList=true then some .dead else none
 | .region _ ops true=>match ops.toList.mapM (trO P ops.toList) with
  | some l=>if P.follows .mixedOrders=true then (match pickC P ops l (ops.toList.map zag) (zbs (ops.toList.map zag)) with
   | some c=>some (.crg (zcb l.length (zc8 (zbs (ops.toList.map zag)) c) l) (zar l c) (zcb l.length (zaH (zbs (ops.toList.map zag)) c) l))
   | none=>if (mapCalls P ops l||zkZ P ops l)&&crsOk l (ops.toList.map zag) (zbs (ops.toList.map zag)) then some (.crs (zay l (zbs (ops.toList.map zag)) (zao l).length 0) (lvL l (zbs (ops.toList.map zag)) (zao l).length)) else pickZ P ops l (ops.toList.map zag) (zbs (ops.toList.map zag))) else none
  | none=>none
 | .seq x y=>match trC P x,trC P y with
  | some a,some b=>some (.seq a b)
  | _,_=>none
 | .cond c x y=>match trC P x,trC P y with
  | some a,some b=>some (.cond (zad c) a b)
  | _,_=>none
 | .block id c=>(trC P c).map (.blk id)
 | .loop c=>(trC P c).map .loop
 | .exit id=>some (.exit id)
 | .ret=>some .ret
 | .scope c=>trC P c
 | .label _=>some .skip
 | _=>none
def ngK (K:zat):zat
 | .goto _,_,_=>False
 | e,objs,tm=>K e objs tm
omit [Tabs P] [On P C] in
theorem WP.scope {c:Code} {K:zat} {objs:List OB} {tm:List AV} (hh:WP P C c (ngK K) objs tm):WP P C (.scope c) (ngK K) objs tm:=by
 intro a w hr;refine wp_scope_straight (wp_mono (hh a w hr) ?_);rintro e a w ⟨o,t,hk,hr⟩
 cases e<;>first|exact hk.elim|exact⟨o,t,hk,hr⟩
def WPS (P:Program) (C:Cx) (sc:SCode) (K:zat) (objs:List OB) (tm:List AV):Prop:=∀c,trC P c=some sc->WP P C c K objs tm
def wpC (P:Program) [Tabs P] (C:Cx):SCode->zat->List OB->List AV->Prop
 | .skip,K,objs,tm=>K .normal objs tm
 | .reg l,K,objs,tm=>wpR P l objs tm fun o t=>K .normal o t
 | .drw l k ap,K,objs,tm=>wpD P (l.take k) objs tm fun o t=>zdP ap t/\wpR P (l.drop k) o t fun o t=>K .normal o t
 | .crg pre cl post,K,objs,tm=>wpR P pre objs tm fun _ t1=>wpR P [cl] objs t1 fun o2 t2=>wpR P pre o2 tm (fun _ t=>t=t1)/\wpR P post o2 t2 fun o t=>K .normal o t
 | .crs st last,K,objs,tm=>wpT P st [] last objs tm fun o t=>K .normal o t
 | .cra d T z st last sr,K,objs,tm=>tm.length<=1000003/\wpB P d T z st [] last objs tm fun o t=>wpR P [sr] o t fun o t=>K .normal o t
 | .seq x y,K,objs,tm=>wpC P C x (zdn (fun o t=>wpC P C y K o t) K) objs tm
 | .cond c x y,K,objs,tm=>match c.ev tm with
  | .b t=>(t=true->wpC P C x K objs tm)/\(t=false->wpC P C y K objs tm)
  | _=>False
 | .blk id c,K,objs,tm=>wpC P C c (blkK id K) objs tm
 | .loop c,K,objs,tm=>WPS P C (.loop c) (ngK K) objs tm
 | .exit id,K,objs,tm=>K (.exit id) objs tm
 | .ret,K,objs,tm=>K .ret objs tm
 | .dead,K,objs,tm=>False
theorem zcn:∀(c:Code) (sc:SCode) (K:zat) (objs:List OB) (tm:List AV),trC P c=some sc->wpC P C sc K objs tm->WP P C c (ngK K) objs tm
 | .skip,sc,K,objs,tm,ht,h=>by simp only[trC,zi.injEq] at ht;subst ht;exact WP.skip h
 | .region id ops false,sc,K,objs,tm,ht,h=>by
  simp only[trC] at ht
  cases h1:ops.toList.mapM (trO P ops.toList) with
  | none=>
   rw[h1] at ht;dsimp only at ht
   split at ht
   ·injection ht with ht;subst ht;exact h.elim
   ·cases ht
  | some l=>
   rw[h1] at ht;injection ht with ht;subst ht
   intro a w hr;exact wp_region_list (wpR_ok (K:=ngK K) ops ops.toList l objs tm h1 h a w hr)
 | .region id ops true,sc,K,objs,tm,ht,h=>by
  simp only[trC] at ht
  split at ht
  ·rename_i l h1
   split at ht
   ·rename_i hf
    split at ht
    ·rename_i c hc;injection ht with ht;subst ht
     intro a w hr;exact crg_ok (K:=ngK K) id ops l h1 c (pickC_ok hc) hf h a w hr
    split at ht
    ·rename_i hc;injection ht with ht;subst ht
     intro a w hr;rw[Bool.and_eq_true] at hc;exact crs_ok (K:=ngK K) id ops l h1 hc.2 hf h a w hr
    rcases zeI ht with ⟨c,hc,rfl⟩|⟨r,hr0,rfl⟩
    rotate_left
    ·obtain⟨r1,r2⟩:=ziD hr0;intro a w hr;exact cra_ok (K:=ngK K) id ops l h1 r.1 r.2.1 r.2.2.1 r.2.2.2 r1 r2 hf h.1 h.2 a w hr
    intro a w hr;rcases pickA_ok hc with ⟨c',hc',rfl⟩|⟨k,d,e,k1,k2,rfl⟩
    ·obtain⟨c1,c2⟩:=pickD_ok hc';exact draw_ok (K:=ngK K) id ops l c'.1 h1 c1 _ c2 hf h a w hr
    ·exact fork_ok (K:=ngK K) id ops l h1 k d e k1 k2 hf h a w hr
   ·cases ht
  ·cases ht
 | .seq x y,sc,K,objs,tm,ht,h=>by
  simp only[trC] at ht
  split at ht
  ·rename_i a b ha hb;injection ht with ht;subst ht
   refine WP.seq (WP.mono ?_ (zcn x a _ objs tm ha h));intro e o t hk
   cases e with
   | normal=>exact zcn y b K o t hb hk
   | _=>exact hk
  ·cases ht
 | .cond c x y,sc,K,objs,tm,ht,h=>by
  simp only[trC] at ht
  split at ht
  ·rename_i a b ha hb;injection ht with ht;subst ht
   simp only[wpC] at h
   split at h
   ·rename_i t hc;exact WP.cond hc (fun e=>zcn x a K objs tm ha (h.1 e)) (fun e=>zcn y b K objs tm hb (h.2 e))
   ·exact h.elim
  ·cases ht
 | .block id c,sc,K,objs,tm,ht,h=>by
  simp only[trC] at ht
  cases h1:trC P c with
  | none=>rw[h1] at ht;cases ht
  | some a=>rw[h1] at ht;injection ht with ht;subst ht;refine WP.block (WP.mono ?_ (zcn c a _ objs tm h1 h));intro e o t hk;cases e with
   | exit id'=>simp only[ngK,blkK] at hk ⊢;exact hk
   | _=>exact hk
 | .loop c,sc,K,objs,tm,ht,h=>by
  have ht':=ht;simp only[trC] at ht
  cases h1:trC P c with
  | none=>rw[h1] at ht;cases ht
  | some a=>rw[h1] at ht;injection ht with ht;subst ht;exact h _ ht'
 | .exit id,sc,K,objs,tm,ht,h=>by simp only[trC,zi.injEq] at ht;subst ht;exact WP.exit h
 | .ret,sc,K,objs,tm,ht,h=>by simp only[trC,zi.injEq] at ht;subst ht;exact WP.ret h
 | .rangeFunc ..,sc,K,objs,tm,ht,h=>by simp[trC] at ht
 | .scope c,sc,K,objs,tm,ht,h=>by simp only[trC] at ht;exact WP.scope (zcn c sc K objs tm ht h)
 | .label _,sc,K,objs,tm,ht,h=>by simp only[trC,zi.injEq] at ht;subst ht;exact fun a w hr=>wp_label ⟨_,_,h,hr⟩
 | .goto _,sc,K,objs,tm,ht,h=>by simp[trC] at ht
 | .refuse _,sc,K,objs,tm,ht,h=>by simp[trC] at ht
theorem wpC_ok (c:Code) (sc:SCode) (K:zat) (objs:List OB) (tm:List AV) (ht:trC P c=some sc) (h:wpC P C sc K objs tm):WP P C c K objs tm :=
 WP.mono (fun e o t hk=>by cases e<;>first|exact hk.elim|exact hk) (zcn c sc K objs tm ht h)
theorem zgI {sc:SCode} {objs:List OB} {tm:List AV} (J:Nat->List OB->List AV->Prop) (n:Nat) (h0:J n objs tm)
  (round:∀n objs tm,J n objs tm->wpC P C sc (zdn (fun o t=>∃m,m<n/\J m o t) K) objs tm):WPS P C (.loop sc) (ngK K) objs tm:=by
 intro c ht
 induction c with
 | scope c ih=>simp only[trC] at ht;exact WP.scope (ih ht)
 | loop c _=>
  simp only[trC] at ht
  cases h1:trC P c with
  | none=>rw[h1] at ht;cases ht
  | some a=>
   rw[h1] at ht;injection ht with ht;injection ht with ht;subst ht
   refine WP.loop J n h0 fun n o t hj=>WP.mono ?_ (zcn c a _ o t h1 (round n o t hj));intro e o t hk
   cases e with
   | normal=>exact hk
   | _=>exact hk
 | region id ops draw=>
  cases draw
  ·simp only[trC] at ht;split at ht
   ·cases ht
   ·split at ht<;>cases ht
  ·simp only[trC] at ht
   split at ht
   ·split at ht
    ·split at ht
     ·cases ht
     split at ht
     ·cases ht
     ·rcases zeI ht with ⟨c,_,e⟩|⟨r,_,e⟩
      ·cases e
      ·unfold craC at e;cases e
    ·cases ht
   ·cases ht
 | seq x y _ _=>simp only[trC] at ht;split at ht<;>cases ht
 | cond c x y _ _=>simp only[trC] at ht;split at ht<;>cases ht
 | block id c _=>simp only[trC] at ht;cases h1:trC P c<;>(rw[h1] at ht;cases ht)
 | _=>simp[trC] at ht
end
mutual
/-- the value as it is given away: rows of the call's own last from now on -/
def pub (objs:List OB):Nat->AV->Option AV
 | d,.agg cs=>(zc7 objs d cs).map .agg
 | d,.tup cs=>(zc7 objs d cs).map .tup
 | 0,.orow _ _=>none
 | d+1,.orow b gen=>match objs[b]? with
  | some (.orow _ _ gen' n xs)=>if gen'=gen then (zc7 objs d xs).map (.row n) else none
  | _=>none
 | _,x=>if x.plain=true then some x else none
def zc7 (objs:List OB):Nat->List AV->Option (List AV)
 | _,[]=>some []
 | d,x::xs=>match pub objs d x,zc7 objs d xs with
  | some y,some ys=>some (y::ys)
  | _,_=>none
end
def Imm.rows (I:Imm) (G:Gh) (objs:List OB) (w:World):Imm:=fun g o v=>I g o v\/(w.cell? ⟨g,o,none⟩=some v/\∃b E sz gen n xs,objs[b]? = some (.orow E sz gen n xs)/\G.own b=some g)
mutual
theorem zf6 {G:Gh} {I:Imm} {objs:List OB} {w:World} (hm:MemOk G I objs w) (d:Nat) (ih:∀d',d=d'+1->∀(xs rs:List AV) (ys:List Value),zc7 objs d' xs=some rs->zab G I xs ys->zab Gh.none (I.rows G objs w) rs ys/\zak rs=true) :
  ∀(x r:AV) (y:Value),pub objs d x=some r->Den G I x y->Den Gh.none (I.rows G objs w) r y/\r.plain=true
 | .agg cs,r,y,hp,h=>by
  simp only[pub,qe] at hp;obtain⟨rs,h1,rfl⟩:=hp;simp only[Den] at h ⊢;obtain⟨ys,e1,e2,e3⟩:=h;obtain⟨k1,k2⟩:=zct hm d ih cs rs ys h1 e2;exact⟨⟨ys,e1,k1,e3⟩,by simpa[AV.plain] using k2⟩
 | .tup cs,r,y,hp,h=>by
  simp only[pub,qe] at hp;obtain⟨rs,h1,rfl⟩:=hp;simp only[Den] at h ⊢;obtain⟨ys,e1,e2⟩:=h;obtain⟨k1,k2⟩:=zct hm d ih cs rs ys h1 e2;exact⟨⟨ys,e1,k1⟩,by simpa[AV.plain] using k2⟩
 | .orow b gen,r,y,hp,h=>by
  cases d with
  | zero=>simp[pub] at hp
  | succ d=>
   simp only[pub] at hp
   split at hp
   ·rename_i E sz gen' n xs hb
    split at hp
    ·rename_i hg;subst hg;simp only[qe] at hp;obtain⟨rs,h1,rfl⟩:=hp;simp only[Den] at h ⊢;obtain⟨g',v,k1,k2,k3,_⟩:=h;obtain⟨v',vs,m1,m2,m3,m4,m5⟩:=hm.row b E sz gen' n xs hb;rw[k1] at m1;injection m1 with m1;injection m1 with m1 m6
     have hv:=k3 m1.symm;subst m1 m6 hv;obtain⟨q1,q2⟩:=ih d rfl xs rs vs h1 m3;refine⟨?_,by simpa[AV.plain] using q2⟩;have hown:=zaL m5 k1;rcases m2.2 with ⟨rfl,rfl⟩|⟨g,cap,cur,rfl,hx1,hx2,hx3,hx4⟩
     ·have hvs:vs=[]:=List.eq_nil_of_length_eq_zero (by simpa using m2.1);subst hvs;exact⟨none,0,[],rfl,⟨zg _,by intro _ e;cases e⟩,q1,by simp,by simp⟩
     ·refine⟨some ⟨g,0,none⟩,cap,vs,rfl,⟨hx3,by rintro _ ⟨⟩ _;rfl⟩,q1,m4,fun j u hj=>⟨g,0,rfl,.inr ⟨?_,b,E,sz,_,n,xs,hb,hown⟩⟩⟩;have:=m2.cells (g:=g) rfl j u hj
      rwa [zal] at this
    ·cases hp
   ·cases hp
 | .p b off,r,y,hp,h=>by cases d<;>simp[pub,AV.plain] at hp
 | .porow b gen j,r,y,hp,h=>by cases d<;>simp[pub,AV.plain] at hp
 | .bsl b off n,r,y,hp,h=>by cases d<;>simp[pub,AV.plain] at hp
 | .m b,r,y,hp,h=>by cases d<;>simp[pub,AV.plain] at hp
 | .s l,r,y,hp,h=>by
  have e:r=.s l:=by cases d<;>simp[pub,AV.plain] at hp<;>exact hp.symm
  subst e;exact⟨Den.plain (fun _ _ _ h=>.inl h) _ _ rfl h,rfl⟩
 | .i k n,r,y,hp,h=>by
  have e:r=.i k n:=by cases d<;>simp[pub,AV.plain] at hp<;>exact hp.symm
  subst e;exact⟨Den.plain (fun _ _ _ h=>.inl h) _ _ rfl h,rfl⟩
 | .b x,r,y,hp,h=>by
  have e:r=.b x:=by cases d<;>simp[pub,AV.plain] at hp<;>exact hp.symm
  subst e;exact⟨Den.plain (fun _ _ _ h=>.inl h) _ _ rfl h,rfl⟩
 | .nil,r,y,hp,h=>by
  have e:r=.nil:=by cases d<;>simp[pub,AV.plain] at hp<;>exact hp.symm
  subst e;exact⟨Den.plain (fun _ _ _ h=>.inl h) _ _ rfl h,rfl⟩
 | .zn z,r,y,hp,h=>by
  have e:r=.zn z:=by cases d<;>simp[pub,AV.plain] at hp<;>exact hp.symm
  subst e;exact⟨Den.plain (fun _ _ _ h=>.inl h) _ _ rfl h,rfl⟩
 | .o v,r,y,hp,h=>by
  have e:r=.o v:=by cases d<;>simp[pub,AV.plain] at hp<;>exact hp.symm
  subst e;exact⟨Den.plain (fun _ _ _ h=>.inl h) _ _ rfl h,rfl⟩
 | .u,r,y,hp,h=>by
  have e:r=.u:=by cases d<;>simp[pub,AV.plain] at hp<;>exact hp.symm
  subst e;exact⟨Den.plain (fun _ _ _ h=>.inl h) _ _ rfl h,rfl⟩
 | .row n xs,r,y,hp,h=>by
  have e:(AV.row n xs).plain=true/\r=.row n xs:=by
   cases d<;>(simp only[pub] at hp;split at hp<;>first|(rename_i hq;injection hp with hp;exact⟨hq,hp.symm⟩)|cases hp)
  obtain⟨e1,rfl⟩:=e;exact⟨Den.plain (fun _ _ _ h=>.inl h) _ _ e1 h,e1⟩
 | .prow xs j,r,y,hp,h=>by
  have e:(AV.prow xs j).plain=true/\r=.prow xs j:=by
   cases d<;>(simp only[pub] at hp;split at hp<;>first|(rename_i hq;injection hp with hp;exact⟨hq,hp.symm⟩)|cases hp)
  obtain⟨e1,rfl⟩:=e;exact⟨Den.plain (fun _ _ _ h=>.inl h) _ _ e1 h,e1⟩
 | .crow n xs,r,y,hp,h=>by
  have e:(AV.crow n xs).plain=true/\r=.crow n xs:=by
   cases d<;>(simp only[pub] at hp;split at hp<;>first|(rename_i hq;injection hp with hp;exact⟨hq,hp.symm⟩)|cases hp)
  obtain⟨e1,rfl⟩:=e;exact⟨Den.plain (fun _ _ _ h=>.inl h) _ _ e1 h,e1⟩
 | .fn f fs cs,r,y,hp,h=>by
  have e:(AV.fn f fs cs).plain=true/\r=.fn f fs cs:=by
   cases d<;>(simp only[pub] at hp;split at hp<;>first|(rename_i hq;injection hp with hp;exact⟨hq,hp.symm⟩)|cases hp)
  obtain⟨e1,rfl⟩:=e;exact⟨Den.plain (fun _ _ _ h=>.inl h) _ _ e1 h,e1⟩
theorem zct {G:Gh} {I:Imm} {objs:List OB} {w:World} (hm:MemOk G I objs w) (d:Nat) (ih:∀d',d=d'+1->∀(xs rs:List AV) (ys:List Value),zc7 objs d' xs=some rs->zab G I xs ys->zab Gh.none (I.rows G objs w) rs ys/\zak rs=true) :
  ∀(xs rs:List AV) (ys:List Value),zc7 objs d xs=some rs->zab G I xs ys->zab Gh.none (I.rows G objs w) rs ys/\zak rs=true
 | [],rs,ys,hp,h=>by
  simp only[zc7,zi.injEq] at hp;subst hp;simp only[zab] at h ⊢;exact⟨h,rfl⟩
 | x::xs,rs,ys,hp,h=>by
  simp only[zc7] at hp
  split at hp
  ·rename_i r rs' h1 h2;injection hp with hp;subst hp
   simp only[zab] at h ⊢;obtain⟨y,ys',e1,e2,e3⟩:=h;obtain⟨k1,k2⟩:=zf6 hm d ih x r y h1 e2;obtain⟨k3,k4⟩:=zct hm d ih xs rs' ys' h2 e3;exact⟨⟨y,ys',e1,k1,k3⟩,by simp[zak,k2,k4]⟩
  ·cases hp
end
theorem zjC {G:Gh} {I:Imm} {objs:List OB} {w:World} (hm:MemOk G I objs w):∀(d:Nat) (xs rs:List AV) (ys:List Value),zc7 objs d xs=some rs->zab G I xs ys->zab Gh.none (I.rows G objs w) rs ys/\zak rs=true
 | 0=>zct hm 0 (fun d' e=>by omega)
 | d+1=>zct hm (d+1) (fun d' e=>by
   obtain rfl:d=d':=by omega
   exact zjC hm d)
theorem pub_ok {G:Gh} {I:Imm} {objs:List OB} {w:World} (hm:MemOk G I objs w) (d:Nat) (x r:AV) (y:Value) (hp:pub objs d x=some r) (h:Den G I x y):Den Gh.none (I.rows G objs w) r y/\r.plain=true:=by
 cases d with
 | zero=>exact zf6 hm 0 (fun d' e=>by omega) x r y hp h
 | succ d=>exact zf6 hm (d+1) (fun d' e=>by
   obtain rfl:d=d':=by omega
   exact zjC hm d) x r y hp h
inductive SRes where
 | tmp (t:Nat)
 | cell1 (t:Nat)
 | celln (t sz:Nat)
def ze9 (P:Program):ResultVar->Option SRes
 | .tmp t=>some (.tmp t)
 | .cell a t=>match P.underlying t,P.info? t with
  | some d,some i=>some (if d.isRow=true then .celln a i.size else .cell1 a)
  | _,_=>none
def zik (objs:List OB) (tm:List AV):SRes->Option AV
 | .tmp t=>tm[t]?
 | .cell1 t=>match tm[t]? with
  | some (.p b off)=>match objs[b]? with
   | some (.box _ cs)=>cs[off]?
   | _=>none
  | _=>none
 | .celln t sz=>match tm[t]? with
  | some (.p b off)=>match objs[b]? with
   | some (.box _ cs)=>if off+sz<=cs.length then some (.agg ((cs.drop off).take sz)) else none
   | _=>none
  | _=>none
def zbK (objs:List OB) (tm:List AV):List SRes->Option (List AV)
 | []=>some []
 | r::rs=>match zik objs tm r,zbK objs tm rs with
  | some x,some xs=>some (x::xs)
  | _,_=>none
def zfP:List AV->AV
 | [x]=>x
 | xs=>.tup xs
def resF (tmps:Array Value):ResultVar->Sem Value
 | .tmp t=>pure (tmps.getD t undef)
 | .cell b t=>do loadVar t (<-asAddr (tmps.getD b undef))
theorem zcJ (fn:Func) (tmps:Array Value):results fn tmps=(fn.results.mapM (resF tmps)) >>= fun vs=>pure (if h:vs.size=1 then vs[0] else .tuple vs):=by
 unfold results
 congr 2
section
variable {P:Program}
theorem resA_run {G:Gh} {I:Imm} {objs:List OB} {tm:List AV} {a:Act} {w:World} (hm:MemOk G I objs w) (hd:zab G I tm a.tmps.toList) (r:ResultVar) (s:SRes) (x:AV) (hs:ze9 P r=some s) (hx:zik objs tm s=some x) :
  ∃y,(resF a.tmps r).run P w=.ok y w/\Den G I x y:=by
 cases r with
 | tmp t=>
  simp only[ze9,zi.injEq] at hs;subst hs;simp only[zik] at hx;obtain⟨y,h1,h2⟩:=zab.get t hd hx;refine⟨y,?_,h2⟩;rw[Array.getElem?_toList] at h1;simp only[resF,Array.getD_eq_getD_getElem?,h1,Option.getD_some];rfl
 | cell b t=>
  simp only[ze9] at hs
  split at hs
  ·rename_i d i hu hi;injection hs with hs;subst hs
   have getp:∀bb off,tm[b]? = some (.p bb off)->∃g,G.blk bb=some g/\a.tmps.getD b undef=.pointer (some ⟨g,off,none⟩):=by
    intro bb off ht;obtain⟨y,h1,h2⟩:=zab.get b hd ht;simp only[Den] at h2;obtain⟨g,hg,rfl⟩:=h2;rw[Array.getElem?_toList] at h1;exact⟨g,hg,by simp[Array.getD_eq_getD_getElem?,h1]⟩
   rcases hr:d.isRow with _|_
   ·simp only[hr,Bool.false_eq_true,if_false,zik] at hx
    split at hx
    ·rename_i bb off ht
     split at hx
     ·rename_i T cs hb;obtain⟨g,hg,hv⟩:=getp bb off ht;obtain⟨g',ys,k1,k2,k3,k4⟩:=hm.box bb T cs hb;obtain rfl:g=g':=zi.inj (hg.symm.trans k1);obtain⟨y,hy,hyd⟩:=zab.get off k3 hx;refine⟨y,?_,hyd⟩;have hcell:w.cell? ⟨g,off,none⟩=some y:=by rw[cell_of_row w g off _ T (0,0) k2];simpa using hy
      simp[resF,hv,asAddr,loadVar,zbV hu,hr,load,Sem.run,hcell]
     ·cases hx
    ·cases hx
   ·simp only[hr,if_true,zik] at hx
    split at hx
    ·rename_i bb off ht
     split at hx
     ·rename_i T cs hb
      split at hx
      ·rename_i hlen;injection hx with hx;subst hx
       obtain⟨g,hg,hv⟩:=getp bb off ht;obtain⟨g',ys,k1,k2,k3,k4⟩:=hm.box bb T cs hb;obtain rfl:g=g':=zi.inj (hg.symm.trans k1);have hl:=k3.length;refine⟨.agg ((ys.drop off).take i.size).toArray,?_,?_⟩
       ·have:=run_loadVar_mid (P:=P) w g off t ((ys.drop off).take i.size) d (by
         intro j v hj;rw[cell_of_row w g (off+j) _ T (0,0) k2];rw[List.getElem?_take] at hj
         split at hj
         ·simpa[List.getElem?_drop] using hj
         ·cases hj) hu hr (by rw[hi];simp;omega)
        simp[resF,hv,asAddr,this]
       ·simp only[Den];exact⟨_,rfl,zab.take i.size (zab.drop off k3),fun u hu=>k4 u (List.mem_of_mem_drop (List.mem_of_mem_take hu))⟩
      ·cases hx
     ·cases hx
    ·cases hx
  ·cases hs
theorem zfm {G:Gh} {I:Imm} {objs:List OB} {tm:List AV} {a:Act} {w:World} (hm:MemOk G I objs w) (hd:zab G I tm a.tmps.toList):∀(rs:List ResultVar) (ss:List SRes) (xs:List AV),rs.mapM (ze9 P)=some ss->zbK objs tm ss=some xs ->
  ∃ys,(rs.mapM (resF a.tmps)).run P w=.ok ys w/\zab G I xs ys
 | [],ss,xs,hs,hx=>by
  simp at hs;subst hs;simp only[zbK,zi.injEq] at hx;subst hx;exact⟨[],by simp,zab.nil⟩
 | r::rs,ss,xs,hs,hx=>by
  simp only[List.mapM_cons,Option.bind_eq_bind,Option.pure_def] at hs
  cases h1:ze9 P r with
  | none=>simp[h1] at hs
  | some s=>
   cases h2:rs.mapM (ze9 P) with
   | none=>simp[h1,h2] at hs
   | some ss'=>
    simp[h1,h2] at hs;subst hs;simp only[zbK] at hx
    split at hx
    ·rename_i x xs' hx1 hx2;injection hx with hx;subst hx
     obtain⟨y,k1,k2⟩:=resA_run hm hd r s x h1 hx1;obtain⟨ys,k3,k4⟩:=zfm hm hd rs ss' xs' h2 hx2;exact⟨y::ys,by simp only[List.mapM_cons,Sem.run_bind,k1,Result.andThen_ok,k3,Sem.run_pure],zab.cons k2 k4⟩
    ·cases hx
theorem zch {fn:Func} {G:Gh} {I:Imm} {objs:List OB} {tm:List AV} {a:Act} {w:World} (hm:MemOk G I objs w) (hd:zab G I tm a.tmps.toList) (ss:List SRes) (xs:List AV) (hs:fn.results.toList.mapM (ze9 P)=some ss) (hx:zbK objs tm ss=some xs) :
  ∃y,(results fn a.tmps).run P w=.ok y w/\Den G I (zfP xs) y:=by
 obtain⟨ys,h1,h2⟩:=zfm hm hd _ ss xs hs hx;have hl:=h2.length;have hr:(fn.results.mapM (resF a.tmps)).run P w=.ok ys.toArray w:=by
  rw[Array.mapM_eq_mapM_toList,Sem.run_map,h1];rfl
 match xs,ys,h2,hl with
 | [x],[y],h2,_=>
  simp only[zab] at h2;obtain⟨y',ys',e,h3,h4⟩:=h2;injection e with e1 e2;subst e1
  refine⟨y,?_,h3⟩;rw[zcJ,Sem.run_bind,hr];simp
 | [],[],h2,_=>
  refine⟨.tuple #[],?_,?_⟩
  ·rw[zcJ,Sem.run_bind,hr];simp
  ·simp only[zfP,Den];exact⟨[],rfl,zab.nil⟩
 | x::x'::xs,y::y'::ys,h2,_=>
  refine⟨.tuple (y::y'::ys).toArray,?_,?_⟩
  ·rw[zcJ,Sem.run_bind,hr];simp
  ·simp only[zfP,Den];exact⟨_,rfl,h2⟩
 | [],y::ys,h2,hl=>exact absurd hl (by simp)
 | x::xs,[],h2,hl=>exact absurd hl (by simp)
 | [x],y::y'::ys,h2,hl=>exact absurd hl (by simp)
 | x::x'::xs,[y],h2,hl=>exact absurd hl (by simp)
def ziN (ss:List SRes) (K:AV->Prop) (objs:List OB) (tm:List AV):Prop :=
 match (zbK objs tm ss).bind (fun xs=>pub objs 5 (zfP xs)) with
 | some r=>K r
 | none=>False
def endK (ss:List SRes) (K:AV->Prop):zat
 | .normal,objs,tm=>ziN ss K objs tm
 | .ret,objs,tm=>ziN ss K objs tm
 | _,_,_=>False
structure FnIs (P:Program) (f:FuncId) (n:Nat) (ss:List SRes) (sc:SCode):Prop where
 is:∃fn c,P.funcs[f]? = some fn/\fn.body=some c/\fn.ntmps=n/\fn.results.toList.mapM (ze9 P)=some ss/\trC P c=some sc
theorem fn_ok [Tabs P] {f:FuncId} {n:Nat} {ss:List SRes} {sc:SCode} (hf:FnIs P f n ss sc) {args:List AV} {objs:List OB} {K:List OB->AV->Prop} (hp:zak args=true)
  (h:∀(C:Cx) [On P C],wpC P C sc (endK ss (fun r=>K objs r)) [] (args++zu (n - args.length) (.o undef))):zai P f args objs K:=by
 intro C hOn G I w hin hm ys hd;obtain⟨fn,c,h1,h2,h3,h4,h5⟩:=hf.is
 let C':Cx:=⟨w,fun _=>False,I,Gh.none⟩
 haveI hOn':On P C':=⟨hin.tab (P:=P),fun _ h=>h⟩
 have hwp:=wpC_ok (C:=C') c sc _ [] _ h5 (h C');have hlen:=hd.length;have hrel:Rel C' [] (args++zu (n - args.length) (.o undef)) { tmps:=ys.toArray++Array.replicate (fn.ntmps - ys.toArray.size) undef,defers:=[] } w:=by
  refine⟨Gh.none,I,⟨rfl,rfl,rfl,zg _,fun _ _ _=>rfl,fun _ _ _ h=>h,fun _ _ _ h=>.inl h,fun b g hb=>by simp[Gh.own,Gh.none] at hb,Gh.le.refl _⟩,
   ⟨hm.imm,by simp,by simp,by simp,fun b b' g hb=>by simp[Gh.own,Gh.none] at hb,fun b g hb=>by simp[Gh.own,Gh.none] at hb,fun b g o v hb=>by simp[Gh.own,Gh.none] at hb,fun b _=>⟨rfl,rfl⟩⟩,?_,rfl⟩
  simp only[Array.toList_append,Array.toList_replicate,h3,List.size_toArray];refine zab.append (zab.plain (Imm.le.refl I) _ _ hp hd) ?_;rw[hlen];have:∀k,zab Gh.none I (zu k (.o undef)) (zu k undef):=by
   intro k
   induction k with
   | zero=>exact zab.nil
   | succ k ih=>exact zab.cons (by simp[Den]) ih
  exact this _
 refine calls_of_wp h1 h2 (wp_mono (hwp _ _ hrel) ?_);rintro e a' w' ⟨objs',tm',hk,G',I',hin',hm',hd',hdef⟩;have key:ziN ss (fun r=>K objs r) objs' tm' ->
   a'.defers=[]/\∃v,(results fn a'.tmps).run P w'=.ok v w'/\∃y objs'' r G'' I'',Ending.returned v=.returned y/\K objs'' r/\G.le G''/\Imm.le I I''/\In C G'' I'' w'/\MemOk G'' I'' objs'' w'/\Den G'' I'' r y:=by
  intro hk;unfold ziN at hk
  split at hk
  ·rename_i r hr0;obtain⟨xs,hxs,hr⟩:=Option.bind_eq_some_iff.1 hr0
   ·obtain⟨y,hy,hyd⟩:=zch (P:=P) (fn:=fn) hm' hd' ss xs h4 hxs;obtain⟨p1,p2⟩:=pub_ok hm' 5 _ r y hr hyd;have hg:w.grownBy w' none:=⟨hin'.os,hin'.tape,hin'.output,hin'.size,fun k hk _=>hin'.block k hk (fun h=>h)⟩;have hle:Imm.le I (I'.rows G' objs' w'):=fun g o v hi=>.inl (hin'.imm g o v hi);have hnew:∀g o v,I'.rows G' objs' w' g o v->I g o v\/w.heap.size<=g:=by
     rintro g o v (hi|⟨_,b,E,sz,gen,n,xs,hb,ho⟩)
     ·rcases hin'.news g o v hi with h|h|h
      ·exact .inl h
      ·exact h.elim
      ·exact .inr h
     ·rcases hin'.blk b g ho with h|h
      ·exact h.elim
      ·exact .inr h
    refine⟨hdef,y,hy,y,objs,r,G,I'.rows G' objs' w',rfl,hk,Gh.le.refl G,hle,(hin.evolve hg (by simp)).imm_more hle ?_,(hm.evolve hg).imm_more hle ?_ ?_,Den.plain (Imm.le.refl _) r y p2 p1⟩
    ·intro g o v hi;rcases hnew g o v hi with h|h
     ·exact .inl h
     ·exact .inr (.inr (Nat.le_trans hin.size h))
    ·rintro g o v (hi|⟨hc,_⟩)
     ·exact hm'.imm g o v hi
     ·exact hc
    ·intro b g o v hb hi;rcases hnew g o v hi with h|h
     ·exact hm.apart b g o v hb h
     ·have:=hm.lt b g hb;omega
  ·exact hk.elim
 cases e with
 | normal=>exact key hk
 | ret=>exact key hk
 | _=>exact hk.elim
def outI (ss:List SRes) (K:List OB->AV->Prop) (objs:List OB) (tm:List AV):Prop :=
 match zbK objs tm ss with
 | some xs=>K objs (zfP xs)
 | none=>False
def endI (ss:List SRes) (K:List OB->AV->Prop):zat
 | .normal,objs,tm=>outI ss K objs tm
 | .ret,objs,tm=>outI ss K objs tm
 | _,_,_=>False
theorem fn_in [Tabs P] {f:FuncId} {n:Nat} {ss:List SRes} {sc:SCode} (hf:FnIs P f n ss sc) {args:List AV} {objs:List OB} {K:List OB->AV->Prop}
  (h:∀(C:Cx) [On P C],wpC P C sc (endI ss K) objs (args++zu (n - args.length) (.o undef))):zai P f args objs K:=by
 intro C hOn G I w hin hm ys hd;obtain⟨fn,c,h1,h2,h3,h4,h5⟩:=hf.is
 let C':Cx:=⟨C.w,C.own,I,G⟩
 haveI hOn':On P C':=⟨hOn.tab,hOn.own⟩
 have hwp:=wpC_ok (C:=C') c sc _ objs _ h5 (h C');have hlen:=hd.length;have hrel:Rel C' objs (args++zu (n - args.length) (.o undef)) { tmps:=ys.toArray++Array.replicate (fn.ntmps - ys.toArray.size) undef,defers:=[] } w:=by
  refine⟨G,I,⟨hin.os,hin.tape,hin.output,hin.size,hin.block,fun _ _ _ h=>h,fun _ _ _ h=>.inl h,hin.blk,Gh.le.refl G⟩,hm,?_,rfl⟩;simp only[Array.toList_append,Array.toList_replicate,h3,List.size_toArray];refine zab.append hd ?_;rw[hlen];have:∀k,zab G I (zu k (.o undef)) (zu k undef):=by
   intro k
   induction k with
   | zero=>exact zab.nil
   | succ k ih=>exact zab.cons (by simp[Den]) ih
  exact this _
 refine calls_of_wp h1 h2 (wp_mono (hwp _ _ hrel) ?_);rintro e a' w' ⟨objs',tm',hk,G',I',hin',hm',hd',hdef⟩;have key:outI ss K objs' tm' ->
   a'.defers=[]/\∃v,(results fn a'.tmps).run P w'=.ok v w'/\∃y objs'' r G'' I'',Ending.returned v=.returned y/\K objs'' r/\G.le G''/\Imm.le I I''/\In C G'' I'' w'/\MemOk G'' I'' objs'' w'/\Den G'' I'' r y:=by
  intro hk;unfold outI at hk
  split at hk
  ·rename_i xs hxs;obtain⟨y,hy,hyd⟩:=zch (P:=P) (fn:=fn) hm' hd' ss xs h4 hxs;refine⟨hdef,y,hy,y,objs',_,G',I',rfl,hk,hin'.gh,hin'.imm,⟨hin'.os,hin'.tape,hin'.output,hin'.size,hin'.block,fun g o v hi=>hin'.imm g o v (hin.imm g o v hi),fun g o v hi=>?_,hin'.blk,hin.gh.trans hin'.gh⟩,hm',hyd⟩;rcases hin'.news g o v hi with h|h
   ·exact hin.news g o v h
   ·exact .inr h
  ·exact hk.elim
 cases e with
 | normal=>exact key hk
 | ret=>exact key hk
 | _=>exact hk.elim
theorem law_ok [Tabs P] {f:FuncId} {args:List AV} {ys:List Value} {w:World} (hd:zab Gh.none (fun g o v=>w.cell? ⟨g,o,none⟩=some v) args ys) (hT:Tabs.T (P:=P) w) (h:zai P f args [] (fun _ r=>r=.b true)) :
  Calls P f ys.toArray w fun e w'=>e=.returned (.bool true)/\Below w.heap.size w w':=by
 haveI:On P ⟨w,fun _=>False,fun g o v=>w.cell? ⟨g,o,none⟩=some v,Gh.none⟩:=⟨hT,fun _ h=>h⟩
 have hc:=h ⟨w,fun _=>False,fun g o v=>w.cell? ⟨g,o,none⟩=some v,Gh.none⟩ Gh.none (fun g o v=>w.cell? ⟨g,o,none⟩=some v) w
  ⟨rfl,rfl,rfl,zg _,fun _ _ _=>rfl,fun _ _ _ h=>h,fun _ _ _ h=>.inl h,fun b g hb=>by simp[Gh.own,Gh.none] at hb,Gh.le.refl _⟩
  ⟨fun _ _ _ h=>h,by simp,by simp,by simp,fun b b' g hb=>by simp[Gh.own,Gh.none] at hb,fun b g hb=>by simp[Gh.own,Gh.none] at hb,fun b g o v hb=>by simp[Gh.own,Gh.none] at hb,fun b _=>⟨rfl,rfl⟩⟩ ys hd
 refine hc.mono ?_;rintro e w' ⟨y,objs',r,G',I',rfl,rfl,_,_,hin,_,hy⟩;simp only[Den] at hy;subst hy;exact⟨rfl,hin.os,hin.tape,hin.output,hin.size,fun k hk=>hin.block k hk (fun h=>h)⟩
end
inductive IT where
 | code (c:SCode)
 | ops (l:List SO)
 | dops (l:List SO)
 | ap (l:List (Nat×Nat×Option (Nat×Bool)))
 | blk (id:Nat)
def zb7 (P:Program) [Tabs P] (C:Cx) (F:zat):List IT->zat
 | []=>F
 | .code c::k=>zdn (fun o t=>wpC P C c (zb7 P C F k) o t) (zb7 P C F k)
 | .ops l::k=>zdn (fun o t=>wpR P l o t fun o t=>zb7 P C F k .normal o t) (zb7 P C F k)
 | .dops l::k=>zdn (fun o t=>wpD P l o t fun o t=>zb7 P C F k .normal o t) (zb7 P C F k)
 | .ap l::k=>zdn (fun o t=>zdP l t/\zb7 P C F k .normal o t) (zb7 P C F k)
 | .blk id::k=>blkK id (zb7 P C F k)
def run (P:Program) [Tabs P] (C:Cx) (k:List IT) (objs:List OB) (tm:List AV) (F:zat):Prop:=zb7 P C F k .normal objs tm
def xit (P:Program) [Tabs P] (C:Cx) (id:Nat) (k:List IT) (objs:List OB) (tm:List AV) (F:zat):Prop:=zb7 P C F k (.exit id) objs tm
def zir (P:Program) [Tabs P] (C:Cx) (J:Nat->List OB->List AV->Prop) (n:Nat) (k:List IT) (F:zat):zat:=zdn (fun o t=>∃m,m<n/\J m o t) (zb7 P C F k)
def evs (tm:List AV):List SV->List AV
 | []=>[]
 | x::xs=>x.ev tm::evs tm xs
theorem zc4 (tm:List AV):∀l:List SV,evs tm l=l.map fun x=>x.ev tm
 | []=>rfl
 | x::l=>by rw[evs,zc4 tm l];rfl
def evp (tm:List AV):List (Nat×Nat×SV)->List (Nat×Nat×AV)
 | []=>[]
 | (o,s,x)::xs=>(o,s,x.ev tm)::evp tm xs
theorem zhF (tm:List AV):∀l:List (Nat×Nat×SV),evp tm l=l.map fun p=>(p.1,p.2.1,p.2.2.ev tm)
 | []=>rfl
 | (o,s,x)::l=>by rw[evp,zhF tm l];rfl
def bxs:Option OB->Option (List AV)
 | some (.box _ cs)=>some cs
 | _=>none
theorem zlC (T:TypeId) (cs:List AV):bxs (some (.box T cs))=some cs:=Eq.trans rfl rfl
section
variable {P:Program} [Tabs P] {C:Cx} {F:zat} {k:List IT} {r:List SO} {objs:List OB} {tm:List AV} {d:Option Nat}
theorem rn_nil:run P C [] objs tm F=F .normal objs tm:=Eq.trans rfl rfl
theorem rn_seq (x y:SCode):run P C (.code (.seq x y)::k) objs tm F=run P C (.code x::.code y::k) objs tm F:=Eq.trans rfl rfl
theorem zjh:run P C (.code .skip::k) objs tm F=run P C k objs tm F:=Eq.trans rfl rfl
theorem rn_reg (l:List SO):run P C (.code (.reg l)::k) objs tm F=run P C (.ops l::k) objs tm F:=Eq.trans rfl rfl
theorem rn_ap (l:List (Nat×Nat×Option (Nat×Bool))):run P C (.ap l::k) objs tm F=(zdP l tm/\run P C k objs tm F):=Eq.trans rfl rfl
theorem apOk_n:zdP [] tm=True:=Eq.trans rfl rfl
theorem apOk_c (s s':Nat) (g:Option (Nat×Bool)) (l:List (Nat×Nat×Option (Nat×Bool))):zdP ((s,s',g)::l) tm=((if s'<1000000 then apG g tm (zbA tm[s]? tm[s']?) else apS tm[s]? tm[s' - 1000000]?)/\zdP l tm):=Eq.trans rfl rfl
theorem apG_n (p:Prop):apG none tm p=p:=Eq.trans rfl rfl
theorem apG_s (g:Nat) (b:Bool) (p:Prop):apG (some (g,b)) tm p=apB tm[g]? b p:=Eq.trans rfl rfl
theorem apB_tt (p:Prop):apB (some (.b true)) true p=p:=Eq.trans rfl rfl
theorem apB_ff (p:Prop):apB (some (.b false)) false p=p:=Eq.trans rfl rfl
theorem apB_tf (p:Prop):apB (some (.b true)) false p=True:=Eq.trans rfl rfl
theorem apB_ft (p:Prop):apB (some (.b false)) true p=True:=Eq.trans rfl rfl
theorem apS_o (b g j b' g' j':Nat):apS (some (.porow b g j)) (some (.porow b' g' j'))=(¬b=b'):=Eq.trans rfl rfl
theorem apS_p (b g j b' o':Nat):apS (some (.porow b g j)) (some (.p b' o'))=(¬b=b'):=Eq.trans rfl rfl
theorem zh5 (b o b' g':Nat):zbA (some (.p b o)) (some (.orow b' g'))=(¬b=b'):=Eq.trans rfl rfl
theorem zh4 (b o b' g' j':Nat):zbA (some (.p b o)) (some (.porow b' g' j'))=(¬b=b'):=Eq.trans rfl rfl
theorem zh3 (xs:List AV) (j b' g':Nat):zbA (some (.prow xs j)) (some (.orow b' g'))=True:=Eq.trans rfl rfl
theorem zh2 (xs:List AV) (j b' g' j':Nat):zbA (some (.prow xs j)) (some (.porow b' g' j'))=True:=Eq.trans rfl rfl
theorem zlJ (b o b' o':Nat):zbA (some (.p b o)) (some (.p b' o'))=(¬b=b'):=Eq.trans rfl rfl
theorem zlI (xs:List AV) (j b' o':Nat):zbA (some (.prow xs j)) (some (.p b' o'))=True:=Eq.trans rfl rfl
theorem rn_drw (l:List SO) (n:Nat) (ap:List (Nat×Nat×Option (Nat×Bool))):run P C (.code (.drw l n ap)::k) objs tm F=run P C (.dops (l.take n)::.ap ap::.ops (l.drop n)::k) objs tm F:=Eq.trans rfl rfl
theorem rn_crg (pre:List SO) (cl:SO) (post:List SO):run P C (.code (.crg pre cl post)::k) objs tm F=run P C [.ops pre] objs tm (fun _ _ t1=>run P C [.ops [cl]] objs t1 (fun _ o2 t2=>run P C [.ops pre] o2 tm (fun _ _ t=>t=t1)/\run P C (.ops post::k) o2 t2 F)):=Eq.trans rfl rfl
def rcr (P:Program) [Tabs P] (C:Cx):List (List SO×List AV×List AV)->List OB->Prop
 | [],_=>True
 | e::r,o=>run P C [.ops e.1] o e.2.1 (fun _ _ x=>x=e.2.2)/\rcr P C r o
def rst (P:Program) [Tabs P] (C:Cx) (st:List (List SO×SO)) (hist:List (List SO×List AV×List AV)) (last:List SO) (k:List IT) (objs:List OB) (tm:List AV) (F:zat):Prop:=wpT P st hist last objs tm fun o t=>run P C k o t F
theorem rcr_n (o:List OB):rcr P C [] o=True:=Eq.trans rfl rfl
theorem rcr_c (L:List SO) (b u:List AV) (h:List (List SO×List AV×List AV)) (o:List OB):rcr P C ((L,b,u)::h) o=(run P C [.ops L] o b (fun _ _ x=>x=u)/\rcr P C h o):=Eq.trans rfl rfl
theorem zgY:∀(h:List (List SO×List AV×List AV)) (o:List OB),zaI P h o=rcr P C h o
 | [],o=>rfl
 | e::h,o=>by
  unfold zaI rcr;rw[zgY h o]
  rfl
theorem rn_crs (st:List (List SO×SO)) (last:List SO):run P C (.code (.crs st last)::k) objs tm F=rst P C st [] last k objs tm F:=Eq.trans rfl rfl
theorem rst_n (h:List (List SO×List AV×List AV)) (last:List SO):rst P C [] h last k objs tm F=run P C (.ops last::k) objs tm F:=Eq.trans rfl rfl
theorem rst_c (L:List SO) (c:SO) (st:List (List SO×SO)) (h:List (List SO×List AV×List AV)) (last:List SO):rst P C ((L,c)::st) h last k objs tm F=run P C [.ops L] objs tm (fun _ _ u=>run P C [.ops [c]] objs u (fun _ o' t'=>rcr P C ((L,tm,u)::h) o'/\rst P C st ((L,tm,u)::h) last k o' t' F)):=by
 rw[show rst P C ((L,c)::st) h last k objs tm F=wpR P L objs tm (fun _ u=>wpR P [c] objs u fun o' t'=>zaI P ((L,tm,u)::h) o'/\wpT P st ((L,tm,u)::h) last o' t' fun o t=>run P C k o t F) from rfl];simp only[zgY (C:=C)]
 rfl
def rsb (P:Program) [Tabs P] (C:Cx) (d:Nat) (T:TypeId) (z:List AV) (sr:SO) (st:List (List SO×SO)) (hist:List (List SO×List AV×List AV)) (last:List SO) (k:List IT) (objs:List OB) (tm:List AV) (F:zat):Prop:=wpB P d T z st hist last objs tm fun o t=>wpR P [sr] o t fun o t=>run P C k o t F
theorem hsV_n (d:Nat) (p:AV):hsV d p []=[]:=Eq.trans rfl rfl
theorem hsV_c (d:Nat) (p:AV) (L:List SO) (b u:List AV) (h:List (List SO×List AV×List AV)):hsV d p ((L,b,u)::h)=(L,b.set d p,u.set d p)::hsV d p h:=Eq.trans rfl rfl
theorem rn_cra (d:Nat) (T:TypeId) (z:List AV) (st:List (List SO×SO)) (last:List SO) (sr:SO):run P C (.code (.cra d T z st last sr)::k) objs tm F=(tm.length<=1000003/\rsb P C d T z sr st [] last k objs tm F):=Eq.trans rfl rfl
theorem rsb_n (d:Nat) (T:TypeId) (z:List AV) (sr:SO) (h:List (List SO×List AV×List AV)) (last:List SO):rsb P C d T z sr [] h last k objs tm F=run P C [.ops last] objs tm (fun _ _ u=>rcr P C (hsV d (.p objs.length 0) ((last,tm,u)::h)) (objs++[.box T z])/\run P C (.ops [sr]::k) (objs++[.box T z]) (u.set d (.p objs.length 0)) F):=by
 rw[show rsb P C d T z sr [] h last k objs tm F=wpR P last objs tm (fun _ u=>zaI P (hsV d (.p objs.length 0) ((last,tm,u)::h)) (objs++[.box T z])/\wpR P [sr] (objs++[.box T z]) (u.set d (.p objs.length 0)) fun o t=>run P C k o t F) from rfl];simp only[zgY (C:=C)]
 rfl
theorem rsb_c (d:Nat) (T:TypeId) (z:List AV) (sr:SO) (L:List SO) (c:SO) (st:List (List SO×SO)) (h:List (List SO×List AV×List AV)) (last:List SO):rsb P C d T z sr ((L,c)::st) h last k objs tm F=run P C [.ops L] objs tm (fun _ _ u=>(rcr P C (hsV d (.p objs.length 0) ((L,tm,u)::h)) (objs++[.box T z])/\run P C [.ops [c]] (objs++[.box T z]) (u.set d (.p objs.length 0)) (fun _ o' t'=>rcr P C (hsV d (.p objs.length 0) ((L,tm,u)::h)) o'/\rst P C st (hsV d (.p objs.length 0) ((L,tm,u)::h)) last (.ops [sr]::k) o' t' F))/\run P C [.ops [c]] objs u (fun _ o' t'=>rcr P C ((L,tm,u)::h) o'/\rsb P C d T z sr st ((L,tm,u)::h) last k o' t' F)):=by
 rw[show rsb P C d T z sr ((L,c)::st) h last k objs tm F=wpR P L objs tm (fun _ u=>(zaI P (hsV d (.p objs.length 0) ((L,tm,u)::h)) (objs++[.box T z])/\wpR P [c] (objs++[.box T z]) (u.set d (.p objs.length 0)) (fun o' t'=>zaI P (hsV d (.p objs.length 0) ((L,tm,u)::h)) o'/\wpT P st (hsV d (.p objs.length 0) ((L,tm,u)::h)) last o' t' fun o t=>wpR P [sr] o t fun o t=>run P C k o t F))/\wpR P [c] objs u (fun o' t'=>zaI P ((L,tm,u)::h) o'/\wpB P d T z st ((L,tm,u)::h) last o' t' fun o t=>wpR P [sr] o t fun o t=>run P C k o t F)) from rfl];simp only[zgY (C:=C)]
 rfl
theorem zcc (id:Nat) (c:SCode):run P C (.code (.blk id c)::k) objs tm F=run P C (.code c::.blk id::k) objs tm F:=Eq.trans rfl rfl
theorem zgR (id:Nat):run P C (.blk id::k) objs tm F=run P C k objs tm F:=Eq.trans rfl rfl
theorem zd5:run P C (.ops []::k) objs tm F=run P C k objs tm F:=Eq.trans rfl rfl
theorem zds:run P C (.dops []::k) objs tm F=run P C k objs tm F:=Eq.trans rfl rfl
theorem zbG:∀(k:List IT),zb7 P C F k .ret objs tm=F .ret objs tm
 | []=>rfl
 | .code c::k=>zbG k
 | .ops l::k=>zbG k
 | .dops l::k=>zbG k
 | .ap l::k=>zbG k
 | .blk id::k=>zbG k
theorem rn_ret:run P C (.code .ret::k) objs tm F=F .ret objs tm:=zbG k
theorem zjs:run P C (.code .dead::k) objs tm F=False:=Eq.trans rfl rfl
theorem zjr (id:Nat):run P C (.code (.exit id)::k) objs tm F=xit P C id k objs tm F:=Eq.trans rfl rfl
theorem ziQ (id:Nat):xit P C id [] objs tm F=F (.exit id) objs tm:=Eq.trans rfl rfl
theorem zgG (id:Nat) (c:SCode):xit P C id (.code c::k) objs tm F=xit P C id k objs tm F:=Eq.trans rfl rfl
theorem ziP (id:Nat) (l:List SO):xit P C id (.ops l::k) objs tm F=xit P C id k objs tm F:=Eq.trans rfl rfl
theorem zgF (id:Nat) (l:List SO):xit P C id (.dops l::k) objs tm F=xit P C id k objs tm F:=Eq.trans rfl rfl
theorem xit_ap (id:Nat) (l:List (Nat×Nat×Option (Nat×Bool))):xit P C id (.ap l::k) objs tm F=xit P C id k objs tm F:=Eq.trans rfl rfl
theorem ziR (id id':Nat):xit P C id (.blk id'::k) objs tm F=if id=id' then run P C k objs tm F else xit P C id k objs tm F:=Eq.trans rfl rfl
theorem zcZ (J:Nat->List OB->List AV->Prop) (n:Nat):zir P C J n k F .normal objs tm=∃m,m<n/\J m objs tm:=Eq.trans rfl rfl
theorem zea (J:Nat->List OB->List AV->Prop) (n id:Nat):zir P C J n k F (.exit id) objs tm=xit P C id k objs tm F:=Eq.trans rfl rfl
theorem zfs (J:Nat->List OB->List AV->Prop) (n:Nat):zir P C J n k F .ret objs tm=F .ret objs tm:=zbG k
theorem zcI [On P C] {c:SCode} (J:Nat->List OB->List AV->Prop) (n:Nat) (h0:J n objs tm) (round:∀n objs tm,J n objs tm->run P C [.code c] objs tm (zir P C J n k F)):run P C (.code (.loop c)::k) objs tm F :=
 zgI J n h0 round
def kO (P:Program) [Tabs P] (C:Cx) (v:Option AV) (d:Option Nat) (r:List SO) (k:List IT) (objs:List OB) (tm:List AV) (F:zat):Prop :=
 match v with
 | some v=>run P C (.ops r::k) objs (zah tm d v) F
 | none=>False
theorem zaC (op:SOp):run P C (.ops (⟨d,op,none⟩::r)::k) objs tm F=wpS P op objs tm fun o v=>run P C (.ops r::k) o (zah tm d v) F:=Eq.trans rfl rfl
theorem zkk (v:AV):kO P C (some v) d r k objs tm F=run P C (.ops r::k) objs (zah tm d v) F:=Eq.trans rfl rfl
theorem rn_mv (x:SV):run P C (.ops (⟨d,.mv x,none⟩::r)::k) objs tm F=run P C (.ops r::k) objs (zah tm d (x.ev tm)) F:=Eq.trans rfl rfl
def kPick (P:Program) [Tabs P] (C:Cx) (c x y:AV) (d:Option Nat) (r:List SO) (k:List IT) (objs:List OB) (tm:List AV) (F:zat):Prop :=
 match c with
 | .b t=>(t=true->run P C (.ops r::k) objs (zah tm d x) F)/\(t=false->run P C (.ops r::k) objs (zah tm d y) F)
 | _=>False
theorem zki (x y:AV):kPick P C (.b true) x y d r k objs tm F=run P C (.ops r::k) objs (zah tm d x) F:=propext ⟨fun h=>h.1 rfl,fun h=>⟨fun _=>h,fun e=>absurd e.symm Bool.false_ne_true⟩⟩
theorem zkj (x y:AV):kPick P C (.b false) x y d r k objs tm F=run P C (.ops r::k) objs (zah tm d y) F:=propext ⟨fun h=>h.2 rfl,fun h=>⟨fun e=>absurd e Bool.false_ne_true,fun _=>h⟩⟩
theorem zji (c x y:SV):run P C (.ops (⟨d,.pick c x y,none⟩::r)::k) objs tm F=kPick P C (c.ev tm) (x.ev tm) (y.ev tm) d r k objs tm F:=Eq.trans rfl rfl
theorem zgX (T:Nat) (z:List AV):run P C (.ops (⟨d,.alloc T z,none⟩::r)::k) objs tm F=run P C (.ops r::k) (objs++[.box T z]) (zah tm d (.p objs.length 0)) F:=Eq.trans rfl rfl
theorem rn_box (T:Nat) (x:SV):run P C (.ops (⟨d,.box T x,none⟩::r)::k) objs tm F=((x.ev tm).flat=true/\run P C (.ops r::k) (objs++[.box T (x.ev tm).cells]) (zah tm d (.p objs.length 0)) F):=Eq.trans rfl rfl
theorem zgW (z:List AV) (ps:List (Nat×Nat×SV)):run P C (.ops (⟨d,.build z ps,none⟩::r)::k) objs tm F=kO P C ((za2 z (evp tm ps)).map .agg) d r k objs tm F:=by
 rw[zhF];rw[zaC];simp only[wpS]
 cases za2 z (ps.map fun p=>(p.1,p.2.1,p.2.2.ev tm))<;>rfl
theorem zfl (n:Nat) (z:List AV) (ps:List (Nat×Nat×SV)):run P C (.ops (⟨d,.bslice n z ps,none⟩::r)::k) objs tm F=kO P C ((za2 z (evp tm ps)).map (.row n)) d r k objs tm F:=by
 rw[zhF];rw[zaC];simp only[wpS]
 cases za2 z (ps.map fun p=>(p.1,p.2.1,p.2.2.ev tm))<;>rfl
def kLit (P:Program) [Tabs P] (C:Cx) (c:Option (List AV)) (E sz n:Nat) (d:Option Nat) (r:List SO) (k:List IT) (objs:List OB) (tm:List AV) (F:zat):Prop :=
 match c with
 | some cs=>cs.length=n*sz/\run P C (.ops r::k) (objs++[.orow E sz 0 n cs]) (zah tm d (.orow objs.length 0)) F
 | none=>False
theorem kLit_s (cs:List AV) (E sz n:Nat):kLit P C (some cs) E sz n d r k objs tm F=(cs.length=n*sz/\run P C (.ops r::k) (objs++[.orow E sz 0 n cs]) (zah tm d (.orow objs.length 0)) F):=Eq.trans rfl rfl
theorem zjx (E sz n:Nat) (z:List AV) (ps:List (Nat×Nat×SV)):run P C (.ops (⟨d,.bslo E sz n z ps,none⟩::r)::k) objs tm F=kLit P C (za2 z (evp tm ps)) E sz n d r k objs tm F:=by
 rw[zhF];rw[zaC];simp only[wpS]
 cases za2 z (ps.map fun p=>(p.1,p.2.1,p.2.2.ev tm))<;>rfl
def kLd1o (P:Program) [Tabs P] (C:Cx) (c:Option OB) (gen j:Nat) (d:Option Nat) (r:List SO) (k:List IT) (objs:List OB) (tm:List AV) (F:zat):Prop :=
 match c with
 | some (.orow _ _ gen' _ xs)=>gen'=gen/\kO P C xs[j]? d r k objs tm F
 | _=>False
def kLd1 (P:Program) [Tabs P] (C:Cx) (v:AV) (d:Option Nat) (r:List SO) (k:List IT) (objs:List OB) (tm:List AV) (F:zat):Prop :=
 match v with
 | .p b off=>kO P C ((bxs objs[b]?).bind fun cs=>cs[off]?) d r k objs tm F
 | .prow xs j=>kO P C xs[j]? d r k objs tm F
 | .porow b gen j=>kLd1o P C objs[b]? gen j d r k objs tm F
 | _=>False
theorem zks (E sz gen' n gen j:Nat) (xs:List AV):kLd1o P C (some (.orow E sz gen' n xs)) gen j d r k objs tm F=(gen'=gen/\kO P C xs[j]? d r k objs tm F):=Eq.trans rfl rfl
theorem kLd1_o (b gen j:Nat):kLd1 P C (.porow b gen j) d r k objs tm F=kLd1o P C objs[b]? gen j d r k objs tm F:=Eq.trans rfl rfl
theorem kLd1_p (b off:Nat):kLd1 P C (.p b off) d r k objs tm F=kO P C ((bxs objs[b]?).bind fun cs=>cs[off]?) d r k objs tm F:=Eq.trans rfl rfl
theorem kLd1_r (xs:List AV) (j:Nat):kLd1 P C (.prow xs j) d r k objs tm F=kO P C xs[j]? d r k objs tm F:=Eq.trans rfl rfl
theorem zgQ (x:SV):run P C (.ops (⟨d,.load1 x,none⟩::r)::k) objs tm F=kLd1 P C (x.ev tm) d r k objs tm F:=by
 rw[zaC];simp only[wpS,kLd1]
 cases x.ev tm<;>try rfl
 case p b off=>
  dsimp only;generalize objs[b]? = q
  cases q with
  | none=>rfl
  | some ob=>
   cases ob<;>try rfl
   all_goals (dsimp only [bxs,Option.bind];split<;>rfl)
 case prow xs j=>
  dsimp only
  cases hx:xs[j]? with
  | none=>simp[kO]
  | some v=>simp[kO]
 case porow b gen j=>
  dsimp only;generalize objs[b]? = q
  cases q with
  | none=>rfl
  | some ob=>
   cases ob<;>try rfl
   rename_i xs;dsimp only [kLd1o]
   cases hx:xs[j]? with
   | none=>simp[kO]
   | some v=>simp[kO]
def kLdn (P:Program) [Tabs P] (C:Cx) (c:Option (List AV)) (off sz:Nat) (d:Option Nat) (r:List SO) (k:List IT) (objs:List OB) (tm:List AV) (F:zat):Prop :=
 match c with
 | some cs=>off+sz<=cs.length/\run P C (.ops r::k) objs (zah tm d (.agg ((cs.drop off).take sz))) F
 | none=>False
def kLdno (P:Program) [Tabs P] (C:Cx) (c:Option OB) (gen j sz:Nat) (d:Option Nat) (r:List SO) (k:List IT) (objs:List OB) (tm:List AV) (F:zat):Prop :=
 match c with
 | some (.orow _ _ gen' _ xs)=>(gen'=gen/\j+sz<=xs.length)/\run P C (.ops r::k) objs (zah tm d (.agg ((xs.drop j).take sz))) F
 | _=>False
def kLdv (P:Program) [Tabs P] (C:Cx) (v:AV) (sz:Nat) (d:Option Nat) (r:List SO) (k:List IT) (objs:List OB) (tm:List AV) (F:zat):Prop :=
 match v with
 | .p b off=>kLdn P C (bxs objs[b]?) off sz d r k objs tm F
 | .prow xs j=>kLdn P C (some xs) j sz d r k objs tm F
 | .porow b gen j=>kLdno P C objs[b]? gen j sz d r k objs tm F
 | _=>False
theorem zkr (E s gen' n gen j sz:Nat) (xs:List AV):kLdno P C (some (.orow E s gen' n xs)) gen j sz d r k objs tm F=((gen'=gen/\j+sz<=xs.length)/\run P C (.ops r::k) objs (zah tm d (.agg ((xs.drop j).take sz))) F):=Eq.trans rfl rfl
theorem kLdv_o (b gen j sz:Nat):kLdv P C (.porow b gen j) sz d r k objs tm F=kLdno P C objs[b]? gen j sz d r k objs tm F:=Eq.trans rfl rfl
theorem kLdn_s (cs:List AV) (off sz:Nat):kLdn P C (some cs) off sz d r k objs tm F=(off+sz<=cs.length/\run P C (.ops r::k) objs (zah tm d (.agg ((cs.drop off).take sz))) F):=Eq.trans rfl rfl
theorem kLdv_p (b off sz:Nat):kLdv P C (.p b off) sz d r k objs tm F=kLdn P C (bxs objs[b]?) off sz d r k objs tm F:=Eq.trans rfl rfl
theorem kLdv_r (xs:List AV) (j sz:Nat):kLdv P C (.prow xs j) sz d r k objs tm F=kLdn P C (some xs) j sz d r k objs tm F:=Eq.trans rfl rfl
theorem zgP (sz:Nat) (x:SV):run P C (.ops (⟨d,.loadn sz x,none⟩::r)::k) objs tm F=kLdv P C (x.ev tm) sz d r k objs tm F:=by
 rw[zaC];simp only[wpS,kLdv]
 cases x.ev tm<;>try rfl
 try (case p b off=>
  dsimp only;generalize objs[b]? = q
  cases q with
  | none=>rfl
  | some ob=>cases ob<;>rfl)
 try (case porow b gen j=>
  dsimp only;generalize objs[b]? = q
  cases q with
  | none=>rfl
  | some ob=>cases ob<;>rfl)
def kSt2 (P:Program) [Tabs P] (C:Cx) (c:Option OB) (b off sz:Nat) (v:AV) (d:Option Nat) (r:List SO) (k:List IT) (objs:List OB) (tm:List AV) (F:zat):Prop :=
 match c with
 | some (.box T cs)=>(v.flat=true/\v.cells.length=sz/\off+sz<=cs.length)/\run P C (.ops r::k) (objs.set b (.box T (zav cs off v.cells))) (zah tm d .u) F
 | _=>False
def kSt3 (P:Program) [Tabs P] (C:Cx) (c:Option OB) (b gen j sz:Nat) (v:AV) (d:Option Nat) (r:List SO) (k:List IT) (objs:List OB) (tm:List AV) (F:zat):Prop :=
 match c with
 | some (.orow E s gen' n xs)=>(gen'=gen/\v.flat=true/\v.cells.length=sz/\j+sz<=xs.length)/\run P C (.ops r::k) (objs.set b (.orow E s gen' n (zav xs j v.cells))) (zah tm d .u) F
 | _=>False
def kSt (P:Program) [Tabs P] (C:Cx) (p v:AV) (sz:Nat) (d:Option Nat) (r:List SO) (k:List IT) (objs:List OB) (tm:List AV) (F:zat):Prop :=
 match p with
 | .p b off=>kSt2 P C objs[b]? b off sz v d r k objs tm F
 | .porow b gen j=>kSt3 P C objs[b]? b gen j sz v d r k objs tm F
 | _=>False
theorem kSt3_o (E s gen' n:Nat) (xs:List AV) (b gen j sz:Nat) (v:AV):kSt3 P C (some (.orow E s gen' n xs)) b gen j sz v d r k objs tm F=((gen'=gen/\v.flat=true/\v.cells.length=sz/\j+sz<=xs.length)/\run P C (.ops r::k) (objs.set b (.orow E s gen' n (zav xs j v.cells))) (zah tm d .u) F):=Eq.trans rfl rfl
theorem kSt_o (b gen j sz:Nat) (v:AV):kSt P C (.porow b gen j) v sz d r k objs tm F=kSt3 P C objs[b]? b gen j sz v d r k objs tm F:=Eq.trans rfl rfl
theorem kSt2_b (T:TypeId) (cs:List AV) (b off sz:Nat) (v:AV):kSt2 P C (some (.box T cs)) b off sz v d r k objs tm F=((v.flat=true/\v.cells.length=sz/\off+sz<=cs.length)/\run P C (.ops r::k) (objs.set b (.box T (zav cs off v.cells))) (zah tm d .u) F):=Eq.trans rfl rfl
theorem kSt_p (b off sz:Nat) (v:AV):kSt P C (.p b off) v sz d r k objs tm F=kSt2 P C objs[b]? b off sz v d r k objs tm F:=Eq.trans rfl rfl
theorem zgN (sz:Nat) (x y:SV):run P C (.ops (⟨d,.store sz x y,none⟩::r)::k) objs tm F=kSt P C (x.ev tm) (y.ev tm) sz d r k objs tm F:=by
 rw[zaC];simp only[wpS,kSt]
 cases x.ev tm<;>try rfl
 try (case p b off=>
  dsimp only;generalize objs[b]? = q
  cases q with
  | none=>rfl
  | some ob=>cases ob<;>rfl)
 try (case porow b gen j=>
  dsimp only;generalize objs[b]? = q
  cases q with
  | none=>rfl
  | some ob=>cases ob<;>rfl)
def kNck (P:Program) [Tabs P] (C:Cx) (v:AV)  (d:Option Nat) (r:List SO) (k:List IT) (objs:List OB) (tm:List AV) (F:zat):Prop :=
 match v with
 | .p b o=>run P C (.ops r::k) objs (zah tm d (.p b o)) F
 | .prow xs j=>run P C (.ops r::k) objs (zah tm d (.prow xs j)) F
 | .fn f fs cs=>run P C (.ops r::k) objs (zah tm d (.fn f fs cs)) F
 | .porow b gen j=>run P C (.ops r::k) objs (zah tm d (.porow b gen j)) F
 | _=>False
theorem kNck_0 (b o:Nat) :kNck P C (.p b o)  d r k objs tm F=(run P C (.ops r::k) objs (zah tm d (.p b o)) F):=Eq.trans rfl rfl
theorem kNck_1 (xs:List AV) (j:Nat) :kNck P C (.prow xs j)  d r k objs tm F=(run P C (.ops r::k) objs (zah tm d (.prow xs j)) F):=Eq.trans rfl rfl
theorem kNck_2 (f:Nat) (fs cs:List AV) :kNck P C (.fn f fs cs)  d r k objs tm F=(run P C (.ops r::k) objs (zah tm d (.fn f fs cs)) F):=Eq.trans rfl rfl
theorem kNck_3 (b gen j:Nat) :kNck P C (.porow b gen j)  d r k objs tm F=(run P C (.ops r::k) objs (zah tm d (.porow b gen j)) F):=Eq.trans rfl rfl
theorem rn_nck (x:SV):run P C (.ops (⟨d,.nck x,none⟩::r)::k) objs tm F=kNck P C (x.ev tm)  d r k objs tm F:=by
 rw[zaC];simp only[wpS,kNck]
 cases (x.ev tm)<;>rfl
def kNot (P:Program) [Tabs P] (C:Cx) (v:AV)  (d:Option Nat) (r:List SO) (k:List IT) (objs:List OB) (tm:List AV) (F:zat):Prop :=
 match v with
 | .b t=>run P C (.ops r::k) objs (zah tm d (.b (!t))) F
 | _=>False
theorem kNot_0 (t:Bool) :kNot P C (.b t)  d r k objs tm F=(run P C (.ops r::k) objs (zah tm d (.b (!t))) F):=Eq.trans rfl rfl
theorem rn_not (x:SV):run P C (.ops (⟨d,.not x,none⟩::r)::k) objs tm F=kNot P C (x.ev tm)  d r k objs tm F:=by
 rw[zaC];simp only[wpS,kNot]
 cases (x.ev tm)<;>rfl
def kAr (P:Program) [Tabs P] (C:Cx) (q:IntKind) (z:Int) (d:Option Nat) (r:List SO) (k:List IT) (objs:List OB) (tm:List AV) (F:zat):Prop:=arK q z fun z=>run P C (.ops r::k) objs (zah tm d (.i q z)) F
theorem zkC (z:Int):kAr P C .i64 z d r k objs tm F=((-9223372036854775808<=z/\z<=9223372036854775807)/\run P C (.ops r::k) objs (zah tm d (.i .i64 z)) F):=Eq.trans rfl rfl
theorem kAr_i8 (z:Int):kAr P C .i8 z d r k objs tm F=run P C (.ops r::k) objs (zah tm d (.i .i8 (IntKind.wrap .i8 z))) F:=Eq.trans rfl rfl
theorem zkE (z:Int):kAr P C .i16 z d r k objs tm F=run P C (.ops r::k) objs (zah tm d (.i .i16 (IntKind.wrap .i16 z))) F:=Eq.trans rfl rfl
theorem zkD (z:Int):kAr P C .i32 z d r k objs tm F=run P C (.ops r::k) objs (zah tm d (.i .i32 (IntKind.wrap .i32 z))) F:=Eq.trans rfl rfl
theorem kAr_u8 (z:Int):kAr P C .u8 z d r k objs tm F=run P C (.ops r::k) objs (zah tm d (.i .u8 (IntKind.wrap .u8 z))) F:=Eq.trans rfl rfl
theorem zkB (z:Int):kAr P C .u16 z d r k objs tm F=run P C (.ops r::k) objs (zah tm d (.i .u16 (IntKind.wrap .u16 z))) F:=Eq.trans rfl rfl
theorem zkA (z:Int):kAr P C .u32 z d r k objs tm F=run P C (.ops r::k) objs (zah tm d (.i .u32 (IntKind.wrap .u32 z))) F:=Eq.trans rfl rfl
theorem zkz (z:Int):kAr P C .u64 z d r k objs tm F=run P C (.ops r::k) objs (zah tm d (.i .u64 (IntKind.wrap .u64 z))) F:=Eq.trans rfl rfl
def kNeg (P:Program) [Tabs P] (C:Cx) (v:AV)  (d:Option Nat) (r:List SO) (k:List IT) (objs:List OB) (tm:List AV) (F:zat):Prop :=
 match v with
 | .i q n=>kAr P C q (0 - n) d r k objs tm F
 | _=>False
theorem kNeg_0 (q:IntKind) (n:Int) :kNeg P C (.i q n)  d r k objs tm F=(kAr P C q (0 - n) d r k objs tm F):=Eq.trans rfl rfl
theorem rn_neg (x:SV):run P C (.ops (⟨d,.neg x,none⟩::r)::k) objs tm F=kNeg P C (x.ev tm)  d r k objs tm F:=by
 rw[zaC];simp only[wpS,kNeg,kAr]
 cases x.ev tm<;>rfl
def kCvi (P:Program) [Tabs P] (C:Cx) (v:AV) (q:IntKind) (d:Option Nat) (r:List SO) (k:List IT) (objs:List OB) (tm:List AV) (F:zat):Prop :=
 match v with
 | .i kk n=>run P C (.ops r::k) objs (zah tm d (.i q (q.wrap n))) F
 | _=>False
theorem kCvi_0 (kk:IntKind) (n:Int) (q:IntKind):kCvi P C (.i kk n) q d r k objs tm F=(run P C (.ops r::k) objs (zah tm d (.i q (q.wrap n))) F):=Eq.trans rfl rfl
theorem rn_cvi (q:IntKind) (x:SV):run P C (.ops (⟨d,.cvi q x,none⟩::r)::k) objs tm F=kCvi P C (x.ev tm) q d r k objs tm F:=by
 rw[zaC];simp only[wpS,kCvi]
 cases (x.ev tm)<;>rfl
def kCvs (P:Program) [Tabs P] (C:Cx) (v:AV)  (d:Option Nat) (r:List SO) (k:List IT) (objs:List OB) (tm:List AV) (F:zat):Prop :=
 match v with
 | .s l=>run P C (.ops r::k) objs (zah tm d (.s l)) F
 | _=>False
theorem kCvs_0 (l:List UInt8) :kCvs P C (.s l)  d r k objs tm F=(run P C (.ops r::k) objs (zah tm d (.s l)) F):=Eq.trans rfl rfl
theorem rn_cvs (x:SV):run P C (.ops (⟨d,.cvs x,none⟩::r)::k) objs tm F=kCvs P C (x.ev tm)  d r k objs tm F:=by
 rw[zaC];simp only[wpS,kCvs]
 cases (x.ev tm)<;>rfl
def kLens (P:Program) [Tabs P] (C:Cx) (v:AV)  (d:Option Nat) (r:List SO) (k:List IT) (objs:List OB) (tm:List AV) (F:zat):Prop :=
 match v with
 | .s l=>run P C (.ops r::k) objs (zah tm d (.i .i64 l.length)) F
 | _=>False
theorem zkm (l:List UInt8) :kLens P C (.s l)  d r k objs tm F=(run P C (.ops r::k) objs (zah tm d (.i .i64 l.length)) F):=Eq.trans rfl rfl
theorem zjl (x:SV):run P C (.ops (⟨d,.lens x,none⟩::r)::k) objs tm F=kLens P C (x.ev tm)  d r k objs tm F:=by
 rw[zaC];simp only[wpS,kLens]
 cases (x.ev tm)<;>rfl
def kFldn (P:Program) [Tabs P] (C:Cx) (v:AV) (off sz:Nat) (d:Option Nat) (r:List SO) (k:List IT) (objs:List OB) (tm:List AV) (F:zat):Prop :=
 match v with
 | .agg cs=>run P C (.ops r::k) objs (zah tm d (.agg ((cs.drop off).take sz))) F
 | _=>False
theorem zkw (cs:List AV) (off sz:Nat):kFldn P C (.agg cs) off sz d r k objs tm F=(run P C (.ops r::k) objs (zah tm d (.agg ((cs.drop off).take sz))) F):=Eq.trans rfl rfl
theorem zjp (off sz:Nat) (x:SV):run P C (.ops (⟨d,.fldn off sz x,none⟩::r)::k) objs tm F=kFldn P C (x.ev tm) off sz d r k objs tm F:=by
 rw[zaC];simp only[wpS,kFldn]
 cases (x.ev tm)<;>rfl
def kFad (P:Program) [Tabs P] (C:Cx) (v:AV) (off:Nat) (d:Option Nat) (r:List SO) (k:List IT) (objs:List OB) (tm:List AV) (F:zat):Prop :=
 match v with
 | .p b o=>run P C (.ops r::k) objs (zah tm d (.p b (o+off))) F
 | .prow xs j=>run P C (.ops r::k) objs (zah tm d (.prow xs (j+off))) F
 | .porow b gen j=>run P C (.ops r::k) objs (zah tm d (.porow b gen (j+off))) F
 | _=>False
theorem kFad_0 (b o:Nat) (off:Nat):kFad P C (.p b o) off d r k objs tm F=(run P C (.ops r::k) objs (zah tm d (.p b (o+off))) F):=Eq.trans rfl rfl
theorem kFad_1 (xs:List AV) (j:Nat) (off:Nat):kFad P C (.prow xs j) off d r k objs tm F=(run P C (.ops r::k) objs (zah tm d (.prow xs (j+off))) F):=Eq.trans rfl rfl
theorem kFad_2 (b gen j:Nat) (off:Nat):kFad P C (.porow b gen j) off d r k objs tm F=(run P C (.ops r::k) objs (zah tm d (.porow b gen (j+off))) F):=Eq.trans rfl rfl
theorem rn_fad (off:Nat) (x:SV):run P C (.ops (⟨d,.fad off x,none⟩::r)::k) objs tm F=kFad P C (x.ev tm) off d r k objs tm F:=by
 rw[zaC];simp only[wpS,kFad]
 cases (x.ev tm)<;>rfl
def kFld1 (P:Program) [Tabs P] (C:Cx) (v:AV) (off:Nat) (d:Option Nat) (r:List SO) (k:List IT) (objs:List OB) (tm:List AV) (F:zat):Prop :=
 match v with
 | .agg cs=>kO P C cs[off]? d r k objs tm F
 | _=>False
theorem zkx (cs:List AV) (off:Nat):kFld1 P C (.agg cs) off d r k objs tm F=(kO P C cs[off]? d r k objs tm F):=Eq.trans rfl rfl
theorem zjq (off:Nat) (x:SV):run P C (.ops (⟨d,.fld1 off x,none⟩::r)::k) objs tm F=kFld1 P C (x.ev tm) off d r k objs tm F:=by
 rw[zaC];simp only[wpS,kFld1]
 cases x.ev tm<;>try rfl
 try (case agg cs=>dsimp only;cases cs[off]?<;>rfl)
def kExt (P:Program) [Tabs P] (C:Cx) (v:AV) (j:Nat) (d:Option Nat) (r:List SO) (k:List IT) (objs:List OB) (tm:List AV) (F:zat):Prop :=
 match v with
 | .tup cs=>kO P C cs[j]? d r k objs tm F
 | _=>False
theorem kExt_0 (cs:List AV) (j:Nat):kExt P C (.tup cs) j d r k objs tm F=(kO P C cs[j]? d r k objs tm F):=Eq.trans rfl rfl
theorem rn_ext (x:SV) (j:Nat):run P C (.ops (⟨d,.ext x j,none⟩::r)::k) objs tm F=kExt P C (x.ev tm) j d r k objs tm F:=by
 rw[zaC];simp only[wpS,kExt]
 cases x.ev tm<;>try rfl
 try (case tup cs=>dsimp only;cases cs[j]?<;>rfl)
def kLr2 (P:Program) [Tabs P] (C:Cx) (c:Option OB) (gen:Nat) (d:Option Nat) (r:List SO) (k:List IT) (objs:List OB) (tm:List AV) (F:zat):Prop :=
 match c with
 | some (.orow _ _ gen' n _)=>gen'=gen/\run P C (.ops r::k) objs (zah tm d (.i .i64 n)) F
 | _=>False
theorem kLr2_o (E sz gen' n gen:Nat) (xs:List AV):kLr2 P C (some (.orow E sz gen' n xs)) gen d r k objs tm F=(gen'=gen/\run P C (.ops r::k) objs (zah tm d (.i .i64 n)) F):=Eq.trans rfl rfl
def ziu (P:Program) [Tabs P] (C:Cx) (v:AV)  (d:Option Nat) (r:List SO) (k:List IT) (objs:List OB) (tm:List AV) (F:zat):Prop :=
 match v with
 | .row n xs=>run P C (.ops r::k) objs (zah tm d (.i .i64 n)) F
 | .nil=>run P C (.ops r::k) objs (zah tm d (.i .i64 0)) F
 | .orow b gen=>kLr2 P C objs[b]? gen d r k objs tm F
 | .zn z=>run P C (.ops r::k) objs (zah tm d (.i .i64 0)) F
 | _=>False
theorem zkq (n:Nat) (xs:List AV) :ziu P C (.row n xs)  d r k objs tm F=(run P C (.ops r::k) objs (zah tm d (.i .i64 n)) F):=Eq.trans rfl rfl
theorem zkp  :ziu P C (.nil)  d r k objs tm F=(run P C (.ops r::k) objs (zah tm d (.i .i64 0)) F):=Eq.trans rfl rfl
theorem zko (b gen:Nat) :ziu P C (.orow b gen)  d r k objs tm F=(kLr2 P C objs[b]? gen d r k objs tm F):=Eq.trans rfl rfl
theorem zkn (z:Bool) :ziu P C (.zn z)  d r k objs tm F=(run P C (.ops r::k) objs (zah tm d (.i .i64 0)) F):=Eq.trans rfl rfl
theorem zjm (x:SV):run P C (.ops (⟨d,.lenr x,none⟩::r)::k) objs tm F=ziu P C (x.ev tm)  d r k objs tm F:=by
 rw[zaC];simp only[wpS,ziu]
 cases x.ev tm<;>try rfl
 try (case orow b gen=>
  dsimp only;generalize objs[b]? = q
  cases q with
  | none=>rfl
  | some ob=>cases ob<;>rfl)
def kBeq (P:Program) [Tabs P] (C:Cx) (ne:Bool) (x y:AV) (d:Option Nat) (r:List SO) (k:List IT) (objs:List OB) (tm:List AV) (F:zat):Prop :=
 match x,y with
 | .b l,.b m=>run P C (.ops r::k) objs (zah tm d (.b (if ne then !(l==m) else (l==m)))) F
 | _,_=>False
def kEq (P:Program) [Tabs P] (C:Cx) (ne:Bool) (x:Option Bool) (d:Option Nat) (r:List SO) (k:List IT) (objs:List OB) (tm:List AV) (F:zat):Prop :=
 match x with
 | some q=>run P C (.ops r::k) objs (zah tm d (.b (if ne then !q else q))) F
 | none=>False
def kEqs (P:Program) [Tabs P] (C:Cx) (ne:Bool) (e:ET) (x y:AV) (d:Option Nat) (r:List SO) (k:List IT) (objs:List OB) (tm:List AV) (F:zat):Prop :=
 match x,y with
 | .agg xs,.agg ys=>kEq P C ne (eqA e (.agg xs) (.agg ys)) d r k objs tm F
 | _,_=>False
theorem zfw (l m:Bool):kBeq P C true (.b l) (.b m) d r k objs tm F=run P C (.ops r::k) objs (zah tm d (.b (!(l==m)))) F:=Eq.trans rfl rfl
theorem zhc (q:Bool):kEq P C true (some q) d r k objs tm F=run P C (.ops r::k) objs (zah tm d (.b (!q))) F:=Eq.trans rfl rfl
theorem zeb (l m:Bool):kBeq P C false (.b l) (.b m) d r k objs tm F=run P C (.ops r::k) objs (zah tm d (.b (l==m))) F:=Eq.trans rfl rfl
theorem zfv (q:Bool):kEq P C false (some q) d r k objs tm F=run P C (.ops r::k) objs (zah tm d (.b q)) F:=Eq.trans rfl rfl
theorem kEqs_a (ne:Bool) (e:ET) (xs ys:List AV):kEqs P C ne e (.agg xs) (.agg ys) d r k objs tm F=kEq P C ne (eqA e (.agg xs) (.agg ys)) d r k objs tm F:=Eq.trans rfl rfl
theorem rn_beq (ne:Bool) (x y:SV):run P C (.ops (⟨d,.beq ne x y,none⟩::r)::k) objs tm F=kBeq P C ne (x.ev tm) (y.ev tm) d r k objs tm F:=by
 rw[zaC];simp only[wpS,kBeq]
 cases x.ev tm<;>try rfl
 try (cases y.ev tm<;>rfl)
theorem rn_eqs (ne:Bool) (e:ET) (x y:SV):run P C (.ops (⟨d,.eqs ne e x y,none⟩::r)::k) objs tm F=kEqs P C ne e (x.ev tm) (y.ev tm) d r k objs tm F:=by
 rw[zaC];simp only[wpS,kEqs]
 cases x.ev tm<;>try rfl
 try (cases y.ev tm<;>try rfl)
 try (simp only[kEq];cases eqA e _ _<;>rfl)
def kIado (P:Program) [Tabs P] (C:Cx) (c:Option OB) (b gen:Nat) (i:Int) (sz:Nat) (d:Option Nat) (r:List SO) (k:List IT) (objs:List OB) (tm:List AV) (F:zat):Prop :=
 match c with
 | some (.orow _ s gen' n _)=>(gen'=gen/\s=sz/\0<=i/\i<n)/\run P C (.ops r::k) objs (zah tm d (.porow b gen (i.toNat*sz))) F
 | _=>False
theorem zku (E s gen' n:Nat) (xs:List AV) (b gen:Nat) (i:Int) (sz:Nat):kIado P C (some (.orow E s gen' n xs)) b gen i sz d r k objs tm F=((gen'=gen/\s=sz/\0<=i/\i<n)/\run P C (.ops r::k) objs (zah tm d (.porow b gen (i.toNat*sz))) F):=Eq.trans rfl rfl
def kIad (P:Program) [Tabs P] (C:Cx) (x y:AV) (sz:Nat) (d:Option Nat) (r:List SO) (k:List IT) (objs:List OB) (tm:List AV) (F:zat):Prop :=
 match x,y with
 | .row n xs,.i kk i=>(0<=i/\i<n/\n*sz<=xs.length)/\run P C (.ops r::k) objs (zah tm d (.prow xs (i.toNat*sz))) F
 | .orow b gen,.i kk i=>kIado P C objs[b]? b gen i sz d r k objs tm F
 | _,_=>False
theorem kIad_0 (n:Nat) (xs:List AV) (kk:IntKind) (i:Int) (sz:Nat):kIad P C (.row n xs) (.i kk i) sz d r k objs tm F=((0<=i/\i<n/\n*sz<=xs.length)/\run P C (.ops r::k) objs (zah tm d (.prow xs (i.toNat*sz))) F):=Eq.trans rfl rfl
theorem kIad_1 (b gen:Nat) (kk:IntKind) (i:Int) (sz:Nat):kIad P C (.orow b gen) (.i kk i) sz d r k objs tm F=(kIado P C objs[b]? b gen i sz d r k objs tm F):=Eq.trans rfl rfl
theorem rn_iad (sz:Nat) (x y:SV):run P C (.ops (⟨d,.iad sz x y,none⟩::r)::k) objs tm F=kIad P C (x.ev tm) (y.ev tm) sz d r k objs tm F:=by
 rw[zaC];simp only[wpS,kIad]
 cases x.ev tm<;>try rfl
 all_goals try (cases y.ev tm<;>try rfl)
 all_goals (
  dsimp only;rename_i b gen _ _;generalize objs[b]? = q
  cases q with
  | none=>rfl
  | some ob=>cases ob<;>rfl)
def kIadr (P:Program) [Tabs P] (C:Cx) (x y:AV) (sz:Nat) (d:Option Nat) (r:List SO) (k:List IT) (objs:List OB) (tm:List AV) (F:zat):Prop :=
 match x,y with
 | .row n xs,.i kk i=>(0<=i/\i<n/\n*sz<=xs.length)/\run P C (.ops r::k) objs (zah tm d (.prow xs (i.toNat*sz))) F
 | _,_=>False
theorem zkt (n:Nat) (xs:List AV) (kk:IntKind) (i:Int) (sz:Nat):kIadr P C (.row n xs) (.i kk i) sz d r k objs tm F=((0<=i/\i<n/\n*sz<=xs.length)/\run P C (.ops r::k) objs (zah tm d (.prow xs (i.toNat*sz))) F):=Eq.trans rfl rfl
theorem zjn (sz:Nat) (x y:SV):run P C (.ops (⟨d,.iadr sz x y,none⟩::r)::k) objs tm F=kIadr P C (x.ev tm) (y.ev tm) sz d r k objs tm F:=by
 rw[zaC];simp only[wpS,kIadr]
 cases x.ev tm<;>try rfl
 try (cases y.ev tm<;>rfl)
def kIada (P:Program) [Tabs P] (C:Cx) (x y:AV) (sz len:Nat) (d:Option Nat) (r:List SO) (k:List IT) (objs:List OB) (tm:List AV) (F:zat):Prop :=
 match x,y with
 | .p b off,.i kk i=>(0<=i/\i<len)/\run P C (.ops r::k) objs (zah tm d (.p b (off+i.toNat*sz))) F
 | _,_=>False
theorem zkv (b off:Nat) (kk:IntKind) (i:Int) (sz len:Nat):kIada P C (.p b off) (.i kk i) sz len d r k objs tm F=((0<=i/\i<len)/\run P C (.ops r::k) objs (zah tm d (.p b (off+i.toNat*sz))) F):=Eq.trans rfl rfl
theorem zjo (sz len:Nat) (x y:SV):run P C (.ops (⟨d,.iada sz len x y,none⟩::r)::k) objs tm F=kIada P C (x.ev tm) (y.ev tm) sz len d r k objs tm F:=by
 rw[zaC];simp only[wpS,kIada]
 cases x.ev tm<;>try rfl
 try (cases y.ev tm<;>rfl)
def kIdx (P:Program) [Tabs P] (C:Cx) (x y:AV)  (d:Option Nat) (r:List SO) (k:List IT) (objs:List OB) (tm:List AV) (F:zat):Prop :=
 match x,y with
 | .s l,.i kk i=>(0<=i/\i<l.length)/\run P C (.ops r::k) objs (zah tm d (.i .u8 ((l.getD i.toNat 0).toNat:Int))) F
 | _,_=>False
theorem kIdx_0 (l:List UInt8) (kk:IntKind) (i:Int) :kIdx P C (.s l) (.i kk i)  d r k objs tm F=((0<=i/\i<l.length)/\run P C (.ops r::k) objs (zah tm d (.i .u8 ((l.getD i.toNat 0).toNat:Int))) F):=Eq.trans rfl rfl
theorem rn_idx (x y:SV):run P C (.ops (⟨d,.idx x y,none⟩::r)::k) objs tm F=kIdx P C (x.ev tm) (y.ev tm)  d r k objs tm F:=by
 rw[zaC];simp only[wpS,kIdx]
 cases x.ev tm<;>try rfl
 try (cases y.ev tm<;>rfl)
def kTrno (P:Program) [Tabs P] (C:Cx) (c:Option OB) (b gen:Nat) (i:Int) (sz:Nat) (d:Option Nat) (r:List SO) (k:List IT) (objs:List OB) (tm:List AV) (F:zat):Prop :=
 match c with
 | some (.orow E s gen' n xs)=>(gen'=gen/\s=sz/\0<=i/\i<=n)/\run P C (.ops r::k) (objs.set b (.orow E s (gen+1) i.toNat (xs.take (i.toNat*s)))) (zah tm d (.orow b (gen+1))) F
 | _=>False
theorem zkh (E s gen' n:Nat) (xs:List AV) (b gen:Nat) (i:Int) (sz:Nat):kTrno P C (some (.orow E s gen' n xs)) b gen i sz d r k objs tm F=((gen'=gen/\s=sz/\0<=i/\i<=n)/\run P C (.ops r::k) (objs.set b (.orow E s (gen+1) i.toNat (xs.take (i.toNat*s)))) (zah tm d (.orow b (gen+1))) F):=Eq.trans rfl rfl
def kTrn (P:Program) [Tabs P] (C:Cx) (x y:AV) (sz:Nat) (d:Option Nat) (r:List SO) (k:List IT) (objs:List OB) (tm:List AV) (F:zat):Prop :=
 match x,y with
 | .row n xs,.i kk i=>(0<=i/\i<=n)/\run P C (.ops r::k) objs (zah tm d (.row i.toNat (xs.take (i.toNat*sz)))) F
 | .nil,.i kk i=>i=0/\run P C (.ops r::k) objs (zah tm d .nil) F
 | .orow b gen,.i kk i=>kTrno P C objs[b]? b gen i sz d r k objs tm F
 | _,_=>False
theorem kTrn_0 (n:Nat) (xs:List AV) (kk:IntKind) (i:Int) (sz:Nat):kTrn P C (.row n xs) (.i kk i) sz d r k objs tm F=((0<=i/\i<=n)/\run P C (.ops r::k) objs (zah tm d (.row i.toNat (xs.take (i.toNat*sz)))) F):=Eq.trans rfl rfl
theorem kTrn_1 (kk:IntKind) (i:Int) (sz:Nat):kTrn P C (.nil) (.i kk i) sz d r k objs tm F=(i=0/\run P C (.ops r::k) objs (zah tm d .nil) F):=Eq.trans rfl rfl
theorem kTrn_2 (b gen:Nat) (kk:IntKind) (i:Int) (sz:Nat):kTrn P C (.orow b gen) (.i kk i) sz d r k objs tm F=(kTrno P C objs[b]? b gen i sz d r k objs tm F):=Eq.trans rfl rfl
theorem rn_trn (sz:Nat) (x y:SV):run P C (.ops (⟨d,.trn sz x y,none⟩::r)::k) objs tm F=kTrn P C (x.ev tm) (y.ev tm) sz d r k objs tm F:=by
 rw[zaC];simp only[wpS,kTrn]
 cases x.ev tm<;>try rfl
 all_goals try (cases y.ev tm<;>try rfl)
 all_goals (
  dsimp only;rename_i b gen _ _;generalize objs[b]? = q
  cases q with
  | none=>rfl
  | some ob=>cases ob<;>rfl)
def kMks (P:Program) [Tabs P] (C:Cx) (x y:AV) (E sz by':Nat) (d:Option Nat) (r:List SO) (k:List IT) (objs:List OB) (tm:List AV) (F:zat):Prop :=
 match x,y with
 | .i k1 l,.i k2 c=>(l=0/\0<=c/\(by':Int)*c<=281474976710656/\c<=140737488351232+4096)/\run P C (.ops r::k) (objs++[.orow E sz 0 0 []]) (zah tm d (.orow objs.length 0)) F
 | _,_=>False
theorem kMks_0 (k1:IntKind) (l:Int) (k2:IntKind) (c:Int) (E sz by':Nat):kMks P C (.i k1 l) (.i k2 c) E sz by' d r k objs tm F=((l=0/\0<=c/\(by':Int)*c<=281474976710656/\c<=140737488351232+4096)/\run P C (.ops r::k) (objs++[.orow E sz 0 0 []]) (zah tm d (.orow objs.length 0)) F):=Eq.trans rfl rfl
theorem rn_mks (E sz by':Nat) (x y:SV):run P C (.ops (⟨d,.mks E sz by' x y,none⟩::r)::k) objs tm F=kMks P C (x.ev tm) (y.ev tm) E sz by' d r k objs tm F:=by
 rw[zaC];simp only[wpS,kMks,show (140737488351232+4096:Int)=140737488355328 from rfl]
 cases x.ev tm<;>try rfl
 try (cases y.ev tm<;>rfl)
def kMkz (P:Program) [Tabs P] (C:Cx) (x:AV) (E by':Nat) (kd:IntKind) (z:Int) (d:Option Nat) (r:List SO) (k:List IT) (objs:List OB) (tm:List AV) (F:zat):Prop :=
 match x with
 | .i _ l=>(0<=l/\(by':Int)*l<=281474976710656/\l<=140737488355328)/\run P C (.ops r::k) (objs++[.orow E 1 0 l.toNat (zu l.toNat (.i kd z))]) (zah tm d (.orow objs.length 0)) F
 | _=>False
theorem kMkz_i (q:IntKind) (l:Int) (E by':Nat) (kd:IntKind) (z:Int):kMkz P C (.i q l) E by' kd z d r k objs tm F=((0<=l/\(by':Int)*l<=281474976710656/\l<=140737488355328)/\run P C (.ops r::k) (objs++[.orow E 1 0 l.toNat (zu l.toNat (.i kd z))]) (zah tm d (.orow objs.length 0)) F):=Eq.trans rfl rfl
theorem rn_mkz (E by':Nat) (kd:IntKind) (z:Int) (x:SV):run P C (.ops (⟨d,.mkz E by' kd z x,none⟩::r)::k) objs tm F=kMkz P C (x.ev tm) E by' kd z d r k objs tm F:=by
 rw[zaC];simp only[wpS,kMkz]
 cases x.ev tm<;>rfl
def kCap (P:Program) [Tabs P] (C:Cx) (v:AV) (s:Option (Nat×List AV)) (sz by':Nat) (d:Option Nat) (r:List SO) (k:List IT) (objs:List OB) (tm:List AV) (F:zat):Prop :=
 match v,s with
 | .crow n xs,some (m,ys)=>((xs.length=n*sz/\ys.length=m*sz)/\0<m/\(n+m)*by'<=140737488355328/\n+m<=140737488355328)/\run P C (.ops r::k) objs (zah tm d (.row (n+m) (xs++ys))) F
 | _,_=>False
theorem kCap_c (n m:Nat) (xs ys:List AV) (sz by':Nat):kCap P C (.crow n xs) (some (m,ys)) sz by' d r k objs tm F=(((xs.length=n*sz/\ys.length=m*sz)/\0<m/\(n+m)*by'<=140737488355328/\n+m<=140737488355328)/\run P C (.ops r::k) objs (zah tm d (.row (n+m) (xs++ys))) F):=Eq.trans rfl rfl
theorem zjv (sz by':Nat) (x y:SV):run P C (.ops (⟨d,.capp sz by' x y,none⟩::r)::k) objs tm F=kCap P C (x.ev tm) (zaU [] (y.ev tm)) sz by' d r k objs tm F:=by
 rw[zaC];simp only[wpS,kCap]
 cases x.ev tm<;>rfl
def kCao (P:Program) [Tabs P] (C:Cx) (v:AV) (s:Option (Nat×List AV)) (E sz by':Nat) (d:Option Nat) (r:List SO) (k:List IT) (objs:List OB) (tm:List AV) (F:zat):Prop :=
 match v,s with
 | .crow n xs,some (m,ys)=>((xs.length=n*sz/\ys.length=m*sz)/\0<m/\(n+m)*by'<=140737488355328/\n+m<=140737488355328)/\run P C (.ops r::k) (objs++[.orow E sz 0 (n+m) (xs++ys)]) (zah tm d (.orow objs.length 0)) F
 | _,_=>False
theorem kCao_c (n m:Nat) (xs ys:List AV) (E sz by':Nat):kCao P C (.crow n xs) (some (m,ys)) E sz by' d r k objs tm F=(((xs.length=n*sz/\ys.length=m*sz)/\0<m/\(n+m)*by'<=140737488355328/\n+m<=140737488355328)/\run P C (.ops r::k) (objs++[.orow E sz 0 (n+m) (xs++ys)]) (zah tm d (.orow objs.length 0)) F):=Eq.trans rfl rfl
theorem zgU (E sz by':Nat) (x y:SV):run P C (.ops (⟨d,.cappo E sz by' x y,none⟩::r)::k) objs tm F=kCao P C (x.ev tm) (zaU objs (y.ev tm)) E sz by' d r k objs tm F:=by
 rw[zaC];simp only[wpS,kCao]
 cases x.ev tm<;>rfl
def zgc (P:Program) [Tabs P] (C:Cx) (op:BinOp) (x y:AV) (d:Option Nat) (r:List SO) (k:List IT) (objs:List OB) (tm:List AV) (F:zat):Prop:=binK op x y fun v=>run P C (.ops r::k) objs (zah tm d v) F
theorem rn_bin (q:BinOp) (x y:SV):run P C (.ops (⟨d,.bin q x y,none⟩::r)::k) objs tm F=zgc P C q (x.ev tm) (y.ev tm) d r k objs tm F:=Eq.trans rfl rfl
theorem zhq (q:IntKind) (m n:Int):zgc P C .add (.i q m) (.i q n) d r k objs tm F=kAr P C q (m+n) d r k objs tm F:=propext ⟨fun h=>h.2,fun h=>⟨rfl,h⟩⟩
theorem zhd (q:IntKind) (m n:Int):zgc P C .sub (.i q m) (.i q n) d r k objs tm F=kAr P C q (m - n) d r k objs tm F:=propext ⟨fun h=>h.2,fun h=>⟨rfl,h⟩⟩
theorem zhj (q:IntKind) (m n:Int):zgc P C .mul (.i q m) (.i q n) d r k objs tm F=kAr P C q (m*n) d r k objs tm F:=propext ⟨fun h=>h.2,fun h=>⟨rfl,h⟩⟩
theorem zhh (q:IntKind) (m n:Int):zgc P C .quo (.i q m) (.i q n) d r k objs tm F=(n≠0/\kAr P C q (m.tdiv n) d r k objs tm F):=propext ⟨fun h=>h.2,fun h=>⟨rfl,h⟩⟩
theorem zhg (q:IntKind) (m n:Int):zgc P C .rem (.i q m) (.i q n) d r k objs tm F=(n≠0/\run P C (.ops r::k) objs (zah tm d (.i q (m.tmod n))) F):=propext ⟨fun h=>h.2,fun h=>⟨rfl,h⟩⟩
theorem zho (q:IntKind) (m n:Int):zgc P C .eql (.i q m) (.i q n) d r k objs tm F=run P C (.ops r::k) objs (zah tm d (.b (decide (m=n)))) F:=propext ⟨fun h=>h.2,fun h=>⟨rfl,h⟩⟩
theorem zhi (q:IntKind) (m n:Int):zgc P C .neq (.i q m) (.i q n) d r k objs tm F=run P C (.ops r::k) objs (zah tm d (.b (decide (¬m=n)))) F:=propext ⟨fun h=>h.2,fun h=>⟨rfl,h⟩⟩
theorem zhk (q:IntKind) (m n:Int):zgc P C .lss (.i q m) (.i q n) d r k objs tm F=run P C (.ops r::k) objs (zah tm d (.b (decide (m<n)))) F:=propext ⟨fun h=>h.2,fun h=>⟨rfl,h⟩⟩
theorem zhl (q:IntKind) (m n:Int):zgc P C .leq (.i q m) (.i q n) d r k objs tm F=run P C (.ops r::k) objs (zah tm d (.b (decide (m<=n)))) F:=propext ⟨fun h=>h.2,fun h=>⟨rfl,h⟩⟩
theorem zhm (q:IntKind) (m n:Int):zgc P C .gtr (.i q m) (.i q n) d r k objs tm F=run P C (.ops r::k) objs (zah tm d (.b (decide (n<m)))) F:=propext ⟨fun h=>h.2,fun h=>⟨rfl,h⟩⟩
theorem zhn (q:IntKind) (m n:Int):zgc P C .geq (.i q m) (.i q n) d r k objs tm F=run P C (.ops r::k) objs (zah tm d (.b (decide (n<=m)))) F:=propext ⟨fun h=>h.2,fun h=>⟨rfl,h⟩⟩
theorem zhp (l m:List UInt8):zgc P C .add (.s l) (.s m) d r k objs tm F=(l.length+m.length<=9223372036854775807/\run P C (.ops r::k) objs (zah tm d (.s (l++m))) F):=Eq.trans rfl rfl
theorem zhf (l m:List UInt8):zgc P C .eql (.s l) (.s m) d r k objs tm F=run P C (.ops r::k) objs (zah tm d (.b (decide (l=m)))) F:=Eq.trans rfl rfl
theorem zhe (l m:List UInt8):zgc P C .neq (.s l) (.s m) d r k objs tm F=run P C (.ops r::k) objs (zah tm d (.b (decide (¬l=m)))) F:=Eq.trans rfl rfl
def kSl2 (P:Program) [Tabs P] (C:Cx) (l:List UInt8) (i j:Option Int) (d:Option Nat) (r:List SO) (k:List IT) (objs:List OB) (tm:List AV) (F:zat):Prop :=
 match i,j with
 | some i,some j=>(0<=i/\i<=j/\j<=l.length)/\run P C (.ops r::k) objs (zah tm d (.s ((l.take j.toNat).drop i.toNat))) F
 | _,_=>False
def kSl (P:Program) [Tabs P] (C:Cx) (v:AV) (lo hi:Option SV) (d:Option Nat) (r:List SO) (k:List IT) (objs:List OB) (tm:List AV) (F:zat):Prop :=
 match v with
 | .s l=>kSl2 P C l (zfQ tm 0 lo) (zfQ tm l.length hi) d r k objs tm F
 | _=>False
def svi:AV->Option Int
 | .i _ n=>some n
 | _=>none
theorem svi_i (q:IntKind) (n:Int):svi (.i q n)=some n:=Eq.trans rfl rfl
theorem zfb (z:Int):zfQ tm z none=some z:=Eq.trans rfl rfl
theorem zfa (z:Int) (x:SV):zfQ tm z (some x)=svi (x.ev tm):=by
 simp only[zfQ];cases x.ev tm<;>rfl
theorem kSl2_s (l:List UInt8) (i j:Int):kSl2 P C l (some i) (some j) d r k objs tm F=((0<=i/\i<=j/\j<=l.length)/\run P C (.ops r::k) objs (zah tm d (.s ((l.take j.toNat).drop i.toNat))) F):=Eq.trans rfl rfl
theorem kSl_s (l:List UInt8) (lo hi:Option SV):kSl P C (.s l) lo hi d r k objs tm F=kSl2 P C l (zfQ tm 0 lo) (zfQ tm l.length hi) d r k objs tm F:=Eq.trans rfl rfl
theorem zjg (x:SV) (lo hi:Option SV):run P C (.ops (⟨d,.slcs x lo hi,none⟩::r)::k) objs tm F=kSl P C (x.ev tm) lo hi d r k objs tm F:=by
 rw[zaC];simp only[wpS,kSl]
 cases x.ev tm<;>try rfl
 try (case s l=>dsimp only [kSl2];cases zfQ tm 0 lo<;>cases zfQ tm l.length hi<;>rfl)
def kAp3 (P:Program) [Tabs P] (C:Cx) (c:Option OB) (b gen E sz by' m:Nat) (ys:List AV) (d:Option Nat) (r:List SO) (k:List IT) (objs:List OB) (tm:List AV) (F:zat):Prop :=
 match c with
 | some (.orow E' sz' gen' n xs)=>((E'=E/\sz'=sz/\gen'=gen)/\ys.length=m*sz/\(n+m)*by'<=140737488355328/\n+m<=140737488355328)/\run P C (.ops r::k) (objs.set b (.orow E sz (gen+1) (n+m) (xs++ys))) (zah tm d (.orow b (gen+1))) F
 | _=>False
def kAp2 (P:Program) [Tabs P] (C:Cx) (v:AV) (E sz by' m:Nat) (ys:List AV) (d:Option Nat) (r:List SO) (k:List IT) (objs:List OB) (tm:List AV) (F:zat):Prop :=
 match v with
 | .orow b gen=>kAp3 P C objs[b]? b gen E sz by' m ys d r k objs tm F
 | .nil=>(ys.length=m*sz/\m*by'<=140737488355328/\m<=140737488355328)/\run P C (.ops r::k) (objs++[.orow E sz 0 m ys]) (zah tm d (.orow objs.length 0)) F
 | _=>False
def kAp (P:Program) [Tabs P] (C:Cx) (v:AV) (s:Option (Nat×List AV)) (E sz by':Nat) (d:Option Nat) (r:List SO) (k:List IT) (objs:List OB) (tm:List AV) (F:zat):Prop :=
 match s with
 | some (m,ys)=>kAp2 P C v E sz by' m ys d r k objs tm F
 | none=>False
def kAs2 (P:Program) [Tabs P] (C:Cx) (c:Option OB) (b gen E:Nat) (l:List UInt8) (d:Option Nat) (r:List SO) (k:List IT) (objs:List OB) (tm:List AV) (F:zat):Prop :=
 match c with
 | some (.orow E' sz' gen' n xs)=>((E'=E/\sz'=1/\gen'=gen)/\n+l.length<=140737488355328)/\run P C (.ops r::k) (objs.set b (.orow E 1 (gen+1) (n+l.length) (xs++byA l))) (zah tm d (.orow b (gen+1))) F
 | _=>False
def kAs (P:Program) [Tabs P] (C:Cx) (v y:AV) (E:Nat) (d:Option Nat) (r:List SO) (k:List IT) (objs:List OB) (tm:List AV) (F:zat):Prop :=
 match y with
 | .s l=>match v with
  | .orow b gen=>kAs2 P C objs[b]? b gen E l d r k objs tm F
  | .nil=>l.length<=140737488355328/\run P C (.ops r::k) (objs++[.orow E 1 0 l.length (byA l)]) (zah tm d (.orow objs.length 0)) F
  | _=>False
 | _=>False
theorem kAp_s (v:AV) (m:Nat) (ys:List AV) (E sz by':Nat):kAp P C v (some (m,ys)) E sz by' d r k objs tm F=kAp2 P C v E sz by' m ys d r k objs tm F:=Eq.trans rfl rfl
theorem kAp2_o (b gen E sz by' m:Nat) (ys:List AV):kAp2 P C (.orow b gen) E sz by' m ys d r k objs tm F=kAp3 P C objs[b]? b gen E sz by' m ys d r k objs tm F:=Eq.trans rfl rfl
theorem kAp2_n (E sz by' m:Nat) (ys:List AV):kAp2 P C .nil E sz by' m ys d r k objs tm F=((ys.length=m*sz/\m*by'<=140737488355328/\m<=140737488355328)/\run P C (.ops r::k) (objs++[.orow E sz 0 m ys]) (zah tm d (.orow objs.length 0)) F):=Eq.trans rfl rfl
theorem kAp3_o (b gen E sz by' m n:Nat) (ys xs:List AV):kAp3 P C (some (.orow E sz gen n xs)) b gen E sz by' m ys d r k objs tm F=((ys.length=m*sz/\(n+m)*by'<=140737488355328/\n+m<=140737488355328)/\run P C (.ops r::k) (objs.set b (.orow E sz (gen+1) (n+m) (xs++ys))) (zah tm d (.orow b (gen+1))) F):=propext ⟨fun h=>⟨h.1.2,h.2⟩,fun h=>⟨⟨⟨rfl,rfl,rfl⟩,h.1⟩,h.2⟩⟩
theorem kAs_o (b gen E:Nat) (l:List UInt8):kAs P C (.orow b gen) (.s l) E d r k objs tm F=kAs2 P C objs[b]? b gen E l d r k objs tm F:=Eq.trans rfl rfl
theorem kAs_n (E:Nat) (l:List UInt8):kAs P C .nil (.s l) E d r k objs tm F=(l.length<=140737488355328/\run P C (.ops r::k) (objs++[.orow E 1 0 l.length (byA l)]) (zah tm d (.orow objs.length 0)) F):=Eq.trans rfl rfl
theorem kAs2_o (b gen E n:Nat) (l:List UInt8) (xs:List AV):kAs2 P C (some (.orow E 1 gen n xs)) b gen E l d r k objs tm F=(n+l.length<=140737488355328/\run P C (.ops r::k) (objs.set b (.orow E 1 (gen+1) (n+l.length) (xs++byA l))) (zah tm d (.orow b (gen+1))) F):=propext ⟨fun h=>⟨h.1.2,h.2⟩,fun h=>⟨⟨⟨rfl,rfl,rfl⟩,h.1⟩,h.2⟩⟩
theorem rn_app (E sz by':Nat) (x y:SV):run P C (.ops (⟨d,.app E sz by' x y,none⟩::r)::k) objs tm F=kAp P C (x.ev tm) (zaU objs (y.ev tm)) E sz by' d r k objs tm F:=by
 rw[zaC];simp only[wpS,kAp]
 cases hs:zaU objs (y.ev tm) with
 | none=>rfl
 | some p=>
  obtain⟨m,ys⟩:=p;simp only[kAp2]
  cases x.ev tm<;>try rfl
  try (case orow b gen=>
   dsimp only [kAp3];generalize objs[b]? = q
   cases q with
   | none=>rfl
   | some ob=>cases ob<;>rfl)
theorem zjy (E:Nat) (x y:SV):run P C (.ops (⟨d,.apps E x y,none⟩::r)::k) objs tm F=kAs P C (x.ev tm) (y.ev tm) E d r k objs tm F:=by
 rw[zaC];simp only[wpS,kAs]
 cases y.ev tm<;>try rfl
 try (case s l=>
  cases x.ev tm<;>try rfl
  try (case orow b gen=>
   dsimp only [kAs2];generalize objs[b]? = q
   cases q with
   | none=>rfl
   | some ob=>cases ob<;>rfl))
def kCb2 (P:Program) [Tabs P] (C:Cx) (c:Option OB) (gen:Nat) (d:Option Nat) (r:List SO) (k:List IT) (objs:List OB) (tm:List AV) (F:zat):Prop :=
 match c with
 | some (.orow _ sz gen' _ xs)=>(gen'=gen/\sz=1)/\∃l,xs=byA l/\run P C (.ops r::k) objs (zah tm d (.s l)) F
 | _=>False
def kCb3 (P:Program) [Tabs P] (C:Cx) (c:Option OB) (off n:Nat) (d:Option Nat) (r:List SO) (k:List IT) (objs:List OB) (tm:List AV) (F:zat):Prop :=
 match c with
 | some (.box _ cs)=>∃l,((cs.drop off).take n=byA l/\l.length=n)/\run P C (.ops r::k) objs (zah tm d (.s l)) F
 | _=>False
def kCb (P:Program) [Tabs P] (C:Cx) (v:AV) (d:Option Nat) (r:List SO) (k:List IT) (objs:List OB) (tm:List AV) (F:zat):Prop :=
 match v with
 | .orow b gen=>kCb2 P C objs[b]? gen d r k objs tm F
 | .row n xs=>∃l,(xs=byA l/\n=l.length)/\run P C (.ops r::k) objs (zah tm d (.s l)) F
 | .nil=>run P C (.ops r::k) objs (zah tm d (.s [])) F
 | .bsl b off n=>kCb3 P C objs[b]? off n d r k objs tm F
 | _=>False
theorem kCb_o (b gen:Nat):kCb P C (.orow b gen) d r k objs tm F=kCb2 P C objs[b]? gen d r k objs tm F:=Eq.trans rfl rfl
theorem kCb_n :kCb P C .nil d r k objs tm F=run P C (.ops r::k) objs (zah tm d (.s [])) F:=Eq.trans rfl rfl
theorem kCb_b (b off n:Nat):kCb P C (.bsl b off n) d r k objs tm F=kCb3 P C objs[b]? off n d r k objs tm F:=Eq.trans rfl rfl
theorem zjt (x:SV):run P C (.ops (⟨d,.cvbs x,none⟩::r)::k) objs tm F=kCb P C (x.ev tm) d r k objs tm F:=by
 rw[zaC];simp only[wpS,kCb]
 cases x.ev tm<;>try rfl
 try (case orow b gen=>
  dsimp only;generalize objs[b]? = q
  cases q with
  | none=>rfl
  | some ob=>cases ob<;>rfl)
 try (case bsl b off n=>
  dsimp only;generalize objs[b]? = q
  cases q with
  | none=>rfl
  | some ob=>cases ob<;>rfl)
theorem rn_mkf (f:Nat) (fs cs:List SV):run P C (.ops (⟨d,.mkf f fs cs,none⟩::r)::k) objs tm F=run P C (.ops r::k) objs (zah tm d (.fn f (evs tm fs) (evs tm cs))) F:=by rw[zc4,zc4];rfl
theorem kO_if (c:Prop) [Decidable c] (v:AV):kO P C (if c then some v else none) d r k objs tm F=(c/\run P C (.ops r::k) objs (zah tm d v) F):=by
 by_cases h:c
 ·simp[h,kO]
 ·simp[h,kO]
theorem pq_and (q:IntKind) (a b:Int):pq (.bits .and) [.i q a,.i q b]=some (.i q (q.wrap (BitVec.ofInt q.bits a &&& BitVec.ofInt q.bits b).toNat)):=by simp[pq,ziH]
theorem pq_or (q:IntKind) (a b:Int):pq (.bits .or) [.i q a,.i q b]=some (.i q (q.wrap (BitVec.ofInt q.bits a ||| BitVec.ofInt q.bits b).toNat)):=by simp[pq,ziH]
theorem pq_xor (q:IntKind) (a b:Int):pq (.bits .xor) [.i q a,.i q b]=some (.i q (q.wrap (BitVec.ofInt q.bits a ^^^ BitVec.ofInt q.bits b).toNat)):=by simp[pq,ziH]
theorem pq_shl (q q':IntKind) (a b:Int):pq .shl [.i q a,.i q' b]=if 0<=b then some (.i q (q.wrap (a*2 ^ (min b.toNat q.bits)))) else none:=Eq.trans rfl rfl
theorem pq_shr (q q':IntKind) (a b:Int):pq .shr [.i q a,.i q' b]=if 0<=b then some (.i q (a.fdiv (2 ^ (min b.toNat q.bits)))) else none:=Eq.trans rfl rfl
theorem pq_mn (q:IntKind) (a b:Int):pq .mn [.i q a,.i q b]=some (.i q (if b<a then b else a)):=by simp[pq]
theorem pq_mx (q:IntKind) (a b:Int):pq .mx [.i q a,.i q b]=some (.i q (if a<b then b else a)):=by simp[pq]
theorem pq_rsl (sz n:Nat) (xs:List AV) (q:IntKind) (a:Int):pq (.rsl sz) [.row n xs,.i q a]=if 0<=a/\a<=n then some (.row (n - a.toNat) ((xs.take (n*sz)).drop (a.toNat*sz))) else none:=Eq.trans rfl rfl
theorem zjJ (sz:Nat) (q:IntKind) (a:Int):pq (.rsl sz) [.nil,.i q a]=if a=0 then some .nil else none:=Eq.trans rfl rfl
theorem zjK (sz n:Nat) (xs:List AV) (q:IntKind) (a:Int):pq (.rslh sz) [.row n xs,.i q a]=if 0<=a/\a<=n then some (.row a.toNat (xs.take (a.toNat*sz))) else none:=Eq.trans rfl rfl
theorem zg1 (sz:Nat) (q:IntKind) (a:Int):pq (.rslh sz) [.nil,.i q a]=if a=0 then some .nil else none:=Eq.trans rfl rfl
theorem zjL (sz n:Nat) (xs:List AV) (q q':IntKind) (a b:Int):pq (.rslb sz) [.row n xs,.i q a,.i q' b]=if 0<=a/\a<=b/\b<=n then some (.row (b.toNat - a.toNat) ((xs.take (b.toNat*sz)).drop (a.toNat*sz))) else none:=Eq.trans rfl rfl
theorem pq_asl (sz len b off:Nat) (q:IntKind) (a:Int):pq (.asl sz len) [.p b off,.i q a]=if 0<=a/\a<len then some (.bsl b (off+a.toNat*sz) (len - a.toNat)) else none:=Eq.trans rfl rfl
theorem zjM (sz len b off:Nat) (q:IntKind) (a:Int):pq (.aslh sz len) [.p b off,.i q a]=if 0<=a/\a<=len/\0<len then some (.bsl b off a.toNat) else none:=Eq.trans rfl rfl
theorem zjN (sz len b off:Nat) (q q':IntKind) (a c:Int):pq (.aslb sz len) [.p b off,.i q a,.i q' c]=if 0<=a/\a<=c/\c<=len/\a<len then some (.bsl b (off+a.toNat*sz) (c.toNat - a.toNat)) else none:=Eq.trans rfl rfl
theorem pq_snn (ne:Bool):pq (.snil ne) [.nil,.nil]=some (.b (!ne)):=Eq.trans rfl rfl
theorem pq_snz (ne b:Bool):pq (.snil ne) [.zn b,.nil]=some (.b (if ne then !b else b)):=Eq.trans rfl rfl
theorem pq_snr (ne:Bool) (n:Nat) (x:AV) (xs:List AV):pq (.snil ne) [.row n (x::xs),.nil]=some (.b ne):=Eq.trans rfl rfl
theorem pq_sl3 (n:Nat) (xs:List AV) (q q':IntKind):pq .sl3 [.row n xs,.i q n,.i q' n]=some (.crow n xs):=by simp[pq]
theorem pq_lit (n:Nat) (z:List AV) (pl:List (Nat×Nat)) (xs:List AV):pq (.lit n z pl) xs=(za2 z (zipA pl xs)).map (.crow n):=by
 simp only[pq]
theorem zipA_c (a b:Nat) (pl:List (Nat×Nat)) (x:AV) (xs:List AV):zipA ((a,b)::pl) (x::xs)=(a,b,x)::zipA pl xs:=Eq.trans rfl rfl
theorem zipA_n (xs:List AV):zipA [] xs=[]:=by cases xs<;>rfl
theorem zjI (q q':IntKind):pq .sl3 [.nil,.i q 0,.i q' 0]=some (.crow 0 []):=by simp[pq]
theorem pq_lss (l m:List UInt8):pq (.scmp .lss) [.s l,.s m]=some (.b (zex l m)):=Eq.trans rfl rfl
theorem pq_leq (l m:List UInt8):pq (.scmp .leq) [.s l,.s m]=some (.b (zex l m||l==m)):=Eq.trans rfl rfl
theorem pq_gtr (l m:List UInt8):pq (.scmp .gtr) [.s l,.s m]=some (.b (!zex l m&&!(l==m))):=Eq.trans rfl rfl
theorem pq_geq (l m:List UInt8):pq (.scmp .geq) [.s l,.s m]=some (.b (!zex l m)):=Eq.trans rfl rfl
theorem rn_pu (q:PQ) (xs:List SV):run P C (.ops (⟨d,.pu q xs,none⟩::r)::k) objs tm F=kO P C (pq q (evs tm xs)) d r k objs tm F:=by
 rw[zc4];rw[zaC];simp only[wpS]
 cases pq q (xs.map fun x=>x.ev tm)<;>rfl
def kLk2 (P:Program) [Tabs P] (C:Cx) (c:Option OB) (z:AV) (ok:Bool) (l:List UInt8) (d:Option Nat) (r:List SO) (k:List IT) (objs:List OB) (tm:List AV) (F:zat):Prop :=
 match c with
 | some (.mp es)=>run P C (.ops r::k) objs (zah tm d (lkA z ok (zde l es))) F
 | _=>False
def kMup2 (P:Program) [Tabs P] (C:Cx) (c:Option OB) (b:Nat) (l:List UInt8) (v:AV) (d:Option Nat) (r:List SO) (k:List IT) (objs:List OB) (tm:List AV) (F:zat):Prop :=
 match c with
 | some (.mp es)=>v.one=true/\run P C (.ops r::k) (objs.set b (.mp (zcD l v es))) (zah tm d .u) F
 | _=>False
theorem kLk2_m (es:List (List UInt8×AV)) (z:AV) (ok:Bool) (l:List UInt8):kLk2 P C (some (.mp es)) z ok l d r k objs tm F=run P C (.ops r::k) objs (zah tm d (lkA z ok (zde l es))) F:=Eq.trans rfl rfl
theorem zkl (es:List (List UInt8×AV)) (b:Nat) (l:List UInt8) (v:AV):kMup2 P C (some (.mp es)) b l v d r k objs tm F=(v.one=true/\run P C (.ops r::k) (objs.set b (.mp (zcD l v es))) (zah tm d .u) F):=Eq.trans rfl rfl
def kLk (P:Program) [Tabs P] (C:Cx) (x y:AV) (z:AV) (ok:Bool) (d:Option Nat) (r:List SO) (k:List IT) (objs:List OB) (tm:List AV) (F:zat):Prop :=
 match x,y with
 | .m b,.s l=>kLk2 P C objs[b]? z ok l d r k objs tm F
 | _,_=>False
theorem kLk_0 (b:Nat) (l:List UInt8) (z:AV) (ok:Bool):kLk P C (.m b) (.s l) z ok d r k objs tm F=(kLk2 P C objs[b]? z ok l d r k objs tm F):=Eq.trans rfl rfl
theorem rn_lk (z:AV) (ok:Bool) (x y:SV):run P C (.ops (⟨d,.lk z ok x y,none⟩::r)::k) objs tm F=kLk P C (x.ev tm) (y.ev tm) z ok d r k objs tm F:=by
 rw[zaC];simp only[wpS,kLk]
 cases x.ev tm<;>try rfl
 all_goals try (cases y.ev tm<;>try rfl)
 all_goals (
  dsimp only;rename_i b l;generalize objs[b]? = q
  cases q with
  | none=>rfl
  | some ob=>cases ob<;>rfl)
def kMup (P:Program) [Tabs P] (C:Cx) (x y:AV) (v:AV) (d:Option Nat) (r:List SO) (k:List IT) (objs:List OB) (tm:List AV) (F:zat):Prop :=
 match x,y with
 | .m b,.s l=>kMup2 P C objs[b]? b l v d r k objs tm F
 | _,_=>False
theorem kMup_0 (b:Nat) (l:List UInt8) (v:AV):kMup P C (.m b) (.s l) v d r k objs tm F=(kMup2 P C objs[b]? b l v d r k objs tm F):=Eq.trans rfl rfl
theorem rn_mup (x y v:SV):run P C (.ops (⟨d,.mup x y v,none⟩::r)::k) objs tm F=kMup P C (x.ev tm) (y.ev tm) (v.ev tm) d r k objs tm F:=by
 rw[zaC];simp only[wpS,kMup]
 cases x.ev tm<;>try rfl
 all_goals try (cases y.ev tm<;>try rfl)
 all_goals (
  dsimp only;rename_i b l;generalize objs[b]? = q
  cases q with
  | none=>rfl
  | some ob=>cases ob<;>rfl)
theorem lkA_tt (z v:AV):lkA z true (some v)=.tup [v,.b true]:=Eq.trans rfl rfl
theorem lkA_tf (z v:AV):lkA z false (some v)=v:=Eq.trans rfl rfl
theorem lkA_nt (z:AV):lkA z true none=.tup [z,.b false]:=Eq.trans rfl rfl
theorem lkA_nf (z:AV):lkA z false none=z:=Eq.trans rfl rfl
theorem zjk :run P C (.ops (⟨d,.mkm0,none⟩::r)::k) objs tm F=run P C (.ops r::k) (objs++[.mp []]) (zah tm d (.m objs.length)) F:=by
 rw[zaC]
 rfl
def kMkm (P:Program) [Tabs P] (C:Cx) (x:AV) (d:Option Nat) (r:List SO) (k:List IT) (objs:List OB) (tm:List AV) (F:zat):Prop :=
 match x with
 | .i _ _=>run P C (.ops r::k) (objs++[.mp []]) (zah tm d (.m objs.length)) F
 | _=>False
theorem kMkm_i (q:IntKind) (n:Int):kMkm P C (.i q n) d r k objs tm F=run P C (.ops r::k) (objs++[.mp []]) (zah tm d (.m objs.length)) F:=Eq.trans rfl rfl
theorem zjj (x:SV):run P C (.ops (⟨d,.mkm1 x,none⟩::r)::k) objs tm F=kMkm P C (x.ev tm) d r k objs tm F:=by
 rw[zaC];simp only[wpS,kMkm]
 cases x.ev tm<;>rfl
def kG (P:Program) [Tabs P] (C:Cx) (v:AV) (op:SOp) (t:Nat) (w:Bool) (d:Option Nat) (r:List SO) (k:List IT) (objs:List OB) (tm:List AV) (F:zat):Prop :=
 match v with
 | .b x=>(x=w->run P C (.ops (⟨d,op,none⟩::r)::k) objs (tm.set t (.b w)) F)/\(x=!w->run P C (.ops r::k) objs (zah (tm.set t (.b (!w))) d (.o undef)) F)
 | .o (.tuple _)=>run P C (.ops r::k) objs (zah tm d (.o undef)) F
 | _=>False
def kGD (P:Program) [Tabs P] (C:Cx) (v:AV) (op:SOp) (t:Nat) (w:Bool) (d:Option Nat) (r:List SO) (k:List IT) (objs:List OB) (tm:List AV) (F:zat):Prop :=
 match v with
 | .b x=>(x=w->run P C (.dops (⟨d,op,none⟩::r)::k) objs (tm.set t (.b w)) F)/\(x=!w->run P C (.dops r::k) objs (zah (tm.set t (.b (!w))) d (.o undef)) F)
 | .o (.tuple _)=>run P C (.dops r::k) objs (zah tm d (.o undef)) F
 | _=>False
theorem kG_tt (op:SOp) (t:Nat):kG P C (.b true) op t true d r k objs tm F=run P C (.ops (⟨d,op,none⟩::r)::k) objs (tm.set t (.b true)) F:=propext ⟨fun h=>h.1 rfl,fun h=>⟨fun _=>h,fun e=>absurd e (by decide)⟩⟩
theorem kG_tf (op:SOp) (t:Nat):kG P C (.b true) op t false d r k objs tm F=run P C (.ops r::k) objs (zah (tm.set t (.b true)) d (.o undef)) F:=propext ⟨fun h=>h.2 rfl,fun h=>⟨fun e=>absurd e (by decide),fun _=>h⟩⟩
theorem kG_ft (op:SOp) (t:Nat):kG P C (.b false) op t true d r k objs tm F=run P C (.ops r::k) objs (zah (tm.set t (.b false)) d (.o undef)) F:=propext ⟨fun h=>h.2 rfl,fun h=>⟨fun e=>absurd e (by decide),fun _=>h⟩⟩
theorem kG_ff (op:SOp) (t:Nat):kG P C (.b false) op t false d r k objs tm F=run P C (.ops (⟨d,op,none⟩::r)::k) objs (tm.set t (.b false)) F:=propext ⟨fun h=>h.1 rfl,fun h=>⟨fun _=>h,fun e=>absurd e (by decide)⟩⟩
theorem kG_u (op:SOp) (t:Nat) (w:Bool):kG P C (.o undef) op t w d r k objs tm F=run P C (.ops r::k) objs (zah tm d (.o undef)) F:=Eq.trans rfl rfl
theorem kG_v (op:SOp) (t:Nat) (w:Bool) (vs:Array Value):kG P C (.o (.tuple vs)) op t w d r k objs tm F=run P C (.ops r::k) objs (zah tm d (.o undef)) F:=Eq.trans rfl rfl
theorem kGD_tt (op:SOp) (t:Nat):kGD P C (.b true) op t true d r k objs tm F=run P C (.dops (⟨d,op,none⟩::r)::k) objs (tm.set t (.b true)) F:=propext ⟨fun h=>h.1 rfl,fun h=>⟨fun _=>h,fun e=>absurd e (by decide)⟩⟩
theorem kGD_tf (op:SOp) (t:Nat):kGD P C (.b true) op t false d r k objs tm F=run P C (.dops r::k) objs (zah (tm.set t (.b true)) d (.o undef)) F:=propext ⟨fun h=>h.2 rfl,fun h=>⟨fun e=>absurd e (by decide),fun _=>h⟩⟩
theorem kGD_ft (op:SOp) (t:Nat):kGD P C (.b false) op t true d r k objs tm F=run P C (.dops r::k) objs (zah (tm.set t (.b false)) d (.o undef)) F:=propext ⟨fun h=>h.2 rfl,fun h=>⟨fun e=>absurd e (by decide),fun _=>h⟩⟩
theorem kGD_ff (op:SOp) (t:Nat):kGD P C (.b false) op t false d r k objs tm F=run P C (.dops (⟨d,op,none⟩::r)::k) objs (tm.set t (.b false)) F:=propext ⟨fun h=>h.1 rfl,fun h=>⟨fun _=>h,fun e=>absurd e (by decide)⟩⟩
theorem kGD_u (op:SOp) (t:Nat) (w:Bool):kGD P C (.o undef) op t w d r k objs tm F=run P C (.dops r::k) objs (zah tm d (.o undef)) F:=Eq.trans rfl rfl
theorem kGD_v (op:SOp) (t:Nat) (w:Bool) (vs:Array Value):kGD P C (.o (.tuple vs)) op t w d r k objs tm F=run P C (.dops r::k) objs (zah tm d (.o undef)) F:=Eq.trans rfl rfl
theorem zgS (op:SOp) (t:Nat) (w:Bool):run P C (.ops (⟨d,op,some (t,w)⟩::r)::k) objs tm F=kG P C ((tm[t]?).getD .u) op t w d r k objs tm F:=by
 show wpR P _ _ _ _=_;simp only[wpR,kG]
 cases (tm[t]?).getD .u<;>try rfl
 try (case o v=>cases v<;>rfl)
theorem zfk (op:SOp) (t:Nat) (w:Bool):run P C (.dops (⟨d,op,some (t,w)⟩::r)::k) objs tm F=kGD P C ((tm[t]?).getD .u) op t w d r k objs tm F:=by
 show wpD P _ _ _ _=_;simp only[wpD,kGD]
 cases (tm[t]?).getD .u<;>try rfl
 try (case o v=>cases v<;>rfl)
def kC (P:Program) [Tabs P] (C:Cx) (v:AV) (x y:SCode) (k:List IT) (objs:List OB) (tm:List AV) (F:zat):Prop :=
 match v with
 | .b t=>(t=true->run P C (.code x::k) objs tm F)/\(t=false->run P C (.code y::k) objs tm F)
 | _=>False
theorem kC_t (x y:SCode):kC P C (.b true) x y k objs tm F=run P C (.code x::k) objs tm F:=propext ⟨fun h=>h.1 rfl,fun h=>⟨fun _=>h,fun e=>absurd e (by decide)⟩⟩
theorem kC_f (x y:SCode):kC P C (.b false) x y k objs tm F=run P C (.code y::k) objs tm F:=propext ⟨fun h=>h.2 rfl,fun h=>⟨fun e=>absurd e (by decide),fun _=>h⟩⟩
theorem zju (c:SV) (x y:SCode):run P C (.code (.cond c x y)::k) objs tm F=kC P C (c.ev tm) x y k objs tm F:=by
 show wpC P C _ _ _ _=_;simp only[wpC,kC]
 cases c.ev tm<;>rfl
def kCall (P:Program) [Tabs P] (C:Cx) (f:Nat) (args:List AV) (d:Option Nat) (r:List SO) (k:List IT) (objs:List OB) (tm:List AV) (F:zat):Prop:=zai P f args objs fun o v=>run P C (.ops r::k) o (zah tm d v) F
theorem zjw (f:Nat) (args:List SV):run P C (.ops (⟨d,.call f args,none⟩::r)::k) objs tm F=kCall P C f (evs tm args) d r k objs tm F:=by
 show wpR P _ _ _ _=_;simp only[wpR,wpS,kCall,zc4];rfl
theorem zgb {f:Nat} {args:List AV} (h:zai P f args objs fun o v=>run P C (.ops r::k) o (zah tm d v) F):kCall P C f args d r k objs tm F:=h
def zky (P:Program) [Tabs P] (C:Cx) (f:Nat) (args:List AV) (d:Option Nat) (r:List SO) (k:List IT) (objs:List OB) (tm:List AV) (F:zat):Prop:=∃v,(zai P f args objs fun o x=>o=objs/\x=v)/\run P C (.dops r::k) objs (zah tm d v) F
theorem zgT (f:Nat) (args:List SV):run P C (.dops (⟨d,.call f args,none⟩::r)::k) objs tm F=zky P C f (evs tm args) d r k objs tm F:=by
 show wpD P _ _ _ _=_;simp only[wpD,wpS,zky,zc4,SOp.isCall,if_true];rfl
def kPCall (P:Program) [Tabs P] (C:Cx) (f:Nat) (args:List AV) (d:Option Nat) (r:List SO) (k:List IT) (objs:List OB) (tm:List AV) (F:zat):Prop:=∃v,(zak args=true/\zai P f args [] fun _ x=>x.plain=true/\objs=objs/\x=v)/\run P C (.dops r::k) objs (zah tm d v) F
theorem zgO (f:Nat) (args:List SV):run P C (.dops (⟨d,.pcall f args,none⟩::r)::k) objs tm F=kPCall P C f (evs tm args) d r k objs tm F:=by
 show wpD P (⟨d,.pcall f args,none⟩::r) objs tm _=_;simp only[wpD,wpS,kPCall,zc4,SOp.isCall,if_true];rfl
theorem kdcall {f:Nat} {args:List AV} {v:AV} (h:zai P f args objs fun o x=>o=objs/\x=v) (hr:run P C (.dops r::k) objs (zah tm d v) F):zky P C f args d r k objs tm F:=⟨v,h,hr⟩
def IsFn (P : Program) (f : Nat) : Prop := ∃ fn, P.funcs[f]? = some fn ∧ fn.body.isSome = true ∧ fn.name ≠ "runtime.NumGoroutine"
def kCallv (P:Program) [Tabs P] (C:Cx) (x:AV) (args:List AV) (d:Option Nat) (r:List SO) (k:List IT) (objs:List OB) (tm:List AV) (F:zat):Prop :=
 match x with
 | .fn f fs cs=>IsFn P f/\zai P f (fs++args++cs) objs fun o v=>run P C (.ops r::k) o (zah tm d v) F
 | _=>False
theorem zgV (x:SV) (args:List SV):run P C (.ops (⟨d,.callv x args,none⟩::r)::k) objs tm F=kCallv P C (x.ev tm) (evs tm args) d r k objs tm F:=by
 show wpR P _ _ _ _=_;simp only[wpR,wpS,kCallv,zc4]
 cases x.ev tm<;>rfl
theorem drn_mv (x:SV):run P C (.dops (⟨d,.mv x,none⟩::r)::k) objs tm F=run P C (.ops [⟨d,.mv x,none⟩]::.dops r::k) objs tm F:=Eq.trans rfl rfl
theorem zhJ (c x y:SV):run P C (.dops (⟨d,.pick c x y,none⟩::r)::k) objs tm F=run P C (.ops [⟨d,.pick c x y,none⟩]::.dops r::k) objs tm F:=Eq.trans rfl rfl
theorem zfD (z:List AV) (ps:List (Nat×Nat×SV)):run P C (.dops (⟨d,.build z ps,none⟩::r)::k) objs tm F=run P C (.ops [⟨d,.build z ps,none⟩]::.dops r::k) objs tm F:=Eq.trans rfl rfl
theorem zej (n:Nat) (z:List AV) (ps:List (Nat×Nat×SV)):run P C (.dops (⟨d,.bslice n z ps,none⟩::r)::k) objs tm F=run P C (.ops [⟨d,.bslice n z ps,none⟩]::.dops r::k) objs tm F:=Eq.trans rfl rfl
theorem zfB (x:SV):run P C (.dops (⟨d,.load1 x,none⟩::r)::k) objs tm F=run P C (.ops [⟨d,.load1 x,none⟩]::.dops r::k) objs tm F:=Eq.trans rfl rfl
theorem zfA (sz:Nat) (x:SV):run P C (.dops (⟨d,.loadn sz x,none⟩::r)::k) objs tm F=run P C (.ops [⟨d,.loadn sz x,none⟩]::.dops r::k) objs tm F:=Eq.trans rfl rfl
theorem zld (x:SV):run P C (.dops (⟨d,.nck x,none⟩::r)::k) objs tm F=run P C (.ops [⟨d,.nck x,none⟩]::.dops r::k) objs tm F:=Eq.trans rfl rfl
theorem zlq (q:BinOp) (x y:SV):run P C (.dops (⟨d,.bin q x y,none⟩::r)::k) objs tm F=run P C (.ops [⟨d,.bin q x y,none⟩]::.dops r::k) objs tm F:=Eq.trans rfl rfl
theorem zlr (ne:Bool) (x y:SV):run P C (.dops (⟨d,.beq ne x y,none⟩::r)::k) objs tm F=run P C (.ops [⟨d,.beq ne x y,none⟩]::.dops r::k) objs tm F:=Eq.trans rfl rfl
theorem zlm (ne:Bool) (e:ET) (x y:SV):run P C (.dops (⟨d,.eqs ne e x y,none⟩::r)::k) objs tm F=run P C (.ops [⟨d,.eqs ne e x y,none⟩]::.dops r::k) objs tm F:=Eq.trans rfl rfl
theorem zlb (x:SV):run P C (.dops (⟨d,.not x,none⟩::r)::k) objs tm F=run P C (.ops [⟨d,.not x,none⟩]::.dops r::k) objs tm F:=Eq.trans rfl rfl
theorem zlc (x:SV):run P C (.dops (⟨d,.neg x,none⟩::r)::k) objs tm F=run P C (.ops [⟨d,.neg x,none⟩]::.dops r::k) objs tm F:=Eq.trans rfl rfl
theorem zhP (sz len:Nat) (x y:SV):run P C (.dops (⟨d,.iada sz len x y,none⟩::r)::k) objs tm F=run P C (.ops [⟨d,.iada sz len x y,none⟩]::.dops r::k) objs tm F:=Eq.trans rfl rfl
theorem zlo (q:IntKind) (x:SV):run P C (.dops (⟨d,.cvi q x,none⟩::r)::k) objs tm F=run P C (.ops [⟨d,.cvi q x,none⟩]::.dops r::k) objs tm F:=Eq.trans rfl rfl
theorem zln (x:SV):run P C (.dops (⟨d,.cvs x,none⟩::r)::k) objs tm F=run P C (.ops [⟨d,.cvs x,none⟩]::.dops r::k) objs tm F:=Eq.trans rfl rfl
theorem zhS (x:SV):run P C (.dops (⟨d,.cvbs x,none⟩::r)::k) objs tm F=run P C (.ops [⟨d,.cvbs x,none⟩]::.dops r::k) objs tm F:=Eq.trans rfl rfl
theorem zhI (x:SV) (lo hi:Option SV):run P C (.dops (⟨d,.slcs x lo hi,none⟩::r)::k) objs tm F=run P C (.ops [⟨d,.slcs x lo hi,none⟩]::.dops r::k) objs tm F:=Eq.trans rfl rfl
theorem zlk (off:Nat) (x:SV):run P C (.dops (⟨d,.fad off x,none⟩::r)::k) objs tm F=run P C (.ops [⟨d,.fad off x,none⟩]::.dops r::k) objs tm F:=Eq.trans rfl rfl
theorem zhR (off:Nat) (x:SV):run P C (.dops (⟨d,.fld1 off x,none⟩::r)::k) objs tm F=run P C (.ops [⟨d,.fld1 off x,none⟩]::.dops r::k) objs tm F:=Eq.trans rfl rfl
theorem zhQ (off sz:Nat) (x:SV):run P C (.dops (⟨d,.fldn off sz x,none⟩::r)::k) objs tm F=run P C (.ops [⟨d,.fldn off sz x,none⟩]::.dops r::k) objs tm F:=Eq.trans rfl rfl
theorem zlj (sz:Nat) (x y:SV):run P C (.dops (⟨d,.iad sz x y,none⟩::r)::k) objs tm F=run P C (.ops [⟨d,.iad sz x y,none⟩]::.dops r::k) objs tm F:=Eq.trans rfl rfl
theorem zli (x y:SV):run P C (.dops (⟨d,.idx x y,none⟩::r)::k) objs tm F=run P C (.ops [⟨d,.idx x y,none⟩]::.dops r::k) objs tm F:=Eq.trans rfl rfl
theorem zll (x:SV) (j:Nat):run P C (.dops (⟨d,.ext x j,none⟩::r)::k) objs tm F=run P C (.ops [⟨d,.ext x j,none⟩]::.dops r::k) objs tm F:=Eq.trans rfl rfl
theorem zhM (x:SV):run P C (.dops (⟨d,.lens x,none⟩::r)::k) objs tm F=run P C (.ops [⟨d,.lens x,none⟩]::.dops r::k) objs tm F:=Eq.trans rfl rfl
theorem zhN (x:SV):run P C (.dops (⟨d,.lenr x,none⟩::r)::k) objs tm F=run P C (.ops [⟨d,.lenr x,none⟩]::.dops r::k) objs tm F:=Eq.trans rfl rfl
theorem zlh (f:Nat) (fs cs:List SV):run P C (.dops (⟨d,.mkf f fs cs,none⟩::r)::k) objs tm F=run P C (.ops [⟨d,.mkf f fs cs,none⟩]::.dops r::k) objs tm F:=Eq.trans rfl rfl
theorem zhU (E sz n:Nat) (z:List AV) (ps:List (Nat×Nat×SV)):run P C (.dops (⟨d,.bslo E sz n z ps,none⟩::r)::k) objs tm F=run P C (.ops [⟨d,.bslo E sz n z ps,none⟩]::.dops r::k) objs tm F:=Eq.trans rfl rfl
theorem zfE (T:Nat) (z:List AV):run P C (.dops (⟨d,.alloc T z,none⟩::r)::k) objs tm F=run P C (.ops [⟨d,.alloc T z,none⟩]::.dops r::k) objs tm F:=Eq.trans rfl rfl
theorem zlp (T:Nat) (x:SV):run P C (.dops (⟨d,.box T x,none⟩::r)::k) objs tm F=run P C (.ops [⟨d,.box T x,none⟩]::.dops r::k) objs tm F:=Eq.trans rfl rfl
theorem zfz (sz:Nat) (x y:SV):run P C (.dops (⟨d,.store sz x y,none⟩::r)::k) objs tm F=run P C (.ops [⟨d,.store sz x y,none⟩]::.dops r::k) objs tm F:=Eq.trans rfl rfl
theorem zls (E sz by':Nat) (x y:SV):run P C (.dops (⟨d,.app E sz by' x y,none⟩::r)::k) objs tm F=run P C (.ops [⟨d,.app E sz by' x y,none⟩]::.dops r::k) objs tm F:=Eq.trans rfl rfl
theorem zhV (E:Nat) (x y:SV):run P C (.dops (⟨d,.apps E x y,none⟩::r)::k) objs tm F=run P C (.ops [⟨d,.apps E x y,none⟩]::.dops r::k) objs tm F:=Eq.trans rfl rfl
theorem zlg (E sz by':Nat) (x y:SV):run P C (.dops (⟨d,.mks E sz by' x y,none⟩::r)::k) objs tm F=run P C (.ops [⟨d,.mks E sz by' x y,none⟩]::.dops r::k) objs tm F:=Eq.trans rfl rfl
theorem zlf (E by':Nat) (kd:IntKind) (z:Int) (x:SV):run P C (.dops (⟨d,.mkz E by' kd z x,none⟩::r)::k) objs tm F=run P C (.ops [⟨d,.mkz E by' kd z x,none⟩]::.dops r::k) objs tm F:=Eq.trans rfl rfl
theorem zhT (sz by':Nat) (x y:SV):run P C (.dops (⟨d,.capp sz by' x y,none⟩::r)::k) objs tm F=run P C (.ops [⟨d,.capp sz by' x y,none⟩]::.dops r::k) objs tm F:=Eq.trans rfl rfl
theorem zfC (E sz by':Nat) (x y:SV):run P C (.dops (⟨d,.cappo E sz by' x y,none⟩::r)::k) objs tm F=run P C (.ops [⟨d,.cappo E sz by' x y,none⟩]::.dops r::k) objs tm F:=Eq.trans rfl rfl
theorem drn_pu (q:PQ) (xs:List SV):run P C (.dops (⟨d,.pu q xs,none⟩::r)::k) objs tm F=run P C (.ops [⟨d,.pu q xs,none⟩]::.dops r::k) objs tm F:=Eq.trans rfl rfl
theorem zla (sz:Nat) (x y:SV):run P C (.dops (⟨d,.trn sz x y,none⟩::r)::k) objs tm F=run P C (.ops [⟨d,.trn sz x y,none⟩]::.dops r::k) objs tm F:=Eq.trans rfl rfl
theorem zhO (sz:Nat) (x y:SV):run P C (.dops (⟨d,.iadr sz x y,none⟩::r)::k) objs tm F=run P C (.ops [⟨d,.iadr sz x y,none⟩]::.dops r::k) objs tm F:=Eq.trans rfl rfl
theorem zhL :run P C (.dops (⟨d,.mkm0,none⟩::r)::k) objs tm F=run P C (.ops [⟨d,.mkm0,none⟩]::.dops r::k) objs tm F:=Eq.trans rfl rfl
theorem zhK (x:SV):run P C (.dops (⟨d,.mkm1 x,none⟩::r)::k) objs tm F=run P C (.ops [⟨d,.mkm1 x,none⟩]::.dops r::k) objs tm F:=Eq.trans rfl rfl
theorem drn_lk (z:AV) (ok:Bool) (x y:SV):run P C (.dops (⟨d,.lk z ok x y,none⟩::r)::k) objs tm F=run P C (.ops [⟨d,.lk z ok x y,none⟩]::.dops r::k) objs tm F:=Eq.trans rfl rfl
theorem zle (x y v:SV):run P C (.dops (⟨d,.mup x y v,none⟩::r)::k) objs tm F=run P C (.ops [⟨d,.mup x y v,none⟩]::.dops r::k) objs tm F:=Eq.trans rfl rfl
theorem zgo {f:FuncId} {n:Nat} {ss:List SRes} {sc:SCode} (hf:FnIs P f n ss sc) {args:List AV} {objs:List OB} {K:List OB->AV->Prop} (hp:zak args=true)
  (h:∀(C:Cx) [On P C],run P C [.code sc] [] (args++zu (n - args.length) (.o undef)) (endK ss fun r=>K objs r)):zai P f args objs K :=
 fn_ok hf hp h
theorem endI_n (ss:List SRes) (K:List OB->AV->Prop):endI ss K .normal objs tm=outI ss K objs tm:=Eq.trans rfl rfl
theorem endI_r (ss:List SRes) (K:List OB->AV->Prop):endI ss K .ret objs tm=outI ss K objs tm:=Eq.trans rfl rfl
def outJ (K:List OB->AV->Prop) (objs:List OB):Option (List AV)->Prop
 | some xs=>K objs (zfP xs)
 | none=>False
theorem outJ_s (K:List OB->AV->Prop) (xs:List AV):outJ K objs (some xs)=K objs (zfP xs):=Eq.trans rfl rfl
theorem zjS (ss:List SRes) (K:List OB->AV->Prop):outI ss K objs tm=outJ K objs (zbK objs tm ss):=by
 unfold outI
 cases zbK objs tm ss<;>rfl
theorem endK_n (ss:List SRes) (K:AV->Prop):endK ss K .normal objs tm=ziN ss K objs tm:=Eq.trans rfl rfl
theorem endK_r (ss:List SRes) (K:AV->Prop):endK ss K .ret objs tm=ziN ss K objs tm:=Eq.trans rfl rfl
def outO (K:AV->Prop):Option AV->Prop
 | some r=>K r
 | none=>False
theorem outO_s (K:AV->Prop) (r:AV):outO K (some r)=K r:=Eq.trans rfl rfl
theorem zjR (ss:List SRes) (K:AV->Prop):ziN ss K objs tm=outO K ((zbK objs tm ss).bind fun xs=>pub objs 5 (zfP xs)):=by
 unfold ziN
 cases (zbK objs tm ss).bind (fun xs=>pub objs 5 (zfP xs))<;>rfl
end
end Go.Proofs.YtcpldfimbhdfdaaGreatDoor.Sx
/-
 DERIVED: THE SHELF's CONTRACTS AT THIS DUMP,IN PLAIN WORDS (tools/lay-plain.mjs out of 'TryzShelf.lean',which tools/lay-shelf.mjs wrote): THE SAME DECLARATIONS UNDER THE SAME NAMES: 'import','namespace','open','def','theorem' AND NOTHING ELSE: no command of the shelf's: FOR A HAND-IN. Each laying: the table of numbers ('.._ren') and one theorem,a field a fact of the dump's own or the kernel's comparison;each contract: ONE APPLICATION.
-/
namespace Go.Proofs
open Go.Shelf
open Lib renaming hasPrefix->zz
def Tryz.lays156_ren:Go.Shelf.Ren:=⟨fun|156=>204|165=>295|166=>296|169=>297|240=>387|241=>388|276=>448|277=>449|n=>n,fun|31=>55|9=>9|3=>3|4=>4|0=>0|20=>20|72=>325|76=>329|70=>323|37=>23|75=>328|127=>397|164=>427|5=>5|80=>331|n=>n,fun|n=>n⟩
theorem Tryz.lays156:Go.Proofs.Lays.n156 Tryz.prog Tryz.lays156_ren:={
 mixed:=by kernel_rfl
 f156:=Tryz.func204.trans (congrArg some (by kernel_rfl))
 f165:=Tryz.func295.trans (congrArg some (by kernel_rfl))
 f166:=Tryz.func296.trans (congrArg some (by kernel_rfl))
 f169:=Tryz.func297.trans (congrArg some (by kernel_rfl))
 f240:=Tryz.func387.trans (congrArg some (by kernel_rfl))
 f241:=Tryz.func388.trans (congrArg some (by kernel_rfl))
 f276:=Tryz.func448.trans (congrArg some (by kernel_rfl))
 f277:=Tryz.func449.trans (congrArg some (by kernel_rfl))
 t0:=Tryz.underlying0
 a0:=Tryz.isAgg0
 z0:=Tryz.sizeOf0
 v0:=Tryz.zeroValue0
 t3:=Tryz.underlying3
 a3:=Tryz.isAgg3
 z3:=Tryz.sizeOf3
 v3:=Tryz.zeroValue3
 t4:=Tryz.underlying4
 a4:=Tryz.isAgg4
 z4:=Tryz.sizeOf4
 v4:=Tryz.zeroValue4
 t9:=Tryz.underlying9
 a9:=Tryz.isAgg9
 z9:=Tryz.sizeOf9
 v9:=Tryz.zeroValue9
 t20:=Tryz.underlying20
 a20:=Tryz.isAgg20
 z20:=Tryz.sizeOf20
 v20:=Tryz.zeroValue20
 t31:=Tryz.underlying55
 a31:=Tryz.isAgg55
 z31:=Tryz.sizeOf55
 v31:=Tryz.zeroValue55
 t37:=Tryz.underlying23
 a37:=Tryz.isAgg23
 z37:=Tryz.sizeOf23
 v37:=Tryz.zeroValue23
 t70:=Tryz.underlying323
 a70:=Tryz.isAgg323
 z70:=Tryz.sizeOf323
 v70:=Tryz.zeroValue323
 t72:=Tryz.underlying325
 a72:=Tryz.isAgg325
 z72:=Tryz.sizeOf325
 v72:=Tryz.zeroValue325
 t75:=Tryz.underlying328
 a75:=Tryz.isAgg328
 z75:=Tryz.sizeOf328
 v75:=Tryz.zeroValue328
 t76:=Tryz.underlying329
 a76:=Tryz.isAgg329
 z76:=Tryz.sizeOf329
 v76:=Tryz.zeroValue329
 t127:=Tryz.underlying397
 a127:=Tryz.isAgg397
 z127:=Tryz.sizeOf397
 v127:=Tryz.zeroValue397
 t164:=Tryz.underlying427
 a164:=Tryz.isAgg427
 z164:=Tryz.sizeOf427
 v164:=Tryz.zeroValue427 }
theorem Tryz.Builder_Extra_156:Builder.Extra Tryz.prog Tryz.lays156_ren:={
 sizeBuilder:=by kernel_rfl
 liesBuilder:=by kernel_rfl
 t5:=Tryz.underlying5
 a5:=Tryz.isAgg5
 z5:=Tryz.sizeOf5
 v5:=Tryz.zeroValue5
 infoByte:=by kernel_rfl
 cellsByte:=by kernel_rfl
 sizeByte:=by kernel_rfl
 neB5:=by decide }
open Go.RowKit in
/-- No element: the empty string; the world is as it was. (Whatever the slice's address and capacity: a nil slice too.) (LAID: no walk: one application.) -/
theorem Tryz.strings_Join_none (a:Option Addr) (c:Nat) (sep:ByteArray) (w:World) :
  Calls Tryz.prog 204 #[.slice a 0 c,.string sep] w fun e w'=>e=.returned (.string ⟨#[]⟩)/\w'=w:=Any.strings_Join_none Tryz.lays156 Tryz.Builder_Extra_156 a c sep w
open Go.RowKit in
/-- strings.Join: "Join concatenates the elements of its first argument to create a single string. The separator string sep is placed between elements in the resulting string.": HOWEVER MANY ELEMENTS. Below the heap's end the world is as it was. (LAID: no walk: one application.) -/
theorem Tryz.strings_Join (bk o c:Nat) (xs:List ByteArray) (sep:ByteArray) (w:World) (hcells:∀(j:Nat) x,xs[j]? = some x->w.cell? ⟨bk,o+j,none⟩=some (.string x)) (hbk:bk<w.heap.size) (hN:xs.length<=140737488355328) (hcap:xs.length<=c) (hlen:(Lib.join (xs.map (·.data.toList)) sep.data.toList).length<=140737488355328) :
  Calls Tryz.prog 204 #[.slice (some ⟨bk,o,none⟩) xs.length c,.string sep] w fun e w'=>e=.returned (.string ⟨(Lib.join (xs.map (·.data.toList)) sep.data.toList).toArray⟩)/\Below w.heap.size w w':=Any.strings_Join Tryz.lays156 Tryz.Builder_Extra_156 bk o c xs sep w hcells hbk hN hcap hlen
def Tryz.lays137_ren:Go.Shelf.Ren:=⟨fun|137=>367|217=>284|266=>380|n=>n,fun|9=>9|5=>5|3=>3|n=>n,fun|n=>n⟩
theorem Tryz.lays137:Go.Proofs.Lays.n137 Tryz.prog Tryz.lays137_ren:={
 mixed:=by kernel_rfl
 f137:=Tryz.func367.trans (congrArg some (by kernel_rfl))
 f217:=Tryz.func284.trans (congrArg some (by kernel_rfl))
 f266:=Tryz.func380.trans (congrArg some (by kernel_rfl))
 t3:=Tryz.underlying3
 a3:=Tryz.isAgg3
 z3:=Tryz.sizeOf3
 v3:=Tryz.zeroValue3
 t5:=Tryz.underlying5
 a5:=Tryz.isAgg5
 z5:=Tryz.sizeOf5
 v5:=Tryz.zeroValue5
 t9:=Tryz.underlying9
 a9:=Tryz.isAgg9
 z9:=Tryz.sizeOf9
 v9:=Tryz.zeroValue9 }
open Go.RowKit in
/-- strings.IndexByte: "IndexByte returns the index of the first instance of c in s, or -1 if c is not present in s.": IT RETURNS 'Lib.indexByte s c'; the world is as it was. (LAID: no walk: one application.) -/
theorem Tryz.strings_IndexByte (s:ByteArray) (c:Int) (w:World) :
  Calls Tryz.prog 367 #[.string s,.int .u8 c] w fun e w'=>e=.returned (.int .i64 (Lib.indexByte s.data.toList c.toNat.toUInt8))/\w'=w:=Any.strings_IndexByte Tryz.lays137 s c w
def Tryz.lays103_ren:Go.Shelf.Ren:=⟨fun|103=>222|210=>319|206=>409|n=>n,fun|9=>9|4=>4|24=>169|3=>3|n=>n,fun|n=>n⟩
theorem Tryz.lays103:Go.Proofs.Lays.n103 Tryz.prog Tryz.lays103_ren:={
 mixed:=by kernel_rfl
 f103:=Tryz.func222.trans (congrArg some (by kernel_rfl))
 f206:=Tryz.func409.trans (congrArg some (by kernel_rfl))
 f210:=Tryz.func319.trans (congrArg some (by kernel_rfl))
 t3:=Tryz.underlying3
 a3:=Tryz.isAgg3
 z3:=Tryz.sizeOf3
 v3:=Tryz.zeroValue3
 t4:=Tryz.underlying4
 a4:=Tryz.isAgg4
 z4:=Tryz.sizeOf4
 v4:=Tryz.zeroValue4
 t9:=Tryz.underlying9
 a9:=Tryz.isAgg9
 z9:=Tryz.sizeOf9
 v9:=Tryz.zeroValue9
 t24:=Tryz.underlying169
 a24:=Tryz.isAgg169
 z24:=Tryz.sizeOf169
 v24:=Tryz.zeroValue169 }
open Go.RowKit in
/-- strings.CutPrefix: "CutPrefix returns s without the provided leading prefix string and reports whether it found the prefix. If s doesn't start with prefix, CutPrefix returns s, false. If prefix is the empty string, CutPrefix returns s, true.": IT RETURNS '(Lib.trimPrefix s p, Lib.hasPrefix s p)'; the world is as it was. (LAID: no walk: one application.) -/
theorem Tryz.strings_CutPrefix (s p:ByteArray) (w:World) :
  Calls Tryz.prog 222 #[.string s,.string p] w fun e w'=>e=.returned (.tuple #[.string ⟨(Lib.trimPrefix s.data.toList p.data.toList).toArray⟩,.bool (zz s.data.toList p.data.toList)])/\w'=w:=Any.strings_CutPrefix Tryz.lays103 s p w
def Tryz.lays219_ren:Go.Shelf.Ren:=⟨fun|219=>197|217=>284|225=>285|224=>286|267=>287|266=>380|314=>381|n=>n,fun|9=>9|3=>3|4=>4|5=>5|46=>320|146=>392|51=>391|n=>n,fun|1=>0|n=>n⟩
theorem Tryz.lays219:Go.Proofs.Lays.n219 Tryz.prog Tryz.lays219_ren:={
 mixed:=by kernel_rfl
 f217:=Tryz.func284.trans (congrArg some (by kernel_rfl))
 f219:=Tryz.func197.trans (congrArg some (by kernel_rfl))
 f224:=Tryz.func286.trans (congrArg some (by kernel_rfl))
 f225:=Tryz.func285.trans (congrArg some (by kernel_rfl))
 f266:=Tryz.func380.trans (congrArg some (by kernel_rfl))
 f267:=Tryz.func287.trans (congrArg some (by kernel_rfl))
 f314:=Tryz.func381.trans (congrArg some (by kernel_rfl))
 t3:=Tryz.underlying3
 a3:=Tryz.isAgg3
 z3:=Tryz.sizeOf3
 v3:=Tryz.zeroValue3
 t4:=Tryz.underlying4
 a4:=Tryz.isAgg4
 z4:=Tryz.sizeOf4
 v4:=Tryz.zeroValue4
 t5:=Tryz.underlying5
 a5:=Tryz.isAgg5
 z5:=Tryz.sizeOf5
 v5:=Tryz.zeroValue5
 t9:=Tryz.underlying9
 a9:=Tryz.isAgg9
 z9:=Tryz.sizeOf9
 v9:=Tryz.zeroValue9
 t46:=Tryz.underlying320
 a46:=Tryz.isAgg320
 z46:=Tryz.sizeOf320
 v46:=Tryz.zeroValue320
 t51:=Tryz.underlying391
 a51:=Tryz.isAgg391
 z51:=Tryz.sizeOf391
 v51:=Tryz.zeroValue391
 t146:=Tryz.underlying392
 a146:=Tryz.isAgg392
 z146:=Tryz.sizeOf392
 v146:=Tryz.zeroValue392
 g1:=by kernel_rfl }
open Go.RowKit Go.Lib in
/-- internal/stringslite.Index (what strings.Index calls) AT A substr OF ONE BYTE c: IT RETURNS 'Lib.indexByte s c'; the world is as it was. (LAID: no walk: one application.) -/
theorem Tryz.stringslite_Index_one (s:ByteArray) (c:UInt8) (w:World) :
  Calls Tryz.prog 197 #[.string s,.string ⟨#[c]⟩] w fun e w'=>e=.returned (.int .i64 (Lib.indexByte s.data.toList c))/\w'=w:=Any.stringslite_Index_one Tryz.lays219 s c w
def Tryz.lays144_ren:Go.Shelf.Ren:=⟨fun|144=>371|143=>123|219=>197|217=>284|225=>285|224=>286|267=>287|266=>380|314=>381|n=>n,fun|9=>9|4=>4|3=>3|5=>5|46=>320|146=>392|51=>391|n=>n,fun|1=>0|n=>n⟩
theorem Tryz.lays144:Go.Proofs.Lays.n144 Tryz.prog Tryz.lays144_ren:={
 mixed:=by kernel_rfl
 f143:=Tryz.func123.trans (congrArg some (by kernel_rfl))
 f144:=Tryz.func371.trans (congrArg some (by kernel_rfl))
 f217:=Tryz.func284.trans (congrArg some (by kernel_rfl))
 f219:=Tryz.func197.trans (congrArg some (by kernel_rfl))
 f224:=Tryz.func286.trans (congrArg some (by kernel_rfl))
 f225:=Tryz.func285.trans (congrArg some (by kernel_rfl))
 f266:=Tryz.func380.trans (congrArg some (by kernel_rfl))
 f267:=Tryz.func287.trans (congrArg some (by kernel_rfl))
 f314:=Tryz.func381.trans (congrArg some (by kernel_rfl))
 t3:=Tryz.underlying3
 a3:=Tryz.isAgg3
 z3:=Tryz.sizeOf3
 v3:=Tryz.zeroValue3
 t4:=Tryz.underlying4
 a4:=Tryz.isAgg4
 z4:=Tryz.sizeOf4
 v4:=Tryz.zeroValue4
 t5:=Tryz.underlying5
 a5:=Tryz.isAgg5
 z5:=Tryz.sizeOf5
 v5:=Tryz.zeroValue5
 t9:=Tryz.underlying9
 a9:=Tryz.isAgg9
 z9:=Tryz.sizeOf9
 v9:=Tryz.zeroValue9
 t46:=Tryz.underlying320
 a46:=Tryz.isAgg320
 z46:=Tryz.sizeOf320
 v46:=Tryz.zeroValue320
 t51:=Tryz.underlying391
 a51:=Tryz.isAgg391
 z51:=Tryz.sizeOf391
 v51:=Tryz.zeroValue391
 t146:=Tryz.underlying392
 a146:=Tryz.isAgg392
 z146:=Tryz.sizeOf392
 v146:=Tryz.zeroValue392
 g1:=by kernel_rfl }
open Go.RowKit Go.Lib in
/-- strings.Contains: "Contains reports whether substr is within s.": AT A substr OF ONE BYTE c: IT RETURNS 'decide (0 ≤ Lib.indexByte s c)'; the world is as it was. (LAID: no walk: one application.) -/
theorem Tryz.strings_Contains_one (s:ByteArray) (c:UInt8) (w:World) :
  Calls Tryz.prog 371 #[.string s,.string ⟨#[c]⟩] w fun e w'=>e=.returned (.bool (decide (0<=Lib.indexByte s.data.toList c)))/\w'=w:=Any.strings_Contains_one Tryz.lays144 s c w
def Tryz.laysM143_ren:Go.Shelf.Ren:=⟨fun|143=>123|219=>197|217=>284|225=>285|224=>286|267=>287|266=>380|314=>381|n=>n,fun|9=>9|3=>3|4=>4|5=>5|46=>320|146=>392|51=>391|n=>n,fun|1=>0|n=>n⟩
theorem Tryz.laysM143:Go.Proofs.LaysM.n143 Tryz.prog Tryz.laysM143_ren:={
 mixed:=by kernel_rfl
 f143:=Tryz.func123.trans (congrArg some (by kernel_rfl))
 f217:=Tryz.func284.trans (congrArg some (by kernel_rfl))
 f219:=Tryz.func197.trans (congrArg some (by kernel_rfl))
 f224:=Tryz.func286.trans (congrArg some (by kernel_rfl))
 f225:=Tryz.func285.trans (congrArg some (by kernel_rfl))
 f266:=Tryz.func380.trans (congrArg some (by kernel_rfl))
 f267:=Tryz.func287.trans (congrArg some (by kernel_rfl))
 f314:=Tryz.func381.trans (congrArg some (by kernel_rfl))
 t3:=Tryz.underlying3
 a3:=Tryz.isAgg3
 z3:=Tryz.sizeOf3
 v3:=Tryz.zeroValue3
 t4:=Tryz.underlying4
 a4:=Tryz.isAgg4
 z4:=Tryz.sizeOf4
 v4:=Tryz.zeroValue4
 t5:=Tryz.underlying5
 a5:=Tryz.isAgg5
 z5:=Tryz.sizeOf5
 v5:=Tryz.zeroValue5
 t9:=Tryz.underlying9
 a9:=Tryz.isAgg9
 z9:=Tryz.sizeOf9
 v9:=Tryz.zeroValue9
 t46:=Tryz.underlying320
 a46:=Tryz.isAgg320
 z46:=Tryz.sizeOf320
 v46:=Tryz.zeroValue320
 t51:=Tryz.underlying391
 a51:=Tryz.isAgg391
 z51:=Tryz.sizeOf391
 v51:=Tryz.zeroValue391
 t146:=Tryz.underlying392
 a146:=Tryz.isAgg392
 z146:=Tryz.sizeOf392
 v146:=Tryz.zeroValue392
 g1:=by kernel_rfl
 i3:=by kernel_rfl
 i4:=by kernel_rfl
 i5:=by kernel_rfl
 i9:=by kernel_rfl
 i46:=by kernel_rfl
 i51:=by kernel_rfl
 i146:=by kernel_rfl
 m1:=by kernel_rfl
 s1_3:=fun w h=>Go.Proofs.cell_of_shapedOpen_int (zero:=#[.int .i64 0]) (t:=3) h (of_decide_eq_true (by kernel_rfl)) (by kernel_rfl) rfl (by kernel_rfl) (by kernel_rfl) Tryz.underlying3 }
open Go.RowKit Go.Lib in
theorem Tryz.strings_Index_shaped (s sub:ByteArray) (w:World) (h:w.ShapedOpen Tryz.prog) (hs:s.size<4294967281) :
  Calls Tryz.prog 123 #[.string s,.string sub] w fun e w'=>e=.returned (.int .i64 (Lib.index s.data.toList sub.data.toList))/\w'=w:=Any.strings_Index_shaped Tryz.laysM143 s sub w h hs
def Tryz.lays99_ren:Go.Shelf.Ren:=⟨fun|99=>444|206=>409|n=>n,fun|9=>9|4=>4|3=>3|n=>n,fun|n=>n⟩
theorem Tryz.lays99:Go.Proofs.Lays.n99 Tryz.prog Tryz.lays99_ren:={
 mixed:=by kernel_rfl
 f99:=Tryz.func444.trans (congrArg some (by kernel_rfl))
 f206:=Tryz.func409.trans (congrArg some (by kernel_rfl))
 t3:=Tryz.underlying3
 a3:=Tryz.isAgg3
 z3:=Tryz.sizeOf3
 v3:=Tryz.zeroValue3
 t4:=Tryz.underlying4
 a4:=Tryz.isAgg4
 z4:=Tryz.sizeOf4
 v4:=Tryz.zeroValue4
 t9:=Tryz.underlying9
 a9:=Tryz.isAgg9
 z9:=Tryz.sizeOf9
 v9:=Tryz.zeroValue9 }
open Go.RowKit Go.Lib in
/-- strings.HasPrefix: "HasPrefix reports whether the string s begins with prefix.": IT RETURNS 'Lib.hasPrefix s prefix'; the world is as it was. (LAID: no walk: one application.) -/
theorem Tryz.strings_HasPrefix (s p:ByteArray) (w:World) :
  Calls Tryz.prog 444 #[.string s,.string p] w fun e w'=>e=.returned (.bool (zz s.data.toList p.data.toList))/\w'=w:=Any.strings_HasPrefix Tryz.lays99 s p w
def Tryz.laysM146_ren:Go.Shelf.Ren:=⟨fun|146=>124|221=>198|268=>288|138=>289|143=>123|195=>382|197=>383|218=>384|219=>197|260=>447|217=>284|225=>285|224=>286|267=>287|266=>380|314=>381|n=>n,fun|9=>9|31=>55|3=>3|4=>4|0=>0|105=>394|21=>21|5=>5|46=>320|119=>445|139=>448|138=>447|146=>392|51=>391|n=>n,fun|1=>0|3=>1|4=>2|n=>n⟩
theorem Tryz.laysM146:Go.Proofs.LaysM.n146 Tryz.prog Tryz.laysM146_ren:={
 mixed:=by kernel_rfl
 f138:=Tryz.func289.trans (congrArg some (by kernel_rfl))
 f143:=Tryz.func123.trans (congrArg some (by kernel_rfl))
 f146:=Tryz.func124.trans (congrArg some (by kernel_rfl))
 f195:=Tryz.func382.trans (congrArg some (by kernel_rfl))
 f197:=Tryz.func383.trans (congrArg some (by kernel_rfl))
 f217:=Tryz.func284.trans (congrArg some (by kernel_rfl))
 f218:=Tryz.func384.trans (congrArg some (by kernel_rfl))
 f219:=Tryz.func197.trans (congrArg some (by kernel_rfl))
 f221:=Tryz.func198.trans (congrArg some (by kernel_rfl))
 f224:=Tryz.func286.trans (congrArg some (by kernel_rfl))
 f225:=Tryz.func285.trans (congrArg some (by kernel_rfl))
 f260:=Tryz.func447.trans (congrArg some (by kernel_rfl))
 f266:=Tryz.func380.trans (congrArg some (by kernel_rfl))
 f267:=Tryz.func287.trans (congrArg some (by kernel_rfl))
 f268:=Tryz.func288.trans (congrArg some (by kernel_rfl))
 f314:=Tryz.func381.trans (congrArg some (by kernel_rfl))
 t0:=Tryz.underlying0
 a0:=Tryz.isAgg0
 z0:=Tryz.sizeOf0
 v0:=Tryz.zeroValue0
 t3:=Tryz.underlying3
 a3:=Tryz.isAgg3
 z3:=Tryz.sizeOf3
 v3:=Tryz.zeroValue3
 t4:=Tryz.underlying4
 a4:=Tryz.isAgg4
 z4:=Tryz.sizeOf4
 v4:=Tryz.zeroValue4
 t5:=Tryz.underlying5
 a5:=Tryz.isAgg5
 z5:=Tryz.sizeOf5
 v5:=Tryz.zeroValue5
 t9:=Tryz.underlying9
 a9:=Tryz.isAgg9
 z9:=Tryz.sizeOf9
 v9:=Tryz.zeroValue9
 t21:=Tryz.underlying21
 a21:=Tryz.isAgg21
 z21:=Tryz.sizeOf21
 v21:=Tryz.zeroValue21
 t31:=Tryz.underlying55
 a31:=Tryz.isAgg55
 z31:=Tryz.sizeOf55
 v31:=Tryz.zeroValue55
 t46:=Tryz.underlying320
 a46:=Tryz.isAgg320
 z46:=Tryz.sizeOf320
 v46:=Tryz.zeroValue320
 t51:=Tryz.underlying391
 a51:=Tryz.isAgg391
 z51:=Tryz.sizeOf391
 v51:=Tryz.zeroValue391
 t105:=Tryz.underlying394
 a105:=Tryz.isAgg394
 z105:=Tryz.sizeOf394
 v105:=Tryz.zeroValue394
 t119:=Tryz.underlying445
 a119:=Tryz.isAgg445
 z119:=Tryz.sizeOf445
 t138:=Tryz.underlying447
 a138:=Tryz.isAgg447
 z138:=Tryz.sizeOf447
 v138:=Tryz.zeroValue447
 t139:=Tryz.underlying448
 a139:=Tryz.isAgg448
 z139:=Tryz.sizeOf448
 v139:=Tryz.zeroValue448
 t146:=Tryz.underlying392
 a146:=Tryz.isAgg392
 z146:=Tryz.sizeOf392
 v146:=Tryz.zeroValue392
 g1:=by kernel_rfl
 g3:=by kernel_rfl
 g4:=by kernel_rfl
 i0:=by kernel_rfl
 i3:=by kernel_rfl
 i4:=by kernel_rfl
 i5:=by kernel_rfl
 i9:=by kernel_rfl
 i21:=by kernel_rfl
 i31:=by kernel_rfl
 i46:=by kernel_rfl
 i51:=by kernel_rfl
 i105:=by kernel_rfl
 i138:=by kernel_rfl
 i139:=by kernel_rfl
 i146:=by kernel_rfl
 m1:=by kernel_rfl
 s1_3:=fun w h=>Go.Proofs.cell_of_shapedOpen_int (zero:=#[.int .i64 0]) (t:=3) h (of_decide_eq_true (by kernel_rfl)) (by kernel_rfl) rfl (by kernel_rfl) (by kernel_rfl) Tryz.underlying3
 m3:=by kernel_rfl
 m4:=by kernel_rfl }
open Go.RowKit Go.Lib in
/-- strings.Split, sep not empty. (LAID: no walk: one application.) -/
theorem Tryz.strings_Split_shaped (s sep:ByteArray) (w:World) (h:w.ShapedOpen Tryz.prog) (hs:s.size<4294967281) (h1:1<=sep.size) :
  Calls Tryz.prog 124 #[.string s,.string sep] w fun e w'=>
   e=.returned (.slice (some ⟨w.heap.size,0,none⟩) (Lib.countB s sep+1) (Lib.countB s sep+1))/\w'=w.alloc (.cells ((Lib.splitB sep 0 (Lib.countB s sep) s).map Value.string).toArray 9):=Any.strings_Split_shaped Tryz.laysM146 s sep w h hs h1
end Go.Proofs
namespace Go.Proofs.YtcpldfimbhdfdaaGreatDoor
open Go.RowKit
open List renaming append_assoc->zw, append_nil->qv, cons_append->qi, length_map->qs, length_set->zd, length_take->qg
theorem ret_bool {a b:Bool} (h:a=b):Ending.returned (.bool a)=.returned (.bool b):=by rw[h]
theorem zf4 {k:IntKind} {a b:Int} (h:a=b):Ending.returned (.int k a)=.returned (.int k b):=by rw[h]
theorem dd {p q:Prop} [Decidable p] [Decidable q] (h:p↔q):decide p=decide q:=decide_eq_decide.2 h
theorem dt {q:Prop} [Decidable q] (h:q):true=decide q:=(decide_eq_true h).symm
theorem df {q:Prop} [Decidable q] (h:¬q):false=decide q:=(decide_eq_false h).symm
abbrev S (l:List UInt8):ByteArray:=⟨l.toArray⟩
theorem zdQ (l:List UInt8):(S l).size=l.length:=size_of_list l
theorem S_list (l:List UInt8):(S l).data.toList=l:=rfl
theorem S_of (s:ByteArray):S s.data.toList=s:=rfl
theorem zaq (s:ByteArray):s.data.toList.length=s.size:=rfl
theorem zk1 (s:ByteArray) (k:Nat) (h:k<s.size):s.data.toList.getD k 0=s[k]:=by
 rw[List.getD_eq_getElem?_getD,List.getElem?_eq_getElem (by rw[zaq];exact h)];rfl
theorem zi7 (s:ByteArray) (k:Nat) (h:k<s.size):s.data.toList.take (k+1)=s.data.toList.take k++[s[k]]:=by
 rw[List.take_succ_eq_append_getElem (by simpa using h)];rfl
theorem zbX (s:ByteArray) (k:Nat) (h:k<s.size):s.data.toList.drop k=s[k]::s.data.toList.drop (k+1):=by
 rw[List.drop_eq_getElem_cons (by simpa using h)];rfl
def Qb (w w':World):Prop:=Below w.heap.size w w'
theorem Qb.refl (w:World):Qb w w:=Below.refl _ _
theorem Qb.trans {a b c:World} (h:Qb a b) (k:Qb b c):Qb a c:=Below.trans h (Below.mono k h.size)
theorem Qb.alloc {a b:World} (h:Qb a b) (o:Obj):Qb a (b.alloc o):=Below.alloc h h.size o
theorem Qb.drew {a b:World} (h:Qb a b):Qb a b.drew:=Below.drew h
theorem Qb.drewN {a b:World} (h:Qb a b) (n:Nat):Qb a (b.drewN n):=below_drewN h n
theorem Qb.set {a b:World} (h:Qb a b) {p:Addr} (hp:a.heap.size<=p.block) (u:Value):Qb a (b.setCell p u):=Below.setCell h hp u
theorem Qb.grown {a b c:World} (h:Qb a b) {row:Option Nat} (hg:b.grownBy c row) (hr:∀k,row=some k->a.heap.size<=k):Qb a c:=Below.grown h hg h.size hr
theorem Qb.size {a b:World} (h:Qb a b):a.heap.size<=b.heap.size:=Below.size h
theorem Qb.below {a b:World} (h:Qb a b):Below a.heap.size a b:=h
def zkH (c:UInt8):Bool:=decide (65<=c.toNat/\c.toNat<=90)
def zeN (c:UInt8):Bool:=decide (97<=c.toNat/\c.toNat<=122\/65<=c.toNat/\c.toNat<=90)
def zaA (c:UInt8):Bool:=decide (48<=c.toNat/\c.toNat<=57)
def zdV (c:UInt8):Bool:=decide (48<=c.toNat/\c.toNat<=57\/97<=c.toNat/\c.toNat<=102\/65<=c.toNat/\c.toNat<=70)
def zc0 (c:UInt8) (l:List UInt8):Bool:=l.contains c
def isLD (c:UInt8):Bool:=zeN c||zaA c
def zbf (c:UInt8):Bool:=isLD c||zc0 c [45,46,95,126]
def zb4 (c:UInt8):UInt8:=if zkH c then c+32 else c
def bv (l:List UInt8):List Value:=l.map fun c=>.int .u8 c.toNat
theorem zlD (l:List UInt8):(bv l).length=l.length:=by simp[bv]
theorem bv_set (l:List UInt8) (i:Nat) (c:UInt8):(bv l).set i (.int .u8 c.toNat)=bv (l.set i c):=by simp[bv,List.map_set]
theorem bv_get (l:List UInt8) (i:Nat) (h:i<l.length):(bv l)[i]? = some (.int .u8 l[i].toNat):=by simp[bv,h]
def zcC (w:World) (base:Nat) (v:Value) (l:List UInt8):Prop:=w.ownsRow base 5 1 v l.length (bv l)
theorem zcC.nil (w:World) (base:Nat):zcC w base (.slice none 0 0) []:=World.ownsRow_nil w base _ _
theorem zcC.drew {w:World} {base:Nat} {v:Value} {l:List UInt8} (h:zcC w base v l):zcC w.drew base v l:=h
theorem zcC.drewN {w:World} {base:Nat} {v:Value} {l:List UInt8} (h:zcC w base v l) (n:Nat):zcC (w.drewN n) base v l:=h
theorem zcC.alloc {w:World} {base:Nat} {v:Value} {l:List UInt8} (h:zcC w base v l) (o:Obj):zcC (w.alloc o) base v l:=World.ownsRow.alloc h o
theorem zcC.below {w w':World} {base:Nat} {v:Value} {l:List UInt8} (h:zcC w base v l) (hb:Qb w w'):zcC w' base v l:=by
 refine World.ownsRow.kept (row:=none) h ⟨hb.os,hb.tape,hb.output,Below.size hb,fun k hk _=>Below.block hb k hk⟩ ?_;rcases h.2 with ⟨rfl,_⟩|⟨g,cap,cur,rfl,_⟩
 ·exact .inl rfl
 ·exact .inr (by simp[Value.ownBlock])
theorem zcC.cell {w:World} {B g n cap:Nat} {l:List UInt8} (h:zcC w B (.slice (some ⟨g,0,none⟩) n cap) l) (j:Nat) (hj:j<l.length):w.cell? ⟨g,j,none⟩=some (.int .u8 l[j].toNat):=by
 have h':=h;rcases h'.2 with ⟨e,_⟩|⟨g',cap',cur,e,_⟩
 ·simp at e
 ·simp only[Value.slice.injEq] at e;obtain⟨_,rfl,_⟩:=e;rw[World.ownsRow.cellAt (h:World.ownsRow _ _ _ _ _ _ _) j (by omega),bv_get l j hj]
theorem zcC.frozen {w:World} {B g n cap:Nat} {l:List UInt8} (h:zcC w B (.slice (some ⟨g,0,none⟩) n cap) l) (j:Nat):w.frozen? ⟨g,j,none⟩=false:=by
 have h':=h;rcases h'.2 with ⟨e,_⟩|⟨g',cap',cur,e,_⟩
 ·simp at e
 ·simp only[Value.slice.injEq] at e;obtain⟨_,rfl,_⟩:=e;exact World.ownsRow.frozenAt (h:World.ownsRow _ _ _ _ _ _ _) j
theorem zcC.stored {w:World} {B g n cap:Nat} {l:List UInt8} (h:zcC w B (.slice (some ⟨g,0,none⟩) n cap) l) (j:Nat) (c:UInt8) :
  zcC (w.setCell ⟨g,j,none⟩ (.int .u8 c.toNat)) B (.slice (some ⟨g,0,none⟩) n cap) (l.set j c):=by
 have h':=h;rcases h'.2 with ⟨e,_⟩|⟨g',cap',cur,e,_⟩
 ·simp at e
 ·simp only[Value.slice.injEq] at e;obtain⟨_,rfl,_⟩:=e;have:=(World.ownsRow.stored (h:World.ownsRow _ _ _ _ _ _ _) j (.int .u8 c.toNat)).1;unfold zcC;rw[<-bv_set,zd];exact this
def Crow (w:World) (g:Nat) (l:List UInt8):Prop:=∀j (h:j<l.length),w.cell? ⟨g,j,none⟩=some (.int .u8 l[j].toNat)/\w.frozen? ⟨g,j,none⟩=false
theorem zal (g j:Nat):(⟨g,0,none⟩:Addr).add j=⟨g,j,none⟩:=by unfold Addr.add;split<;>simp_all
theorem Crow.str {w:World} {g:Nat} {l:List UInt8} (h:Crow w g l) (n cap:Nat) (hn:n=l.length) :
  (convert 23 9 (.slice (some ⟨g,0,none⟩) n cap)).run Tryz.prog w=.ok (.string ⟨l.toArray⟩) w:=by
 subst hn;exact run_convert_bytes_back w _ _ 5 _ cap l Tryz.underlying23 Tryz.underlying5 Tryz.underlying9 (fun j hj=>by rw[zal];exact(h j hj).1)
theorem Crow.stored {w:World} {g:Nat} {l:List UInt8} (h:Crow w g l) (k:Nat) (hk:k<l.length) (c:UInt8) :
  Crow (w.setCell ⟨g,k,none⟩ (.int .u8 c.toNat)) g (l.set k c):=by
 intro j hj;rw[zd] at hj;refine⟨?_,(World.frozen?_setCell _ _ _ _).trans (h j hj).2⟩
 by_cases e:k=j
 ·subst e;rw[World.cell?_setCell_same _ _ _ (h k hj).1];simp
 ·rw[World.cell?_setCell_other _ _ _ _ (fun e2=>e (by injection e2)),(h j hj).1];simp[e]
theorem zgw (w:World) (s:ByteArray):Crow (Lib.bytesWorld w 5 s) w.heap.size s.data.toList:=by
 intro j hj;rw[zaq] at hj;refine⟨?_,?_⟩
 ·rw[Lib.bytesWorld_cell w _ s j hj,zk1 s j hj];rfl
 ·have hs:(Lib.bytesCells w 5 s).size≠j:=by
   have:s.size<=(Lib.bytesCells w 5 s).size:=by
    simp only[Lib.bytesCells,Array.size_append,Array.size_map];exact Nat.le_add_right _ _
   omega
  simp[World.frozen?,Lib.bytesWorld_at_new];omega
theorem zeF (w:World) (e:TypeId) (s:ByteArray):Qb w (Lib.bytesWorld w e s):=by
 refine⟨rfl,rfl,rfl,by rw[Lib.bytesWorld_size];omega,fun k hk=>Lib.bytesWorld_at_old w e s k hk⟩
theorem ziE (s:ByteArray) (w:World) :
  (convert 9 23 (.string s)).run Tryz.prog w=.ok (.slice (some ⟨w.heap.size,0,none⟩) s.size (grownCap w s.size 0 5)) (Lib.bytesWorld w 5 s) :=
 Lib.run_convert_string_bytes w _ _ _ s Tryz.underlying9 Tryz.underlying23 Tryz.underlying5
def za1 (l:List UInt8):List UInt8:=l.map zb4
def zeU (l:List UInt8):Bool:=l.all zaA&&!l.isEmpty
def eqL (a b:List UInt8):Bool:=za1 a==za1 b
theorem take_all (s:ByteArray) (k:Nat) (h:¬k<s.size):s.data.toList.take k=s.data.toList:=List.take_of_length_le (by rw[zaq];omega)
theorem zg6 (s:ByteArray) (k:Nat) (hk:k<s.size) :
  (za1 (s.data.toList.take k)++s.data.toList.drop k).set k (zb4 s[k])=za1 (s.data.toList.take (k+1))++s.data.toList.drop (k+1):=by
 have h1:(za1 (s.data.toList.take k)).length=k:=by simp only[za1,qs,qg,zaq];omega
 rw[List.set_append_right _ _ (by omega),h1,Nat.sub_self,zbX s k hk,List.set_cons_zero,zi7 s k hk];simp only[za1,List.map_append,List.map_cons,List.map_nil,zw,List.singleton_append]
theorem zg7 (s:ByteArray) (k:Nat) (hk:k<s.size) (h:k<(za1 (s.data.toList.take k)++s.data.toList.drop k).length) :
  (za1 (s.data.toList.take k)++s.data.toList.drop k)[k]'h=s[k]:=by
 have h1:(za1 (s.data.toList.take k)).length=k:=by simp only[za1,qs,qg,zaq];omega
 rw[List.getElem_append_right (by omega)];simp only[h1,Nat.sub_self];simp only[zbX s k hk,List.getElem_cons_zero]
theorem lowB_cap {c:UInt8} (h1:65<=(c.toNat:Int)) (h2:(c.toNat:Int)<=90):((c.toNat:Int)+32) % 256=((zb4 c).toNat:Int):=by
 have:zkH c=true:=by unfold zkH;exact decide_eq_true (by omega)
 simp[zb4,this,UInt8.toNat_add]
theorem zke {c:UInt8} (h1:65<=(c.toNat:Int)) (h2:(c.toNat:Int)<=90):((c.toNat:Int)+32)=((zb4 c).toNat:Int):=by
 rw[<-lowB_cap h1 h2];omega
theorem zg8 {c:UInt8} (h:¬(65<=(c.toNat:Int)/\(c.toNat:Int)<=90)):zb4 c=c:=by
 have:zkH c=false:=by unfold zkH;exact decide_eq_false (by omega)
 simp[zb4,this]
theorem zim (s:ByteArray) (w:World) (hs:s.size<=140737488351232) :
  Calls Tryz.prog 25 #[.string s] w fun e w'=>e=.returned (.string (S (za1 s.data.toList)))/\Qb w w':=by
 have hcv:=ziE s
 go_enter Tryz.func25,Tryz.ntmps25
 go_wp2_with fail
 clear hcv
 go_loopw [4,9] (fun _ i wr=>∃k:Nat,k<=s.size/\i=.int .i64 k/\Crow wr w.heap.size (za1 (s.data.toList.take k)++s.data.toList.drop k)/\Qb w wr) (fun _ i _=>s.size - (intOf i).toNat)
 case atStart=>exact⟨0,Nat.zero_le _,rfl,zgw w s,zeF w _ s⟩
 case round=>
  obtain⟨k,hk,rfl,hrow,hq⟩:=hrel
  by_cases hlt:k<s.size
  ·have hlen:k<(za1 (s.data.toList.take k)++s.data.toList.drop k).length:=by simp only[za1,List.length_append,qs,qg,List.length_drop,zaq];omega
   obtain⟨hc,hf⟩:=hrow k hlen;rw[zg7 s k hlt] at hc;have hrow':=hrow.stored k hlen (zb4 s[k]);rw[zg6 s k hlt] at hrow';have hsame:zb4 s[k]=s[k]->Crow wr w.heap.size (za1 (s.data.toList.take (k+1))++s.data.toList.drop (k+1)):=fun e=>by
    rw[<-zg6 s k hlt,e,<-zg7 s k hlt hlen,List.set_getElem_self];exact hrow
   clear hrow hlen;have HR:=Lib.hid (And.intro hrow' hsame);clear hsame;clear hrow'
   go_wp2_with fail
   ·have h1:65<=(s[k].toNat:Int):=by assumption
    have h2:(s[k].toNat:Int)<=90:=by assumption
    go_roundw
    case rel=>
     refine⟨k+1,by omega,by go_num,?_,hq.set (Nat.le_refl _) _⟩;rw[zke h1 h2];exact HR.out.1
    case measure=>simp[intOf];omega
   ·have h2:90<(s[k].toNat:Int):=by assumption
    go_roundw
    case rel=>exact⟨k+1,by omega,by go_num,HR.out.2 (zg8 (by omega)),hq⟩
    case measure=>simp[intOf];omega
   ·have h2:¬65<=(s[k].toNat:Int):=by assumption
    go_roundw
    case rel=>exact⟨k+1,by omega,by go_num,HR.out.2 (zg8 (by omega)),hq⟩
    case measure=>simp[intOf];omega
  ·obtain rfl:k=s.size:=by omega
   have hl:za1 (s.data.toList.take s.size)++s.data.toList.drop s.size=za1 s.data.toList:=by
    rw[take_all s _ (by omega),List.drop_of_length_le (by rw[zaq];omega),qv]
   rw[hl] at hrow;have hst:=hrow.str s.size (grownCap w s.size 0 5) (by simp[za1,zaq]);clear hl hrow
   go_wp2
   go_ret
   exact⟨rfl,hq⟩
def zcA (c:UInt8):Bool:=decide (c.toNat=32\/c.toNat=9)
def rdw (l:List UInt8):List UInt8:=(l.reverse.dropWhile zcA).reverse
def trimL (l:List UInt8):List UInt8:=rdw (l.dropWhile zcA)
theorem rdw_snoc (l:List UInt8) (x:UInt8):rdw (l++[x])=if zcA x=true then rdw l else l++[x]:=by
 unfold rdw;rw[List.reverse_append,List.reverse_singleton,List.singleton_append,List.dropWhile_cons]
 split<;>simp
def TP (n:Nat) (l:List UInt8) (f t:Nat):Prop :=
 ∃A M B,l=A++M++B/\(∀a∈A,zcA a=true)/\(∀b∈B,zcA b=true)/\M.dropWhile zcA=M/\rdw M=M /\
  ((M=[]/\f=n/\t=0)\/(M≠[]/\f=A.length/\t=A.length+M.length))
theorem TP.other {n:Nat} {l:List UInt8} {f t:Nat} {c:UInt8} (h:TP n l f t) (hc:zcA c=false) (hl:l.length<n):TP n (l++[c]) (min f l.length) (l.length+1):=by
 obtain⟨A,M,B,rfl,hA,hB,h1,h2,h3⟩:=h;rcases h3 with ⟨rfl,rfl,rfl⟩|⟨h3,rfl,rfl⟩
 ·refine⟨A++B,[c],[],by simp,?_,by simp,by simp[hc],by simp[rdw,hc],.inr ⟨by simp,?_,?_⟩⟩
  ·intro a ha;rcases List.mem_append.1 ha with ha|ha
   ·exact hA a ha
   ·exact hB a ha
  ·simp at hl ⊢;omega
  ·simp
 ·refine⟨A,M++B++[c],[],by simp,hA,by simp,?_,?_,.inr ⟨by simp,?_,?_⟩⟩
  ·cases M with
   | nil=>exact absurd rfl h3
   | cons x M=>
    have hx:¬zcA x=true:=by
     intro hx;rw[List.dropWhile_cons,if_pos hx] at h1;have:=congrArg List.length h1;have h4:=(List.dropWhile_sublist (p:=zcA) (l:=M)).length_le;simp at this;omega
    simp only[qi];rw[List.dropWhile_cons,if_neg hx]
  ·rw[rdw_snoc,if_neg (by rw[hc];exact Bool.false_ne_true)]
  ·simp
  ·simp;omega
theorem zil {B:List UInt8} (hB:∀b∈B,zcA b=true) (l:List UInt8):rdw (l++B)=rdw l:=by
 unfold rdw;rw[List.reverse_append,List.dropWhile_append_of_pos];intro a ha;exact hB a (List.mem_reverse.1 ha)
theorem TP.done {l:List UInt8} {f t:Nat} (h:TP l.length l f t):(t<=f/\trimL l=[])\/(f<t/\t<=l.length/\trimL l=(l.drop f).take (t - f)):=by
 obtain⟨A,M,B,rfl,hA,hB,h1,h2,h3⟩:=h;have ht:trimL (A++M++B)=rdw ((M++B).dropWhile zcA):=by
  unfold trimL;rw[zw,List.dropWhile_append_of_pos hA]
 rcases h3 with ⟨rfl,rfl,rfl⟩|⟨h3,rfl,rfl⟩
 ·refine .inl ⟨Nat.zero_le _,?_⟩;rw[ht,List.nil_append,<-qv B,List.dropWhile_append_of_pos hB]
  rfl
 ·have hp:0<M.length:=List.length_pos_iff.2 h3;refine .inr ⟨by omega,by simp,?_⟩;have hm:(M++B).dropWhile zcA=M++B:=by
   cases M with
   | nil=>exact absurd rfl h3
   | cons x M=>
    have hx:¬zcA x=true:=by
     intro hx;rw[List.dropWhile_cons,if_pos hx] at h1;have:=congrArg List.length h1;have h4:=(List.dropWhile_sublist (p:=zcA) (l:=M)).length_le;simp at this;omega
    simp only[qi];rw[List.dropWhile_cons,if_neg hx]
  rw[ht,hm,zil hB,h2,zw,List.drop_left,Nat.add_sub_cancel_left,List.take_left]
end Go.Proofs.YtcpldfimbhdfdaaGreatDoor
namespace Go.Proofs.YtcpldfimbhdfdaaGreatDoor.Sx
open Go.RowKit
theorem sxA:type_of% (And.intro @rn_nil (And.intro @rn_seq (And.intro @zjh (And.intro @rn_reg (And.intro @rn_drw (And.intro @rn_crs (And.intro @rst_n (And.intro @rst_c (And.intro @rcr_n (And.intro @rcr_c (And.intro @rn_crg (And.intro @zcc (And.intro @zgR (And.intro @zd5 (And.intro @zds (And.intro @rn_ret (And.intro @zjr (And.intro @ziQ (And.intro @zgG (And.intro @ziP (And.intro @zgF (And.intro @ziR (And.intro @xit_ap (And.intro @rn_ap (And.intro @apOk_n (And.intro @apOk_c (And.intro @zlJ (And.intro @zcZ (And.intro @zea (And.intro @zfs (And.intro @zkk (And.intro @zlC (And.intro @endK_n (And.intro @endK_r (And.intro @outO_s (And.intro @zjR (And.intro @endI_n (And.intro @endI_r (And.intro @outJ_s (And.intro @zjS (And.intro @rn_mv (And.intro @zki (And.intro @zkj (And.intro @zji (And.intro @zgX (@rn_box)))))))))))))))))))))))))))))))))))))))))))))):=And.intro @rn_nil (And.intro @rn_seq (And.intro @zjh (And.intro @rn_reg (And.intro @rn_drw (And.intro @rn_crs (And.intro @rst_n (And.intro @rst_c (And.intro @rcr_n (And.intro @rcr_c (And.intro @rn_crg (And.intro @zcc (And.intro @zgR (And.intro @zd5 (And.intro @zds (And.intro @rn_ret (And.intro @zjr (And.intro @ziQ (And.intro @zgG (And.intro @ziP (And.intro @zgF (And.intro @ziR (And.intro @xit_ap (And.intro @rn_ap (And.intro @apOk_n (And.intro @apOk_c (And.intro @zlJ (And.intro @zcZ (And.intro @zea (And.intro @zfs (And.intro @zkk (And.intro @zlC (And.intro @endK_n (And.intro @endK_r (And.intro @outO_s (And.intro @zjR (And.intro @endI_n (And.intro @endI_r (And.intro @outJ_s (And.intro @zjS (And.intro @rn_mv (And.intro @zki (And.intro @zkj (And.intro @zji (And.intro @zgX (@rn_box)))))))))))))))))))))))))))))))))))))))))))))
theorem sxB:type_of% (And.intro @kLit_s (And.intro @zjx (And.intro @zgW (And.intro @zfl (And.intro @kLd1_p (And.intro @kLd1_r (And.intro @zgQ (And.intro @kLdn_s (And.intro @kLdv_p (And.intro @kLdv_r (And.intro @zgP (And.intro @kSt2_b (And.intro @kSt_p (And.intro @zgN (And.intro @kNck_0 (And.intro @kNck_1 (And.intro @kNck_2 (And.intro @rn_nck (And.intro @kNot_0 (And.intro @rn_not (And.intro @zkC (And.intro @kAr_i8 (And.intro @zkE (And.intro @zkD (And.intro @kAr_u8 (And.intro @zkB (And.intro @zkA (And.intro @zkz (And.intro @kNeg_0 (And.intro @rn_neg (And.intro @kCvi_0 (And.intro @rn_cvi (And.intro @kCvs_0 (And.intro @rn_cvs (And.intro @zkm (And.intro @zjl (And.intro @zkw (And.intro @zjp (And.intro @kFad_0 (And.intro @kFad_1 (And.intro @rn_fad (@zkx)))))))))))))))))))))))))))))))))))))))))):=And.intro @kLit_s (And.intro @zjx (And.intro @zgW (And.intro @zfl (And.intro @kLd1_p (And.intro @kLd1_r (And.intro @zgQ (And.intro @kLdn_s (And.intro @kLdv_p (And.intro @kLdv_r (And.intro @zgP (And.intro @kSt2_b (And.intro @kSt_p (And.intro @zgN (And.intro @kNck_0 (And.intro @kNck_1 (And.intro @kNck_2 (And.intro @rn_nck (And.intro @kNot_0 (And.intro @rn_not (And.intro @zkC (And.intro @kAr_i8 (And.intro @zkE (And.intro @zkD (And.intro @kAr_u8 (And.intro @zkB (And.intro @zkA (And.intro @zkz (And.intro @kNeg_0 (And.intro @rn_neg (And.intro @kCvi_0 (And.intro @rn_cvi (And.intro @kCvs_0 (And.intro @rn_cvs (And.intro @zkm (And.intro @zjl (And.intro @zkw (And.intro @zjp (And.intro @kFad_0 (And.intro @kFad_1 (And.intro @rn_fad (@zkx)))))))))))))))))))))))))))))))))))))))))
theorem sxC:type_of% (And.intro @zjq (And.intro @kExt_0 (And.intro @rn_ext (And.intro @kLr2_o (And.intro @zkq (And.intro @zkp (And.intro @zko (And.intro @zjm (And.intro @zfw (And.intro @zhc (And.intro @zeb (And.intro @zfv (And.intro @kEqs_a (And.intro @rn_beq (And.intro @rn_eqs (And.intro @kIad_0 (And.intro @rn_iad (And.intro @zkv (And.intro @zjo (And.intro @kIdx_0 (And.intro @rn_idx (And.intro @kMks_0 (And.intro @rn_mks (And.intro @rn_bin (And.intro @zhq (And.intro @zhd (And.intro @zhj (And.intro @zhh (And.intro @zhg (And.intro @zho (And.intro @zhi (And.intro @zhk (And.intro @zhl (And.intro @zhm (And.intro @zhn (And.intro @zhp (And.intro @zhf (And.intro @zhe (And.intro @svi_i (@zfb)))))))))))))))))))))))))))))))))))))))):=And.intro @zjq (And.intro @kExt_0 (And.intro @rn_ext (And.intro @kLr2_o (And.intro @zkq (And.intro @zkp (And.intro @zko (And.intro @zjm (And.intro @zfw (And.intro @zhc (And.intro @zeb (And.intro @zfv (And.intro @kEqs_a (And.intro @rn_beq (And.intro @rn_eqs (And.intro @kIad_0 (And.intro @rn_iad (And.intro @zkv (And.intro @zjo (And.intro @kIdx_0 (And.intro @rn_idx (And.intro @kMks_0 (And.intro @rn_mks (And.intro @rn_bin (And.intro @zhq (And.intro @zhd (And.intro @zhj (And.intro @zhh (And.intro @zhg (And.intro @zho (And.intro @zhi (And.intro @zhk (And.intro @zhl (And.intro @zhm (And.intro @zhn (And.intro @zhp (And.intro @zhf (And.intro @zhe (And.intro @svi_i (@zfb)))))))))))))))))))))))))))))))))))))))
theorem sxD:type_of% (And.intro @zfa (And.intro @kSl2_s (And.intro @kSl_s (And.intro @zjg (And.intro @kAp_s (And.intro @kAp2_o (And.intro @kAp2_n (And.intro @kAp3_o (And.intro @kAs_o (And.intro @kAs_n (And.intro @kAs2_o (And.intro @rn_app (And.intro @zjy (And.intro @kCb_o (And.intro @kCb_n (And.intro @zjt (And.intro @rn_mkf (And.intro @kG_tt (And.intro @kG_tf (And.intro @kG_ft (And.intro @kG_ff (And.intro @kG_u (And.intro @kG_v (And.intro @kGD_tt (And.intro @kGD_tf (And.intro @kGD_ft (And.intro @kGD_ff (And.intro @kGD_u (And.intro @kGD_v (And.intro @zgS (And.intro @zfk (And.intro @kC_t (And.intro @kC_f (And.intro @zju (And.intro @zjw (And.intro @zgT (And.intro @zgV (And.intro @drn_mv (And.intro @zhJ (@zfD)))))))))))))))))))))))))))))))))))))))):=And.intro @zfa (And.intro @kSl2_s (And.intro @kSl_s (And.intro @zjg (And.intro @kAp_s (And.intro @kAp2_o (And.intro @kAp2_n (And.intro @kAp3_o (And.intro @kAs_o (And.intro @kAs_n (And.intro @kAs2_o (And.intro @rn_app (And.intro @zjy (And.intro @kCb_o (And.intro @kCb_n (And.intro @zjt (And.intro @rn_mkf (And.intro @kG_tt (And.intro @kG_tf (And.intro @kG_ft (And.intro @kG_ff (And.intro @kG_u (And.intro @kG_v (And.intro @kGD_tt (And.intro @kGD_tf (And.intro @kGD_ft (And.intro @kGD_ff (And.intro @kGD_u (And.intro @kGD_v (And.intro @zgS (And.intro @zfk (And.intro @kC_t (And.intro @kC_f (And.intro @zju (And.intro @zjw (And.intro @zgT (And.intro @zgV (And.intro @drn_mv (And.intro @zhJ (@zfD)))))))))))))))))))))))))))))))))))))))
theorem sxE:type_of% (And.intro @zhU (And.intro @zej (And.intro @zfB (And.intro @zfA (And.intro @zld (And.intro @zlq (And.intro @zlr (And.intro @zlm (And.intro @zlb (And.intro @zlc (And.intro @zhP (And.intro @zlo (And.intro @zln (And.intro @zhS (And.intro @zhI (And.intro @zlk (And.intro @zhR (And.intro @zhQ (And.intro @zlj (And.intro @zli (And.intro @zll (And.intro @zhM (And.intro @zhN (And.intro @zlh (And.intro @zfE (And.intro @zlp (And.intro @zfz (And.intro @zls (And.intro @zhV (@zlg)))))))))))))))))))))))))))))):=And.intro @zhU (And.intro @zej (And.intro @zfB (And.intro @zfA (And.intro @zld (And.intro @zlq (And.intro @zlr (And.intro @zlm (And.intro @zlb (And.intro @zlc (And.intro @zhP (And.intro @zlo (And.intro @zln (And.intro @zhS (And.intro @zhI (And.intro @zlk (And.intro @zhR (And.intro @zhQ (And.intro @zlj (And.intro @zli (And.intro @zll (And.intro @zhM (And.intro @zhN (And.intro @zlh (And.intro @zfE (And.intro @zlp (And.intro @zfz (And.intro @zls (And.intro @zhV (@zlg)))))))))))))))))))))))))))))
theorem sxF:type_of% (And.intro @kO_if (And.intro @pq_lit (And.intro @zipA_c (And.intro @zipA_n (And.intro @pq_and (And.intro @pq_or (And.intro @pq_xor (And.intro @pq_shl (And.intro @pq_shr (And.intro @pq_mn (And.intro @pq_mx (And.intro @pq_rsl (And.intro @zjJ (And.intro @zjK (And.intro @zg1 (And.intro @zjL (And.intro @pq_asl (And.intro @kCb_b (And.intro @pq_lss (And.intro @pq_leq (And.intro @pq_gtr (And.intro @pq_geq (And.intro @rn_pu (@drn_pu)))))))))))))))))))))))):=And.intro @kO_if (And.intro @pq_lit (And.intro @zipA_c (And.intro @zipA_n (And.intro @pq_and (And.intro @pq_or (And.intro @pq_xor (And.intro @pq_shl (And.intro @pq_shr (And.intro @pq_mn (And.intro @pq_mx (And.intro @pq_rsl (And.intro @zjJ (And.intro @zjK (And.intro @zg1 (And.intro @zjL (And.intro @pq_asl (And.intro @kCb_b (And.intro @pq_lss (And.intro @pq_leq (And.intro @pq_gtr (And.intro @pq_geq (And.intro @rn_pu (@drn_pu)))))))))))))))))))))))
theorem sxM:type_of% (And.intro @zjs (And.intro @kLd1_o (And.intro @zks (And.intro @kLdv_o (And.intro @zkr (And.intro @kSt_o (And.intro @kSt3_o (And.intro @kNck_3 (And.intro @kFad_2 (And.intro @kIad_1 (And.intro @zku (And.intro @zkh (And.intro @kTrn_0 (And.intro @kTrn_1 (And.intro @kTrn_2 (And.intro @rn_trn (And.intro @zla (And.intro @zjM (And.intro @zjN (And.intro @pq_snn (And.intro @pq_snz (And.intro @pq_snr (And.intro @zkn (And.intro @zkt (And.intro @zjn (And.intro @zhO (@zlI))))))))))))))))))))))))))):=And.intro @zjs (And.intro @kLd1_o (And.intro @zks (And.intro @kLdv_o (And.intro @zkr (And.intro @kSt_o (And.intro @kSt3_o (And.intro @kNck_3 (And.intro @kFad_2 (And.intro @kIad_1 (And.intro @zku (And.intro @zkh (And.intro @kTrn_0 (And.intro @kTrn_1 (And.intro @kTrn_2 (And.intro @rn_trn (And.intro @zla (And.intro @zjM (And.intro @zjN (And.intro @pq_snn (And.intro @pq_snz (And.intro @pq_snr (And.intro @zkn (And.intro @zkt (And.intro @zjn (And.intro @zhO (@zlI))))))))))))))))))))))))))
theorem sxN:type_of% (And.intro @apG_n (And.intro @kCao_c (And.intro @zgU (And.intro @zfC (And.intro @apG_s (And.intro @apB_tt (And.intro @apB_ff (And.intro @apB_tf (And.intro @apB_ft (And.intro @rn_mkz (And.intro @kMkz_i (And.intro @zlf (And.intro @zjk (And.intro @zjj (And.intro @kMkm_i (And.intro @rn_lk (And.intro @kLk_0 (And.intro @kLk2_m (And.intro @rn_mup (And.intro @kMup_0 (And.intro @zkl (And.intro @zhL (And.intro @zhK (And.intro @drn_lk (And.intro @zle (And.intro @lkA_tt (And.intro @lkA_tf (And.intro @lkA_nt (And.intro @lkA_nf (And.intro @apS_o (And.intro @apS_p (And.intro @zh5 (And.intro @zh4 (And.intro @zh3 (And.intro @zh2 (And.intro @pq_sl3 (And.intro @zjI (And.intro @zjv (And.intro @kCap_c (And.intro @zhT (And.intro @rn_cra (And.intro @rsb_n (And.intro @rsb_c (And.intro @hsV_n (@hsV_c))))))))))))))))))))))))))))))))))))))))))))):=And.intro @apG_n (And.intro @kCao_c (And.intro @zgU (And.intro @zfC (And.intro @apG_s (And.intro @apB_tt (And.intro @apB_ff (And.intro @apB_tf (And.intro @apB_ft (And.intro @rn_mkz (And.intro @kMkz_i (And.intro @zlf (And.intro @zjk (And.intro @zjj (And.intro @kMkm_i (And.intro @rn_lk (And.intro @kLk_0 (And.intro @kLk2_m (And.intro @rn_mup (And.intro @kMup_0 (And.intro @zkl (And.intro @zhL (And.intro @zhK (And.intro @drn_lk (And.intro @zle (And.intro @lkA_tt (And.intro @lkA_tf (And.intro @lkA_nt (And.intro @lkA_nf (And.intro @apS_o (And.intro @apS_p (And.intro @zh5 (And.intro @zh4 (And.intro @zh3 (And.intro @zh2 (And.intro @pq_sl3 (And.intro @zjI (And.intro @zjv (And.intro @kCap_c (And.intro @zhT (And.intro @rn_cra (And.intro @rsb_n (And.intro @rsb_c (And.intro @hsV_n (@hsV_c))))))))))))))))))))))))))))))))))))))))))))
theorem sxL:type_of% (And.intro @List.length_cons.{0} (And.intro @List.length_nil.{0} (And.intro @List.length_append.{0} (And.intro @List.length_replicate.{0} (And.intro @List.length_set.{0} (And.intro @List.cons_append.{0} (And.intro @List.nil_append.{0} (And.intro @List.append_nil.{0} (And.intro @List.getElem?_cons_zero.{0} (And.intro @List.getElem?_cons_succ.{0} (And.intro @List.getElem?_nil.{0} (And.intro @Option.getD_some.{0} (And.intro @Option.getD_none.{0} (And.intro @List.set_cons_zero.{0} (And.intro @List.set_cons_succ.{0} (And.intro @List.set_nil.{0} (And.intro @List.map_cons.{0,0} (And.intro @List.map_nil.{0,0} (And.intro @List.take_succ_cons.{0} (And.intro @List.take_zero.{0} (And.intro @List.drop_succ_cons.{0} (And.intro @List.drop_zero.{0} (And.intro @List.take_nil.{0} (And.intro @List.drop_nil.{0} (And.intro @List.take_length.{0} (And.intro @Int.toNat_natCast (And.intro @Int.toNat_natCast_add_one (And.intro @Bool.not_true (And.intro @Bool.not_false (And.intro @Bool.and_true (And.intro @Bool.true_and (And.intro @Bool.and_false (And.intro @Bool.false_and (And.intro @true_and (And.intro @and_true (And.intro @true_implies (And.intro @false_implies (And.intro @Option.bind_some.{0,0} (And.intro @Option.map_some.{0,0} (And.intro @Bool.false_eq_true (And.intro @Bool.true_eq_false (And.intro @decide_true (And.intro @decide_false (And.intro @not_true_eq_false (And.intro @not_false_eq_true (@beq_self_eq_true.{0})))))))))))))))))))))))))))))))))))))))))))))):=And.intro @List.length_cons.{0} (And.intro @List.length_nil.{0} (And.intro @List.length_append.{0} (And.intro @List.length_replicate.{0} (And.intro @List.length_set.{0} (And.intro @List.cons_append.{0} (And.intro @List.nil_append.{0} (And.intro @List.append_nil.{0} (And.intro @List.getElem?_cons_zero.{0} (And.intro @List.getElem?_cons_succ.{0} (And.intro @List.getElem?_nil.{0} (And.intro @Option.getD_some.{0} (And.intro @Option.getD_none.{0} (And.intro @List.set_cons_zero.{0} (And.intro @List.set_cons_succ.{0} (And.intro @List.set_nil.{0} (And.intro @List.map_cons.{0,0} (And.intro @List.map_nil.{0,0} (And.intro @List.take_succ_cons.{0} (And.intro @List.take_zero.{0} (And.intro @List.drop_succ_cons.{0} (And.intro @List.drop_zero.{0} (And.intro @List.take_nil.{0} (And.intro @List.drop_nil.{0} (And.intro @List.take_length.{0} (And.intro @Int.toNat_natCast (And.intro @Int.toNat_natCast_add_one (And.intro @Bool.not_true (And.intro @Bool.not_false (And.intro @Bool.and_true (And.intro @Bool.true_and (And.intro @Bool.and_false (And.intro @Bool.false_and (And.intro @true_and (And.intro @and_true (And.intro @true_implies (And.intro @false_implies (And.intro @Option.bind_some.{0,0} (And.intro @Option.map_some.{0,0} (And.intro @Bool.false_eq_true (And.intro @Bool.true_eq_false (And.intro @decide_true (And.intro @decide_false (And.intro @not_true_eq_false (And.intro @not_false_eq_true (@beq_self_eq_true.{0})))))))))))))))))))))))))))))))))))))))))))))
theorem sxZ:type_of% (And.intro @zgO (And.intro sxA (And.intro sxB (And.intro sxC (And.intro sxD (And.intro sxE (And.intro sxF (And.intro sxM (And.intro sxN (And.intro sxL (And.intro @forall_const.{1} (And.intro @implies_true.{1} (And.intro @implies_true.{0} (And.intro @if_true.{1} (And.intro @if_false.{1} (And.intro @ite_true.{1} (And.intro @ite_false.{1} (And.intro @exists_eq_left'.{1} (And.intro @exists_eq'.{1} (And.intro @ne_eq.{1} (And.intro @evs.eq_1 (And.intro @evs.eq_2 (And.intro @evp.eq_1 (And.intro @evp.eq_2 (And.intro @zah.eq_1 (And.intro @zah.eq_2 (And.intro @SV.ev.eq_1 (And.intro @SV.ev.eq_2 (And.intro @AV.flat.eq_1 (And.intro @AV.flat.eq_2 (And.intro @AV.one.eq_1 (And.intro @AV.one.eq_2 (And.intro @AV.one.eq_3 (And.intro @AV.one.eq_4 (And.intro @AV.one.eq_5 (And.intro @AV.cells.eq_1 (And.intro @AV.cells.eq_2 (And.intro @zbK.eq_1 (And.intro @zbK.eq_2 (And.intro @zik.eq_1 (And.intro @zik.eq_2 (And.intro @zik.eq_3 (And.intro @zfP.eq_1 (And.intro @zfP.eq_2 (And.intro @pub.eq_1 (And.intro @pub.eq_2 (And.intro @pub.eq_3 (And.intro @pub.eq_4 (And.intro @pub.eq_5 (And.intro @zc7.eq_1 (And.intro @zc7.eq_2 (And.intro @AV.plain.eq_1 (And.intro @AV.plain.eq_2 (And.intro @AV.plain.eq_3 (And.intro @AV.plain.eq_4 (And.intro @AV.plain.eq_5 (And.intro @AV.plain.eq_6 (And.intro @AV.plain.eq_7 (And.intro @AV.plain.eq_8 (And.intro @AV.plain.eq_9 (And.intro @AV.plain.eq_10 (And.intro @AV.plain.eq_11 (And.intro @AV.plain.eq_12 (And.intro @zak.eq_1 (And.intro @zak.eq_2 (And.intro @zaU.eq_1 (And.intro @zaU.eq_2 (And.intro @zaU.eq_3 (And.intro @zaU.eq_4 (And.intro @zav.eq_1 (And.intro @za2.eq_1 (And.intro @za2.eq_2 (And.intro @eqA.eq_1 (And.intro @eqA.eq_2 (And.intro @eqA.eq_3 (And.intro @eqA.eq_4 (And.intro @eqA.eq_5 (And.intro @zhH.eq_1 (And.intro @zhH.eq_2 (And.intro @zhH.eq_3 (And.intro @List.replicate.eq_1.{0} (@List.replicate.eq_2.{0})))))))))))))))))))))))))))))))))))))))))))))))))))))))))))))))))))))))))))))))))):=And.intro @zgO (And.intro sxA (And.intro sxB (And.intro sxC (And.intro sxD (And.intro sxE (And.intro sxF (And.intro sxM (And.intro sxN (And.intro sxL (And.intro @forall_const.{1} (And.intro @implies_true.{1} (And.intro @implies_true.{0} (And.intro @if_true.{1} (And.intro @if_false.{1} (And.intro @ite_true.{1} (And.intro @ite_false.{1} (And.intro @exists_eq_left'.{1} (And.intro @exists_eq'.{1} (And.intro @ne_eq.{1} (And.intro @evs.eq_1 (And.intro @evs.eq_2 (And.intro @evp.eq_1 (And.intro @evp.eq_2 (And.intro @zah.eq_1 (And.intro @zah.eq_2 (And.intro @SV.ev.eq_1 (And.intro @SV.ev.eq_2 (And.intro @AV.flat.eq_1 (And.intro @AV.flat.eq_2 (And.intro @AV.one.eq_1 (And.intro @AV.one.eq_2 (And.intro @AV.one.eq_3 (And.intro @AV.one.eq_4 (And.intro @AV.one.eq_5 (And.intro @AV.cells.eq_1 (And.intro @AV.cells.eq_2 (And.intro @zbK.eq_1 (And.intro @zbK.eq_2 (And.intro @zik.eq_1 (And.intro @zik.eq_2 (And.intro @zik.eq_3 (And.intro @zfP.eq_1 (And.intro @zfP.eq_2 (And.intro @pub.eq_1 (And.intro @pub.eq_2 (And.intro @pub.eq_3 (And.intro @pub.eq_4 (And.intro @pub.eq_5 (And.intro @zc7.eq_1 (And.intro @zc7.eq_2 (And.intro @AV.plain.eq_1 (And.intro @AV.plain.eq_2 (And.intro @AV.plain.eq_3 (And.intro @AV.plain.eq_4 (And.intro @AV.plain.eq_5 (And.intro @AV.plain.eq_6 (And.intro @AV.plain.eq_7 (And.intro @AV.plain.eq_8 (And.intro @AV.plain.eq_9 (And.intro @AV.plain.eq_10 (And.intro @AV.plain.eq_11 (And.intro @AV.plain.eq_12 (And.intro @zak.eq_1 (And.intro @zak.eq_2 (And.intro @zaU.eq_1 (And.intro @zaU.eq_2 (And.intro @zaU.eq_3 (And.intro @zaU.eq_4 (And.intro @zav.eq_1 (And.intro @za2.eq_1 (And.intro @za2.eq_2 (And.intro @eqA.eq_1 (And.intro @eqA.eq_2 (And.intro @eqA.eq_3 (And.intro @eqA.eq_4 (And.intro @eqA.eq_5 (And.intro @zhH.eq_1 (And.intro @zhH.eq_2 (And.intro @zhH.eq_3 (And.intro @List.replicate.eq_1.{0} (@List.replicate.eq_2.{0})))))))))))))))))))))))))))))))))))))))))))))))))))))))))))))))))))))))))))))))))
end Go.Proofs.YtcpldfimbhdfdaaGreatDoor.Sx
namespace Go.Proofs.YtcpldfimbhdfdaaGreatDoor
open Go.RowKit Sx
open Option renaming some->zi
class Shp (P:Program) [Tabs P]:Prop where
 sh:∀w:World,Tabs.T (P:=P) w->w.ShapedOpen P
class Pow (P:Program) [Tabs P]:Prop where
 pw : ∀ w : World, Tabs.T (P := P) w → Lib.TabIs P w "internal/strconv.uint64pow10" .u64 Lib.pow10Tab
theorem zdq {P:Program} {w w':World} (h:w.ShapedOpen P) (hk:∀k,k<w.heap.size->w'.heap[k]? = w.heap[k]?):w'.ShapedOpen P:=by
 have lt:∀{k:Nat} {o:Obj},w.heap[k]? = some o->k<w.heap.size:=fun {k o} e=>by
  rcases Nat.lt_or_ge k w.heap.size with h1|h1
  ·exact h1
  ·rw[Array.getElem?_eq_none h1] at e;cases e
 refine⟨fun g zero t hg hz=>?_,fun k hk1 hk2=>?_⟩
 ·obtain⟨cs,h1,h2,h3⟩:=h.1 g zero t hg hz;refine⟨cs,(hk g (lt h1)).trans h1,h2,fun hb=>Row.ok_of_shape (fun b x hx=>?_) (h3 hb)⟩;rcases Nat.lt_or_ge b w.heap.size with h4|h4
  ·simpa[World.shape?,hk b h4] using hx
  ·simp[World.shape?,Array.getElem?_eq_none h4] at hx
 ·obtain⟨o,o₀,h1,h2,h3⟩:=h.2 k hk1 hk2;exact⟨o,o₀,(hk k (lt h1)).trans h1,h2,h3⟩
mutual
/-- a value without memory, as it is -/
def val:AV->Option Value
 | .s l=>some (.string ⟨l.toArray⟩)
 | .i k n=>some (.int k n)
 | .b x=>some (.bool x)
 | .agg cs=>match vals cs with
  | some vs=>if vs.all (·.oneCell')=true then some (.agg vs.toArray) else none
  | none=>none
 | .tup cs=>(vals cs).map fun vs=>.tuple vs.toArray
 | _=>none
def vals:List AV->Option (List Value)
 | []=>some []
 | x::xs=>match val x,vals xs with
  | some v,some vs=>some (v::vs)
  | _,_=>none
end
mutual
theorem zew (G:Gh) (I:Imm):∀(x:AV) (v:Value),val x=some v->∀y,Den G I x y↔y=v
 | .s l,v,h,y=>by simp only[val,zi.injEq] at h;subst h;simp[Den]
 | .i k n,v,h,y=>by simp only[val,zi.injEq] at h;subst h;simp[Den]
 | .b x,v,h,y=>by simp only[val,zi.injEq] at h;subst h;simp[Den]
 | .agg cs,v,h,y=>by
  simp only[val] at h
  split at h
  ·rename_i vs h1
   split at h
   ·rename_i h2;injection h with h;subst h
    simp only[Den]
    constructor
    ·rintro⟨ys,rfl,k1,_⟩;rw[(za9 G I cs vs h1 ys).1 k1]
    ·rintro rfl;exact⟨vs,rfl,(za9 G I cs vs h1 vs).2 rfl,fun u hu=>(List.all_eq_true.1 h2) u hu⟩
   ·cases h
  ·cases h
 | .tup cs,v,h,y=>by
  simp only[val,Option.map_eq_some_iff] at h;obtain⟨vs,h1,rfl⟩:=h;simp only[Den]
  constructor
  ·rintro⟨ys,rfl,k1⟩;rw[(za9 G I cs vs h1 ys).1 k1]
  ·rintro rfl;exact⟨vs,rfl,(za9 G I cs vs h1 vs).2 rfl⟩
 | .p _ _,v,h,y=>by simp[val] at h
 | .row _ _,v,h,y=>by simp[val] at h
 | .prow _ _,v,h,y=>by simp[val] at h
 | .orow _ _,v,h,y=>by simp[val] at h
 | .porow _ _ _,v,h,y=>by simp[val] at h
 | .bsl _ _ _,v,h,y=>by simp[val] at h
 | .m _,v,h,y=>by simp[val] at h
 | .zn _,v,h,y=>by simp[val] at h
 | .nil,v,h,y=>by simp[val] at h
 | .fn _ _ _,v,h,y=>by simp[val] at h
 | .o _,v,h,y=>by simp[val] at h
 | .u,v,h,y=>by simp[val] at h
theorem za9 (G:Gh) (I:Imm):∀(xs:List AV) (vs:List Value),vals xs=some vs->∀ys,zab G I xs ys↔ys=vs
 | [],vs,h,ys=>by simp only[vals,zi.injEq] at h;subst h;simp[zab]
 | x::xs,vs,h,ys=>by
  simp only[vals] at h
  split at h
  ·rename_i v vs' h1 h2;injection h with h;subst h
   simp only[zab]
   constructor
   ·rintro⟨y,ys',rfl,k1,k2⟩;rw[(zew G I x v h1 y).1 k1,(za9 G I xs vs' h2 ys').1 k2]
   ·rintro rfl;exact⟨v,vs',rfl,(zew G I x v h1 v).2 rfl,(za9 G I xs vs' h2 vs').2 rfl⟩
  ·cases h
end
section
variable {P:Program} [Tabs P] {f:FuncId} {args:List AV} {vs:List Value} {r:AV} {v:Value} {objs:List OB} {K:List OB->AV->Prop}
theorem conv (ha:vals args=some vs) (hr:val r=some v) (h:∀w,Calls P f vs.toArray w fun e w'=>e=.returned v/\Qb w w') (hk:K objs r):zai P f args objs K :=
 zdO r hk fun G I w ys hm hd=>by
  rw[(za9 G I args vs ha ys).1 hd];exact⟨v,h w,(zew G I r v hr v).2 rfl⟩
theorem convT (ha:vals args=some vs) (hr:val r=some v) (h:∀w,Tabs.T (P:=P) w->Calls P f vs.toArray w fun e w'=>e=.returned v/\Qb w w') (hk:K objs r):zai P f args objs K :=
 zep r hk fun G I w ys hT hm hd=>by
  rw[(za9 G I args vs ha ys).1 hd];exact⟨v,h w hT,(zew G I r v hr v).2 rfl⟩
end
end Go.Proofs.YtcpldfimbhdfdaaGreatDoor
namespace Go.Proofs.YtcpldfimbhdfdaaGreatDoor
open Sx
theorem gn1 (l:List OB) (x:OB):(l++[x])[l.length]? = some x:=by simp
theorem sn1 (l:List OB) (x y:OB):(l++[x]).set l.length y=l++[y]:=by simp
end Go.Proofs.YtcpldfimbhdfdaaGreatDoor
namespace Go.Proofs.YtcpldfimbhdfdaaGreatDoor
open Go.RowKit
def sv (ls:List (List UInt8)):List Value:=ls.map fun l=>.string (S l)
theorem sv_get (ls:List (List UInt8)) (i:Nat) (h:i<ls.length):(sv ls)[i]? = some (.string (S ls[i])):=by simp[sv,h]
theorem sv_one (ls:List (List UInt8)):∀u∈sv ls,u.oneCell'=true:=by
 intro u hu;obtain⟨c,_,rfl⟩:=List.mem_map.1 hu
 rfl
def ze4 (w:World) (base:Nat) (v:Value) (ls:List (List UInt8)):Prop:=w.ownsRow base 9 1 v ls.length (sv ls)
theorem ze4.nil (w:World) (base:Nat):ze4 w base (.slice none 0 0) []:=World.ownsRow_nil w base _ _
theorem ze4.drew {w:World} {base:Nat} {v:Value} {l:List (List UInt8)} (h:ze4 w base v l):ze4 w.drew base v l:=h
theorem ze4.drewN {w:World} {base:Nat} {v:Value} {l:List (List UInt8)} (h:ze4 w base v l) (n:Nat):ze4 (w.drewN n) base v l:=h
theorem ze4.alloc {w:World} {base:Nat} {v:Value} {l:List (List UInt8)} (h:ze4 w base v l) (o:Obj):ze4 (w.alloc o) base v l:=World.ownsRow.alloc h o
theorem ze4.below {w w':World} {base:Nat} {v:Value} {l:List (List UInt8)} (h:ze4 w base v l) (hb:Qb w w'):ze4 w' base v l:=by
 refine World.ownsRow.kept (row:=none) h ⟨hb.os,hb.tape,hb.output,Below.size hb,fun k hk _=>Below.block hb k hk⟩ ?_;rcases h.2 with ⟨rfl,_⟩|⟨g,cap,cur,rfl,_⟩
 ·exact .inl rfl
 ·exact .inr (by simp[Value.ownBlock])
theorem ze4.form {w:World} {base:Nat} {v:Value} {l:List (List UInt8)} (h:ze4 w base v l) (hl:0<l.length):∃g cap,v=.slice (some ⟨g,0,none⟩) l.length cap/\base<=g/\g<w.heap.size/\l.length<=cap:=by
 rcases h.2 with ⟨rfl,hn⟩|⟨g,cap,cur,rfl,hb,hg,hnc,_⟩
 ·omega
 ·refine⟨g,cap,rfl,hb,?_,hnc⟩;rcases Nat.lt_or_ge g w.heap.size with h1|h1
  ·exact h1
  ·rw[Array.getElem?_eq_none h1] at hg;cases hg
theorem ze4.cell {w:World} {B g n cap:Nat} {l:List (List UInt8)} (h:ze4 w B (.slice (some ⟨g,0,none⟩) n cap) l) (j:Nat) (hj:j<l.length):w.cell? ⟨g,j,none⟩=some (.string (S l[j])):=by
 have h':=h;rcases h'.2 with ⟨e,_⟩|⟨g',cap',cur,e,_⟩
 ·simp at e
 ·simp only[Value.slice.injEq] at e;obtain⟨_,rfl,_⟩:=e;rw[World.ownsRow.cellAt (h:World.ownsRow _ _ _ _ _ _ _) j (by omega),sv_get l j hj]
def zaE (c:UInt8):List UInt8->List UInt8×List UInt8×Bool
 | []=>([],[],false)
 | x::t=>if x=c then ([],t,true) else (x::(zaE c t).1,(zaE c t).2.1,(zaE c t).2.2)
theorem zb6 (c:UInt8):∀l:List UInt8,(Lib.indexByte l c=-1/\zaE c l=(l,[],false)/\c∉l)\/∃k:Nat,Lib.indexByte l c=k/\k<l.length/\zaE c l=(l.take k,l.drop (k+1),true)/\l[k]? = some c
 | []=>.inl ⟨rfl,rfl,by simp⟩
 | x::t=>by
  unfold Lib.indexByte zaE
  by_cases h:x=c
  ·subst h;exact .inr ⟨0,by simp,by simp,by simp,by simp⟩
  ·rw[if_neg (by simpa using h),if_neg h];rcases zb6 c t with ⟨h1,h2,h3⟩|⟨k,h1,h2,h3,h4⟩
   ·refine .inl ⟨by rw[h1];rfl,by rw[h2],?_⟩;simp only[List.mem_cons,not_or];exact⟨fun e=>h e.symm,h3⟩
   ·refine .inr ⟨k+1,?_,by simpa using h2,?_,by simpa using h4⟩
    ·rw[h1,if_neg (by simp only[beq_iff_eq];omega)];omega
    ·rw[h3];simp
theorem zhZ (c:UInt8) (l:List UInt8):(zaE c l).1.length<=l.length/\((zaE c l).2.2=true->(zaE c l).1.length+(zaE c l).2.1.length+1=l.length)/\((zaE c l).2.2=false->(zaE c l).1=l/\(zaE c l).2.1=[]):=by
 rcases zb6 c l with ⟨h1,h2,h3⟩|⟨k,h1,h2,h3,h4⟩
 ·rw[h2];simp
 ·rw[h3];simp;omega
theorem zly (c:UInt8) (l:List UInt8):(zaE c l).1.length<=l.length/\(zaE c l).2.1.length<=l.length:=by
 rcases zb6 c l with ⟨h1,h2,h3⟩|⟨k,h1,h2,h3,h4⟩
 ·rw[h2];simp
 ·rw[h3];simp;omega
def zaR (c:UInt8):List UInt8->List (List UInt8)
 | []=>[[]]
 | x::t=>if x=c then []::zaR c t else match zaR c t with
  | p::ps=>(x::p)::ps
  | []=>[[x]]
theorem zcq (c:UInt8):∀l,∃p ps,zaR c l=p::ps
 | []=>⟨_,_,rfl⟩
 | x::t=>by
  unfold zaR
  by_cases h:x=c
  ·rw[if_pos h];exact⟨_,_,rfl⟩
  ·rw[if_neg h];obtain⟨p,ps,e⟩:=zcq c t;rw[e];exact⟨_,_,rfl⟩
theorem zbC (c x:UInt8) (t:List UInt8):zaR c (x::t)=if x=c then []::zaR c t else match zaR c t with
  | p::ps=>(x::p)::ps
  | []=>[[x]]:=rfl
theorem zbY (c x:UInt8) (t:List UInt8):zaE c (x::t)=if x=c then ([],t,true) else (x::(zaE c t).1,(zaE c t).2.1,(zaE c t).2.2):=rfl
def cutV (x:List UInt8×List UInt8×Bool):Value:=.tuple #[.string (S x.1),.string (S x.2.1),.bool x.2.2]
theorem lCut_any (s:ByteArray) (c:UInt8) (w:World) (hs:s.size<=maxLen) :
  Calls Tryz.prog 195 #[.string s,.string ⟨#[c]⟩] w fun e w'=>e=.returned (cutV (zaE c s.data.toList))/\Qb w w':=by
 unfold maxLen at hs;rcases zb6 c s.data.toList with ⟨h1,h2,_⟩|⟨k,h1,h2,h3,_⟩
 ·have HI:=Lib.hid h1;have HC:=Lib.hid h2;clear h1 h2
  go_enter Tryz.func195,Tryz.ntmps195
  go_wp2_with fail
  refine(Tryz.stringslite_Index_one _ _ _).mono ?_;rintro e w' ⟨rfl,rfl⟩;rw[HI.out]
  go_wp2_with fail
  go_ret3
  exact⟨by rw[HC.out];rfl,Qb.refl _⟩
 ·rw[zaq] at h2;have HI:=Lib.hid h1;have HC:=Lib.hid h3;clear h1 h3;have i0:(0:Int)<=(k:Int):=by omega
  have i1:(k:Int)<(s.size:Int):=by omega
  have q1:IntKind.i64.wrap ((k:Int)+1)=(k:Int)+1:=IntWalk.i64_in _ (by omega);have q2:(0:Int)<=(k:Int)+1:=by omega
  have q3:((k:Int)+1).toNat=k+1:=by omega
  have q4:(k:Int)+1<=(s.size:Int):=by omega
  go_enter Tryz.func195,Tryz.ntmps195
  go_wp2_with fail
  refine(Tryz.stringslite_Index_one _ _ _).mono ?_;rintro e w' ⟨rfl,rfl⟩;rw[HI.out]
  go_wp2_with fail
  go_quiet (fail)
  go_wp2_with fail
  go_ret3
  refine⟨?_,(Qb.refl _).drewN _⟩;rw[HC.out];refine congrArg Ending.returned (congrArg Value.tuple ?_);rw[show S (s.data.toList.take k)=s.extract 0 k from by rw[<-S_of (s.extract 0 k),Lib.extract_data];simp,show S (s.data.toList.drop (k+1))=s.extract (k+1) s.size from by
   rw[<-S_of (s.extract (k+1) s.size),Lib.extract_data];congr 2;rw[List.take_of_length_le];rw[List.length_drop,zaq];omega]
  try rfl
theorem Cut_any (s:ByteArray) (c:UInt8) (w:World) (hs:s.size<=maxLen) :
  Calls Tryz.prog 116 #[.string s,.string ⟨#[c]⟩] w fun e w'=>e=.returned (cutV (zaE c s.data.toList))/\Qb w w':=by
 go_enter Tryz.func116,Tryz.ntmps116
 go_wp2_with fail
 refine(lCut_any _ _ _ hs).mono ?_;rintro e w' ⟨rfl,hq⟩;unfold cutV
 go_wp2_with fail
 go_ret3
 exact⟨rfl,hq⟩
end Go.Proofs.YtcpldfimbhdfdaaGreatDoor
namespace Go.Proofs.YtcpldfimbhdfdaaGreatDoor
structure UriP where
 scheme:List UInt8
 auth:List UInt8
 path:List UInt8
 query:List UInt8
 frag:List UInt8
 hs:Bool
 ha:Bool
 hq:Bool
 hf:Bool
def uriZ:UriP:=⟨[],[],[],[],[],false,false,false,false⟩
def zaB (l:List UInt8):List UInt8:=(zaE 47 l).1
def scB (c:UInt8):Bool:=zeN c||zaA c||zc0 c [43,45,46]
def zf0:List UInt8->Bool
 | []=>false
 | c::t=>zeN c&&t.all scB
def zfX (l:List UInt8):Bool:=Lib.hasPrefix l [47,47]
def zgB (l:List UInt8):List UInt8:=(zaE 63 (zaE 35 l).1).1
def zaS (l:List UInt8):List UInt8×List UInt8×Bool:=zaE 58 (zaB (zgB l))
def zdE (l:List UInt8):List UInt8:=if (zaS l).2.2=true then (zgB l).drop ((zaS l).1.length+1) else zgB l
def zc9 (r:List UInt8):List UInt8:=if zfX r=true then zaB (r.drop 2) else []
def zfq (r:List UInt8):List UInt8:=if zfX r=true then (r.drop 2).drop (zc9 r).length else r
def zaz (l:List UInt8):Int×UriP :=
 if 16384<l.length then (5,uriZ)
 else if ((zaS l).2.2&&!zf0 (zaS l).1)=true then (6,uriZ)
 else (0,{ scheme:=if (zaS l).2.2=true then (zaS l).1 else [],auth:=zc9 (zdE l),path:=zfq (zdE l),query:=(zaE 63 (zaE 35 l).1).2.1,frag:=(zaE 35 l).2.1,hs:=(zaS l).2.2,ha:=zfX (zdE l),hq:=(zaE 63 (zaE 35 l).1).2.2,hf:=(zaE 35 l).2.2 })
theorem zei (l:List UInt8):zaB l=l.take (zaB l).length/\(zaB l).length<=l.length:=by
 unfold zaB;rcases zb6 47 l with ⟨h1,h2,h3⟩|⟨k,h1,h2,h3,h4⟩
 ·rw[h2];simp
 ·rw[h3];simp;omega
open Go.RowKit
def Obk (w:World) (g:Nat) (t:TypeId) (cs:Array Value):Prop:=w.heap[g]? = some (.cells cs t (0,0))
theorem Obk.lt {w:World} {g:Nat} {t:TypeId} {cs:Array Value} (h:Obk w g t cs):g<w.heap.size:=by
 rcases Nat.lt_or_ge g w.heap.size with h1|h1
 ·exact h1
 ·unfold Obk at h;rw[Array.getElem?_eq_none h1] at h;cases h
theorem Obk.cell {w:World} {g:Nat} {t:TypeId} {cs:Array Value} (h:Obk w g t cs) (i:Nat):w.cell? ⟨g,i,none⟩=cs[i]?:=cell_of_row w g i cs t (0,0) h
theorem Obk.frozen {w:World} {g:Nat} {t:TypeId} {cs:Array Value} (h:Obk w g t cs) (i:Nat):w.frozen? ⟨g,i,none⟩=false:=by
 unfold Obk at h;simp[World.frozen?,h]
theorem Obk.new (w:World) (t:TypeId) (cs:Array Value):Obk (w.alloc (.cells cs t)) w.heap.size t cs:=heap_alloc_new w _
theorem Obk.alloc {w:World} {g:Nat} {t:TypeId} {cs:Array Value} (h:Obk w g t cs) (o:Obj):Obk (w.alloc o) g t cs:=(Below.heap_alloc w o g h.lt).trans h
theorem Obk.drew {w:World} {g:Nat} {t:TypeId} {cs:Array Value} (h:Obk w g t cs):Obk w.drew g t cs:=h
theorem Obk.drewN {w:World} {g:Nat} {t:TypeId} {cs:Array Value} (h:Obk w g t cs) (n:Nat):Obk (w.drewN n) g t cs:=h
theorem Obk.put {w:World} {g:Nat} {t:TypeId} {cs:Array Value} (h:Obk w g t cs) (i:Nat) (u:Value):Obk (w.setCell ⟨g,i,none⟩ u) g t (cs.setIfInBounds i u):=by
 unfold Obk at h ⊢;simp[World.setCell,Array.getElem?_modify,h]
theorem Obk.far {w:World} {g:Nat} {t:TypeId} {cs:Array Value} (h:Obk w g t cs) {p:Addr} (hp:g≠p.block) (u:Value):Obk (w.setCell p u) g t cs:=(Below.heap_setCell w p u g hp).trans h
theorem Obk.at_ (w:World) (t:TypeId) (cs:Array Value) (g:Nat) (h:w.heap.size=g):Obk (w.alloc (.cells cs t)) g t cs:=by subst h;exact Obk.new w t cs
theorem Obk.st {w:World} {g:Nat} {t:TypeId} {cs:Array Value} (h:Obk w g t cs) (b o:Nat) (u:Value) (hne:g≠b):Obk (w.setCell ⟨b,o,none⟩ u) g t cs:=h.far (p:=⟨b,o,none⟩) hne u
theorem Qb.st {a c:World} (h:Qb a c) (b o:Nat) (u:Value) (hb:a.heap.size<=b):Qb a (c.setCell ⟨b,o,none⟩ u):=h.set (p:=⟨b,o,none⟩) hb u
theorem Obk.other {w w':World} {g b:Nat} {t:TypeId} {cs:Array Value} (h:Obk w g t cs) (hg:w.grownBy w' (some b)) (hne:g≠b):Obk w' g t cs:=(hg.block g h.lt (fun e=>hne (Option.some.inj e))).trans h
def zfR (l set:List UInt8):Nat:=l.findIdx fun c=>zc0 c set
end Go.Proofs.YtcpldfimbhdfdaaGreatDoor
namespace Go.Proofs.YtcpldfimbhdfdaaGreatDoor
open Lib renaming decDigits->qt
open Nat renaming le_refl->zg, zero_le->zt
def dvN (c:UInt8):Nat:=if c.toNat<=57 then c.toNat - 48 else if c.toNat<=70 then c.toNat - 55 else c.toNat - 87
def zfO (base most:Nat):List UInt8->Nat->Option Nat
 | [],n=>some n
 | c::l,n=>if n*base+dvN c<=most then zfO base most l (n*base+dvN c) else none
def optE:Option Nat->Int×Nat
 | some n=>(0,n)
 | none=>(4,0)
def valE (base most:Nat) (l:List UInt8):Int×Nat:=optE (zfO base most l 0)
def zeo (p:UInt8->Bool) (l:List UInt8):Int:=if l=[] then 3 else if l.all p=true then 0 else 1
def zes:List UInt8->Bool
 | 48::_::_=>true
 | _=>false
def zaX (most:Nat) (l:List UInt8):Int×Nat:=if zeo zaA l=0 then (if zes l=true then (6,0) else valE 10 most l) else (zeo zaA l,0)
theorem zk9 {c:UInt8} (h:zaA c=true):dvN c=c.toNat - 48/\48<=c.toNat/\c.toNat<=57:=by
 have h2:48<=c.toNat/\c.toNat<=57:=of_decide_eq_true h;exact⟨by unfold dvN;rw[if_pos h2.2],h2⟩
theorem zlA {p:UInt8->Bool} {l:List UInt8} (h0:l≠[]) (h:l.all p=true):zeo p l=0:=by unfold zeo;rw[if_neg h0,if_pos h]
theorem zen {p:UInt8->Bool} {l:List UInt8} (h:zeo p l=0):l≠[]/\l.all p=true:=by
 unfold zeo at h
 by_cases h0:l=[]
 ·rw[if_pos h0] at h;cases h
 ·rw[if_neg h0] at h
  by_cases h1:l.all p=true
  ·exact⟨h0,h1⟩
  ·rw[if_neg h1] at h;cases h
theorem ziZ (base most:Nat):∀(l:List UInt8) (n m:Nat),n<=most->zfO base most l n=some m->m<=most
 | [],n,m,hn,h=>by rw[zfO] at h;injection h with h;omega
 | c::l,n,m,hn,h=>by
  rw[zfO] at h
  split at h
  ·rename_i h1;exact ziZ base most l _ m h1 h
  ·cases h
theorem valE_le (base most:Nat) (l:List UInt8):(valE base most l).2<=most:=by
 unfold valE;rcases h:zfO base most l 0 with _|n
 ·exact zt _
 ·exact ziZ base most l 0 n (zt _) h
theorem zfZ (most:Nat) (l:List UInt8):(zaX most l).2<=most:=by
 unfold zaX;split
 ·split
  ·exact zt _
  ·exact valE_le _ _ _
 ·exact zt _
theorem zcR {m:Nat} (h:m<10):qt m=[UInt8.ofNat (48+m)]:=Lib.decDigits_one h
theorem zeW {m:Nat} (h:¬m<10):qt m=qt (m / 10)++[UInt8.ofNat (48+m % 10)]:=by
 rw[qt,dif_neg h]
theorem zdl (b M:Nat):∀(l1 l2:List UInt8) (a:Nat),zfO b M (l1++l2) a=match zfO b M l1 a with|some m=>zfO b M l2 m|none=>none
 | [],l2,a=>rfl
 | c::l,l2,a=>by
  rw[List.cons_append,zfO,zfO]
  split
  ·exact zdl b M l l2 _
  ·rfl
theorem zlu {d:Nat} (h:d<10):(UInt8.ofNat (48+d)).toNat=48+d:=by rw[UInt8.toNat_ofNat'];omega
theorem zhX {d:Nat} (h:d<10):dvN (UInt8.ofNat (48+d))=d/\zaA (UInt8.ofNat (48+d))=true:=by
 have e:=zlu h;have h2:zaA (UInt8.ofNat (48+d))=true:=decide_eq_true (by rw[e];omega);exact⟨by rw[(zk9 h2).1,e];omega,h2⟩
theorem valU_dec (M:Nat):∀(k n:Nat),n<=k->n<=M->zfO 10 M (qt n) 0=some n:=by
 intro k
 induction k with
 | zero=>
  intro n hn hM;obtain rfl:n=0:=by omega
  rw[zcR (by decide)]
  rfl
 | succ k ih=>
  intro n hn hM
  by_cases h10:n<10
  ·rw[zcR h10,zfO,(zhX h10).1,if_pos (by omega),zfO]
   congr 1;omega
  ·rw[zeW h10,zdl,ih (n / 10) (by omega) (by omega)];simp only;rw[zfO,(zhX (show n % 10<10 by omega)).1,if_pos (by omega),zfO]
   congr 1;omega
theorem zlw:∀(k n:Nat),n<=k->(qt n).all zaA=true/\qt n≠[]:=by
 intro k
 induction k with
 | zero=>
  intro n hn;obtain rfl:n=0:=by omega
  rw[zcR (by decide)];exact⟨by decide,by simp⟩
 | succ k ih=>
  intro n hn
  by_cases h10:n<10
  ·rw[zcR h10];exact⟨by rw[List.all_cons,(zhX h10).2];rfl,by simp⟩
  ·rw[zeW h10];exact⟨by rw[List.all_append,(ih (n / 10) (by omega)).1,List.all_cons,(zhX (show n % 10<10 by omega)).2];rfl,by simp⟩
theorem dec_head:∀(k n:Nat),n<=k->1<=n->∃c t,qt n=c::t/\c≠48:=by
 intro k
 induction k with
 | zero=>intro n hn h;omega
 | succ k ih=>
  intro n hn h
  by_cases h10:n<10
  ·refine⟨_,_,zcR h10,fun e=>?_⟩;have:=congrArg UInt8.toNat e;rw[zlu h10] at this;have h48:(48:UInt8).toNat=48:=rfl;omega
  ·obtain⟨c,t,h1,h2⟩:=ih (n / 10) (by omega) (by omega);exact⟨c,t++[UInt8.ofNat (48+n % 10)],by rw[zeW h10,h1];rfl,h2⟩
theorem zia {c:UInt8} {t:List UInt8} (h:c≠48):zes (c::t)=false:=by
 unfold zes
 split
 ·rename_i h2;injection h2 with h2;exact absurd h2 h
 ·rfl
theorem zgu (n:Nat):zes (qt n)=false:=by
 by_cases h:n=0
 ·subst h;rw[zcR (by decide)];rfl
 ·obtain⟨c,t,h1,h2⟩:=dec_head n n (zg _) (by omega);rw[h1];exact zia h2
theorem zid (n M:Nat) (h:n<=M):zaX M (qt n)=(0,n):=by
 have ha:=zlw n n (zg _);unfold zaX;rw[zlA ha.2 ha.1,if_pos rfl,if_neg (by rw[zgu];exact Bool.false_ne_true)];unfold valE;rw[valU_dec M n n (zg _) h]
 rfl
open Go.RowKit Go.Sort
def Pw (w : World) : Prop := Lib.TabIs Tryz.prog w "internal/strconv.uint64pow10" .u64 Lib.pow10Tab
theorem Pw.keep {w w':World} (h:Pw w) (hq:Qb w w'):Pw w':=Lib.tabBelow_of_tabIs h w' hq
theorem Pw.drew {w:World} (h:Pw w):Pw w.drew:=h
theorem Pw.alloc {w:World} (h:Pw w) (o:Obj):Pw (w.alloc o):=Lib.tabIs_alloc h o
end Go.Proofs.YtcpldfimbhdfdaaGreatDoor
