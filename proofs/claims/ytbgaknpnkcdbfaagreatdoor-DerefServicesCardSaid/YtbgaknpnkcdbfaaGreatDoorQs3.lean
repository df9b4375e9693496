/- The texts that the proofs of these statements reach, in their order, as few files. -/
import Derived.Lib.LaidTab
import Derived.Lib.ItoaNum
import Derived.ChangeAgain
import Derived.Test.YtbgaknpnkcdbfaaGreatDoorProg
import Derived.Laws.Rows
import Derived.Lib.ItoaMem
import Derived.Lib.ItoaLen
import Derived.Lib.Walk
import Derived.Lib.ItoaWalk
import Derived.Lib.AppendIntMem
import Derived.BigCall
import Derived.BigGuard
import Derived.Test.YtbgaknpnkcdbfaaGreatDoorQs2
set_option linter.unusedVariables false
set_option linter.unusedSimpArgs false
set_option maxRecDepth 100000
namespace Go.Proofs.YtbgaknpnkcdbfaaGreatDoor.Sx
open Go.RowKit
open List renaming all_eq_true->zw, contains_iff_mem->jl, getD_eq_getElem?_getD->jz, getElem?_eq_getElem->zk, getElem?_set->za, getElem?_set_ne->zo, getElem?_set_self->zm, getElem_mem->jg, length_set->zh, length_take->zq, mem_cons->zv, mem_cons_of_mem->qp, mem_cons_self->xh, mem_filter->xq, mem_range->qy, not_mem_nil->ju, range->zi, replicate->qw, size_toArray->y8, take_zero->jy
open Nat renaming le_refl->ze, zero_le->zd
open Option renaming map_eq_some_iff->xt, some->zy
def BG (l:List SO) (anc:List (List Nat)) (i:Nat):Nat:=2*((zi l.length).filter fun j=>D0 (AA l j)&&CZ anc i j).length+(if D0 (AA l i)=true then 1 else 0)
def BE (l:List SO):List Nat:=(zi l.length).filter fun j=>D0 (AA l j)
def Nn (l:List SO) (deps anc:List (List Nat)):Bool :=
 (zi l.length).all (fun i=>(deps.getD i []).all (fun e=>decide (e<i))&&(anc.getD i []).all fun j=>(deps.getD i []).contains j||(deps.getD i []).any fun e=>(anc.getD e []).contains j) &&
 (zi l.length).all (fun i=>Az l i==none||(zi l.length).all fun j=>i==j||Az l j != Az l i) &&
 (zi l.length).all (fun i=>(AA l i).looks.all fun t=>(zi l.length).all fun j=>j==i||Az l j != some t||(anc.getD i []).contains j||(anc.getD j []).contains i) &&
 (zi l.length).all (fun i=>D0 (AA l i)||FQ (AA l i)) &&
 (zi l.length).all (fun i=>(zi l.length).all fun j=>!CZ anc i j||decide (BG l anc j<=BG l anc i)) &&
 (zi l.length).all (fun c=>!D0 (AA l c)||(zi l.length).all fun j=>j==c||decide (BG l anc j<BG l anc c)||CZ anc j c) &&
 (zi (BE l).length).all (fun k=>BG l anc ((BE l).getD k 0)==2*k+1) &&
 (zi l.length).all (fun i=>decide (BG l anc i<=2*(BE l).length)&&(!D0 (AA l i)||i==(BE l).getD (BG l anc i / 2) 0))
def BW (l:List SO) (anc:List (List Nat)) (k:Nat):List SO:=Cj l.length (fun i=>BG l anc i==2*k) l
def CU (P:Program) [Tabs P]:List (List SO×List AV×List AV)->List OB->Prop
 | [],_=>True
 | e::r,o=>Aw P e.1 o e.2.1 (fun _ x=>x=e.2.2)/\CU P r o
def Fc (P:Program) [Tabs P]:List (List SO×SO)->List (List SO×List AV×List AV)->List SO->List OB->List AV->(List OB->List AV->Prop)->Prop
 | [],_,last,o,t,K=>Aw P last o t K
 | (L,c)::r,hist,last,o,t,K=>Aw P L o t fun _ u=>Aw P [c] o u fun o' t'=>CU P ((L,t,u)::hist) o'/\Fc P r ((L,t,u)::hist) last o' t' K
def EQ (l:List SO) (anc:List (List Nat)):Nat->Nat->List (List SO×SO)
 | 0,_=>[]
 | r+1,k=>(BW l anc k,AA l ((BE l).getD k 0))::EQ l anc r (k+1)
section
variable {P:Program} [Tabs P]
theorem TQ:∀{h:List (List SO×List AV×List AV)} {o:List OB},CU P h o->∀e∈h,Aw P e.1 o e.2.1 (fun _ x=>x=e.2.2)
 | [],o,_,e,he=>by cases he
 | x::h,o,hr,e,he=>by
  rcases zv.1 he with rfl|he
  ·exact hr.1
  ·exact TQ hr.2 e he
theorem Kt:∀(pre:List SO) (objs:List OB) (tm:List AV) (F:List OB->List AV->Prop),(∀so∈pre,FQ so=true)->Aw P pre objs tm F->∃u,F objs u/\Aw P pre objs tm (fun _ x=>x=u)
 | [],objs,tm,F,_,h=>⟨tm,h,rfl⟩
 | so::pre,objs,tm,F,hc,h=>by
  obtain⟨d,op,rfl,c1,c2⟩:=KA (hc so (by simp));simp only[Aw] at h ⊢;obtain⟨v,h1,h2⟩:=Id c1 c2 h;obtain⟨u,k1,k2⟩:=Kt pre objs _ F (fun so hs=>hc so (qp _ hs)) h2;exact⟨u,k1,h1 _ k2⟩
end
abbrev EX:=List (List SO×List AV×List AV)
def oT (l:List SO) (anc:List (List Nat)) (tm:List AV) (e:List SO×List AV×List AV) (u:List AV) (j:Nat):Prop:=e.1=BW l anc j/\e.2.1.length=tm.length/\e.2.2.length=tm.length/\(∀s i,i<l.length->Az l i=some s->BG l anc i<2*j->e.2.1[s]? = u[s]?)/\(∀s,(∀i,i<l.length->BG l anc i<2*j->Az l i≠some s)->e.2.1[s]? = tm[s]?)/\∀s i,i<l.length->Az l i=some s->BG l anc i=2*j->e.2.2[s]? = u[s]?
def wC (l:List SO) (anc:List (List Nat)) (tm:List AV) (k:Nat) (hist:EX) (u:List AV):Prop:=u.length=tm.length/\(∀j,j<=k->∃e∈hist,oT l anc tm e u j)/\∀s,(∀i,i<l.length->BG l anc i<=2*k->Az l i≠some s)->u[s]? = tm[s]?
def G0 (P:Program) [Tabs P] (l:List SO) (anc:List (List Nat)) (m:Nat) (tm:List AV) (W:Nat->EX->List OB->List AV->Prop) (listed:Array Bool) (o:List OB) (t:List AV):Prop :=
 (∀j,j<l.length->listed.getD j false=true->∀e∈anc.getD j [],listed.getD e false=true)/\∃k hist u,k<=m/\(∀j,j<m->listed.getD ((BE l).getD j 0) false=decide (j<k))/\CU P hist o/\wC l anc tm k hist u/\W k hist o u/\FD l l.length listed u tm t
def FI (l:List SO) (anc:List (List Nat)):Bool :=
 (zi l.length).all (fun i=>Az l i==none||(zi l.length).all fun j=>i==j||Az l j != Az l i) &&
 (zi l.length).all (fun i=>(AA l i).looks.all fun t=>(zi l.length).all fun j=>j==i||Az l j != some t||(anc.getD i []).contains j||(anc.getD j []).contains i) &&
 (zi l.length).all (fun i=>D0 (AA l i)||FQ (AA l i)) &&
 (zi l.length).all (fun i=>(zi l.length).all fun j=>!CZ anc i j||decide (BG l anc j<=BG l anc i)) &&
 (zi l.length).all (fun c=>!D0 (AA l c)||(zi l.length).all fun j=>j==c||decide (BG l anc j<BG l anc c)||CZ anc j c) &&
 (zi (BE l).length).all (fun k=>BG l anc ((BE l).getD k 0)==2*k+1) &&
 (zi l.length).all (fun i=>decide (BG l anc i<=2*(BE l).length)&&(!D0 (AA l i)||i==(BE l).getD (BG l anc i / 2) 0)) &&
 (zi l.length).all (fun i=>(anc.getD i []).all fun j=>decide (j<i))
section
variable {P:Program} [Tabs P]
theorem Of (l:List SO) (anc:List (List Nat)) (hok:FI l anc=true) (m:Nat) (hmm:(BE l).length=m) (tm:List AV) (W:Nat->EX->List OB->List AV->Prop)
  (hWs:∀(k:Nat) (hist:EX) (o:List OB) (u:List AV),k<m->W k hist o u->Aw P [AA l ((BE l).getD k 0)] o u (fun o' t'=>CU P hist o'/\∃u',Aw P (BW l anc (k+1)) o' t' (fun _ x=>x=u')/\W (k+1) ((BW l anc (k+1),t',u')::hist) o' u')) :
  (∀(objs:List OB) (u:List AV),Aw P (BW l anc 0) objs tm (fun _ x=>x=u)->W 0 [(BW l anc 0,tm,u)] objs u->∀listed:Array Bool,(∀j,j<l.length->listed.getD j false=false)->G0 P l anc m tm W listed objs tm) /\
  (∀(listed:Array Bool) (o:List OB) (t:List AV) (i:Nat),l.length<=listed.size->i<l.length->listed.getD i false=false->(∀j∈anc.getD i [],listed.getD j false=true)->G0 P l anc m tm W listed o t->Aw P [AA l i] o t (fun o2 t2=>G0 P l anc m tm W (listed.setIfInBounds i true) o2 t2)) /\
  (∀(listed:Array Bool) (o:List OB) (t:List AV),(∀j,j<l.length->listed.getD j false=true)->G0 P l anc m tm W listed o t->∃hist,W m hist o t):=by
 unfold FI at hok;simp only[Bool.and_eq_true] at hok;obtain⟨⟨⟨⟨⟨⟨⟨hd2,hd3⟩,hkd⟩,hrk⟩,hcl⟩,hci⟩,hbd⟩,hlt⟩:=hok;simp only[Bool.and_eq_true,decide_eq_true_eq,zw,qy,Bool.or_eq_true,bne_iff_ne,ne_eq,beq_iff_eq,List.any_eq_true,jl,Bool.not_eq_true'] at hd2 hd3 hkd hrk hcl hci hbd hlt;have halt:∀i,i<l.length->∀j∈anc.getD i [],j<i:=fun i hi j hj=>hlt i hi j hj;have ancIff:∀i j,CZ anc i j=true↔j∈anc.getD i []:=fun i j=>by unfold CZ;exact jl
 have hdis:∀a b,a<l.length->b<l.length->a≠b->Az l a≠none->Az l a≠Az l b:=fun a b ha hb hab hn e=>by
  rcases hd2 a ha with h0|h0
  ·exact hn h0
  ·rcases h0 b hb with h1|h1
   ·exact hab h1
   ·exact h1 e.symm
 have only:∀s j j',j<l.length->j'<l.length->Az l j=some s->Az l j'=some s->j'=j:=by
  intro s j j' h1 h2 h3 h4
  by_cases e:j'=j
  ·exact e
  ·exact absurd (h4.trans h3.symm) (hdis j' j h2 h1 e (by rw[h4];simp))
 have hrk':∀i j,i<l.length->j<l.length->j∈anc.getD i []->BG l anc j<=BG l anc i:=by
  intro i j hi hj hm;rcases hrk i hi j hj with h0|h0
  ·rw[(ancIff i j).2 hm] at h0;cases h0
  ·exact h0
 have evenOdd:∀i,BG l anc i % 2=if D0 (AA l i)=true then 1 else 0:=by
  intro i;unfold BG;split<;>omega
 have calmOf:∀i,i<l.length->∀j,BG l anc i=2*j->∃d op,AA l i=⟨some d,op,none⟩/\op.calm=true/\op.isCall=false:=by
  intro i hi j hj;have:=evenOdd i;rw[hj] at this;have hn:¬D0 (AA l i)=true:=fun h=>by rw[if_pos h] at this;omega
  rcases hkd i hi with h0|h0
  ·exact absurd h0 hn
  ·exact KA h0
 have lvCalm:∀k,∀so∈BW l anc k,FQ so=true:=by
  intro k so hs;obtain⟨i,hi,hp,rfl⟩:=IV.1 hs;have hp:BG l anc i=2*k:=by simpa using hp
  have:=evenOdd i;have hn:¬D0 (AA l i)=true:=fun h=>by rw[if_pos h] at this;omega
  rcases hkd i hi with h0|h0
  ·exact absurd h0 hn
  ·exact h0
 have lvNd:∀k,((BW l anc k).map (·.dst)).Nodup:=by
  intro k;unfold BW Cj;rw[List.map_map];have h0:((zi l.length).filter (fun i=>BG l anc i==2*k)).Nodup:=List.nodup_range.sublist List.filter_sublist;refine List.Pairwise.map _ ?_ (List.Pairwise.and_mem.1 h0);rintro a b ⟨ha,hb,hab⟩ e;rw[xq,qy] at ha hb;obtain⟨d,op,e1,_⟩:=calmOf a ha.1 k (by simpa using ha.2);refine hdis a b ha.1 hb.1 hab ?_ ?_
  ·rw[Do ha.1,e1];simp
  ·rw[Do ha.1,Do hb.1];exact e
 simp only[hmm] at hci hbd;have cMem:∀k,k<m->(BE l).getD k 0<l.length/\D0 (AA l ((BE l).getD k 0))=true:=by
  intro k hk;have h0:(BE l).getD k 0∈BE l:=by
   rw[jz,zk (by omega)];exact jg _
  unfold BE at h0 ⊢;rw[xq,qy] at h0;exact h0
 let ci:Nat->Nat:=fun k=>(BE l).getD k 0
 have ciRk:∀k,k<m->BG l anc (ci k)=2*k+1:=fun k hk=>hci k hk;have callIs:∀i,i<l.length->D0 (AA l i)=true->∃k,k<m/\i=ci k:=by
  intro i hi hc;have h1:=(hbd i hi).1;have h2:=evenOdd i;rw[if_pos hc] at h2;rcases(hbd i hi).2 with h0|h0
  ·rw[hc] at h0;cases h0
  ·exact⟨BG l anc i / 2,by omega,h0⟩
 have level:∀(k:Nat) (o:List OB) (tb u:List AV),tb.length=tm.length->Aw P (BW l anc k) o tb (fun _ x=>x=u)->u.length=tm.length/\∀s,(∀i,i<l.length->BG l anc i=2*k->Az l i≠some s)->u[s]? = tb[s]?:=by
  intro k o tb u htb hu;obtain⟨u',rfl,h2,h3,_⟩:=Kk _ _ _ _ (lvCalm k) (lvNd k) hu;refine⟨h2.trans htb,fun s hs=>h3 s fun so hso e=>?_⟩;obtain⟨i,g1,g2,rfl⟩:=IV.1 hso;exact hs i g1 (by simpa using g2) (by rw[Do g1];exact e)
 have agree:∀(listed:Array Bool) (x1 t:List AV) (i:Nat),i<l.length->listed.getD i false=false->(∀j∈anc.getD i [],listed.getD j false=true)->(∀j,j<l.length->listed.getD j false=true->∀e∈anc.getD j [],listed.getD e false=true)->FD l l.length listed x1 tm t ->
   ∀s∈(AA l i).looks,((∀j,j<l.length->Az l j=some s->listed.getD j false=true/\j∈anc.getD i []/\t[s]? = x1[s]?)\/(∃j,j<l.length/\Az l j=some s/\(j=i\/i∈anc.getD j [])/\listed.getD j false=false/\t[s]? = tm[s]?))/\((∀j,j<l.length->Az l j≠some s)->t[s]? = tm[s]?):=by
  intro listed x1 t i hi hun hanc hclo hmix s hs;refine⟨?_,fun hno=>hmix.2.2 s fun j g1 _=>hno j g1⟩
  by_cases hj:∃j,j<l.length/\Az l j=some s
  ·obtain⟨j,hj1,hj2⟩:=hj;have tmcase:listed.getD j false=false->t[s]? = tm[s]?:=fun hu=>
    hmix.2.2 s fun j' g1 g2 g3=>by rw[only s j j' hj1 g1 hj2 g3,hu] at g2;cases g2
   rcases hd3 i hi s hs j hj1 with ((g|g)|g)|g
   ·subst g;exact .inr ⟨j,hj1,hj2,.inl rfl,hun,tmcase hun⟩
   ·exact absurd hj2 g
   ·left;intro j' g1 g2;obtain rfl:=only s j j' hj1 g1 hj2 g2;exact⟨hanc _ g,g,hmix.2.1 s _ hj1 (hanc _ g) hj2⟩
   ·have hu:listed.getD j false=false:=by
     cases hq:listed.getD j false with
     | false=>rfl
     | true=>
      have:=hclo j hj1 hq i g;rw[hun] at this;cases this
    exact .inr ⟨j,hj1,hj2,.inr g,hu,tmcase hu⟩
  ·exact .inl fun j g1 g2=>absurd ⟨j,g1,g2⟩ hj
 have evOf:∀(i:Nat) (t ti:List AV),(∀s∈(AA l i).looks,t[s]? = ti[s]?)->∀x∈(AA l i).op.svs,x.ev t=x.ev ti:=by
  intro i t ti hs x hx
  cases x with
  | c v=>rfl
  | t s=>
   simp only[SV.ev];rw[hs s (List.mem_append_left _ (List.mem_filterMap.2 ⟨_,hx,rfl⟩))]
 have hge:∀i j,i<l.length->j<l.length->(j=i\/i∈anc.getD j [])->BG l anc i<=BG l anc j:=by
  rintro i j hi hj (rfl|h)
  ·exact ze _
  ·exact hrk' j i hj hi h
 refine⟨?_,?_,?_⟩
 ·intro objs u hu hW listed hall;obtain⟨q1,q3⟩:=level 0 objs tm u rfl hu;refine⟨(fun j hj hl=>by rw[hall j hj] at hl;cases hl),0,[(BW l anc 0,tm,u)],u,zd _,(fun j hj=>by rw[hall _ (cMem j hj).1];symm;exact decide_eq_false (by omega)),⟨hu,trivial⟩,⟨q1,?_,?_⟩,hW,rfl,(fun s j hj hl=>?_),(fun s _=>rfl)⟩
  ·intro j hj;obtain rfl:j=0:=by omega
   exact⟨_,xh ..,rfl,rfl,q1,(fun s i hi hd hr=>by omega),(fun s _=>rfl),fun s i hi hd hr=>rfl⟩
  ·intro s hs;exact q3 s fun i hi hr=>hs i hi (by omega)
  ·rw[hall j hj] at hl;cases hl
 ·intro listed o t i hs hi hun hanci hT;obtain⟨hclo,k,hist,u,hk,hck,hrc,⟨hul,hent,hout⟩,hcont,hmix⟩:=hT;have hset:∀j,(listed.setIfInBounds i true).getD j false=if j=i then true else listed.getD j false:=fun j=>IU listed i j false (by omega)
  have hclo':∀j,j<l.length->(listed.setIfInBounds i true).getD j false=true->∀e∈anc.getD j [],(listed.setIfInBounds i true).getD e false=true:=by
   intro j hj hl e he;rw[hset] at hl ⊢
   split
   ·rfl
   ·split at hl
    ·rename_i e1;subst e1;exact hanci e he
    ·exact hclo j hj hl e he
  have low:∀j,j<l.length->(∀e∈anc.getD j [],listed.getD e false=true)->k<m->j≠ci k->BG l anc j<=2*k:=by
   intro j hj ha hkm hne;rcases hcl (ci k) (cMem k hkm).1 with h0|h0
   ·rw[(cMem k hkm).2] at h0;cases h0
   ·rcases h0 j hj with (h1|h1)|h1
    ·exact absurd h1 hne
    ·rw[ciRk k hkm] at h1;omega
    ·have:=ha _ ((ancIff j _).1 h1);rw[hck k hkm] at this;have:=of_decide_eq_true this;omega
  by_cases hcc:D0 (AA l i)=true
  ·-- a call
   obtain⟨k',hk',rfl⟩:=callIs i hi hcc;have hkk:k'=k:=by
    have e1:=hck k' hk';rw[hun] at e1;have e1:=of_decide_eq_false e1.symm;rcases Nat.lt_or_ge k k' with h0|h0
    ·have h1:=low (ci k') hi hanci (by omega) (fun e=>by
      have a1:=ciRk k' hk';have a2:=ciRk k (by omega);rw[e] at a1;omega)
     rw[ciRk k' hk'] at h1;omega
    ·omega
   subst hkk;have hcont:=hWs k' hist o u hk' hcont;obtain⟨cd,cop,hce,hcop⟩:=Rj hcc;have hcd:Az l (ci k')=some cd:=by rw[Do hi,hce]
   have hlook:∀s∈(AA l (ci k')).looks,t[s]? = u[s]?:=by
    intro s hs;obtain⟨w1,w2⟩:=agree listed u t (ci k') hi hun hanci hclo hmix s hs
    by_cases hj:∃j,j<l.length/\Az l j=some s
    ·obtain⟨j,hj1,hj2⟩:=hj;rcases w1 with w1|⟨j',g1,g2,g3,g4,g5⟩
     ·exact(w1 j hj1 hj2).2.2
     ·rw[g5];refine(hout s fun i' q1 q2 q3=>?_).symm;have:=only s j' i' g1 q1 g2 q3;subst this;have:=hge (ci k') i' hi q1 g3;rw[ciRk k' hk'] at this;omega
    ·rw[w2 fun j g1 g2=>hj ⟨j,g1,g2⟩,hout s fun j g1 _ g2=>hj ⟨j,g1,g2⟩]
   have hev:=evOf (ci k') t u hlook;rw[show AA l ((BE l).getD k' 0)=_ from hce] at hcont;rw[hce] at hev ⊢;simp only[Aw,AS] at hcont ⊢;rw[I3 hev];refine RG hcop (fun o2 v hq=>?_) hcont;obtain⟨hq1,u',hq2,hq3⟩:=hq;have hub:∀s,(∀i,i<l.length->BG l anc i<2*(k'+1)->Az l i≠some s)->(u.set cd v)[s]? = tm[s]?:=by
    intro s hs;have hne:¬cd=s:=fun e=>hs (ci k') hi (by rw[ciRk k' hk'];omega) (by rw[hcd,e]);rw[zo hne];exact hout s fun i' g1 g2=>hs i' g1 (by omega)
   obtain⟨q1,q3⟩:=level (k'+1) o2 (u.set cd v) u' (by rw[zh];exact hul) hq2;have hkeep:∀s i',i'<l.length->Az l i'=some s->BG l anc i'<=2*k'->u'[s]? = u[s]?:=by
    intro s i' g1 g2 g3;rw[q3 s fun i2 w1 w2 w3=>by
     have:=only s i' i2 g1 w1 g2 w3;subst this;omega]
    refine zo fun e=>?_;have:=only s i' (ci k') g1 hi g2 (by rw[hcd,e]);rw[<-this,ciRk k' hk'] at g3;omega
   refine⟨hclo',k'+1,(BW l anc (k'+1),u.set cd v,u')::hist,u',by omega,fun j hj=>?_,⟨hq2,hq1⟩,⟨q1,fun j hj=>?_,fun s hs=>?_⟩,hq3,?_⟩
   ·rw[hset]
    by_cases e:j=k'
    ·subst e;rw[if_pos rfl];symm;exact decide_eq_true (by omega)
    ·rw[if_neg (fun h=>e (by
      have a1:BG l anc ((BE l).getD j 0)=2*j+1:=ciRk j hj;have a2:=ciRk k' hk';rw[h] at a1;omega)),hck j hj]
     congr 1;apply propext;omega
   ·by_cases e:j=k'+1
    ·subst e;refine⟨_,xh ..,rfl,by rw[zh];exact hul,q1,fun s i' g1 g2 g3=>?_,hub,fun s i' g1 g2 g3=>rfl⟩;exact(q3 s fun i2 w1 w2 w3=>by
      have:=only s i' i2 g1 w1 g2 w3;subst this;omega).symm
    ·obtain⟨en,h1,h2,h3,h4,h5,h6,h7⟩:=hent j (by omega);refine⟨en,qp _ h1,h2,h3,h4,fun s i' g1 g2 g3=>?_,h6,fun s i' g1 g2 g3=>?_⟩
     ·rw[h5 s i' g1 g2 g3,hkeep s i' g1 g2 (by omega)]
     ·rw[h7 s i' g1 g2 g3,hkeep s i' g1 g2 (by omega)]
   ·rw[q3 s fun i' g1 g2=>hs i' g1 (by omega)];exact hub s fun i' g1 g2=>hs i' g1 (by omega)
   ·have hm2:FD l l.length listed u' tm t:=by
     refine⟨hmix.1,fun s j hj hl hd=>?_,hmix.2.2⟩;have hjl:=low j hj (hclo j hj hl) hk' (fun e=>by rw[e,hun] at hl;cases hl);rw[hkeep s j hj hd hjl];exact hmix.2.1 s j hj hl hd
    refine hm2.step hi (by omega) hcd hdis hun (fun hlt=>?_) q1;rw[q3 cd fun i2 w1 w2 w3=>by
     have:=only cd (ci k') i2 hi w1 hcd w3;subst this;rw[ciRk k' hk'] at w2;omega]
    exact zm (by omega)
  ·-- a calm operation
   have hrke:∃j,BG l anc i=2*j:=by
    have:=evenOdd i;rw[if_neg hcc] at this;exact⟨BG l anc i / 2,by omega⟩
   obtain⟨j,hj⟩:=hrke;have hjk:j<=k:=by
    by_cases hkm:k=m
    ·have:=(hbd i hi).1;omega
    ·have h1:=low i hi hanci (by omega) (fun e=>by
      have:=ciRk k (by omega);rw[<-e] at this;omega)
     omega
   obtain⟨d,op,hso2,c1,c2⟩:=calmOf i hi j hj;have hdi:Az l i=some d:=by rw[Do hi,hso2]
   obtain⟨⟨L,b,x⟩,he1,rfl,he3,he4,he5,he6,he7⟩:=hent j hjk;simp only at he3 he4 he5 he6 he7;have hrun:=TQ hrc _ he1;simp only at hrun;obtain⟨x',rfl,hxl,hxo,hseq⟩:=Kk _ _ _ _ (lvCalm j) (lvNd j) hrun;have hp:(fun i=>BG l anc i==2*j) i=true:=by simpa using hj
   obtain⟨B,hB1,_,_⟩:=Ps (p:=fun i=>BG l anc i==2*j) l hi hp;obtain⟨ti,v,m1,m2,m3,m4⟩:=hseq _ _ _ (hB1 _ hp);have hA:∀a,a∈Cj i (fun i=>BG l anc i==2*j) l↔∃j',j'<i/\BG l anc j'=2*j/\AA l j'=a:=fun a=>by
    rw[IV];simp
   have hlook:∀s∈(AA l i).looks,t[s]? = ti[s]?:=by
    intro s hs;obtain⟨w1,w2⟩:=agree listed u t i hi hun hanci hclo hmix s hs
    by_cases hjx:∃j,j<l.length/\Az l j=some s
    ·obtain⟨j',hj1,hj2⟩:=hjx;rcases w1 with w1|⟨j2,g1,g2,g3,g4,g5⟩
     ·obtain⟨_,q2,q3⟩:=w1 j' hj1 hj2;have hji:=halt i (by omega) j' q2;have hr:=hrk' i j' hi hj1 q2;rw[q3]
      by_cases e:BG l anc j'=2*j
      ·rw[m2 s ⟨_,(hA _).2 ⟨j',hji,e,rfl⟩,by rw[<-Do hj1];exact hj2⟩];exact(he7 s j' hj1 hj2 e).symm
      ·rw[m3 s fun a ha e2=>by
        obtain⟨j3,z1,z2,rfl⟩:=(hA a).1 ha;have:=only s j' j3 hj1 (by omega) hj2 (by rw[Do (by omega)];exact e2);subst this;exact e z2]
       exact(he5 s j' hj1 hj2 (by omega)).symm
     ·have hr:=hge i j2 hi g1 g3;rw[g5];rw[m3 s fun a ha e2=>by
       obtain⟨j3,z1,z2,rfl⟩:=(hA a).1 ha;have:=only s j2 j3 g1 (by omega) g2 (by rw[Do (by omega)];exact e2);subst this;rcases g3 with rfl|g3
       ·omega
       ·have:=halt j3 (by omega) i g3;omega]
      refine(he6 s fun i2 z1 z2 z3=>?_).symm;have:=only s j2 i2 g1 z1 g2 z3;subst this;omega
    ·rw[w2 fun j g1 g2=>hjx ⟨j,g1,g2⟩];rw[m3 s fun a ha e2=>by
      obtain⟨j3,z1,z2,rfl⟩:=(hA a).1 ha;exact hjx ⟨j3,by omega,by rw[Do (by omega)];exact e2⟩]
     exact(he6 s fun i2 z1 _ z3=>hjx ⟨i2,z1,z3⟩).symm
   have hev:=evOf i t ti hlook;have hv:d<tm.length->u[d]? = some v:=fun hlt=>by
    rw[<-he7 d i hi hdi hj];exact m4 d (by rw[hso2]) (by omega)
   rw[hso2] at hev m1 ⊢;rw[<-I3 hev] at m1;simp only[Aw,AS];obtain⟨y,g3,_,rfl⟩:=Id c1 c2 m1;refine g3 _ ⟨hclo',k,hist,u,hk,fun j' hj'=>?_,hrc,⟨hul,hent,hout⟩,hcont,hmix.step hi (by omega) hdi hdis hun hv hul⟩;rw[hset,if_neg (fun e=>hcc (by rw[<-e];exact(cMem j' hj').2))];exact hck j' hj'
 ·intro listed o t hall hT;obtain⟨hclo,k,hist,u,hk,hck,hrc,⟨hul,hent,hout⟩,hcont,hmix⟩:=hT;have hkm:k=m:=by
   rcases Nat.lt_or_ge k m with h0|h0
   ·have:=hck k h0;rw[hall _ (cMem k h0).1] at this;have:=of_decide_eq_true this.symm;omega
   ·omega
  subst hkm;have:t=u:=by
   refine List.ext_getElem? fun s=>?_
   by_cases hj:∃j,j<l.length/\Az l j=some s
   ·obtain⟨j,hj1,hj2⟩:=hj;exact hmix.2.1 s j hj1 (hall j hj1) hj2
   ·rw[hmix.2.2 s fun j g1 _ g3=>hj ⟨j,g1,g3⟩,hout s fun j g1 _ g3=>hj ⟨j,g1,g3⟩]
  rw[this];exact⟨hist,hcont⟩
def DO (d:Nat) (p:AV) (h:EX):EX:=h.map fun e=>(e.1,e.2.1.set d p,e.2.2.set d p)
theorem JA {a b:List AV} {d s:Nat} {p:AV} (hl:a.length=b.length) (h:s≠d->a[s]? = b[s]?):(a.set d p)[s]? = (b.set d p)[s]?:=by
 by_cases e:s=d
 ·subst e;rw[za,za,hl,if_pos rfl,if_pos rfl]
 ·rw[zo (fun h=>e h.symm),zo (fun h=>e h.symm)];exact h e
theorem aW {l:List SO} {anc:List (List Nat)} {m:Nat} {tm:List AV} {W0 W1:Nat->EX->List OB->List AV->Prop} {listed:Array Bool} {o:List OB} {t:List AV} {d:Nat} {p:AV} {B:OB} (hd:∀i,i<l.length->Az l i≠some d)
  (hW:∀(k:Nat) (hist:EX) (u:List AV),W0 k hist o u->CU P (DO d p hist) (o++[B])/\W1 k (DO d p hist) (o++[B]) (u.set d p)) (h:G0 P l anc m tm W0 listed o t):G0 P l anc m (tm.set d p) W1 listed (o++[B]) (t.set d p):=by
 obtain⟨hclo,k,hist,u,hk,hck,hrc,⟨hul,hent,hout⟩,hw,hmix⟩:=h;obtain⟨h1,h2⟩:=hW k hist u hw;refine⟨hclo,k,DO d p hist,u.set d p,hk,hck,h1,⟨by rw[zh,zh];exact hul,fun j hj=>?_,fun s hs=>JA hul fun _=>hout s hs⟩,h2,?_⟩
 ·obtain⟨e,he,q1,q2,q3,q4,q5,q6⟩:=hent j hj;refine⟨(e.1,e.2.1.set d p,e.2.2.set d p),List.mem_map.2 ⟨e,he,rfl⟩,q1,by rw[zh,zh];exact q2,by rw[zh,zh];exact q3,fun s i hi hds hr=>?_,fun s hs=>JA q2 fun _=>q5 s hs,fun s i hi hds hr=>?_⟩
  ·exact JA (q2.trans hul.symm) fun _=>q4 s i hi hds hr
  ·exact JA (q3.trans hul.symm) fun _=>q6 s i hi hds hr
 ·obtain⟨m1,m2,m3⟩:=hmix;exact⟨by rw[zh,zh];exact m1,fun s j hj hl hds=>JA (m1.trans hul.symm) fun _=>m2 s j hj hl hds,fun s hs=>JA m1 fun _=>m3 s hs⟩
section
variable (P)
def F0 (d:Nat) (T:TypeId) (z:List AV):List (List SO×SO)->EX->List SO->List OB->List AV->(List OB->List AV->Prop)->Prop
 | [],hist,last,o,t,K=>Aw P last o t fun _ u=>CU P (DO d (.p o.length 0) ((last,t,u)::hist)) (o++[.box T z])/\K (o++[.box T z]) (u.set d (.p o.length 0))
 | (L,c)::r,hist,last,o,t,K=>Aw P L o t fun _ u=>
  (CU P (DO d (.p o.length 0) ((L,t,u)::hist)) (o++[.box T z])/\Aw P [c] (o++[.box T z]) (u.set d (.p o.length 0)) fun o' t'=>CU P (DO d (.p o.length 0) ((L,t,u)::hist)) o'/\Fc P r (DO d (.p o.length 0) ((L,t,u)::hist)) last o' t' K) /\
  Aw P [c] o u fun o' t'=>CU P ((L,t,u)::hist) o'/\F0 d T z r ((L,t,u)::hist) last o' t' K
end
theorem LJ {l:List SO} {anc:List (List Nat)} (hok:FI l anc=true) (k:Nat):∀so∈BW l anc k,FQ so=true:=by
 intro so hs;unfold FI at hok;simp only[Bool.and_eq_true] at hok;obtain⟨⟨⟨⟨⟨⟨⟨_,_⟩,hkd⟩,_⟩,_⟩,_⟩,_⟩,_⟩:=hok;simp only[zw,qy,Bool.or_eq_true] at hkd;obtain⟨i,hi,hp,rfl⟩:=IV.1 hs;have hp:BG l anc i=2*k:=by simpa using hp
 have hn:¬D0 (AA l i)=true:=fun h=>by unfold BG at hp;rw[if_pos h] at hp;omega
 rcases hkd i hi with h0|h0
 ·exact absurd h0 hn
 ·exact h0
theorem Sz {l:List SO} {k:Nat} (hk:k<(BE l).length):D0 (AA l ((BE l).getD k 0))=true:=by
 have h0:(BE l).getD k 0∈BE l:=by
  rw[jz,zk hk];exact jg _
 unfold BE at h0 ⊢;rw[xq,qy] at h0;exact h0.2
theorem MR {so:SO} (h:D0 so=true\/FQ so=true) {o:List OB} {t:List AV} {F F':List OB->List AV->Prop} (hk:∀o t,F o t->F' o t) (hw:Aw P [so] o t F):Aw P [so] o t F':=by
 rcases h with h|h
 ·obtain⟨d,op,rfl,h1⟩:=Rj h;simp only[Aw] at hw ⊢;exact RG h1 (fun o v hq=>hk _ _ hq) hw
 ·obtain⟨d,op,rfl,c1,c2⟩:=KA h;simp only[Aw] at hw ⊢;obtain⟨v,h1,h2⟩:=Id c1 c2 hw;exact h1 _ (hk _ _ h2)
section
variable (P)
def EK (l:List SO) (anc:List (List Nat)) (m:Nat) (Kf:List OB->List AV->Prop) (k:Nat) (hist:EX) (o:List OB) (u:List AV):Prop :=
 if k=m then Kf o u else Aw P [AA l ((BE l).getD k 0)] o u fun o' t'=>CU P hist o'/\Fc P (EQ l anc (m - k - 1) (k+1)) hist (BW l anc m) o' t' Kf
def J7 (d:Nat) (T:TypeId) (z:List AV) (l:List SO) (anc:List (List Nat)) (m:Nat) (Kf:List OB->List AV->Prop) (k:Nat) (hist:EX) (o:List OB) (u:List AV):Prop :=
 (CU P (DO d (.p o.length 0) hist) (o++[.box T z])/\EK P l anc m Kf k (DO d (.p o.length 0) hist) (o++[.box T z]) (u.set d (.p o.length 0))) /\
 (k<m->Aw P [AA l ((BE l).getD k 0)] o u fun o' t'=>CU P hist o'/\F0 P d T z (EQ l anc (m - k - 1) (k+1)) hist (BW l anc m) o' t' Kf)
end
theorem Q8 {l:List SO} {anc:List (List Nat)} (hok:FI l anc=true) {m:Nat} {Kf:List OB->List AV->Prop} {k:Nat} (hk:k<=m) {hist:EX} {o:List OB} {t:List AV} (h:Fc P (EQ l anc (m - k) k) hist (BW l anc m) o t Kf):∃u,Aw P (BW l anc k) o t (fun _ x=>x=u)/\EK P l anc m Kf k ((BW l anc k,t,u)::hist) o u:=by
 by_cases hkm:k=m
 ·subst hkm;rw[Nat.sub_self] at h;simp only[EQ,Fc] at h;obtain⟨u,h1,h2⟩:=Kt _ _ _ _ (LJ hok k) h;exact⟨u,h2,by unfold EK;rw[if_pos rfl];exact h1⟩
 ·obtain⟨r,hr⟩:∃r,m - k=r+1:=⟨m - k - 1,by omega⟩;rw[hr] at h;simp only[EQ,Fc] at h;obtain⟨u,h1,h2⟩:=Kt _ _ _ _ (LJ hok k) h;refine⟨u,h2,?_⟩;unfold EK;rw[if_neg hkm,hr,Nat.add_sub_cancel];exact h1
theorem Q7 {d:Nat} {T:TypeId} {z:List AV} {l:List SO} {anc:List (List Nat)} (hok:FI l anc=true) {m:Nat} {Kf:List OB->List AV->Prop} {k:Nat} (hk:k<=m) {hist:EX} {o:List OB} {t:List AV} (h:F0 P d T z (EQ l anc (m - k) k) hist (BW l anc m) o t Kf):∃u,Aw P (BW l anc k) o t (fun _ x=>x=u)/\J7 P d T z l anc m Kf k ((BW l anc k,t,u)::hist) o u:=by
 by_cases hkm:k=m
 ·subst hkm;rw[Nat.sub_self] at h;simp only[EQ,F0] at h;obtain⟨u,h1,h2⟩:=Kt _ _ _ (fun _ u=>CU P (DO d (.p o.length 0) ((BW l anc k,t,u)::hist)) (o++[.box T z])/\Kf (o++[.box T z]) (u.set d (.p o.length 0))) (LJ hok k) h;refine⟨u,h2,⟨h1.1,?_⟩,fun h=>absurd h (Nat.lt_irrefl _)⟩;unfold EK;rw[if_pos rfl];exact h1.2
 ·obtain⟨r,hr⟩:∃r,m - k=r+1:=⟨m - k - 1,by omega⟩;rw[hr] at h;simp only[EQ,F0] at h;obtain⟨u,h1,h2⟩:=Kt _ _ _ (fun _ u=>(CU P (DO d (.p o.length 0) ((BW l anc k,t,u)::hist)) (o++[.box T z])/\Aw P [AA l ((BE l).getD k 0)] (o++[.box T z]) (u.set d (.p o.length 0)) fun o' t'=>CU P (DO d (.p o.length 0) ((BW l anc k,t,u)::hist)) o'/\Fc P (EQ l anc r (k+1)) (DO d (.p o.length 0) ((BW l anc k,t,u)::hist)) (BW l anc m) o' t' Kf) /\
   Aw P [AA l ((BE l).getD k 0)] o u fun o' t'=>CU P ((BW l anc k,t,u)::hist) o'/\F0 P d T z (EQ l anc r (k+1)) ((BW l anc k,t,u)::hist) (BW l anc m) o' t' Kf) (LJ hok k) h
  refine⟨u,h2,⟨h1.1.1,?_⟩,fun _=>?_⟩
  ·unfold EK;rw[if_neg hkm,hr,Nat.add_sub_cancel];exact h1.1.2
  ·rw[hr,Nat.add_sub_cancel];exact h1.2
theorem Xm {l:List SO} {anc:List (List Nat)} (hok:FI l anc=true) {m:Nat} (hmm:(BE l).length=m) {Kf:List OB->List AV->Prop} (k:Nat) (hist:EX) (o:List OB) (u:List AV) (hk:k<m) (h:EK P l anc m Kf k hist o u):Aw P [AA l ((BE l).getD k 0)] o u (fun o' t'=>CU P hist o'/\∃u',Aw P (BW l anc (k+1)) o' t' (fun _ x=>x=u')/\EK P l anc m Kf (k+1) ((BW l anc (k+1),t',u')::hist) o' u'):=by
 unfold EK at h;rw[if_neg (by omega)] at h;refine MR (.inl (Sz (by omega))) (fun o' t' hq=>⟨hq.1,Q8 hok (by omega) (by rw[show m - (k+1)=m - k - 1 by omega];exact hq.2)⟩) h
theorem rL {d:Nat} {T:TypeId} {z:List AV} {l:List SO} {anc:List (List Nat)} (hok:FI l anc=true) {m:Nat} (hmm:(BE l).length=m) {Kf:List OB->List AV->Prop} (k:Nat) (hist:EX) (o:List OB) (u:List AV) (hk:k<m) (h:J7 P d T z l anc m Kf k hist o u):Aw P [AA l ((BE l).getD k 0)] o u (fun o' t'=>CU P hist o'/\∃u',Aw P (BW l anc (k+1)) o' t' (fun _ x=>x=u')/\J7 P d T z l anc m Kf (k+1) ((BW l anc (k+1),t',u')::hist) o' u') :=
 MR (.inl (Sz (by omega))) (fun o' t' hq=>⟨hq.1,Q7 hok (by omega) (by rw[show m - (k+1)=m - k - 1 by omega];exact hq.2)⟩) (h.2 hk)
end
def Qr:SO:=⟨some 1000003,.mv (.c .nil),none⟩
def CA (l:List SO) (al:Nat):List SO:=(l.take (l.length - 1)).set al Qr
def MX (so:SO):Option (Nat×TypeId×List AV):=match so with
 | ⟨some d,.alloc T z,none⟩=>some (d,T,z)
 | _=>none
def W6 (so:SO):Bool:=match so with
 | ⟨none,.store _ (.t _) (.t _),none⟩=>true
 | _=>false
def Lk (l:List SO) (deps anc:List (List Nat)) (al d:Nat):Bool :=
 (zi l.length).all (fun i=>(deps.getD i []).all (fun e=>decide (e<i))&&(anc.getD i []).all fun j=>(deps.getD i []).contains j||(deps.getD i []).any fun e=>(anc.getD e []).contains j) &&
 decide (al+1<l.length)&&W6 (AA l (l.length - 1))&&(zi (l.length - 1)).all (fun j=>CZ anc (l.length - 1) j) &&
 (zi (l.length - 1)).all (fun i=>i==al||(Az l i != some d))&&(anc.getD al []).isEmpty &&
 FI (CA l al) anc&&decide (d<1000003)
theorem XO (l:List SO) (al:Nat):(CA l al).length=l.length - 1:=by unfold CA;rw[zh,zq];omega
theorem LD {l:List SO} {al i:Nat} (hi:i<l.length - 1) (hne:i≠al):AA (CA l al) i=AA l i:=by
 unfold AA CA;rw[zo (fun e=>hne e.symm),List.getElem?_take_of_lt hi]
theorem QP {l:List SO} {al:Nat} (hi:al<l.length - 1):AA (CA l al) al=Qr:=by
 unfold AA CA;rw[zm (by rw[zq];omega)];rfl
section
variable {P:Program} [Tabs P] {C:Cx} [On P C] {K:Bp}
theorem tS (id:Nat) (ops:Array Oper) (l:List SO) (hl:ops.toList.mapM (EI P ops.toList)=some l) (al d:Nat) (T:TypeId) (z:List AV) (hal:MX (AA l al)=some (d,T,z)) (hok:Lk l (ops.toList.map Be) (B0 (ops.toList.map Be)) al d=true) (hm:P.follows .mixedOrders=true) {objs:List OB} {tm:List AV} (htl:tm.length<=1000003)
  (h:F0 P d T z (EQ (CA l al) (B0 (ops.toList.map Be)) (BE (CA l al)).length 0) [] (BW (CA l al) (B0 (ops.toList.map Be)) (BE (CA l al)).length) objs tm fun o t=>Aw P [AA l (l.length - 1)] o t fun o t=>K .normal o t):∀a w,Eo C objs tm a w->(Code.region id ops true).wp P (CJ C K) a w:=by
 have hnl:ops.size=l.length:=by
  have:=(JJ _ _ _ hl).1;simpa using this
 unfold Lk at hok;simp only[Bool.and_eq_true] at hok;obtain⟨⟨⟨⟨⟨⟨⟨hd1,halt⟩,hst⟩,hlast⟩,hdd⟩,hae⟩,htv⟩,hdlt⟩:=hok;have hdlt:d<1000003:=of_decide_eq_true hdlt;have halt:al+1<l.length:=of_decide_eq_true halt;have hpre:GI l (ops.toList.map Be) (B0 (ops.toList.map Be)) 0=true:=by
  unfold GI;simp only[Bool.and_eq_true];exact⟨⟨⟨⟨⟨⟨by simp,hd1⟩,by simp⟩,by simp⟩,by simp⟩,by simp⟩,by simp[Jv]⟩
 have hap0:∀an,Gi l an 0=[]:=fun an=>by simp[Gi]
 simp only[zw,qy,Bool.or_eq_true,bne_iff_ne,ne_eq,beq_iff_eq] at hlast hdd;have hfin:=Mu (P:=P) (C:=C) (K:=K) id ops l l hl (.inl rfl) 0 hpre hm (objs:=objs) (tm:=tm);generalize B0 (ops.toList.map Be)=anc at *;clear hd1 hpre;have hso:AA l al=⟨some d,.alloc T z,none⟩:=by
  generalize AA l al=so at hal;unfold MX at hal
  split at hal
  ·injection hal with hal;injection hal with h1 h2;injection h2 with h2 h3;subst h1 h2 h3;rfl
  ·cases hal
 obtain⟨s1,e,u0,hstore⟩:∃s1 e u0,AA l (l.length - 1)=⟨none,.store s1 (.t e) (.t u0),none⟩:=by
  generalize AA l (l.length - 1)=so at hst;unfold W6 at hst
  split at hst
  ·exact⟨_,_,_,rfl⟩
  ·cases hst
 have hn0:=XO l al;have hd0:∀i,i<(CA l al).length->Az (CA l al) i≠some d\/i=al:=by
  intro i hi
  by_cases e:i=al
  ·exact .inr e
  ·left;rw[Do hi,LD (by omega) e,<-Do (by omega)];rcases hdd i (by omega) with h0|h0
   ·exact absurd h0 e
   ·exact h0
 generalize hM:(BE (CA l al)).length=m at *
 let Kf:List OB->List AV->Prop:=fun o t=>Aw P [AA l (l.length - 1)] o t fun o t=>K .normal o t
 have hcore0:=Of (P:=P) (CA l al) anc htv m hM tm (J7 P d T z (CA l al) anc m Kf) (fun k hist o u hk hw=>rL htv hM k hist o u hk hw);have hcore1:=fun q=>Of (P:=P) (CA l al) anc htv m hM (tm.set d q) (EK P (CA l al) anc m Kf) (fun k hist o u hk hw=>Xm htv hM k hist o u hk hw)
 let TF:Array Bool->List OB->List AV->Prop:=fun listed o t=>
  (listed.getD (l.length - 1) false=false/\((listed.getD al false=false/\G0 P (CA l al) anc m tm (J7 P d T z (CA l al) anc m Kf) listed o t)\/(listed.getD al false=true/\∃q,G0 P (CA l al) anc m (tm.set d q) (EK P (CA l al) anc m Kf) listed o t))) \/
  ((∀j,j<l.length->listed.getD j false=true)/\K .normal o t)
 refine hfin TF (fun o t=>o=objs/\t=tm) ?_ ?_ ?_ ?_
 ·rintro listed o t hs _ h2 ⟨rfl,rfl⟩;have hall:∀j,j<l.length->listed.getD j false=false:=fun j hj=>h2 j (zd _) (by omega);obtain⟨u,q1,q2⟩:=Q7 (d:=d) (T:=T) (z:=z) htv (Kf:=Kf) (zd m) h;exact .inl ⟨hall _ (by omega),.inl ⟨hall _ (by omega),hcore0.1 o u q1 q2 listed fun j hj=>hall j (by omega)⟩⟩
 ·intro listed o t i so hs hso2 _ hin hun hanci hT;obtain rfl:=OE hso2;have hset:∀j,(listed.setIfInBounds i true).getD j false=if j=i then true else listed.getD j false:=fun j=>IU listed i j false (by omega)
  rcases hT with ⟨hT1,hT2⟩|⟨hT1,_⟩
  rotate_left
  ·have:=hT1 i (by omega);rw[hun] at this;cases this
  by_cases hil:i=l.length - 1
  ·-- the last one
   subst hil;have hall:∀j,j<l.length - 1->listed.getD j false=true:=fun j hj=>hanci j (by
    have:=hlast j hj;unfold CZ at this;exact jl.1 this)
   rcases hT2 with ⟨ha,_⟩|⟨_,q,hT2⟩
   ·rw[hall al (by omega)] at ha;cases ha
   obtain⟨hist,hw⟩:=(hcore1 q).2.2 listed o t (fun j hj=>hall j (by omega)) hT2;unfold EK at hw;rw[if_pos rfl] at hw;have hw2:Aw P [AA l (l.length - 1)] o t (fun o t=>K .normal o t):=hw;rw[hstore] at hw2 ⊢;refine fG (d:=0) (x:=0) (y:=0) (v:=0) (fun o2 t2 hk=>?_) (.inr ⟨_,_,_,rfl⟩) hw2;refine .inr ⟨fun j hj=>?_,hk⟩;rw[hset]
   by_cases e:j=l.length - 1
   ·rw[if_pos e]
   ·rw[if_neg e];exact hall j (by omega)
  have hin2:i<l.length - 1:=by omega
  have hlst:(listed.setIfInBounds i true).getD (l.length - 1) false=false:=by rw[hset,if_neg (fun e=>hil e.symm)];exact hT1
  by_cases hia:i=al
  ·-- the allocation
   subst hia;rcases hT2 with ⟨_,hT2⟩|⟨ha,_⟩
   rotate_left
   ·rw[hun] at ha;cases ha
   rw[hso];simp only[Aw,Ai,AS];have h1:=hcore0.2.1 listed o t i (by omega) (by omega) hun hanci hT2;rw[QP (by omega)] at h1;have h2:G0 P (CA l i) anc m tm (J7 P d T z (CA l i) anc m Kf) (listed.setIfInBounds i true) o (t.set 1000003 .nil):=h1;have htlen:t.length=tm.length:=by
    obtain⟨_,k,hist,u,_,_,_,_,_,hmix⟩:=hT2;exact hmix.1
   rw[List.set_eq_of_length_le (by omega)] at h2;have h3:=aW (W1:=EK P (CA l i) anc m Kf) (d:=d) (p:=.p o.length 0) (B:=.box T z) (fun j hj=>by
    rcases hd0 j hj with h0|h0
    ·exact h0
    ·subst h0;rw[Do hj,QP (by omega)];unfold Qr;intro e;have e:(1000003:Nat)=d:=by injection e
     omega) (fun k hist u hw=>hw.1) h2
   exact .inl ⟨hlst,.inr ⟨by rw[hset,if_pos rfl],_,h3⟩⟩
  have hki:D0 (AA l i)=true\/FQ (AA l i)=true:=by
   have h0:=htv;unfold FI at h0;simp only[Bool.and_eq_true] at h0;obtain⟨⟨⟨⟨⟨⟨⟨_,_⟩,hkd⟩,_⟩,_⟩,_⟩,_⟩,_⟩:=h0;simp only[zw,qy,Bool.or_eq_true] at hkd;have:=hkd i (by omega)
   rwa [LD hin2 hia] at this
  rcases hT2 with ⟨ha,hT2⟩|⟨ha,q,hT2⟩
  ·have h1:=hcore0.2.1 listed o t i (by omega) (by omega) hun hanci hT2;rw[LD hin2 hia] at h1;exact MR hki (fun o2 t2 hk=>.inl ⟨hlst,.inl ⟨by rw[hset,if_neg (fun e=>hia e.symm)];exact ha,hk⟩⟩) h1
  ·have h1:=(hcore1 q).2.1 listed o t i (by omega) (by omega) hun hanci hT2;rw[LD hin2 hia] at h1;exact MR hki (fun o2 t2 hk=>.inl ⟨hlst,.inr ⟨by rw[hset,if_neg (fun e=>hia e.symm)];exact ha,q,hk⟩⟩) h1
 ·intro listed o t hs hall hT;rcases hT with ⟨h0,_⟩|⟨_,hk⟩
  ·rw[hall _ (by omega)] at h0;cases h0
  ·exact hk
 ·simp only[jy,Cz,hap0,FG,and_self]
section
variable {P:Program} [Tabs P]
end
theorem tU (id:Nat) (ops:Array Oper) (l:List SO) (hl:ops.toList.mapM (EI P ops.toList)=some l) (hok:Nn l (ops.toList.map Be) (B0 (ops.toList.map Be))=true) (hm:P.follows .mixedOrders=true) {objs:List OB} {tm:List AV}
  (h:Fc P (EQ l (B0 (ops.toList.map Be)) (BE l).length 0) [] (BW l (B0 (ops.toList.map Be)) (BE l).length) objs tm fun o t=>K .normal o t):∀a w,Eo C objs tm a w->(Code.region id ops true).wp P (CJ C K) a w:=by
 have hnl:ops.size=l.length:=by
  have:=(JJ _ _ _ hl).1;simpa using this
 unfold Nn at hok;simp only[Bool.and_eq_true] at hok;obtain⟨⟨⟨⟨⟨⟨⟨hd1,hd2⟩,hd3⟩,hkd⟩,hrk⟩,hcl⟩,hci⟩,hbd⟩:=hok;have hpre:GI l (ops.toList.map Be) (B0 (ops.toList.map Be)) 0=true:=by
  unfold GI;simp only[Bool.and_eq_true];exact⟨⟨⟨⟨⟨⟨by simp,hd1⟩,by simp⟩,by simp⟩,by simp⟩,by simp⟩,by simp[Jv]⟩
 have hap0:∀an,Gi l an 0=[]:=fun an=>by simp[Gi]
 simp only[Bool.and_eq_true,decide_eq_true_eq,zw,qy,Bool.or_eq_true,List.any_eq_true,jl] at hd1;have halt:=NE (ops.toList.map Be) (B0 (ops.toList.map Be)) l.length fun i hi=>hd1 i hi;have htv:FI l (B0 (ops.toList.map Be))=true:=by
  unfold FI;simp only[Bool.and_eq_true];exact⟨⟨⟨⟨⟨⟨⟨hd2,hd3⟩,hkd⟩,hrk⟩,hcl⟩,hci⟩,hbd⟩,by
   simp only[zw,qy,decide_eq_true_eq];exact halt⟩
 have hfin:=Mu (P:=P) (C:=C) (K:=K) id ops l l hl (.inl rfl) 0 hpre hm (objs:=objs) (tm:=tm);generalize B0 (ops.toList.map Be)=anc at *;generalize hM:(BE l).length=m at *;have hcore:=Of (P:=P) l anc htv m hM tm (EK P l anc m fun o t=>K .normal o t) (fun k hist o u hk hw=>Xm htv hM k hist o u hk hw);refine hfin (fun listed o t=>G0 P l anc m tm (EK P l anc m fun o t=>K .normal o t) listed o t) (fun o t=>o=objs/\t=tm) ?_ ?_ ?_ ?_
 ·rintro listed o t hs _ h2 ⟨rfl,rfl⟩;obtain⟨u,q1,q2⟩:=Q8 htv (Kf:=fun o t=>K .normal o t) (zd m) h;exact hcore.1 o u q1 q2 listed fun j hj=>h2 j (zd _) (by omega)
 ·intro listed o t i so hs hso2 _ hin hun hanci hT;obtain rfl:=OE hso2;exact hcore.2.1 listed o t i (by omega) (by omega) hun hanci hT
 ·intro listed o t hs hall hT;obtain⟨hist,hw⟩:=hcore.2.2 listed o t (fun j hj=>hall j (by omega)) hT;unfold EK at hw;rw[if_pos rfl] at hw;exact hw
 ·simp only[jy,Cz,hap0,FG,and_self]
end
section
variable {P:Program} [Tabs P] {C:Cx} [On P C] {K:Bp}
inductive SCode where
 | skip
 | reg (l:List SO)
 | drw (l:List SO) (k:Nat) (ap:List (Nat×Nat×Option (Nat×Bool)))
 | crg (pre:List SO) (cl:SO) (post:List SO)
 | crs (st:List (List SO×SO)) (last:List SO)
 | cra (d:Nat) (T:TypeId) (z:List AV) (st:List (List SO×SO)) (last:List SO) (sr:SO)
 | seq (x y:SCode)
 | cond (c:SV) (x y:SCode)
 | blk (id:Nat) (c:SCode)
 | loop (c:SCode)
 | exit (id:Nat)
 | ret
 | dead
@[reducible] def SCode.s (l:List SO) (c:SCode):SCode:=.seq (.reg l) c
def RX (l:List SO):Bool :=
 match l.getLast? with
 | some ⟨_,.call _ args,none⟩=>args.any fun
  | .t s=>(l.any fun o=>match o with
   | ⟨some d,.fad _ _,_⟩=>d==s
   | _=>false)||l.all fun o=>!(o.dst==some s)
  | _=>false
 | _=>false
def XP (l:List SO):Bool :=
 match l.reverse with
 | ⟨_,.mv (.t d),none⟩::⟨some d',.call _ args,none⟩::_=>d==d'&&args.any fun
  | .t s=>l.any fun o=>match o with
   | ⟨some e,.app _ _ _ _ _,_⟩=>e==s
   | _=>false
  | _=>false
 | _=>false
def sX (ops:List Oper):Bool:=ops.any fun o=>match o.op with
 | .panic _=>true
 | _=>false
def tV (l:List SO):Bool:=l.any fun o=>match o with
 | ⟨some d,.trn _ _ _,none⟩=>W8 l d
 | _=>false
def Xg (l:List SO):List (List SO×Nat) :=
 (if XP l=true then [(l,l.length - 2)] else [])++(if RX l=true then [(l,l.length - 1)] else [])++[(l,Ro l),(l,l.length)]++((if RX l=true then [(l.map SO.toQ,l.length - 1)] else [])++[(l.map SO.toQ,Ro l),(l.map SO.toQ,l.length)]++((if tV l=true then [(l.map SO.toR,l.length)] else [])++[(l.map SO.toP,l.length)]))
def Nt (l:List SO) (ds an:List (List Nat)):Option (List SO×Nat):=(Xg l).find? fun c=>LG c.1 ds an c.2
theorem bU {l:List SO} {ds an:List (List Nat)} {c:List SO×Nat} (h:Nt l ds an=some c):(c.1=l\/c.1=l.map SO.toP\/c.1=l.map SO.toQ\/c.1=l.map SO.toR)/\LG c.1 ds an c.2=true:=by
 refine⟨?_,by simpa using List.find?_some h⟩;have hm:=List.mem_of_find?_eq_some h;unfold Xg at hm;simp only[List.mem_append,zv,ju,or_false] at hm;rcases hm with ((hm|hm)|rfl|rfl)|(hm|rfl|rfl)|hm|rfl
 ·split at hm
  ·simp only[zv,ju,or_false] at hm;subst hm;exact .inl rfl
  ·simp at hm
 ·split at hm
  ·simp only[zv,ju,or_false] at hm;subst hm;exact .inl rfl
  ·simp at hm
 ·exact .inl rfl
 ·exact .inl rfl
 ·split at hm
  ·simp only[zv,ju,or_false] at hm;subst hm;exact .inr (.inr (.inl rfl))
  ·simp at hm
 ·exact .inr (.inr (.inl rfl))
 ·exact .inr (.inr (.inl rfl))
 ·split at hm
  ·simp only[zv,ju,or_false] at hm;subst hm;exact .inr (.inr (.inr rfl))
  ·simp at hm
 ·exact .inr (.inl rfl)
def Lp (l:List SO) (ds an:List (List Nat)):Option (List SO×Nat×List (Nat×Nat×Option (Nat×Bool))):=match Nt l ds an with
 | some c=>some (c.1,c.2,Gi c.1 an c.2)
 | none=>none
theorem bS {l:List SO} {ds an:List (List Nat)} {r:List SO×Nat×List (Nat×Nat×Option (Nat×Bool))} (h:Lp l ds an=some r):(∃c,Nt l ds an=some c/\r=(c.1,c.2,Gi c.1 an c.2)):=by
 unfold Lp at h
 split at h
 ·rename_i c hc;injection h with h;exact⟨c,hc,h.symm⟩
 ·cases h
def Ym (P:Program) (ops:Array Oper) (l:List SO) (c:Nat):Bool:=(match ops[c]? with
 | some o=>match o.op with
  | .call x=>match x.argTypes[0]? with
   | some t=>match P.underlying t with
    | some (.pointer _)=>true
    | _=>false
   | _=>false
  | _=>false
 | none=>false)&&l.any fun o=>match o.op with
  | .app ..=>true
  | _=>false
def Xa (P:Program) (ops:Array Oper) (l:List SO) (ds an:List (List Nat)):Option Nat:=(zi l.length).find? fun c=>Ym P ops l c&&Ll l ds an c
theorem bT {P:Program} {ops:Array Oper} {l:List SO} {ds an:List (List Nat)} {c:Nat} (h:Xa P ops l ds an=some c):Ll l ds an c=true:=by
 have:=List.find?_some h;simp only[Bool.and_eq_true] at this;exact this.2
def cF (P:Program) (ops:Array Oper) (l:List SO):Bool:=decide (2<=(BE l).length)&&(BE l).all fun c=>match ops[c]? with
 | some o=>match P.underlying o.type with
  | some (.map _ _)=>true
  | _=>false
 | none=>false
def eQ (P:Program) (ops:Array Oper) (l:List SO):Bool:=(l.any fun o=>o.op.grows)&&(zi l.length).any fun i=>(AA l i).op.isCall&&match ops[i]? with
  | some o=>match o.op with
   | .call x=>match x.argTypes[0]? with
    | some t=>match P.underlying t with
     | some (.pointer _)=>true
     | _=>false
    | _=>false
   | _=>false
  | none=>false
def oW (P:Program) (ops:Array Oper) (l:List SO):Bool:=(zi l.length).any fun i=>(match (AA l i).op with
 | .pcall ..=>true
 | _=>false)&&match ops[i]? with
  | some o=>match o.op with
   | .call x=>match x.argTypes[0]? with
    | some t=>match P.underlying t with
     | some (.pointer _)=>true
     | _=>false
    | _=>false
   | _=>false
  | none=>false
def Ko (l:List SO) (ds an:List (List Nat)):Option (Nat×Nat×TypeId×List AV):=(zi l.length).findSome? fun al=>match MX (AA l al) with
 | some r=>if Lk l ds an al r.1=true then some (al,r) else none
 | none=>none
theorem iO {l:List SO} {ds an:List (List Nat)} {r:Nat×Nat×TypeId×List AV} (h:Ko l ds an=some r):MX (AA l r.1)=some (r.2.1,r.2.2.1,r.2.2.2)/\Lk l ds an r.1 r.2.1=true:=by
 unfold Ko at h;obtain⟨al,_,hk⟩:=List.exists_of_findSome?_eq_some h
 split at hk
 ·rename_i q hq
  split at hk
  ·rename_i hok;injection hk with hk;subst hk
   exact⟨hq,hok⟩
  ·cases hk
 ·cases hk
def MY (l:List SO) (an:List (List Nat)) (r:Nat×Nat×TypeId×List AV):SCode:=.cra r.2.1 r.2.2.1 r.2.2.2 (EQ (CA l r.1) an (BE (CA l r.1)).length 0) (BW (CA l r.1) an (BE (CA l r.1)).length) (AA l (l.length - 1))
def Nu (P:Program) (ops:Array Oper) (l:List SO) (ds an:List (List Nat)):Option SCode:=match Lp l ds an with
 | some c=>if oW P ops c.1=true then (match Ko l ds an with
  | some r=>some (MY l an r)
  | none=>some (.drw c.1 c.2.1 c.2.2)) else some (.drw c.1 c.2.1 c.2.2)
 | none=>(Ko l ds an).map (MY l an)
theorem SH {P:Program} {ops:Array Oper} {l:List SO} {ds an:List (List Nat)} {sc:SCode} (h:Nu P ops l ds an=some sc):(∃c,Lp l ds an=some c/\sc=.drw c.1 c.2.1 c.2.2)\/(∃r,Ko l ds an=some r/\sc=MY l an r):=by
 unfold Nu at h
 split at h
 ·rename_i c hc
  split at h
  ·split at h
   ·rename_i r hr;injection h with h;exact .inr ⟨r,hr,h.symm⟩
   ·injection h with h;exact .inl ⟨c,hc,h.symm⟩
  ·injection h with h;exact .inl ⟨c,hc,h.symm⟩
 ·obtain⟨r,hr,rfl⟩:=xt.1 h;exact .inr ⟨r,hr,rfl⟩
def BV (P:Program):Code->Option SCode
 | .skip=>some .skip
 | .region _ ops false=>match ops.toList.mapM (EI P ops.toList) with
  | some l=>some (.reg l)
  | none=>if sX ops.toList=true then some .dead else none
 | .region _ ops true=>match ops.toList.mapM (EI P ops.toList) with
  | some l=>if P.follows .mixedOrders=true then (match Xa P ops l (ops.toList.map Be) (B0 (ops.toList.map Be)) with
   | some c=>some (.crg (Cj l.length (CY (B0 (ops.toList.map Be)) c) l) (AA l c) (Cj l.length (Cd (B0 (ops.toList.map Be)) c) l))
   | none=>if (cF P ops l||eQ P ops l)&&Nn l (ops.toList.map Be) (B0 (ops.toList.map Be)) then some (.crs (EQ l (B0 (ops.toList.map Be)) (BE l).length 0) (BW l (B0 (ops.toList.map Be)) (BE l).length)) else Nu P ops l (ops.toList.map Be) (B0 (ops.toList.map Be))) else none
  | none=>none
 | .seq x y=>match BV P x,BV P y with
  | some a,some b=>some (.seq a b)
  | _,_=>none
 | .cond c x y=>match BV P x,BV P y with
  | some a,some b=>some (.cond (Ag c) a b)
  | _,_=>none
 | .block id c=>(BV P c).map (.blk id)
 | .loop c=>(BV P c).map .loop
 | .exit id=>some (.exit id)
 | .ret=>some .ret
 | .scope c=>BV P c
 | .label _=>some .skip
 | _=>none
def Gv (K:Bp):Bp
 | .goto _,_,_=>False
 | e,objs,tm=>K e objs tm
omit [Tabs P] [On P C] in
theorem WP.scope {c:Code} {K:Bp} {objs:List OB} {tm:List AV} (hh:WP P C c (Gv K) objs tm):WP P C (.scope c) (Gv K) objs tm:=by
 intro a w hr;refine wp_scope_straight (wp_mono (hh a w hr) ?_);rintro e a w ⟨o,t,hk,hr⟩
 cases e<;>first|exact hk.elim|exact⟨o,t,hk,hr⟩
def Xt (P:Program) (C:Cx) (sc:SCode) (K:Bp) (objs:List OB) (tm:List AV):Prop:=∀c,BV P c=some sc->WP P C c K objs tm
def Ey (P:Program) [Tabs P] (C:Cx):SCode->Bp->List OB->List AV->Prop
 | .skip,K,objs,tm=>K .normal objs tm
 | .reg l,K,objs,tm=>Aw P l objs tm fun o t=>K .normal o t
 | .drw l k ap,K,objs,tm=>Cz P (l.take k) objs tm fun o t=>FG ap t/\Aw P (l.drop k) o t fun o t=>K .normal o t
 | .crg pre cl post,K,objs,tm=>Aw P pre objs tm fun _ t1=>Aw P [cl] objs t1 fun o2 t2=>Aw P pre o2 tm (fun _ t=>t=t1)/\Aw P post o2 t2 fun o t=>K .normal o t
 | .crs st last,K,objs,tm=>Fc P st [] last objs tm fun o t=>K .normal o t
 | .cra d T z st last sr,K,objs,tm=>tm.length<=1000003/\F0 P d T z st [] last objs tm fun o t=>Aw P [sr] o t fun o t=>K .normal o t
 | .seq x y,K,objs,tm=>Ey P C x (FO (fun o t=>Ey P C y K o t) K) objs tm
 | .cond c x y,K,objs,tm=>match c.ev tm with
  | .b t=>(t=true->Ey P C x K objs tm)/\(t=false->Ey P C y K objs tm)
  | _=>False
 | .blk id c,K,objs,tm=>Ey P C c (Ht id K) objs tm
 | .loop c,K,objs,tm=>Xt P C (.loop c) (Gv K) objs tm
 | .exit id,K,objs,tm=>K (.exit id) objs tm
 | .ret,K,objs,tm=>K .ret objs tm
 | .dead,K,objs,tm=>False
theorem HY:∀(c:Code) (sc:SCode) (K:Bp) (objs:List OB) (tm:List AV),BV P c=some sc->Ey P C sc K objs tm->WP P C c (Gv K) objs tm
 | .skip,sc,K,objs,tm,ht,h=>by simp only[BV,zy.injEq] at ht;subst ht;exact WP.skip h
 | .region id ops false,sc,K,objs,tm,ht,h=>by
  simp only[BV] at ht
  cases h1:ops.toList.mapM (EI P ops.toList) with
  | none=>
   rw[h1] at ht;dsimp only at ht
   split at ht
   ·injection ht with ht;subst ht;exact h.elim
   ·cases ht
  | some l=>
   rw[h1] at ht;injection ht with ht;subst ht
   intro a w hr;exact wp_region_list (Ru (K:=Gv K) ops ops.toList l objs tm h1 h a w hr)
 | .region id ops true,sc,K,objs,tm,ht,h=>by
  simp only[BV] at ht
  split at ht
  ·rename_i l h1
   split at ht
   ·rename_i hf
    split at ht
    ·rename_i c hc;injection ht with ht;subst ht
     intro a w hr;exact tT (K:=Gv K) id ops l h1 c (bT hc) hf h a w hr
    split at ht
    ·rename_i hc;injection ht with ht;subst ht
     intro a w hr;rw[Bool.and_eq_true] at hc;exact tU (K:=Gv K) id ops l h1 hc.2 hf h a w hr
    rcases SH ht with ⟨c,hc,rfl⟩|⟨r,hr0,rfl⟩
    rotate_left
    ·obtain⟨r1,r2⟩:=iO hr0;intro a w hr;exact tS (K:=Gv K) id ops l h1 r.1 r.2.1 r.2.2.1 r.2.2.2 r1 r2 hf h.1 h.2 a w hr
    intro a w hr;obtain⟨c',hc',rfl⟩:=bS hc
    ·obtain⟨c1,c2⟩:=bU hc';exact X9 (K:=Gv K) id ops l c'.1 h1 c1 _ c2 hf h a w hr
   ·cases ht
  ·cases ht
 | .seq x y,sc,K,objs,tm,ht,h=>by
  simp only[BV] at ht
  split at ht
  ·rename_i a b ha hb;injection ht with ht;subst ht
   refine WP.seq (WP.mono ?_ (HY x a _ objs tm ha h));intro e o t hk
   cases e with
   | normal=>exact HY y b K o t hb hk
   | _=>exact hk
  ·cases ht
 | .cond c x y,sc,K,objs,tm,ht,h=>by
  simp only[BV] at ht
  split at ht
  ·rename_i a b ha hb;injection ht with ht;subst ht
   simp only[Ey] at h
   split at h
   ·rename_i t hc;exact WP.cond hc (fun e=>HY x a K objs tm ha (h.1 e)) (fun e=>HY y b K objs tm hb (h.2 e))
   ·exact h.elim
  ·cases ht
 | .block id c,sc,K,objs,tm,ht,h=>by
  simp only[BV] at ht
  cases h1:BV P c with
  | none=>rw[h1] at ht;cases ht
  | some a=>rw[h1] at ht;injection ht with ht;subst ht;refine WP.block (WP.mono ?_ (HY c a _ objs tm h1 h));intro e o t hk;cases e with
   | exit id'=>simp only[Gv,Ht] at hk ⊢;exact hk
   | _=>exact hk
 | .loop c,sc,K,objs,tm,ht,h=>by
  have ht':=ht;simp only[BV] at ht
  cases h1:BV P c with
  | none=>rw[h1] at ht;cases ht
  | some a=>rw[h1] at ht;injection ht with ht;subst ht;exact h _ ht'
 | .exit id,sc,K,objs,tm,ht,h=>by simp only[BV,zy.injEq] at ht;subst ht;exact WP.exit h
 | .ret,sc,K,objs,tm,ht,h=>by simp only[BV,zy.injEq] at ht;subst ht;exact WP.ret h
 | .rangeFunc ..,sc,K,objs,tm,ht,h=>by simp[BV] at ht
 | .scope c,sc,K,objs,tm,ht,h=>by simp only[BV] at ht;exact WP.scope (HY c sc K objs tm ht h)
 | .label _,sc,K,objs,tm,ht,h=>by simp only[BV,zy.injEq] at ht;subst ht;exact fun a w hr=>wp_label ⟨_,_,h,hr⟩
 | .goto _,sc,K,objs,tm,ht,h=>by simp[BV] at ht
 | .refuse _,sc,K,objs,tm,ht,h=>by simp[BV] at ht
theorem Rt (c:Code) (sc:SCode) (K:Bp) (objs:List OB) (tm:List AV) (ht:BV P c=some sc) (h:Ey P C sc K objs tm):WP P C c K objs tm :=
 WP.mono (fun e o t hk=>by cases e<;>first|exact hk.elim|exact hk) (HY c sc K objs tm ht h)
theorem bA {sc:SCode} {objs:List OB} {tm:List AV} (J:Nat->List OB->List AV->Prop) (n:Nat) (h0:J n objs tm)
  (round:∀n objs tm,J n objs tm->Ey P C sc (FO (fun o t=>∃m,m<n/\J m o t) K) objs tm):Xt P C (.loop sc) (Gv K) objs tm:=by
 intro c ht
 induction c with
 | scope c ih=>simp only[BV] at ht;exact WP.scope (ih ht)
 | loop c _=>
  simp only[BV] at ht
  cases h1:BV P c with
  | none=>rw[h1] at ht;cases ht
  | some a=>
   rw[h1] at ht;injection ht with ht;injection ht with ht;subst ht
   refine WP.loop J n h0 fun n o t hj=>WP.mono ?_ (HY c a _ o t h1 (round n o t hj));intro e o t hk
   cases e with
   | normal=>exact hk
   | _=>exact hk
 | region id ops draw=>
  cases draw
  ·simp only[BV] at ht;split at ht
   ·cases ht
   ·split at ht<;>cases ht
  ·simp only[BV] at ht
   split at ht
   ·split at ht
    ·split at ht
     ·cases ht
     split at ht
     ·cases ht
     ·rcases SH ht with ⟨c,_,e⟩|⟨r,_,e⟩
      ·cases e
      ·unfold MY at e;cases e
    ·cases ht
   ·cases ht
 | seq x y _ _=>simp only[BV] at ht;split at ht<;>cases ht
 | cond c x y _ _=>simp only[BV] at ht;split at ht<;>cases ht
 | block id c _=>simp only[BV] at ht;cases h1:BV P c<;>(rw[h1] at ht;cases ht)
 | _=>simp[BV] at ht
end
mutual
/-- the value as it is given away: rows of the call's own last from now on -/
def pub (objs:List OB):Nat->AV->Option AV
 | d,.agg cs=>(CC objs d cs).map .agg
 | d,.tup cs=>(CC objs d cs).map .tup
 | 0,.orow _ _=>none
 | d+1,.orow b gen=>match objs[b]? with
  | some (.orow _ _ gen' n xs)=>if gen'=gen then (CC objs d xs).map (.row n) else none
  | _=>none
 | _,x=>if x.plain=true then some x else none
def CC (objs:List OB):Nat->List AV->Option (List AV)
 | _,[]=>some []
 | d,x::xs=>match pub objs d x,CC objs d xs with
  | some y,some ys=>some (y::ys)
  | _,_=>none
end
def Al.rows (I:Al) (G:Gh) (objs:List OB) (w:World):Al:=fun g o v=>I g o v\/(w.cell? ⟨g,o,none⟩=some v/\∃b E sz gen n xs,objs[b]? = some (.orow E sz gen n xs)/\G.own b=some g)
mutual
theorem NU {G:Gh} {I:Al} {objs:List OB} {w:World} (hm:MemOk G I objs w) (d:Nat) (ih:∀d',d=d'+1->∀(xs rs:List AV) (ys:List Value),CC objs d' xs=some rs->Ad G I xs ys->Ad Gh.none (I.rows G objs w) rs ys/\AE rs=true) :
  ∀(x r:AV) (y:Value),pub objs d x=some r->Ab G I x y->Ab Gh.none (I.rows G objs w) r y/\r.plain=true
 | .agg cs,r,y,hp,h=>by
  simp only[pub,xt] at hp;obtain⟨rs,h1,rfl⟩:=hp;simp only[Ab] at h ⊢;obtain⟨ys,e1,e2,e3⟩:=h;obtain⟨k1,k2⟩:=KH hm d ih cs rs ys h1 e2;exact⟨⟨ys,e1,k1,e3⟩,by simpa[AV.plain] using k2⟩
 | .tup cs,r,y,hp,h=>by
  simp only[pub,xt] at hp;obtain⟨rs,h1,rfl⟩:=hp;simp only[Ab] at h ⊢;obtain⟨ys,e1,e2⟩:=h;obtain⟨k1,k2⟩:=KH hm d ih cs rs ys h1 e2;exact⟨⟨ys,e1,k1⟩,by simpa[AV.plain] using k2⟩
 | .orow b gen,r,y,hp,h=>by
  cases d with
  | zero=>simp[pub] at hp
  | succ d=>
   simp only[pub] at hp
   split at hp
   ·rename_i E sz gen' n xs hb
    split at hp
    ·rename_i hg;subst hg;simp only[xt] at hp;obtain⟨rs,h1,rfl⟩:=hp;simp only[Ab] at h ⊢;obtain⟨g',v,k1,k2,k3,_⟩:=h;obtain⟨v',vs,m1,m2,m3,m4,m5⟩:=hm.row b E sz gen' n xs hb;rw[k1] at m1;injection m1 with m1;injection m1 with m1 m6
     have hv:=k3 m1.symm;subst m1 m6 hv;obtain⟨q1,q2⟩:=ih d rfl xs rs vs h1 m3;refine⟨?_,by simpa[AV.plain] using q2⟩;have hown:=I5 m5 k1;rcases m2.2 with ⟨rfl,rfl⟩|⟨g,cap,cur,rfl,hx1,hx2,hx3,hx4⟩
     ·have hvs:vs=[]:=List.eq_nil_of_length_eq_zero (by simpa using m2.1);subst hvs;exact⟨none,0,[],rfl,⟨ze _,by intro _ e;cases e⟩,q1,by simp,by simp⟩
     ·refine⟨some ⟨g,0,none⟩,cap,vs,rfl,⟨hx3,by rintro _ ⟨⟩ _;rfl⟩,q1,m4,fun j u hj=>⟨g,0,rfl,.inr ⟨?_,b,E,sz,_,n,xs,hb,hown⟩⟩⟩;have:=m2.cells (g:=g) rfl j u hj
      rwa [CG] at this
    ·cases hp
   ·cases hp
 | .p b off,r,y,hp,h=>by cases d<;>simp[pub,AV.plain] at hp
 | .porow b gen j,r,y,hp,h=>by cases d<;>simp[pub,AV.plain] at hp
 | .bsl b off n,r,y,hp,h=>by cases d<;>simp[pub,AV.plain] at hp
 | .m b,r,y,hp,h=>by cases d<;>simp[pub,AV.plain] at hp
 | .ip T b off,r,y,hp,h=>by cases d<;>simp[pub,AV.plain] at hp
 | .s l,r,y,hp,h=>by
  have e:r=.s l:=by cases d<;>simp[pub,AV.plain] at hp<;>exact hp.symm
  subst e;exact⟨Ab.plain (fun _ _ _ h=>.inl h) _ _ rfl h,rfl⟩
 | .i k n,r,y,hp,h=>by
  have e:r=.i k n:=by cases d<;>simp[pub,AV.plain] at hp<;>exact hp.symm
  subst e;exact⟨Ab.plain (fun _ _ _ h=>.inl h) _ _ rfl h,rfl⟩
 | .b x,r,y,hp,h=>by
  have e:r=.b x:=by cases d<;>simp[pub,AV.plain] at hp<;>exact hp.symm
  subst e;exact⟨Ab.plain (fun _ _ _ h=>.inl h) _ _ rfl h,rfl⟩
 | .nil,r,y,hp,h=>by
  have e:r=.nil:=by cases d<;>simp[pub,AV.plain] at hp<;>exact hp.symm
  subst e;exact⟨Ab.plain (fun _ _ _ h=>.inl h) _ _ rfl h,rfl⟩
 | .zn z,r,y,hp,h=>by
  have e:r=.zn z:=by cases d<;>simp[pub,AV.plain] at hp<;>exact hp.symm
  subst e;exact⟨Ab.plain (fun _ _ _ h=>.inl h) _ _ rfl h,rfl⟩
 | .o v,r,y,hp,h=>by
  have e:r=.o v:=by cases d<;>simp[pub,AV.plain] at hp<;>exact hp.symm
  subst e;exact⟨Ab.plain (fun _ _ _ h=>.inl h) _ _ rfl h,rfl⟩
 | .u,r,y,hp,h=>by
  have e:r=.u:=by cases d<;>simp[pub,AV.plain] at hp<;>exact hp.symm
  subst e;exact⟨Ab.plain (fun _ _ _ h=>.inl h) _ _ rfl h,rfl⟩
 | .row n xs,r,y,hp,h=>by
  have e:(AV.row n xs).plain=true/\r=.row n xs:=by
   cases d<;>(simp only[pub] at hp;split at hp<;>first|(rename_i hq;injection hp with hp;exact⟨hq,hp.symm⟩)|cases hp)
  obtain⟨e1,rfl⟩:=e;exact⟨Ab.plain (fun _ _ _ h=>.inl h) _ _ e1 h,e1⟩
 | .prow xs j,r,y,hp,h=>by
  have e:(AV.prow xs j).plain=true/\r=.prow xs j:=by
   cases d<;>(simp only[pub] at hp;split at hp<;>first|(rename_i hq;injection hp with hp;exact⟨hq,hp.symm⟩)|cases hp)
  obtain⟨e1,rfl⟩:=e;exact⟨Ab.plain (fun _ _ _ h=>.inl h) _ _ e1 h,e1⟩
 | .crow n xs,r,y,hp,h=>by
  have e:(AV.crow n xs).plain=true/\r=.crow n xs:=by
   cases d<;>(simp only[pub] at hp;split at hp<;>first|(rename_i hq;injection hp with hp;exact⟨hq,hp.symm⟩)|cases hp)
  obtain⟨e1,rfl⟩:=e;exact⟨Ab.plain (fun _ _ _ h=>.inl h) _ _ e1 h,e1⟩
 | .fn f fs cs,r,y,hp,h=>by
  have e:(AV.fn f fs cs).plain=true/\r=.fn f fs cs:=by
   cases d<;>(simp only[pub] at hp;split at hp<;>first|(rename_i hq;injection hp with hp;exact⟨hq,hp.symm⟩)|cases hp)
  obtain⟨e1,rfl⟩:=e;exact⟨Ab.plain (fun _ _ _ h=>.inl h) _ _ e1 h,e1⟩
theorem KH {G:Gh} {I:Al} {objs:List OB} {w:World} (hm:MemOk G I objs w) (d:Nat) (ih:∀d',d=d'+1->∀(xs rs:List AV) (ys:List Value),CC objs d' xs=some rs->Ad G I xs ys->Ad Gh.none (I.rows G objs w) rs ys/\AE rs=true) :
  ∀(xs rs:List AV) (ys:List Value),CC objs d xs=some rs->Ad G I xs ys->Ad Gh.none (I.rows G objs w) rs ys/\AE rs=true
 | [],rs,ys,hp,h=>by
  simp only[CC,zy.injEq] at hp;subst hp;simp only[Ad] at h ⊢;exact⟨h,rfl⟩
 | x::xs,rs,ys,hp,h=>by
  simp only[CC] at hp
  split at hp
  ·rename_i r rs' h1 h2;injection hp with hp;subst hp
   simp only[Ad] at h ⊢;obtain⟨y,ys',e1,e2,e3⟩:=h;obtain⟨k1,k2⟩:=NU hm d ih x r y h1 e2;obtain⟨k3,k4⟩:=KH hm d ih xs rs' ys' h2 e3;exact⟨⟨y,ys',e1,k1,k3⟩,by simp[AE,k2,k4]⟩
  ·cases hp
end
theorem RP {G:Gh} {I:Al} {objs:List OB} {w:World} (hm:MemOk G I objs w):∀(d:Nat) (xs rs:List AV) (ys:List Value),CC objs d xs=some rs->Ad G I xs ys->Ad Gh.none (I.rows G objs w) rs ys/\AE rs=true
 | 0=>KH hm 0 (fun d' e=>by omega)
 | d+1=>KH hm (d+1) (fun d' e=>by
   obtain rfl:d=d':=by omega
   exact RP hm d)
theorem vC {G:Gh} {I:Al} {objs:List OB} {w:World} (hm:MemOk G I objs w) (d:Nat) (x r:AV) (y:Value) (hp:pub objs d x=some r) (h:Ab G I x y):Ab Gh.none (I.rows G objs w) r y/\r.plain=true:=by
 cases d with
 | zero=>exact NU hm 0 (fun d' e=>by omega) x r y hp h
 | succ d=>exact NU hm (d+1) (fun d' e=>by
   obtain rfl:d=d':=by omega
   exact RP hm d) x r y hp h
inductive SRes where
 | tmp (t:Nat)
 | cell1 (t:Nat)
 | celln (t sz:Nat)
def Hz (P:Program):ResultVar->Option SRes
 | .tmp t=>some (.tmp t)
 | .cell a t=>match P.underlying t,P.info? t with
  | some d,some i=>some (if d.isRow=true then .celln a i.size else .cell1 a)
  | _,_=>none
def Hs (objs:List OB) (tm:List AV):SRes->Option AV
 | .tmp t=>tm[t]?
 | .cell1 t=>match tm[t]? with
  | some (.p b off)=>match objs[b]? with
   | some (.box _ cs)=>cs[off]?
   | _=>none
  | _=>none
 | .celln t sz=>match tm[t]? with
  | some (.p b off)=>match objs[b]? with
   | some (.box _ cs)=>if off+sz<=cs.length then some (.agg ((cs.drop off).take sz)) else none
   | _=>none
  | _=>none
def Fo (objs:List OB) (tm:List AV):List SRes->Option (List AV)
 | []=>some []
 | r::rs=>match Hs objs tm r,Fo objs tm rs with
  | some x,some xs=>some (x::xs)
  | _,_=>none
def F9:List AV->AV
 | [x]=>x
 | xs=>.tup xs
def Iu (tmps:Array Value):ResultVar->Sem Value
 | .tmp t=>pure (tmps.getD t undef)
 | .cell b t=>do loadVar t (<-asAddr (tmps.getD b undef))
theorem PI (fn:Func) (tmps:Array Value):results fn tmps=(fn.results.mapM (Iu tmps)) >>= fun vs=>pure (if h:vs.size=1 then vs[0] else .tuple vs):=by
 unfold results
 congr 2
section
variable {P:Program}
theorem aH {G:Gh} {I:Al} {objs:List OB} {tm:List AV} {a:Act} {w:World} (hm:MemOk G I objs w) (hd:Ad G I tm a.tmps.toList) (r:ResultVar) (s:SRes) (x:AV) (hs:Hz P r=some s) (hx:Hs objs tm s=some x) :
  ∃y,(Iu a.tmps r).run P w=.ok y w/\Ab G I x y:=by
 cases r with
 | tmp t=>
  simp only[Hz,zy.injEq] at hs;subst hs;simp only[Hs] at hx;obtain⟨y,h1,h2⟩:=Ad.get t hd hx;refine⟨y,?_,h2⟩;rw[Array.getElem?_toList] at h1;simp only[Iu,Array.getD_eq_getD_getElem?,h1,Option.getD_some];rfl
 | cell b t=>
  simp only[Hz] at hs
  split at hs
  ·rename_i d i hu hi;injection hs with hs;subst hs
   have getp:∀bb off,tm[b]? = some (.p bb off)->∃g,G.blk bb=some g/\a.tmps.getD b undef=.pointer (some ⟨g,off,none⟩):=by
    intro bb off ht;obtain⟨y,h1,h2⟩:=Ad.get b hd ht;simp only[Ab] at h2;obtain⟨g,hg,rfl⟩:=h2;rw[Array.getElem?_toList] at h1;exact⟨g,hg,by simp[Array.getD_eq_getD_getElem?,h1]⟩
   rcases hr:d.isRow with _|_
   ·simp only[hr,Bool.false_eq_true,if_false,Hs] at hx
    split at hx
    ·rename_i bb off ht
     split at hx
     ·rename_i T cs hb;obtain⟨g,hg,hv⟩:=getp bb off ht;obtain⟨g',ys,k1,k2,k3,k4⟩:=hm.box bb T cs hb;obtain rfl:g=g':=zy.inj (hg.symm.trans k1);obtain⟨y,hy,hyd⟩:=Ad.get off k3 hx;refine⟨y,?_,hyd⟩;have hcell:w.cell? ⟨g,off,none⟩=some y:=by rw[cell_of_row w g off _ T (0,0) k2];simpa using hy
      simp[Iu,hv,asAddr,loadVar,KN hu,hr,load,Sem.run,hcell]
     ·cases hx
    ·cases hx
   ·simp only[hr,if_true,Hs] at hx
    split at hx
    ·rename_i bb off ht
     split at hx
     ·rename_i T cs hb
      split at hx
      ·rename_i hlen;injection hx with hx;subst hx
       obtain⟨g,hg,hv⟩:=getp bb off ht;obtain⟨g',ys,k1,k2,k3,k4⟩:=hm.box bb T cs hb;obtain rfl:g=g':=zy.inj (hg.symm.trans k1);have hl:=k3.length;refine⟨.agg ((ys.drop off).take i.size).toArray,?_,?_⟩
       ·have:=run_loadVar_mid (P:=P) w g off t ((ys.drop off).take i.size) d (by
         intro j v hj;rw[cell_of_row w g (off+j) _ T (0,0) k2];rw[List.getElem?_take] at hj
         split at hj
         ·simpa[List.getElem?_drop] using hj
         ·cases hj) hu hr (by rw[hi];simp;omega)
        simp[Iu,hv,asAddr,this]
       ·simp only[Ab];exact⟨_,rfl,Ad.take i.size (Ad.drop off k3),fun u hu=>k4 u (List.mem_of_mem_drop (List.mem_of_mem_take hu))⟩
      ·cases hx
     ·cases hx
    ·cases hx
  ·cases hs
theorem TS {G:Gh} {I:Al} {objs:List OB} {tm:List AV} {a:Act} {w:World} (hm:MemOk G I objs w) (hd:Ad G I tm a.tmps.toList):∀(rs:List ResultVar) (ss:List SRes) (xs:List AV),rs.mapM (Hz P)=some ss->Fo objs tm ss=some xs ->
  ∃ys,(rs.mapM (Iu a.tmps)).run P w=.ok ys w/\Ad G I xs ys
 | [],ss,xs,hs,hx=>by
  simp at hs;subst hs;simp only[Fo,zy.injEq] at hx;subst hx;exact⟨[],by simp,Ad.nil⟩
 | r::rs,ss,xs,hs,hx=>by
  simp only[List.mapM_cons,Option.bind_eq_bind,Option.pure_def] at hs
  cases h1:Hz P r with
  | none=>simp[h1] at hs
  | some s=>
   cases h2:rs.mapM (Hz P) with
   | none=>simp[h1,h2] at hs
   | some ss'=>
    simp[h1,h2] at hs;subst hs;simp only[Fo] at hx
    split at hx
    ·rename_i x xs' hx1 hx2;injection hx with hx;subst hx
     obtain⟨y,k1,k2⟩:=aH hm hd r s x h1 hx1;obtain⟨ys,k3,k4⟩:=TS hm hd rs ss' xs' h2 hx2;exact⟨y::ys,by simp only[List.mapM_cons,Sem.run_bind,k1,Result.andThen_ok,k3,Sem.run_pure],Ad.cons k2 k4⟩
    ·cases hx
theorem Ve {fn:Func} {G:Gh} {I:Al} {objs:List OB} {tm:List AV} {a:Act} {w:World} (hm:MemOk G I objs w) (hd:Ad G I tm a.tmps.toList) (ss:List SRes) (xs:List AV) (hs:fn.results.toList.mapM (Hz P)=some ss) (hx:Fo objs tm ss=some xs) :
  ∃y,(results fn a.tmps).run P w=.ok y w/\Ab G I (F9 xs) y:=by
 obtain⟨ys,h1,h2⟩:=TS hm hd _ ss xs hs hx;have hl:=h2.length;have hr:(fn.results.mapM (Iu a.tmps)).run P w=.ok ys.toArray w:=by
  rw[Array.mapM_eq_mapM_toList,Sem.run_map,h1];rfl
 match xs,ys,h2,hl with
 | [x],[y],h2,_=>
  simp only[Ad] at h2;obtain⟨y',ys',e,h3,h4⟩:=h2;injection e with e1 e2;subst e1
  refine⟨y,?_,h3⟩;rw[PI,Sem.run_bind,hr];simp
 | [],[],h2,_=>
  refine⟨.tuple #[],?_,?_⟩
  ·rw[PI,Sem.run_bind,hr];simp
  ·simp only[F9,Ab];exact⟨[],rfl,Ad.nil⟩
 | x::x'::xs,y::y'::ys,h2,_=>
  refine⟨.tuple (y::y'::ys).toArray,?_,?_⟩
  ·rw[PI,Sem.run_bind,hr];simp
  ·simp only[F9,Ab];exact⟨_,rfl,h2⟩
 | [],y::ys,h2,hl=>exact absurd hl (by simp)
 | x::xs,[],h2,hl=>exact absurd hl (by simp)
 | [x],y::y'::ys,h2,hl=>exact absurd hl (by simp)
 | x::x'::xs,[y],h2,hl=>exact absurd hl (by simp)
def Hr (ss:List SRes) (K:AV->Prop) (objs:List OB) (tm:List AV):Prop :=
 match (Fo objs tm ss).bind (fun xs=>pub objs 5 (F9 xs)) with
 | some r=>K r
 | none=>False
def Ip (ss:List SRes) (K:AV->Prop):Bp
 | .normal,objs,tm=>Hr ss K objs tm
 | .ret,objs,tm=>Hr ss K objs tm
 | _,_,_=>False
structure FnIs (P:Program) (f:FuncId) (n:Nat) (ss:List SRes) (sc:SCode):Prop where
 is:∃fn c,P.funcs[f]? = some fn/\fn.body=some c/\fn.ntmps=n/\fn.results.toList.mapM (Hz P)=some ss/\BV P c=some sc
theorem pK [Tabs P] {f:FuncId} {n:Nat} {ss:List SRes} {sc:SCode} (hf:FnIs P f n ss sc) {args:List AV} {objs:List OB} {K:List OB->AV->Prop} (hp:AE args=true)
  (h:∀(C:Cx) [On P C],Ey P C sc (Ip ss (fun r=>K objs r)) [] (args++qw (n - args.length) (.o undef))):Ah P f args objs K:=by
 intro C hOn G I w hin hm ys hd;obtain⟨fn,c,h1,h2,h3,h4,h5⟩:=hf.is
 let C':Cx:=⟨w,fun _=>False,I,Gh.none⟩
 haveI hOn':On P C':=⟨hin.tab (P:=P),fun _ h=>h⟩
 have hwp:=Rt (C:=C') c sc _ [] _ h5 (h C');have hlen:=hd.length;have hrel:Eo C' [] (args++qw (n - args.length) (.o undef)) { tmps:=ys.toArray++Array.replicate (fn.ntmps - ys.toArray.size) undef,defers:=[] } w:=by
  refine⟨Gh.none,I,⟨rfl,rfl,rfl,ze _,fun _ _ _=>rfl,fun _ _ _ h=>h,fun _ _ _ h=>.inl h,fun b g hb=>by simp[Gh.own,Gh.none] at hb,Gh.le.refl _⟩,
   ⟨hm.imm,by simp,by simp,by simp,fun b b' g hb=>by simp[Gh.own,Gh.none] at hb,fun b g hb=>by simp[Gh.own,Gh.none] at hb,fun b g o v hb=>by simp[Gh.own,Gh.none] at hb,fun b _=>⟨rfl,rfl⟩⟩,?_,rfl⟩
  simp only[Array.toList_append,Array.toList_replicate,h3,y8];refine Ad.append (Ad.plain (Al.le.refl I) _ _ hp hd) ?_;rw[hlen];have:∀k,Ad Gh.none I (qw k (.o undef)) (qw k undef):=by
   intro k
   induction k with
   | zero=>exact Ad.nil
   | succ k ih=>exact Ad.cons (by simp[Ab]) ih
  exact this _
 refine calls_of_wp h1 h2 (wp_mono (hwp _ _ hrel) ?_);rintro e a' w' ⟨objs',tm',hk,G',I',hin',hm',hd',hdef⟩;have key:Hr ss (fun r=>K objs r) objs' tm' ->
   a'.defers=[]/\∃v,(results fn a'.tmps).run P w'=.ok v w'/\∃y objs'' r G'' I'',Ending.returned v=.returned y/\K objs'' r/\G.le G''/\Al.le I I''/\In C G'' I'' w'/\MemOk G'' I'' objs'' w'/\Ab G'' I'' r y:=by
  intro hk;unfold Hr at hk
  split at hk
  ·rename_i r hr0;obtain⟨xs,hxs,hr⟩:=Option.bind_eq_some_iff.1 hr0
   ·obtain⟨y,hy,hyd⟩:=Ve (P:=P) (fn:=fn) hm' hd' ss xs h4 hxs;obtain⟨p1,p2⟩:=vC hm' 5 _ r y hr hyd;have hg:w.grownBy w' none:=⟨hin'.os,hin'.tape,hin'.output,hin'.size,fun k hk _=>hin'.block k hk (fun h=>h)⟩;have hle:Al.le I (I'.rows G' objs' w'):=fun g o v hi=>.inl (hin'.imm g o v hi);have hnew:∀g o v,I'.rows G' objs' w' g o v->I g o v\/w.heap.size<=g:=by
     rintro g o v (hi|⟨_,b,E,sz,gen,n,xs,hb,ho⟩)
     ·rcases hin'.news g o v hi with h|h|h
      ·exact .inl h
      ·exact h.elim
      ·exact .inr h
     ·rcases hin'.blk b g ho with h|h
      ·exact h.elim
      ·exact .inr h
    refine⟨hdef,y,hy,y,objs,r,G,I'.rows G' objs' w',rfl,hk,Gh.le.refl G,hle,(hin.evolve hg (by simp)).imm_more hle ?_,(hm.evolve hg).imm_more hle ?_ ?_,Ab.plain (Al.le.refl _) r y p2 p1⟩
    ·intro g o v hi;rcases hnew g o v hi with h|h
     ·exact .inl h
     ·exact .inr (.inr (Nat.le_trans hin.size h))
    ·rintro g o v (hi|⟨hc,_⟩)
     ·exact hm'.imm g o v hi
     ·exact hc
    ·intro b g o v hb hi;rcases hnew g o v hi with h|h
     ·exact hm.apart b g o v hb h
     ·have:=hm.lt b g hb;omega
  ·exact hk.elim
 cases e with
 | normal=>exact key hk
 | ret=>exact key hk
 | _=>exact hk.elim
def Hp (ss:List SRes) (K:List OB->AV->Prop) (objs:List OB) (tm:List AV):Prop :=
 match Fo objs tm ss with
 | some xs=>K objs (F9 xs)
 | none=>False
def M0 (ss:List SRes) (K:List OB->AV->Prop):Bp
 | .normal,objs,tm=>Hp ss K objs tm
 | .ret,objs,tm=>Hp ss K objs tm
 | _,_,_=>False
theorem pJ [Tabs P] {f:FuncId} {n:Nat} {ss:List SRes} {sc:SCode} (hf:FnIs P f n ss sc) {args:List AV} {objs:List OB} {K:List OB->AV->Prop}
  (h:∀(C:Cx) [On P C],Ey P C sc (M0 ss K) objs (args++qw (n - args.length) (.o undef))):Ah P f args objs K:=by
 intro C hOn G I w hin hm ys hd;obtain⟨fn,c,h1,h2,h3,h4,h5⟩:=hf.is
 let C':Cx:=⟨C.w,C.own,I,G⟩
 haveI hOn':On P C':=⟨hOn.tab,hOn.own⟩
 have hwp:=Rt (C:=C') c sc _ objs _ h5 (h C');have hlen:=hd.length;have hrel:Eo C' objs (args++qw (n - args.length) (.o undef)) { tmps:=ys.toArray++Array.replicate (fn.ntmps - ys.toArray.size) undef,defers:=[] } w:=by
  refine⟨G,I,⟨hin.os,hin.tape,hin.output,hin.size,hin.block,fun _ _ _ h=>h,fun _ _ _ h=>.inl h,hin.blk,Gh.le.refl G⟩,hm,?_,rfl⟩;simp only[Array.toList_append,Array.toList_replicate,h3,y8];refine Ad.append hd ?_;rw[hlen];have:∀k,Ad G I (qw k (.o undef)) (qw k undef):=by
   intro k
   induction k with
   | zero=>exact Ad.nil
   | succ k ih=>exact Ad.cons (by simp[Ab]) ih
  exact this _
 refine calls_of_wp h1 h2 (wp_mono (hwp _ _ hrel) ?_);rintro e a' w' ⟨objs',tm',hk,G',I',hin',hm',hd',hdef⟩;have key:Hp ss K objs' tm' ->
   a'.defers=[]/\∃v,(results fn a'.tmps).run P w'=.ok v w'/\∃y objs'' r G'' I'',Ending.returned v=.returned y/\K objs'' r/\G.le G''/\Al.le I I''/\In C G'' I'' w'/\MemOk G'' I'' objs'' w'/\Ab G'' I'' r y:=by
  intro hk;unfold Hp at hk
  split at hk
  ·rename_i xs hxs;obtain⟨y,hy,hyd⟩:=Ve (P:=P) (fn:=fn) hm' hd' ss xs h4 hxs;refine⟨hdef,y,hy,y,objs',_,G',I',rfl,hk,hin'.gh,hin'.imm,⟨hin'.os,hin'.tape,hin'.output,hin'.size,hin'.block,fun g o v hi=>hin'.imm g o v (hin.imm g o v hi),fun g o v hi=>?_,hin'.blk,hin.gh.trans hin'.gh⟩,hm',hyd⟩;rcases hin'.news g o v hi with h|h
   ·exact hin.news g o v h
   ·exact .inr h
  ·exact hk.elim
 cases e with
 | normal=>exact key hk
 | ret=>exact key hk
 | _=>exact hk.elim
theorem law_ok [Tabs P] {f:FuncId} {args:List AV} {ys:List Value} {w:World} (hd:Ad Gh.none (fun g o v=>w.cell? ⟨g,o,none⟩=some v) args ys) (hT:Tabs.T (P:=P) w) (h:Ah P f args [] (fun _ r=>r=.b true)) :
  Calls P f ys.toArray w fun e w'=>e=.returned (.bool true)/\Below w.heap.size w w':=by
 haveI:On P ⟨w,fun _=>False,fun g o v=>w.cell? ⟨g,o,none⟩=some v,Gh.none⟩:=⟨hT,fun _ h=>h⟩
 have hc:=h ⟨w,fun _=>False,fun g o v=>w.cell? ⟨g,o,none⟩=some v,Gh.none⟩ Gh.none (fun g o v=>w.cell? ⟨g,o,none⟩=some v) w
  ⟨rfl,rfl,rfl,ze _,fun _ _ _=>rfl,fun _ _ _ h=>h,fun _ _ _ h=>.inl h,fun b g hb=>by simp[Gh.own,Gh.none] at hb,Gh.le.refl _⟩
  ⟨fun _ _ _ h=>h,by simp,by simp,by simp,fun b b' g hb=>by simp[Gh.own,Gh.none] at hb,fun b g hb=>by simp[Gh.own,Gh.none] at hb,fun b g o v hb=>by simp[Gh.own,Gh.none] at hb,fun b _=>⟨rfl,rfl⟩⟩ ys hd
 refine hc.mono ?_;rintro e w' ⟨y,objs',r,G',I',rfl,rfl,_,_,hin,_,hy⟩;simp only[Ab] at hy;subst hy;exact⟨rfl,hin.os,hin.tape,hin.output,hin.size,fun k hk=>hin.block k hk (fun h=>h)⟩
end
inductive IT where
 | code (c:SCode)
 | ops (l:List SO)
 | dops (l:List SO)
 | ap (l:List (Nat×Nat×Option (Nat×Bool)))
 | blk (id:Nat)
def Dh (P:Program) [Tabs P] (C:Cx) (F:Bp):List IT->Bp
 | []=>F
 | .code c::k=>FO (fun o t=>Ey P C c (Dh P C F k) o t) (Dh P C F k)
 | .ops l::k=>FO (fun o t=>Aw P l o t fun o t=>Dh P C F k .normal o t) (Dh P C F k)
 | .dops l::k=>FO (fun o t=>Cz P l o t fun o t=>Dh P C F k .normal o t) (Dh P C F k)
 | .ap l::k=>FO (fun o t=>FG l t/\Dh P C F k .normal o t) (Dh P C F k)
 | .blk id::k=>Ht id (Dh P C F k)
def run (P:Program) [Tabs P] (C:Cx) (k:List IT) (objs:List OB) (tm:List AV) (F:Bp):Prop:=Dh P C F k .normal objs tm
def Fb (P:Program) [Tabs P] (C:Cx) (id:Nat) (k:List IT) (objs:List OB) (tm:List AV) (F:Bp):Prop:=Dh P C F k (.exit id) objs tm
def Lr (P:Program) [Tabs P] (C:Cx) (J:Nat->List OB->List AV->Prop) (n:Nat) (k:List IT) (F:Bp):Bp:=FO (fun o t=>∃m,m<n/\J m o t) (Dh P C F k)
def FA (tm:List AV):List SV->List AV
 | []=>[]
 | x::xs=>x.ev tm::FA tm xs
theorem IB (tm:List AV):∀l:List SV,FA tm l=l.map fun x=>x.ev tm
 | []=>rfl
 | x::l=>by rw[FA,IB tm l];rfl
section
variable {P:Program} [Tabs P] {C:Cx} {F:Bp} {k:List IT} {r:List SO} {objs:List OB} {tm:List AV} {d:Option Nat}
theorem vI:run P C [] objs tm F=F .normal objs tm:=Eq.trans rfl rfl
theorem vL (x y:SCode):run P C (.code (.seq x y)::k) objs tm F=run P C (.code x::.code y::k) objs tm F:=Eq.trans rfl rfl
theorem Yt:run P C (.code .skip::k) objs tm F=run P C k objs tm F:=Eq.trans rfl rfl
theorem vJ (l:List SO):run P C (.code (.reg l)::k) objs tm F=run P C (.ops l::k) objs tm F:=Eq.trans rfl rfl
theorem rD (l:List (Nat×Nat×Option (Nat×Bool))):run P C (.ap l::k) objs tm F=(FG l tm/\run P C k objs tm F):=Eq.trans rfl rfl
theorem vH (l:List SO) (n:Nat) (ap:List (Nat×Nat×Option (Nat×Bool))):run P C (.code (.drw l n ap)::k) objs tm F=run P C (.dops (l.take n)::.ap ap::.ops (l.drop n)::k) objs tm F:=Eq.trans rfl rfl
theorem vE (pre:List SO) (cl:SO) (post:List SO):run P C (.code (.crg pre cl post)::k) objs tm F=run P C [.ops pre] objs tm (fun _ _ t1=>run P C [.ops [cl]] objs t1 (fun _ o2 t2=>run P C [.ops pre] o2 tm (fun _ _ t=>t=t1)/\run P C (.ops post::k) o2 t2 F)):=Eq.trans rfl rfl
def GX (P:Program) [Tabs P] (C:Cx):List (List SO×List AV×List AV)->List OB->Prop
 | [],_=>True
 | e::r,o=>run P C [.ops e.1] o e.2.1 (fun _ _ x=>x=e.2.2)/\GX P C r o
def J3 (P:Program) [Tabs P] (C:Cx) (st:List (List SO×SO)) (hist:List (List SO×List AV×List AV)) (last:List SO) (k:List IT) (objs:List OB) (tm:List AV) (F:Bp):Prop:=Fc P st hist last objs tm fun o t=>run P C k o t F
theorem Lw:∀(h:List (List SO×List AV×List AV)) (o:List OB),CU P h o=GX P C h o
 | [],o=>rfl
 | e::h,o=>by
  unfold CU GX;rw[Lw h o]
  rfl
theorem vF (st:List (List SO×SO)) (last:List SO):run P C (.code (.crs st last)::k) objs tm F=J3 P C st [] last k objs tm F:=Eq.trans rfl rfl
theorem rK (h:List (List SO×List AV×List AV)) (last:List SO):J3 P C [] h last k objs tm F=run P C (.ops last::k) objs tm F:=Eq.trans rfl rfl
theorem rJ (L:List SO) (c:SO) (st:List (List SO×SO)) (h:List (List SO×List AV×List AV)) (last:List SO):J3 P C ((L,c)::st) h last k objs tm F=run P C [.ops L] objs tm (fun _ _ u=>run P C [.ops [c]] objs u (fun _ o' t'=>GX P C ((L,tm,u)::h) o'/\J3 P C st ((L,tm,u)::h) last k o' t' F)):=by
 rw[show J3 P C ((L,c)::st) h last k objs tm F=Aw P L objs tm (fun _ u=>Aw P [c] objs u fun o' t'=>CU P ((L,tm,u)::h) o'/\Fc P st ((L,tm,u)::h) last o' t' fun o t=>run P C k o t F) from rfl];simp only[Lw (C:=C)]
 rfl
def J4 (P:Program) [Tabs P] (C:Cx) (d:Nat) (T:TypeId) (z:List AV) (sr:SO) (st:List (List SO×SO)) (hist:List (List SO×List AV×List AV)) (last:List SO) (k:List IT) (objs:List OB) (tm:List AV) (F:Bp):Prop:=F0 P d T z st hist last objs tm fun o t=>Aw P [sr] o t fun o t=>run P C k o t F
theorem vD (d:Nat) (T:TypeId) (z:List AV) (st:List (List SO×SO)) (last:List SO) (sr:SO):run P C (.code (.cra d T z st last sr)::k) objs tm F=(tm.length<=1000003/\J4 P C d T z sr st [] last k objs tm F):=Eq.trans rfl rfl
theorem rI (d:Nat) (T:TypeId) (z:List AV) (sr:SO) (h:List (List SO×List AV×List AV)) (last:List SO):J4 P C d T z sr [] h last k objs tm F=run P C [.ops last] objs tm (fun _ _ u=>GX P C (DO d (.p objs.length 0) ((last,tm,u)::h)) (objs++[.box T z])/\run P C (.ops [sr]::k) (objs++[.box T z]) (u.set d (.p objs.length 0)) F):=by
 rw[show J4 P C d T z sr [] h last k objs tm F=Aw P last objs tm (fun _ u=>CU P (DO d (.p objs.length 0) ((last,tm,u)::h)) (objs++[.box T z])/\Aw P [sr] (objs++[.box T z]) (u.set d (.p objs.length 0)) fun o t=>run P C k o t F) from rfl];simp only[Lw (C:=C)]
 rfl
theorem rH (d:Nat) (T:TypeId) (z:List AV) (sr:SO) (L:List SO) (c:SO) (st:List (List SO×SO)) (h:List (List SO×List AV×List AV)) (last:List SO):J4 P C d T z sr ((L,c)::st) h last k objs tm F=run P C [.ops L] objs tm (fun _ _ u=>(GX P C (DO d (.p objs.length 0) ((L,tm,u)::h)) (objs++[.box T z])/\run P C [.ops [c]] (objs++[.box T z]) (u.set d (.p objs.length 0)) (fun _ o' t'=>GX P C (DO d (.p objs.length 0) ((L,tm,u)::h)) o'/\J3 P C st (DO d (.p objs.length 0) ((L,tm,u)::h)) last (.ops [sr]::k) o' t' F))/\run P C [.ops [c]] objs u (fun _ o' t'=>GX P C ((L,tm,u)::h) o'/\J4 P C d T z sr st ((L,tm,u)::h) last k o' t' F)):=by
 rw[show J4 P C d T z sr ((L,c)::st) h last k objs tm F=Aw P L objs tm (fun _ u=>(CU P (DO d (.p objs.length 0) ((L,tm,u)::h)) (objs++[.box T z])/\Aw P [c] (objs++[.box T z]) (u.set d (.p objs.length 0)) (fun o' t'=>CU P (DO d (.p objs.length 0) ((L,tm,u)::h)) o'/\Fc P st (DO d (.p objs.length 0) ((L,tm,u)::h)) last o' t' fun o t=>Aw P [sr] o t fun o t=>run P C k o t F))/\Aw P [c] objs u (fun o' t'=>CU P ((L,tm,u)::h) o'/\F0 P d T z st ((L,tm,u)::h) last o' t' fun o t=>Aw P [sr] o t fun o t=>run P C k o t F)) from rfl];simp only[Lw (C:=C)]
 rfl
theorem DJ (id:Nat) (c:SCode):run P C (.code (.blk id c)::k) objs tm F=run P C (.code c::.blk id::k) objs tm F:=Eq.trans rfl rfl
theorem aN (id:Nat):run P C (.blk id::k) objs tm F=run P C k objs tm F:=Eq.trans rfl rfl
theorem iF:run P C (.ops []::k) objs tm F=run P C k objs tm F:=Eq.trans rfl rfl
theorem jB:run P C (.dops []::k) objs tm F=run P C k objs tm F:=Eq.trans rfl rfl
theorem H7:∀(k:List IT),Dh P C F k .ret objs tm=F .ret objs tm
 | []=>rfl
 | .code c::k=>H7 k
 | .ops l::k=>H7 k
 | .dops l::k=>H7 k
 | .ap l::k=>H7 k
 | .blk id::k=>H7 k
theorem vK:run P C (.code .ret::k) objs tm F=F .ret objs tm:=H7 k
theorem Yr:run P C (.code .dead::k) objs tm F=False:=Eq.trans rfl rfl
theorem Ys (id:Nat):run P C (.code (.exit id)::k) objs tm F=Fb P C id k objs tm F:=Eq.trans rfl rfl
theorem Zm (id:Nat):Fb P C id [] objs tm F=F (.exit id) objs tm:=Eq.trans rfl rfl
theorem bB (id:Nat) (c:SCode):Fb P C id (.code c::k) objs tm F=Fb P C id k objs tm F:=Eq.trans rfl rfl
theorem Zn (id:Nat) (l:List SO):Fb P C id (.ops l::k) objs tm F=Fb P C id k objs tm F:=Eq.trans rfl rfl
theorem dI (id:Nat) (l:List SO):Fb P C id (.dops l::k) objs tm F=Fb P C id k objs tm F:=Eq.trans rfl rfl
theorem uQ (id:Nat) (l:List (Nat×Nat×Option (Nat×Bool))):Fb P C id (.ap l::k) objs tm F=Fb P C id k objs tm F:=Eq.trans rfl rfl
theorem Zl (id id':Nat):Fb P C id (.blk id'::k) objs tm F=if id=id' then run P C k objs tm F else Fb P C id k objs tm F:=Eq.trans rfl rfl
theorem jV (J:Nat->List OB->List AV->Prop) (n:Nat):Lr P C J n k F .normal objs tm=∃m,m<n/\J m objs tm:=Eq.trans rfl rfl
theorem gV (J:Nat->List OB->List AV->Prop) (n id:Nat):Lr P C J n k F (.exit id) objs tm=Fb P C id k objs tm F:=Eq.trans rfl rfl
theorem eK (J:Nat->List OB->List AV->Prop) (n:Nat):Lr P C J n k F .ret objs tm=F .ret objs tm:=H7 k
theorem B4 [On P C] {c:SCode} (J:Nat->List OB->List AV->Prop) (n:Nat) (h0:J n objs tm) (round:∀n objs tm,J n objs tm->run P C [.code c] objs tm (Lr P C J n k F)):run P C (.code (.loop c)::k) objs tm F :=
 bA J n h0 round
def I9 (P:Program) [Tabs P] (C:Cx) (d:Option Nat) (r:List SO) (k:List IT) (tm:List AV) (F:Bp) (o:List OB) (v:AV):Prop:=run P C (.ops r::k) o (AS tm d v) F
theorem sC (o:List OB) (v:AV):I9 P C d r k tm F o v=run P C (.ops r::k) o (AS tm d v) F:=Eq.trans rfl rfl
theorem rE (op:SOp):run P C (.ops (⟨d,op,none⟩::r)::k) objs tm F=Ai P op objs tm (I9 P C d r k tm F):=Eq.trans rfl rfl
section
variable (objs) (N:List OB->AV->Prop)
def kO:Option AV->Prop
 | some v=>N objs v
 | none=>False
theorem pU (c:Prop) [Decidable c] (v:AV):kO objs N (if c then some v else none)=(c/\N objs v):=by
 by_cases h:c<;>simp[h,kO]
theorem pT (x:Option AV):(∃v,x=some v/\N objs v)=kO objs N x:=by cases x<;>simp[kO]
theorem pF (x:Option AV):(match x with|some v=>N objs v|none=>False)=kO objs N x:=by cases x<;>rfl
def Nk (x y:AV):AV->Prop
 | .b t=>(t=true->N objs x)/\(t=false->N objs y)
 | _=>False
theorem XN (x y:AV):Nk objs N x y (.b true)=N objs x:=propext ⟨fun h=>h.1 rfl,fun h=>⟨fun _=>h,fun e=>absurd e.symm Bool.false_ne_true⟩⟩
theorem XM (x y:AV):Nk objs N x y (.b false)=N objs y:=propext ⟨fun h=>h.2 rfl,fun h=>⟨fun e=>absurd e Bool.false_ne_true,fun _=>h⟩⟩
theorem uP (c x y:SV):Ai P (.pick c x y) objs tm N=Nk objs N (x.ev tm) (y.ev tm) (c.ev tm):=Eq.trans rfl rfl
def M8:AV->Prop
 | .p b off=>match objs[b]? with
  | some (.box _ cs)=>kO objs N cs[off]?
  | _=>False
 | .prow xs j=>kO objs N xs[j]?
 | .porow b gen j=>match objs[b]? with
  | some (.orow _ _ gen' _ xs)=>gen'=gen/\kO objs N xs[j]?
  | _=>False
 | _=>False
theorem Zh (x:SV):Ai P (.load1 x) objs tm N=M8 objs N (x.ev tm):=by
 simp only[Ai,pT,pF]
 cases x.ev tm<;>rfl
def Fd (z:Int):IntKind->Prop
 | .i64=>(-9223372036854775808<=z/\z<=9223372036854775807)/\N objs (.i .i64 z)
 | .i8=>N objs (.i .i8 (IntKind.wrap .i8 z))
 | .i16=>N objs (.i .i16 (IntKind.wrap .i16 z))
 | .i32=>N objs (.i .i32 (IntKind.wrap .i32 z))
 | .u8=>N objs (.i .u8 (IntKind.wrap .u8 z))
 | .u16=>N objs (.i .u16 (IntKind.wrap .u16 z))
 | .u32=>N objs (.i .u32 (IntKind.wrap .u32 z))
 | .u64=>N objs (.i .u64 (IntKind.wrap .u64 z))
theorem QN (q:IntKind) (z:Int):Fe q z (fun z=>N objs (.i q z))=Fd objs N z q:=by cases q<;>rfl
def WZ:AV->Prop
 | .i q n=>Fd objs N (0 - n) q
 | _=>False
theorem rR (x:SV):Ai P (.neg x) objs tm N=WZ objs N (x.ev tm):=by
 simp only[Ai,QN]
 cases x.ev tm<;>rfl
def F1 (q:IntKind) (m n:Int):BinOp->Prop
 | .add=>Fd objs N (m+n) q
 | .sub=>Fd objs N (m - n) q
 | .mul=>Fd objs N (m*n) q
 | .quo=>n≠0/\Fd objs N (m.tdiv n) q
 | .rem=>n≠0/\N objs (.i q (m.tmod n))
 | .eql=>N objs (.b (decide (m=n)))
 | .neq=>N objs (.b (decide (¬m=n)))
 | .lss=>N objs (.b (decide (m<n)))
 | .leq=>N objs (.b (decide (m<=n)))
 | .gtr=>N objs (.b (decide (n<m)))
 | .geq=>N objs (.b (decide (n<=m)))
 | _=>False
def Nf (l m:List UInt8):BinOp->Prop
 | .add=>l.length+m.length<=9223372036854775807/\N objs (.s (l++m))
 | .eql=>N objs (.b (decide (l=m)))
 | .neq=>N objs (.b (decide (¬l=m)))
 | _=>False
def M7 (op:BinOp) (x y:AV):Prop:=Gy op x y fun v=>N objs v
theorem rP (op:BinOp) (x y:SV):Ai P (.bin op x y) objs tm N=M7 objs N op (x.ev tm) (y.ev tm):=Eq.trans rfl rfl
theorem tL (op:BinOp) (q:IntKind) (m n:Int):M7 objs N op (.i q m) (.i q n)=F1 objs N q m n op:=by
 simp only[M7,Gy,QN,true_and]
 cases op<;>rfl
theorem tM (op:BinOp) (l m:List UInt8):M7 objs N op (.s l) (.s m)=Nf objs N l m op:=by cases op<;>rfl
def Kc:AV->Prop
 | .row n _=>N objs (.i .i64 n)
 | .nil=>N objs (.i .i64 0)
 | .orow b gen=>match objs[b]? with
  | some (.orow _ _ gen' n _)=>gen'=gen/\N objs (.i .i64 n)
  | _=>False
 | .zn _=>N objs (.i .i64 0)
 | _=>False
theorem uO (x:SV):Ai P (.lenr x) objs tm N=Kc objs N (x.ev tm):=by simp only[Ai];cases x.ev tm<;>rfl
def Qu (E sz by' m:Nat) (ys:List AV):AV->Prop
 | .orow b gen=>match objs[b]? with
  | some (.orow E' sz' gen' n xs)=>((E'=E/\sz'=sz/\gen'=gen)/\ys.length=m*sz/\(n+m)*by'<=140737488355328/\n+m<=140737488355328)/\N (objs.set b (.orow E sz (gen+1) (n+m) (xs++ys))) (.orow b (gen+1))
  | _=>False
 | .nil=>(ys.length=m*sz/\m*by'<=140737488355328/\m<=140737488355328)/\N (objs++[.orow E sz 0 m ys]) (.orow objs.length 0)
 | _=>False
def Xp (E sz by':Nat) (v:AV):Option (Nat×List AV)->Prop
 | some (m,ys)=>Qu objs N E sz by' m ys v
 | none=>False
theorem rO (E sz by':Nat) (x y:SV):Ai P (.app E sz by' x y) objs tm N=Xp objs N E sz by' (x.ev tm) (Ec objs (y.ev tm)):=by
 simp only[Ai]
 cases Ec objs (y.ev tm)<;>rfl
def QF (E:Nat) (l:List UInt8):AV->Prop
 | .orow b gen=>match objs[b]? with
  | some (.orow E' sz' gen' n xs)=>((E'=E/\sz'=1/\gen'=gen)/\n+l.length<=140737488355328)/\N (objs.set b (.orow E 1 (gen+1) (n+l.length) (xs++DQ l))) (.orow b (gen+1))
  | _=>False
 | .nil=>l.length<=140737488355328/\N (objs++[.orow E 1 0 l.length (DQ l)]) (.orow objs.length 0)
 | _=>False
def WW (E:Nat) (v:AV):AV->Prop
 | .s l=>QF objs N E l v
 | _=>False
theorem uL (E:Nat) (x y:SV):Ai P (.apps E x y) objs tm N=WW objs N E (x.ev tm) (y.ev tm):=by
 simp only[Ai]
 cases y.ev tm<;>rfl
def pA (c:Option OB) (gen:Nat):Prop:=match c with
 | some (.orow _ sz gen' _ xs)=>(gen'=gen/\sz=1)/\∃l,xs=DQ l/\N objs (.s l)
 | _=>False
def pB (c:Option OB) (off n:Nat):Prop:=match c with
 | some (.box _ cs)=>∃l,((cs.drop off).take n=DQ l/\l.length=n)/\N objs (.s l)
 | _=>False
def La:AV->Prop
 | .orow b gen=>pA objs N objs[b]? gen
 | .row n xs=>∃l,(xs=DQ l/\n=l.length)/\N objs (.s l)
 | .nil=>N objs (.s [])
 | .bsl b off n=>pB objs N objs[b]? off n
 | _=>False
theorem uN (x:SV):Ai P (.cvbs x) objs tm N=La objs N (x.ev tm):=by
 simp only[Ai]
 cases x.ev tm<;>try rfl
 all_goals simp only[La]
 all_goals
  generalize objs[_]? = q
  cases q with
  | none=>rfl
  | some ob=>cases ob<;>rfl
theorem pZ (q:PQ) (xs:List SV):Ai P (.pu q xs) objs tm N=kO objs N (pq q (FA tm xs)):=by
 simp only[Ai,IB]
 cases pq q (xs.map fun x=>x.ev tm)<;>rfl
def Nj (P:Program) [Tabs P] (f:Nat) (args:List AV):Prop:=Ah P f args objs N
theorem uM (f:Nat) (args:List SV):Ai P (.call f args) objs tm N=Nj objs N P f (FA tm args):=by simp only[Ai,Nj,IB]
def Iq (P : Program) (f : Nat) : Prop := ∃ fn, P.funcs[f]? = some fn ∧ fn.body.isSome = true ∧ fn.name ≠ "runtime.NumGoroutine"
def QO (P:Program) [Tabs P] (args:List AV):AV->Prop
 | .fn f fs cs=>Iq P f/\Ah P f (fs++args++cs) objs N
 | _=>False
theorem Zg (x:SV) (args:List SV):Ai P (.callv x args) objs tm N=QO objs N P (FA tm args) (x.ev tm):=by
 simp only[Ai,IB]
 cases x.ev tm<;>rfl
def pE (P:Program) [Tabs P] (tab:List (Nat×Nat)) (args:List AV):AV->Prop
 | .ip T b off=>match tab.lookup T with
  | some f=>Ah P f (.p b off::args) objs N
  | none=>False
 | _=>False
theorem rQ (tab:List (Nat×Nat)) (x:SV) (args:List SV):Ai P (.inv tab x args) objs tm N=pE objs N P tab (FA tm args) (x.ev tm):=by
 simp only[Ai,IB]
 cases x.ev tm<;>rfl
end
section
variable {N:List OB->AV->Prop}
theorem Ae {f:Nat} {args:List AV} (h:Ah P f args objs N):Nj objs N P f args:=h
theorem Fq {f:Nat} {fs cs args:List AV} (hf:Iq P f) (h:Ah P f (fs++args++cs) objs N):QO objs N P args (.fn f fs cs):=⟨hf,h⟩
end
theorem sY (q:IntKind) (a b:Int):pq (.bits .and) [.i q a,.i q b]=some (.i q (q.wrap (BitVec.ofInt q.bits a &&& BitVec.ofInt q.bits b).toNat)):=by simp[pq,Jn]
theorem qZ (q:IntKind) (a b:Int):pq (.bits .or) [.i q a,.i q b]=some (.i q (q.wrap (BitVec.ofInt q.bits a ||| BitVec.ofInt q.bits b).toNat)):=by simp[pq,Jn]
theorem vB (q:IntKind) (a b:Int):pq (.bits .xor) [.i q a,.i q b]=some (.i q (q.wrap (BitVec.ofInt q.bits a ^^^ BitVec.ofInt q.bits b).toNat)):=by simp[pq,Jn]
theorem vY (q q':IntKind) (a b:Int):pq .shl [.i q a,.i q' b]=if 0<=b then some (.i q (q.wrap (a*2 ^ (min b.toNat q.bits)))) else none:=Eq.trans rfl rfl
theorem uV (q q':IntKind) (a b:Int):pq .shr [.i q a,.i q' b]=if 0<=b then some (.i q (a.fdiv (2 ^ (min b.toNat q.bits)))) else none:=Eq.trans rfl rfl
theorem qX (q:IntKind) (a b:Int):pq .mn [.i q a,.i q b]=some (.i q (if b<a then b else a)):=by simp[pq]
theorem qY (q:IntKind) (a b:Int):pq .mx [.i q a,.i q b]=some (.i q (if a<b then b else a)):=by simp[pq]
theorem vX (sz n:Nat) (xs:List AV) (q:IntKind) (a:Int):pq (.rsl sz) [.row n xs,.i q a]=if 0<=a/\a<=n then some (.row (n - a.toNat) ((xs.take (n*sz)).drop (a.toNat*sz))) else none:=Eq.trans rfl rfl
theorem Yk (sz:Nat) (q:IntKind) (a:Int):pq (.rsl sz) [.nil,.i q a]=if a=0 then some .nil else none:=Eq.trans rfl rfl
theorem Yj (sz n:Nat) (xs:List AV) (q:IntKind) (a:Int):pq (.rslh sz) [.row n xs,.i q a]=if 0<=a/\a<=n then some (.row a.toNat (xs.take (a.toNat*sz))) else none:=Eq.trans rfl rfl
theorem bW (sz:Nat) (q:IntKind) (a:Int):pq (.rslh sz) [.nil,.i q a]=if a=0 then some .nil else none:=Eq.trans rfl rfl
theorem Yi (sz n:Nat) (xs:List AV) (q q':IntKind) (a b:Int):pq (.rslb sz) [.row n xs,.i q a,.i q' b]=if 0<=a/\a<=b/\b<=n then some (.row (b.toNat - a.toNat) ((xs.take (b.toNat*sz)).drop (a.toNat*sz))) else none:=Eq.trans rfl rfl
theorem vP (sz len b off:Nat) (q:IntKind) (a:Int):pq (.asl sz len) [.p b off,.i q a]=if 0<=a/\a<len then some (.bsl b (off+a.toNat*sz) (len - a.toNat)) else none:=Eq.trans rfl rfl
theorem Yh (sz len b off:Nat) (q:IntKind) (a:Int):pq (.aslh sz len) [.p b off,.i q a]=if 0<=a/\a<=len/\0<len then some (.bsl b off a.toNat) else none:=Eq.trans rfl rfl
theorem Y3 (sz len b off:Nat) (q q':IntKind) (a c:Int):pq (.aslb sz len) [.p b off,.i q a,.i q' c]=if 0<=a/\a<=c/\c<=len/\a<len then some (.bsl b (off+a.toNat*sz) (c.toNat - a.toNat)) else none:=Eq.trans rfl rfl
theorem uX (ne:Bool):pq (.snil ne) [.nil,.nil]=some (.b (!ne)):=Eq.trans rfl rfl
theorem uZ (ne b:Bool):pq (.snil ne) [.zn b,.nil]=some (.b (if ne then !b else b)):=Eq.trans rfl rfl
theorem uY (ne:Bool) (n:Nat) (x:AV) (xs:List AV):pq (.snil ne) [.row n (x::xs),.nil]=some (.b ne):=Eq.trans rfl rfl
theorem uW (n:Nat) (xs:List AV) (q q':IntKind):pq .sl3 [.row n xs,.i q n,.i q' n]=some (.crow n xs):=by simp[pq]
theorem vT (n:Nat) (z:List AV) (pl:List (Nat×Nat)) (xs:List AV):pq (.lit n z pl) xs=(EM z (Hv pl xs)).map (.crow n):=by
 simp only[pq]
theorem uT (a b:Nat) (pl:List (Nat×Nat)) (x:AV) (xs:List AV):Hv ((a,b)::pl) (x::xs)=(a,b,x)::Hv pl xs:=Eq.trans rfl rfl
theorem uU (xs:List AV):Hv [] xs=[]:=by cases xs<;>rfl
theorem Yl (q q':IntKind):pq .sl3 [.nil,.i q 0,.i q' 0]=some (.crow 0 []):=by simp[pq]
theorem vW (T b off:Nat):pq (.mki T) [.p b off]=some (.ip T b off):=Eq.trans rfl rfl
theorem vV (T:Nat) (q:IntKind) (n:Int):pq (.mki T) [.i q n]=some (.o (.iface T (.int q n))):=Eq.trans rfl rfl
theorem vA (T:Nat) (q:IntKind) (n:Int):pq (.tas T) [.o (.iface T (.int q n))]=some (.tup [.i q n,.b true]):=by simp[pq]
theorem vU (l m:List UInt8):pq (.scmp .lss) [.s l,.s m]=some (.b (Ha l m)):=Eq.trans rfl rfl
theorem vS (l m:List UInt8):pq (.scmp .leq) [.s l,.s m]=some (.b (Ha l m||l==m)):=Eq.trans rfl rfl
theorem vR (l m:List UInt8):pq (.scmp .gtr) [.s l,.s m]=some (.b (!Ha l m&&!(l==m))):=Eq.trans rfl rfl
theorem vQ (l m:List UInt8):pq (.scmp .geq) [.s l,.s m]=some (.b (!Ha l m)):=Eq.trans rfl rfl
def kG (P:Program) [Tabs P] (C:Cx) (v:AV) (op:SOp) (t:Nat) (w:Bool) (d:Option Nat) (r:List SO) (k:List IT) (objs:List OB) (tm:List AV) (F:Bp):Prop :=
 match v with
 | .b x=>(x=w->run P C (.ops (⟨d,op,none⟩::r)::k) objs (tm.set t (.b w)) F)/\(x=!w->run P C (.ops r::k) objs (AS (tm.set t (.b (!w))) d (.o undef)) F)
 | .o (.tuple _)=>run P C (.ops r::k) objs (AS tm d (.o undef)) F
 | _=>False
def Ik (P:Program) [Tabs P] (C:Cx) (v:AV) (op:SOp) (t:Nat) (w:Bool) (d:Option Nat) (r:List SO) (k:List IT) (objs:List OB) (tm:List AV) (F:Bp):Prop :=
 match v with
 | .b x=>(x=w->run P C (.dops (⟨d,op,none⟩::r)::k) objs (tm.set t (.b w)) F)/\(x=!w->run P C (.dops r::k) objs (AS (tm.set t (.b (!w))) d (.o undef)) F)
 | .o (.tuple _)=>run P C (.dops r::k) objs (AS tm d (.o undef)) F
 | _=>False
theorem pS (op:SOp) (t:Nat):kG P C (.b true) op t true d r k objs tm F=run P C (.ops (⟨d,op,none⟩::r)::k) objs (tm.set t (.b true)) F:=propext ⟨fun h=>h.1 rfl,fun h=>⟨fun _=>h,fun e=>absurd e (by decide)⟩⟩
theorem pR (op:SOp) (t:Nat):kG P C (.b true) op t false d r k objs tm F=run P C (.ops r::k) objs (AS (tm.set t (.b true)) d (.o undef)) F:=propext ⟨fun h=>h.2 rfl,fun h=>⟨fun e=>absurd e (by decide),fun _=>h⟩⟩
theorem pQ (op:SOp) (t:Nat):kG P C (.b false) op t true d r k objs tm F=run P C (.ops r::k) objs (AS (tm.set t (.b false)) d (.o undef)) F:=propext ⟨fun h=>h.2 rfl,fun h=>⟨fun e=>absurd e (by decide),fun _=>h⟩⟩
theorem pP (op:SOp) (t:Nat):kG P C (.b false) op t false d r k objs tm F=run P C (.ops (⟨d,op,none⟩::r)::k) objs (tm.set t (.b false)) F:=propext ⟨fun h=>h.1 rfl,fun h=>⟨fun _=>h,fun e=>absurd e (by decide)⟩⟩
theorem pC (op:SOp) (t:Nat) (w:Bool):kG P C (.o undef) op t w d r k objs tm F=run P C (.ops r::k) objs (AS tm d (.o undef)) F:=Eq.trans rfl rfl
theorem pD (op:SOp) (t:Nat) (w:Bool) (vs:Array Value):kG P C (.o (.tuple vs)) op t w d r k objs tm F=run P C (.ops r::k) objs (AS tm d (.o undef)) F:=Eq.trans rfl rfl
theorem tQ (op:SOp) (t:Nat):Ik P C (.b true) op t true d r k objs tm F=run P C (.dops (⟨d,op,none⟩::r)::k) objs (tm.set t (.b true)) F:=propext ⟨fun h=>h.1 rfl,fun h=>⟨fun _=>h,fun e=>absurd e (by decide)⟩⟩
theorem tP (op:SOp) (t:Nat):Ik P C (.b true) op t false d r k objs tm F=run P C (.dops r::k) objs (AS (tm.set t (.b true)) d (.o undef)) F:=propext ⟨fun h=>h.2 rfl,fun h=>⟨fun e=>absurd e (by decide),fun _=>h⟩⟩
theorem tO (op:SOp) (t:Nat):Ik P C (.b false) op t true d r k objs tm F=run P C (.dops r::k) objs (AS (tm.set t (.b false)) d (.o undef)) F:=propext ⟨fun h=>h.2 rfl,fun h=>⟨fun e=>absurd e (by decide),fun _=>h⟩⟩
theorem tN (op:SOp) (t:Nat):Ik P C (.b false) op t false d r k objs tm F=run P C (.dops (⟨d,op,none⟩::r)::k) objs (tm.set t (.b false)) F:=propext ⟨fun h=>h.1 rfl,fun h=>⟨fun _=>h,fun e=>absurd e (by decide)⟩⟩
theorem pN (op:SOp) (t:Nat) (w:Bool):Ik P C (.o undef) op t w d r k objs tm F=run P C (.dops r::k) objs (AS tm d (.o undef)) F:=Eq.trans rfl rfl
theorem pO (op:SOp) (t:Nat) (w:Bool) (vs:Array Value):Ik P C (.o (.tuple vs)) op t w d r k objs tm F=run P C (.dops r::k) objs (AS tm d (.o undef)) F:=Eq.trans rfl rfl
theorem aM (op:SOp) (t:Nat) (w:Bool):run P C (.ops (⟨d,op,some (t,w)⟩::r)::k) objs tm F=kG P C ((tm[t]?).getD .u) op t w d r k objs tm F:=by
 show Aw P _ _ _ _=_;simp only[Aw,kG]
 cases (tm[t]?).getD .u<;>try rfl
 try (case o v=>cases v<;>rfl)
theorem gC (op:SOp) (t:Nat) (w:Bool):run P C (.dops (⟨d,op,some (t,w)⟩::r)::k) objs tm F=Ik P C ((tm[t]?).getD .u) op t w d r k objs tm F:=by
 show Cz P _ _ _ _=_;simp only[Cz,Ik]
 cases (tm[t]?).getD .u<;>try rfl
 try (case o v=>cases v<;>rfl)
def kC (P:Program) [Tabs P] (C:Cx) (v:AV) (x y:SCode) (k:List IT) (objs:List OB) (tm:List AV) (F:Bp):Prop :=
 match v with
 | .b t=>(t=true->run P C (.code x::k) objs tm F)/\(t=false->run P C (.code y::k) objs tm F)
 | _=>False
theorem WY (x y:SCode):kC P C (.b true) x y k objs tm F=run P C (.code x::k) objs tm F:=propext ⟨fun h=>h.1 rfl,fun h=>⟨fun _=>h,fun e=>absurd e (by decide)⟩⟩
theorem WX (x y:SCode):kC P C (.b false) x y k objs tm F=run P C (.code y::k) objs tm F:=propext ⟨fun h=>h.2 rfl,fun h=>⟨fun e=>absurd e (by decide),fun _=>h⟩⟩
theorem NX (c:SV) (x y:SCode):run P C (.code (.cond c x y)::k) objs tm F=kC P C (c.ev tm) x y k objs tm F:=by
 show Ey P C _ _ _ _=_;simp only[Ey,kC]
 cases c.ev tm<;>rfl
def LB (P:Program) [Tabs P] (C:Cx) (f:Nat) (args:List AV) (d:Option Nat) (r:List SO) (k:List IT) (objs:List OB) (tm:List AV) (F:Bp):Prop:=∃v,(Ah P f args objs fun o x=>o=objs/\x=v)/\run P C (.dops r::k) objs (AS tm d v) F
theorem aL (f:Nat) (args:List SV):run P C (.dops (⟨d,.call f args,none⟩::r)::k) objs tm F=LB P C f (FA tm args) d r k objs tm F:=by
 show Cz P _ _ _ _=_;simp only[Cz,Ai,LB,IB,SOp.isCall,if_true];rfl
def LC (P:Program) [Tabs P] (C:Cx) (f:Nat) (args:List AV) (d:Option Nat) (r:List SO) (k:List IT) (objs:List OB) (tm:List AV) (F:Bp):Prop:=∃v,(AE args=true/\Ah P f args [] fun _ x=>x.plain=true/\objs=objs/\x=v)/\run P C (.dops r::k) objs (AS tm d v) F
theorem SR (f:Nat) (args:List SV):run P C (.dops (⟨d,.pcall f args,none⟩::r)::k) objs tm F=LC P C f (FA tm args) d r k objs tm F:=by
 show Cz P (⟨d,.pcall f args,none⟩::r) objs tm _=_;simp only[Cz,Ai,LC,IB,SOp.isCall,if_true];rfl
theorem NK {f:Nat} {args:List AV} {v:AV} (h:Ah P f args [] fun _ x=>x=v) (hp:AE args=true) (hv:v.plain=true) (hr:run P C (.dops r::k) objs (AS tm d v) F):LC P C f args d r k objs tm F :=
 ⟨v,⟨hp,h.mono fun _ x e=>by subst e;exact⟨hv,rfl,rfl⟩⟩,hr⟩
theorem Dl {f:Nat} {args:List AV} {v:AV} (h:Ah P f args objs fun o x=>o=objs/\x=v) (hr:run P C (.dops r::k) objs (AS tm d v) F):LB P C f args d r k objs tm F:=⟨v,h,hr⟩
section
variable (P) [Tabs P] (C) (d r k objs tm F)
def dT (op:SOp):Prop:=run P C (.ops [⟨d,op,none⟩]::.dops r::k) objs tm F
def dS:SOp->Prop
 | .call f a=>LB P C f (FA tm a) d r k objs tm F
 | .pcall f a=>LC P C f (FA tm a) d r k objs tm F
 | .mv x=>dT P C F k r objs tm d (.mv x)
 | .pick x y z=>dT P C F k r objs tm d (.pick x y z)
 | .alloc x y=>dT P C F k r objs tm d (.alloc x y)
 | .box x y=>dT P C F k r objs tm d (.box x y)
 | .build x y=>dT P C F k r objs tm d (.build x y)
 | .bslice x y z=>dT P C F k r objs tm d (.bslice x y z)
 | .bslo x y z v w=>dT P C F k r objs tm d (.bslo x y z v w)
 | .load1 x=>dT P C F k r objs tm d (.load1 x)
 | .loadn x y=>dT P C F k r objs tm d (.loadn x y)
 | .store x y z=>dT P C F k r objs tm d (.store x y z)
 | .nck x=>dT P C F k r objs tm d (.nck x)
 | .bin x y z=>dT P C F k r objs tm d (.bin x y z)
 | .beq x y z=>dT P C F k r objs tm d (.beq x y z)
 | .eqs x y z v=>dT P C F k r objs tm d (.eqs x y z v)
 | .not x=>dT P C F k r objs tm d (.not x)
 | .neg x=>dT P C F k r objs tm d (.neg x)
 | .cvi x y=>dT P C F k r objs tm d (.cvi x y)
 | .cvs x=>dT P C F k r objs tm d (.cvs x)
 | .cvbs x=>dT P C F k r objs tm d (.cvbs x)
 | .slcs x y z=>dT P C F k r objs tm d (.slcs x y z)
 | .fad x y=>dT P C F k r objs tm d (.fad x y)
 | .fld1 x y=>dT P C F k r objs tm d (.fld1 x y)
 | .fldn x y z=>dT P C F k r objs tm d (.fldn x y z)
 | .iad x y z=>dT P C F k r objs tm d (.iad x y z)
 | .iada x y z v=>dT P C F k r objs tm d (.iada x y z v)
 | .iadr x y z=>dT P C F k r objs tm d (.iadr x y z)
 | .idx x y=>dT P C F k r objs tm d (.idx x y)
 | .ext x y=>dT P C F k r objs tm d (.ext x y)
 | .app x y z v w=>dT P C F k r objs tm d (.app x y z v w)
 | .apps x y z=>dT P C F k r objs tm d (.apps x y z)
 | .lens x=>dT P C F k r objs tm d (.lens x)
 | .lenr x=>dT P C F k r objs tm d (.lenr x)
 | .mks x y z v w=>dT P C F k r objs tm d (.mks x y z v w)
 | .mkz x y z v w=>dT P C F k r objs tm d (.mkz x y z v w)
 | .capp x y z v=>dT P C F k r objs tm d (.capp x y z v)
 | .cappo x y z v w=>dT P C F k r objs tm d (.cappo x y z v w)
 | .trn x y z=>dT P C F k r objs tm d (.trn x y z)
 | .mkf x y z=>dT P C F k r objs tm d (.mkf x y z)
 | .pu x y=>dT P C F k r objs tm d (.pu x y)
 | .mkm0=>dT P C F k r objs tm d (.mkm0)
 | .mkm1 x=>dT P C F k r objs tm d (.mkm1 x)
 | .lk x y z v=>dT P C F k r objs tm d (.lk x y z v)
 | .mup x y z=>dT P C F k r objs tm d (.mup x y z)
 | .mph x y z v w=>dT P C F k r objs tm d (.mph x y z v w)
 | op=>Cz P (⟨d,op,none⟩::r) objs tm fun o t=>Dh P C F k .normal o t
end
theorem qF (op:SOp):dT P C F k r objs tm d op=run P C (.ops [⟨d,op,none⟩]::.dops r::k) objs tm F:=Eq.trans rfl rfl
theorem vG (op:SOp):run P C (.dops (⟨d,op,none⟩::r)::k) objs tm F=dS P C F k r objs tm d op:=by
 cases op
 case call f a=>exact aL f a
 case pcall f a=>exact SR f a
 all_goals rfl
theorem AF {f:FuncId} {n:Nat} {ss:List SRes} {sc:SCode} (hf:FnIs P f n ss sc) {args:List AV} {objs:List OB} {K:List OB->AV->Prop} (hp:AE args=true)
  (h:∀(C:Cx) [On P C],run P C [.code sc] [] (args++qw (n - args.length) (.o undef)) (Ip ss fun r=>K objs r)):Ah P f args objs K :=
 pK hf hp h
theorem DI {f:FuncId} {n:Nat} {ss:List SRes} {sc:SCode} (hf:FnIs P f n ss sc) {args:List AV} {objs:List OB} {K:List OB->AV->Prop}
  (h:∀(C:Cx) [On P C],run P C [.code sc] objs (args++qw (n - args.length) (.o undef)) (M0 ss K)):Ah P f args objs K :=
 pJ hf h
theorem tB (ss:List SRes) (K:List OB->AV->Prop):M0 ss K .normal objs tm=Hp ss K objs tm:=Eq.trans rfl rfl
theorem tC (ss:List SRes) (K:List OB->AV->Prop):M0 ss K .ret objs tm=Hp ss K objs tm:=Eq.trans rfl rfl
def W2 (K:List OB->AV->Prop) (objs:List OB):Option (List AV)->Prop
 | some xs=>K objs (F9 xs)
 | none=>False
theorem sV (K:List OB->AV->Prop) (xs:List AV):W2 K objs (some xs)=K objs (F9 xs):=Eq.trans rfl rfl
theorem YY (ss:List SRes) (K:List OB->AV->Prop):Hp ss K objs tm=W2 K objs (Fo objs tm ss):=by
 unfold Hp
 cases Fo objs tm ss<;>rfl
theorem tD (ss:List SRes) (K:AV->Prop):Ip ss K .normal objs tm=Hr ss K objs tm:=Eq.trans rfl rfl
theorem tE (ss:List SRes) (K:AV->Prop):Ip ss K .ret objs tm=Hr ss K objs tm:=Eq.trans rfl rfl
def W4 (K:AV->Prop):Option AV->Prop
 | some r=>K r
 | none=>False
theorem sW (K:AV->Prop) (r:AV):W4 K (some r)=K r:=Eq.trans rfl rfl
theorem YZ (ss:List SRes) (K:AV->Prop):Hr ss K objs tm=W4 K ((Fo objs tm ss).bind fun xs=>pub objs 5 (F9 xs)):=by
 unfold Hr
 cases (Fo objs tm ss).bind (fun xs=>pub objs 5 (F9 xs))<;>rfl
end
theorem A2 {a b:Prop} (x:a) (y:b):a/\b:=⟨x,y⟩
set_option linter.defProp false in
def wB:=A2 @vI <| A2 @vL <| A2 @Yt <| A2 @vJ <| A2 @rD <| A2 @vH <| A2 @vE <| A2 @vF <| A2 @vD <| A2 @rI <| A2 @rH <| A2 @DO.eq_1 <| A2 @rK <| A2 @rJ <| A2 @GX.eq_1 <| A2 @GX.eq_2 <| A2 @DJ <| A2 @aN <| A2 @iF <| A2 @jB <| A2 @vK <| A2 @Yr <| A2 @Ys <| A2 @Zm <| A2 @bB <| A2 @Zn <| A2 @dI <| A2 @uQ <| A2 @Zl <| A2 @FG.eq_1 <| A2 @FG.eq_2 <| A2 @J6.eq_1 <| A2 @J6.eq_2 <| A2 @Lf.eq_1 <| A2 @Lf.eq_2 <| A2 @Lf.eq_3 <| A2 @Lf.eq_4 <| A2 @QJ.eq_1 <| A2 @QJ.eq_2 <| A2 @Gb.eq_1 <| A2 @Gb.eq_2 <| A2 @Gb.eq_3 <| A2 @Gb.eq_4 <| A2 @Gb.eq_5 <| A2 @Gb.eq_6 <| A2 @jV <| A2 @gV <| A2 @eK <| A2 @tD <| A2 @tE <| A2 @sW <| A2 @YZ <| A2 @tB <| A2 @tC <| A2 @sV <| A2 @YY <| A2 @sC <| A2 @rE <| A2 @kO.eq_1 <| A2 @pU <| A2 @XN <| A2 @XM <| A2 @uP <| A2 @M8.eq_1 <| A2 @M8.eq_2 <| A2 @M8.eq_3 <| A2 @Zh <| A2 @Fd.eq_1 <| A2 @Fd.eq_2 <| A2 @Fd.eq_3 <| A2 @Fd.eq_4 <| A2 @Fd.eq_5 <| A2 @Fd.eq_6 <| A2 @Fd.eq_7 <| A2 @Fd.eq_8 <| A2 @WZ.eq_1 <| A2 @rR <| A2 @F1.eq_1 <| A2 @F1.eq_2 <| A2 @F1.eq_3 <| A2 @F1.eq_4 <| A2 @F1.eq_5 <| A2 @F1.eq_6 <| A2 @F1.eq_7 <| A2 @F1.eq_8 <| A2 @F1.eq_9 <| A2 @F1.eq_10 <| A2 @F1.eq_11 <| A2 @Nf.eq_1 <| A2 @Nf.eq_2 <| A2 @Nf.eq_3 <| A2 @rP <| A2 @tL <| A2 @tM <| A2 @Kc.eq_1 <| A2 @Kc.eq_2 <| A2 @Kc.eq_3 <| A2 @Kc.eq_4 <| A2 @uO <| A2 @Qu.eq_1 <| A2 @Qu.eq_2 <| A2 @Xp.eq_1 <| A2 @rO <| A2 @QF.eq_1 <| A2 @QF.eq_2 <| A2 @WW.eq_1 <| A2 @uL <| A2 @La.eq_1 <| A2 @La.eq_3 <| A2 @La.eq_4 <| A2 @uN <| A2 @pZ <| A2 @uM <| A2 @Zg <| A2 @rQ <| A2 @Ai.eq_1 <| A2 @Ai.eq_3 <| A2 @Ai.eq_4 <| A2 @Ai.eq_5 <| A2 @Ai.eq_6 <| A2 @Ai.eq_7 <| A2 @Ai.eq_9 <| A2 @Ai.eq_10 <| A2 @Ai.eq_11 <| A2 @Ai.eq_13 <| A2 @Ai.eq_14 <| A2 @Ai.eq_15 <| A2 @Ai.eq_17 <| A2 @Ai.eq_18 <| A2 @Ai.eq_20 <| A2 @Ai.eq_21 <| A2 @Ai.eq_22 <| A2 @Ai.eq_23 <| A2 @Ai.eq_24 <| A2 @Ai.eq_25 <| A2 @Ai.eq_26 <| A2 @Ai.eq_27 <| A2 @Ai.eq_28 <| A2 @Ai.eq_34 <| A2 @Ai.eq_35 <| A2 @Ai.eq_37 <| A2 @Ai.eq_39 <| A2 @Ai.eq_40 <| A2 @Ai.eq_41 <| A2 @Ai.eq_42 <| A2 @Ai.eq_44 <| A2 @Ai.eq_45 <| A2 @Ai.eq_46 <| A2 @Ai.eq_47 <| A2 @sY <| A2 @qZ <| A2 @vB <| A2 @vY <| A2 @uV <| A2 @qX <| A2 @qY <| A2 @vX <| A2 @Yk <| A2 @Yj <| A2 @bW <| A2 @Yi <| A2 @vP <| A2 @Yh <| A2 @Y3 <| A2 @uX <| A2 @uZ <| A2 @uY <| A2 @uW <| A2 @vT <| A2 @uT <| A2 @uU <| A2 @Yl <| A2 @vW <| A2 @vV <| A2 @vA <| A2 @vU <| A2 @vS <| A2 @vR <| A2 @vQ <| A2 @Hw.eq_1 <| A2 @Hw.eq_2 <| A2 @Nd.eq_1 <| A2 @Nd.eq_2 <| A2 @vG <| A2 @qF <| A2 @dS.eq_1 <| A2 @dS.eq_2 <| A2 @dS.eq_3 <| A2 @dS.eq_4 <| A2 @dS.eq_5 <| A2 @dS.eq_6 <| A2 @dS.eq_7 <| A2 @dS.eq_8 <| A2 @dS.eq_9 <| A2 @dS.eq_10 <| A2 @dS.eq_11 <| A2 @dS.eq_12 <| A2 @dS.eq_13 <| A2 @dS.eq_14 <| A2 @dS.eq_15 <| A2 @dS.eq_16 <| A2 @dS.eq_17 <| A2 @dS.eq_18 <| A2 @dS.eq_19 <| A2 @dS.eq_20 <| A2 @dS.eq_21 <| A2 @dS.eq_22 <| A2 @dS.eq_23 <| A2 @dS.eq_24 <| A2 @dS.eq_25 <| A2 @dS.eq_26 <| A2 @dS.eq_27 <| A2 @dS.eq_28 <| A2 @dS.eq_29 <| A2 @dS.eq_30 <| A2 @dS.eq_31 <| A2 @dS.eq_32 <| A2 @dS.eq_33 <| A2 @dS.eq_34 <| A2 @dS.eq_35 <| A2 @dS.eq_36 <| A2 @dS.eq_37 <| A2 @dS.eq_38 <| A2 @dS.eq_39 <| A2 @dS.eq_40 <| A2 @dS.eq_41 <| A2 @dS.eq_42 <| A2 @dS.eq_43 <| A2 @dS.eq_44 <| A2 @dS.eq_45 <| A2 @dS.eq_46 <| A2 @pS <| A2 @pR <| A2 @pQ <| A2 @pP <| A2 @pC <| A2 @pD <| A2 @tQ <| A2 @tP <| A2 @tO <| A2 @tN <| A2 @pN <| A2 @pO <| A2 @aM <| A2 @gC <| A2 @WY <| A2 @WX @NX
set_option linter.defProp false in
def wA:=A2 @List.length_cons.{0} <| A2 @List.length_nil.{0} <| A2 @List.length_append.{0} <| A2 @List.length_replicate.{0} <| A2 @List.length_set.{0} <| A2 @List.cons_append.{0} <| A2 @List.nil_append.{0} <| A2 @List.append_nil.{0} <| A2 @List.getElem?_cons_zero.{0} <| A2 @List.getElem?_cons_succ.{0} <| A2 @List.getElem?_nil.{0} <| A2 @Option.getD_some.{0} <| A2 @Option.getD_none.{0} <| A2 @List.set_cons_zero.{0} <| A2 @List.set_cons_succ.{0} <| A2 @List.set_nil.{0} <| A2 @List.map_cons.{0,0} <| A2 @List.map_nil.{0,0} <| A2 @List.take_succ_cons.{0} <| A2 @List.take_zero.{0} <| A2 @List.drop_succ_cons.{0} <| A2 @List.drop_zero.{0} <| A2 @List.take_nil.{0} <| A2 @List.drop_nil.{0} <| A2 @List.take_length.{0} <| A2 @Int.toNat_natCast <| A2 @Int.toNat_natCast_add_one <| A2 @Bool.not_true <| A2 @Bool.not_false <| A2 @Bool.and_true <| A2 @Bool.true_and <| A2 @Bool.and_false <| A2 @Bool.false_and <| A2 @true_and <| A2 @and_true <| A2 @true_implies <| A2 @false_implies <| A2 @Option.bind_some.{0,0} <| A2 @Option.map_some.{0,0} <| A2 @Bool.false_eq_true <| A2 @Bool.true_eq_false <| A2 @decide_true <| A2 @decide_false <| A2 @not_true_eq_false <| A2 @not_false_eq_true @beq_self_eq_true.{0}
set_option linter.defProp false in
def Aa:=A2 @SR <| A2 wB <| A2 wA <| A2 @forall_const.{1} <| A2 @implies_true.{1} <| A2 @implies_true.{0} <| A2 @if_true.{1} <| A2 @if_false.{1} <| A2 @ite_true.{1} <| A2 @ite_false.{1} <| A2 @exists_eq_left'.{1} <| A2 @exists_eq'.{1} <| A2 @ne_eq.{1} <| A2 @FA.eq_1 <| A2 @FA.eq_2 <| A2 @AS.eq_1 <| A2 @AS.eq_2 <| A2 @SV.ev.eq_1 <| A2 @SV.ev.eq_2 <| A2 @AV.flat.eq_1 <| A2 @AV.flat.eq_2 <| A2 @AV.one.eq_1 <| A2 @AV.one.eq_2 <| A2 @AV.one.eq_3 <| A2 @AV.one.eq_4 <| A2 @AV.one.eq_5 <| A2 @AV.cells.eq_1 <| A2 @AV.cells.eq_2 <| A2 @Fo.eq_1 <| A2 @Fo.eq_2 <| A2 @Hs.eq_1 <| A2 @Hs.eq_2 <| A2 @Hs.eq_3 <| A2 @F9.eq_1 <| A2 @F9.eq_2 <| A2 @pub.eq_1 <| A2 @pub.eq_2 <| A2 @pub.eq_3 <| A2 @pub.eq_4 <| A2 @pub.eq_5 <| A2 @CC.eq_1 <| A2 @CC.eq_2 <| A2 @AV.plain.eq_1 <| A2 @AV.plain.eq_2 <| A2 @AV.plain.eq_3 <| A2 @AV.plain.eq_4 <| A2 @AV.plain.eq_5 <| A2 @AV.plain.eq_6 <| A2 @AV.plain.eq_7 <| A2 @AV.plain.eq_8 <| A2 @AV.plain.eq_9 <| A2 @AV.plain.eq_10 <| A2 @AV.plain.eq_11 <| A2 @AV.plain.eq_12 <| A2 @AV.plain.eq_13 <| A2 @AE.eq_1 <| A2 @AE.eq_2 <| A2 @Ec.eq_1 <| A2 @Ec.eq_2 <| A2 @Ec.eq_3 <| A2 @Ec.eq_4 <| A2 @D4.eq_1 <| A2 @EM.eq_1 <| A2 @EM.eq_2 <| A2 @Ee.eq_1 <| A2 @Ee.eq_2 <| A2 @Ee.eq_3 <| A2 @Ee.eq_4 <| A2 @Ee.eq_5 <| A2 @F5.eq_1 <| A2 @F5.eq_2 <| A2 @F5.eq_3 <| A2 @List.replicate.eq_1.{0} @List.replicate.eq_2.{0}
end Go.Proofs.YtbgaknpnkcdbfaaGreatDoor.Sx
namespace Go.Proofs.YtbgaknpnkcdbfaaGreatDoor
open Go.RowKit Sx
open Option renaming some->zy
class Shp (P:Program) [Tabs P]:Prop where
 sh:∀w:World,Tabs.T (P:=P) w->w.ShapedOpen P
class Pow (P:Program) [Tabs P]:Prop where
 pw : ∀ w : World, Tabs.T (P := P) w → Lib.TabIs P w "internal/strconv.uint64pow10" .u64 Lib.pow10Tab
theorem U4 {P:Program} {w w':World} (h:w.ShapedOpen P) (hk:∀k,k<w.heap.size->w'.heap[k]? = w.heap[k]?):w'.ShapedOpen P:=by
 have lt:∀{k:Nat} {o:Obj},w.heap[k]? = some o->k<w.heap.size:=fun {k o} e=>by
  rcases Nat.lt_or_ge k w.heap.size with h1|h1
  ·exact h1
  ·rw[Array.getElem?_eq_none h1] at e;cases e
 refine⟨fun g zero t hg hz=>?_,fun k hk1 hk2=>?_⟩
 ·obtain⟨cs,h1,h2,h3⟩:=h.1 g zero t hg hz;refine⟨cs,(hk g (lt h1)).trans h1,h2,fun hb=>Row.ok_of_shape (fun b x hx=>?_) (h3 hb)⟩;rcases Nat.lt_or_ge b w.heap.size with h4|h4
  ·simpa[World.shape?,hk b h4] using hx
  ·simp[World.shape?,Array.getElem?_eq_none h4] at hx
 ·obtain⟨o,o₀,h1,h2,h3⟩:=h.2 k hk1 hk2;exact⟨o,o₀,(hk k (lt h1)).trans h1,h2,h3⟩
mutual
/-- a value without memory, as it is -/
def val:AV->Option Value
 | .s l=>some (.string ⟨l.toArray⟩)
 | .i k n=>some (.int k n)
 | .b x=>some (.bool x)
 | .agg cs=>match FJ cs with
  | some vs=>if vs.all (·.oneCell')=true then some (.agg vs.toArray) else none
  | none=>none
 | .tup cs=>(FJ cs).map fun vs=>.tuple vs.toArray
 | _=>none
def FJ:List AV->Option (List Value)
 | []=>some []
 | x::xs=>match val x,FJ xs with
  | some v,some vs=>some (v::vs)
  | _,_=>none
end
mutual
theorem Kw (G:Gh) (I:Al):∀(x:AV) (v:Value),val x=some v->∀y,Ab G I x y↔y=v
 | .s l,v,h,y=>by simp only[val,zy.injEq] at h;subst h;simp[Ab]
 | .i k n,v,h,y=>by simp only[val,zy.injEq] at h;subst h;simp[Ab]
 | .b x,v,h,y=>by simp only[val,zy.injEq] at h;subst h;simp[Ab]
 | .agg cs,v,h,y=>by
  simp only[val] at h
  split at h
  ·rename_i vs h1
   split at h
   ·rename_i h2;injection h with h;subst h
    simp only[Ab]
    constructor
    ·rintro⟨ys,rfl,k1,_⟩;rw[(Gp G I cs vs h1 ys).1 k1]
    ·rintro rfl;exact⟨vs,rfl,(Gp G I cs vs h1 vs).2 rfl,fun u hu=>(List.all_eq_true.1 h2) u hu⟩
   ·cases h
  ·cases h
 | .tup cs,v,h,y=>by
  simp only[val,Option.map_eq_some_iff] at h;obtain⟨vs,h1,rfl⟩:=h;simp only[Ab]
  constructor
  ·rintro⟨ys,rfl,k1⟩;rw[(Gp G I cs vs h1 ys).1 k1]
  ·rintro rfl;exact⟨vs,rfl,(Gp G I cs vs h1 vs).2 rfl⟩
 | .p _ _,v,h,y=>by simp[val] at h
 | .row _ _,v,h,y=>by simp[val] at h
 | .prow _ _,v,h,y=>by simp[val] at h
 | .orow _ _,v,h,y=>by simp[val] at h
 | .porow _ _ _,v,h,y=>by simp[val] at h
 | .bsl _ _ _,v,h,y=>by simp[val] at h
 | .m _,v,h,y=>by simp[val] at h
 | .ip _ _ _,v,h,y=>by simp[val] at h
 | .zn _,v,h,y=>by simp[val] at h
 | .nil,v,h,y=>by simp[val] at h
 | .fn _ _ _,v,h,y=>by simp[val] at h
 | .o _,v,h,y=>by simp[val] at h
 | .u,v,h,y=>by simp[val] at h
theorem Gp (G:Gh) (I:Al):∀(xs:List AV) (vs:List Value),FJ xs=some vs->∀ys,Ad G I xs ys↔ys=vs
 | [],vs,h,ys=>by simp only[FJ,zy.injEq] at h;subst h;simp[Ad]
 | x::xs,vs,h,ys=>by
  simp only[FJ] at h
  split at h
  ·rename_i v vs' h1 h2;injection h with h;subst h
   simp only[Ad]
   constructor
   ·rintro⟨y,ys',rfl,k1,k2⟩;rw[(Kw G I x v h1 y).1 k1,(Gp G I xs vs' h2 ys').1 k2]
   ·rintro rfl;exact⟨v,vs',rfl,(Kw G I x v h1 v).2 rfl,(Gp G I xs vs' h2 vs').2 rfl⟩
  ·cases h
end
section
variable {P:Program} [Tabs P] {f:FuncId} {args:List AV} {vs:List Value} {r:AV} {v:Value} {objs:List OB} {K:List OB->AV->Prop}
theorem conv (ha:FJ args=some vs) (hr:val r=some v) (h:∀w,Calls P f vs.toArray w fun e w'=>e=.returned v/\Qb w w') (hk:K objs r):Ah P f args objs K :=
 UP r hk fun G I w ys hm hd=>by
  rw[(Gp G I args vs ha ys).1 hd];exact⟨v,h w,(Kw G I r v hr v).2 rfl⟩
theorem GE (ha:FJ args=some vs) (hr:val r=some v) (h:∀w,Calls P f vs.toArray w fun e w'=>e=.returned v/\w=w') (hk:K objs r):Ah P f args objs K :=
 conv ha hr (fun w=>(h w).mono (by rintro e w' ⟨rfl,rfl⟩;exact⟨rfl,Qb.refl _⟩)) hk
theorem Nm (ha:FJ args=some vs) (hr:val r=some v) (h:∀w,Tabs.T (P:=P) w->Calls P f vs.toArray w fun e w'=>e=.returned v/\Qb w w') (hk:K objs r):Ah P f args objs K :=
 UL r hk fun G I w ys hT hm hd=>by
  rw[(Gp G I args vs ha ys).1 hd];exact⟨v,h w hT,(Kw G I r v hr v).2 rfl⟩
end
end Go.Proofs.YtbgaknpnkcdbfaaGreatDoor
namespace Go.Proofs.YtbgaknpnkcdbfaaGreatDoor
open Sx
theorem AG (l:List OB) (x:OB):(l++[x])[l.length]? = some x:=by simp
theorem BB (l:List OB) (x y:OB):(l++[x]).set l.length y=l++[y]:=by simp
theorem M2 (l:List OB) (x y:OB):(l++[x]++[y])[l.length]? = some x:=by simp
theorem K5 (l:List OB) (x y:OB):(l++[x]++[y])[l.length+1]? = some y:=by simp
theorem qL (l:List OB) (x y z:OB):(l++[x]++[y]).set (l.length+1) z=l++[x]++[z]:=by simp
end Go.Proofs.YtbgaknpnkcdbfaaGreatDoor
namespace Go.Proofs.YtbgaknpnkcdbfaaGreatDoor.Sx
open Go.RowKit
def Wx:SCode :=
 .s [.o 4 (.box 25 (.t 1)),
 .o 6 (.mv (.c (.b false)))]
 (.seq (.s [.c 22 4 [],
 .o 23 (.not (.t 22))]
 (.cond (.t 23)
 (.s [.o 6 (.mv (.c (.b false)))]
 (.ret))
 (.skip)))
 (.seq (.s [.m 24 0,
 .h 25 24,
 .k 26 .gtr 25 1500,
 .m 27 26,
 ⟨some 28,.mv (.t 2),some (27,false)⟩,
 ⟨some 29,.lens (.t 28),some (27,false)⟩,
 ⟨some 30,.fad 3 (.t 4),some (27,false)⟩,
 ⟨some 31,.load1 (.t 30),some (27,false)⟩,
 ⟨some 32,.lens (.t 31),some (27,false)⟩,
 ⟨some 33,.bin .add (.t 29) (.t 32),some (27,false)⟩,
 ⟨some 34,.fad 2 (.t 4),some (27,false)⟩,
 ⟨some 35,.load1 (.t 34),some (27,false)⟩,
 ⟨some 36,.lens (.t 35),some (27,false)⟩,
 ⟨some 37,.bin .add (.t 33) (.t 36),some (27,false)⟩,
 ⟨some 38,.fad 4 (.t 4),some (27,false)⟩,
 ⟨some 39,.load1 (.t 38),some (27,false)⟩,
 ⟨some 40,.lens (.t 39),some (27,false)⟩,
 ⟨some 41,.bin .add (.t 37) (.t 40),some (27,false)⟩,
 ⟨some 42,.fad 0 (.t 4),some (27,false)⟩,
 ⟨some 43,.fad 1 (.t 42),some (27,false)⟩,
 ⟨some 44,.load1 (.t 43),some (27,false)⟩,
 ⟨some 45,.lens (.t 44),some (27,false)⟩,
 ⟨some 46,.bin .add (.t 41) (.t 45),some (27,false)⟩,
 ⟨some 47,.fad 0 (.t 4),some (27,false)⟩,
 ⟨some 48,.fad 0 (.t 47),some (27,false)⟩,
 ⟨some 49,.load1 (.t 48),some (27,false)⟩,
 ⟨some 50,.lens (.t 49),some (27,false)⟩,
 ⟨some 51,.bin .add (.t 46) (.t 50),some (27,false)⟩,
 ⟨some 52,.bin .gtr (.t 51) (.c (.i .i64 1000)),some (27,false)⟩,
 .p 53 27 52]
 (.cond (.t 53)
 (.s [.o 6 (.mv (.c (.b true)))]
 (.ret))
 (.skip)))
 (.s [.m 55 0,
 .c 56 5 [.t 55],
 .m 54 56,
 .e 57 54 0,
 .e 58 54 1,
 .e 59 54 2,
 .o 7 (.alloc 30 [.i .i64 0,.s [],.nil,.nil]),
 .s 4 7 57,
 .m 8 58,
 .m 9 59]
 (.s [.c 61 5 [.c (.s [123,34,105,100,34,58,34,100,105,100,58,119,101,98,58,97,46,101,120,97,109,112,108,101,34,44,34,115,101,114,118,105,99,101,34,58,91,123,34,105,100,34,58,34,35,102,105,108,101,115,34,44,34,116,121,112,101,34,58,34,88,34,44,34,115,101,114,118,105,99,101,69,110,100,112,111,105,110,116,34,58,34,104,116,116,112,115,58,47,47,97,46,101,120,97,109,112,108,101,47,102,47,34,125,93,125])],
 .m 60 61,
 .e 62 60 0,
 .e 63 60 1,
 .e 64 60 2,
 .o 10 (.alloc 30 [.i .i64 0,.s [],.nil,.nil]),
 .s 4 10 62,
 .m 11 63,
 .m 12 64]
 (.s [.o 65 (.build [.s [],.s []] [(0,(1,.c (.s [119,101,98]))),(1,(1,.c (.s [97,46,101,120,97,109,112,108,101])))]),
 .m 66 2,
 .f 67 4 4,
 .l 68 67,
 .f 69 6 4,
 .l 70 69,
 .o 71 (.build [.s [],.s [],.s [],.s [],.s [],.b false,.b false] [(0,(2,.t 65)),(3,(1,.t 66)),(5,(1,.c (.b true))),(4,(1,.t 68)),(6,(1,.t 70))]),
 .o 13 (.alloc 25 [.s [],.s [],.s [],.s [],.s [],.b false,.b false]),
 .s 7 13 71]
 (.s [.w 73 4 7,
 .w 74 7 4,
 .c 75 6 [.t 73,.t 74],
 .m 72 75,
 .e 76 72 0,
 .e 77 72 1,
 .m 14 76,
 .m 15 77]
 (.s [.w 79 4 7,
 .w 80 7 4,
 .c 81 7 [.t 79,.t 80],
 .m 78 81,
 .e 82 78 0,
 .e 83 78 1,
 .m 16 82,
 .m 17 83]
 (.s [.w 85 4 10,
 .w 86 7 13,
 .c 87 6 [.t 85,.t 86],
 .m 84 87,
 .e 88 84 0,
 .e 89 84 1,
 .m 18 88,
 .m 19 89]
 (.s [.w 91 4 10,
 .w 92 7 13,
 .c 93 7 [.t 91,.t 92],
 .m 90 93,
 .e 94 90 0,
 .e 95 90 1,
 .m 20 94,
 .m 21 95]
 (.s [.m 96 14,
 .m 97 16,
 .b 98 .eql 96 97,
 .m 99 98,
 ⟨some 100,.mv (.t 15),some (99,true)⟩,
 ⟨some 101,.mv (.t 17),some (99,true)⟩,
 ⟨some 102,.bin .eql (.t 100) (.t 101),some (99,true)⟩,
 .o 103 (.pick (.t 99) (.t 102) (.c (.b false))),
 .m 104 103,
 ⟨some 105,.mv (.t 18),some (104,true)⟩,
 ⟨some 106,.mv (.t 20),some (104,true)⟩,
 ⟨some 107,.bin .eql (.t 105) (.t 106),some (104,true)⟩,
 .o 108 (.pick (.t 104) (.t 107) (.c (.b false))),
 .m 109 108,
 ⟨some 110,.mv (.t 19),some (109,true)⟩,
 ⟨some 111,.mv (.t 21),some (109,true)⟩,
 ⟨some 112,.bin .eql (.t 110) (.t 111),some (109,true)⟩,
 .o 113 (.pick (.t 109) (.t 112) (.c (.b false))),
 .m 6 113]
 (.ret)))))))))))
theorem oD:FnIs Tryz.prog 3 114 [.tmp 6] Wx:=⟨⟨_,_,Tryz.func3,rfl,rfl,by kernel_rfl,by kernel_rfl⟩⟩
def Vg:SCode :=
 .s [.o 0 (.mv (.c (.b false)))]
 (.s [.c 7 5 [.c (.s [123,34,105,100,34,58,34,100,105,100,58,119,101,98,58,97,46,101,120,97,109,112,108,101,34,44,34,115,101,114,118,105,99,101,34,58,91,123,34,105,100,34,58,34,35,102,105,108,101,115,34,44,34,116,121,112,101,34,58,34,88,34,44,34,115,101,114,118,105,99,101,69,110,100,112,111,105,110,116,34,58,34,104,116,116,112,115,58,47,47,97,46,101,120,97,109,112,108,101,47,102,47,34,125,93,125])],
 .m 6 7,
 .e 8 6 0,
 .e 9 6 1,
 .e 10 6 2,
 .o 1 (.alloc 30 [.i .i64 0,.s [],.nil,.nil]),
 .s 4 1 8,
 .m 2 9,
 .m 3 10]
 (.s [.w 12 4 1,
 .o 13 (.build [.s [],.s []] [(0,(1,.c (.s [119,101,98]))),(1,(1,.c (.s [97,46,101,120,97,109,112,108,101])))]),
 .o 14 (.build [.s [],.s [],.s [],.s [],.s [],.b false,.b false] [(0,(2,.t 13)),(3,(1,.c (.s [115,101,114,118,105,99,101,61,102,105,108,101,115,38,114,101,108,97,116,105,118,101,82,101,102,61,120,37,50,70,121]))),(5,(1,.c (.b true)))]),
 .c 15 6 [.t 12,.t 14],
 .m 11 15,
 .e 16 11 0,
 .e 17 11 1,
 .m 4 16,
 .m 5 17]
 (.s [.m 18 5,
 .k 19 .eql 18 0,
 .m 20 19,
 ⟨some 21,.mv (.t 4),some (20,true)⟩,
 ⟨some 22,.bin .eql (.t 21) (.c (.s [104,116,116,112,115,58,47,47,97,46,101,120,97,109,112,108,101,47,102,47,120,47,121])),some (20,true)⟩,
 .o 23 (.pick (.t 20) (.t 22) (.c (.b false))),
 .m 24 23,
 ⟨some 25,.call 8 [.c (.s [97,38,38,98,61,49,38,99,61,37,120])],some (24,true)⟩,
 ⟨some 26,.lenr (.t 25),some (24,true)⟩,
 ⟨some 27,.bin .eql (.t 26) (.c (.i .i64 2)),some (24,true)⟩,
 .o 28 (.pick (.t 24) (.t 27) (.c (.b false))),
 .m 0 28]
 (.ret))))
theorem kQ:FnIs Tryz.prog 4 29 [.tmp 0] Vg:=⟨⟨_,_,Tryz.func4,rfl,rfl,by kernel_rfl,by kernel_rfl⟩⟩
def VI:SCode :=
 .s [.o 2 (.alloc 30 [.i .i64 0,.s [],.nil,.nil]),
 .n 3 0,
 .n 4 0]
 (.seq (.s [.m 8 0,
 .h 9 8,
 .k 10 .gtr 9 1048576]
 (.cond (.t 10)
 (.s [.o 11 (.build [.i .i64 0,.s [],.nil,.nil] []),
 .s 4 2 11,
 .n 3 0,
 .n 4 142]
 (.ret))
 (.skip)))
 (.s [.m 12 0,
 .o 13 (.build [.s [],.i .i64 0,.i .i64 0,.i .i64 0,.i .i64 0] [(0,(1,.t 12))]),
 .o 14 (.box 41 (.t 13)),
 .m 5 14]
 (.s [.m 15 5,
 .m 16 5,
 .c 17 10 [.t 16],
 .c 18 9 [.t 15,.t 17,.c (.i .i64 0)],
 .o 6 (.alloc 30 [.i .i64 0,.s [],.nil,.nil]),
 .s 4 6 18]
 (.seq (.s [.m 19 5,
 .c 20 10 [.t 19],
 .o 7 (.alloc 44 [.i .i64 0,.s [],.i .i64 0]),
 .s 3 7 20]
 (.s [.m 21 5,
 .o 22 (.nck (.t 21)),
 .f 23 3 22,
 .l 24 23,
 .k 25 .eql 24 0,
 .m 26 25,
 ⟨some 27,.fad 0 (.t 7),some (26,true)⟩,
 ⟨some 28,.load1 (.t 27),some (26,true)⟩,
 ⟨some 29,.bin .neq (.t 28) (.c (.i .i64 1)),some (26,true)⟩,
 .o 30 (.pick (.t 26) (.t 29) (.c (.b false)))]
 (.cond (.t 30)
 (.reg [.m 31 5,
 .f 32 2 7,
 .l 33 32,
 .c 34 11 [.t 31,.t 33,.c (.i .i64 140)]])
 (.skip))))
 (.seq (.s [.m 35 5,
 .o 36 (.nck (.t 35)),
 .f 37 3 36,
 .l 38 37,
 .k 39 .neq 38 0]
 (.cond (.t 39)
 (.seq (.drw [.o 40 (.build [.i .i64 0,.s [],.nil,.nil] []),
 .m 41 5,
 .o 42 (.nck (.t 41)),
 .f 43 4 42,
 .l 44 43,
 .m 45 5,
 .o 46 (.nck (.t 45)),
 .f 47 3 46,
 .l 48 47,
 .s 4 2 40,
 .m 3 44,
 .m 4 48] 12 [(43,(2,none)),(47,(2,none))])
 (.ret))
 (.skip)))
 (.s [.w 49 4 6,
 .m 50 0,
 .h 51 50,
 .s 4 2 49,
 .m 3 51,
 .n 4 0]
 (.ret)))))))
theorem lT:FnIs Tryz.prog 5 52 [.celln 2 4,.tmp 3,.tmp 4] VI:=⟨⟨_,_,Tryz.func5,rfl,rfl,by kernel_rfl,by kernel_rfl⟩⟩
def V9:SCode :=
 .s [.o 2 (.box 30 (.t 0)),
 .o 3 (.box 25 (.t 1)),
 .z 4,
 .n 5 0]
 (.s [.w 17 4 2,
 .c 18 12 [.t 17],
 .m 16 18,
 .e 19 16 0,
 .e 20 16 1,
 .o 6 (.alloc 50 [.s [],.nil,.nil,.nil,.nil]),
 .s 5 6 19,
 .m 7 20]
 (.seq (.s [.m 21 7,
 .k 22 .neq 21 0]
 (.cond (.t 22)
 (.s [.m 23 7,
 .z 4,
 .m 5 23]
 (.ret))
 (.skip)))
 (.s [.w 24 7 3,
 .c 25 13 [.t 24],
 .m 8 25]
 (.s [.m 27 8,
 .o 28 (.callv (.t 27) [.c (.s [115,101,114,118,105,99,101])]),
 .m 26 28,
 .e 29 26 0,
 .e 30 26 1,
 .m 9 29,
 .m 10 30]
 (.seq (.s [.m 31 10,
 .o 32 (.not (.t 31))]
 (.cond (.t 32)
 (.s [.z 4,
 .n 5 290]
 (.ret))
 (.skip)))
 (.seq (.drw [.w 34 5 6,
 .f 35 0 3,
 .w 36 2 35,
 .o 37 (.pcall 15 [.t 36]),
 .o 38 (.bin .add (.t 37) (.c (.s [35]))),
 .m 39 9,
 .b 40 .add 38 39,
 .o 41 (.pcall 14 [.t 34,.t 40]),
 .m 33 41,
 .e 42 33 0,
 .e 43 33 1,
 .o 11 (.alloc 57 [.s [],.nil,.nil]),
 .s 3 11 42,
 .m 10 43] 14 [(6,(11,none)),(35,(11,none))])
 (.seq (.s [.m 44 10,
 .o 45 (.not (.t 44))]
 (.cond (.t 45)
 (.s [.z 4,
 .n 5 290]
 (.ret))
 (.skip)))
 (.seq (.s [.f 46 2 11,
 .l 47 46,
 .o 48 (.lenr (.t 47)),
 .k 49 .eql 48 0]
 (.cond (.t 49)
 (.s [.z 4,
 .n 5 292]
 (.ret))
 (.skip)))
 (.s [.f 51 2 11,
 .l 52 51,
 .o 53 (.iad 1 (.t 52) (.c (.i .i64 0))),
 .l 54 53,
 .c 55 16 [.t 54],
 .m 50 55,
 .e 56 50 0,
 .e 57 50 1,
 .o 12 (.alloc 62 [.s [],.i .i64 0,.s [],.s [],.s [],.b false,.b false]),
 .s 7 12 56,
 .m 7 57]
 (.seq (.s [.m 58 7,
 .k 59 .neq 58 0]
 (.cond (.t 59)
 (.s [.z 4,
 .n 5 292]
 (.ret))
 (.skip)))
 (.seq (.s [.m 61 8,
 .o 62 (.callv (.t 61) [.c (.s [114,101,108,97,116,105,118,101,82,101,102])]),
 .m 60 62,
 .e 63 60 0,
 .e 64 60 1,
 .m 13 63,
 .m 14 64]
 (.s [.m 65 14]
 (.cond (.t 65)
 (.s [.w 67 7 12,
 .m 68 13,
 .c 69 17 [.t 67,.t 68],
 .m 66 69,
 .e 70 66 0,
 .e 71 66 1,
 .s 7 12 70,
 .m 7 71]
 (.s [.m 72 7,
 .k 73 .neq 72 0]
 (.cond (.t 73)
 (.s [.z 4,
 .n 5 292]
 (.ret))
 (.skip))))
 (.skip))))
 (.seq (.s [.f 74 6 3,
 .l 75 74,
 .m 76 75,
 ⟨some 77,.fad 6 (.t 12),some (76,true)⟩,
 ⟨some 78,.load1 (.t 77),some (76,true)⟩,
 ⟨some 79,.not (.t 78),some (76,true)⟩,
 .o 80 (.pick (.t 76) (.t 79) (.c (.b false)))]
 (.cond (.t 80)
 (.reg [.f 81 4 3,
 .l 82 81,
 .f 83 4 12,
 .s 1 83 82,
 .f 84 6 12,
 ⟨none,.store 1 (.t 84) (.c (.b true)),none⟩])
 (.skip)))
 (.s [.w 85 7 12,
 .c 86 18 [.t 85],
 .m 15 86]
 (.seq (.s [.m 87 15,
 .h 88 87,
 .k 89 .gtr 88 4096]
 (.cond (.t 89)
 (.s [.z 4,
 .n 5 292]
 (.ret))
 (.skip)))
 (.s [.m 90 15,
 .m 4 90,
 .n 5 0]
 (.ret))))))))))))))))
theorem nC:FnIs Tryz.prog 6 91 [.tmp 4,.tmp 5] V9:=⟨⟨_,_,Tryz.func6,rfl,rfl,by kernel_rfl,by kernel_rfl⟩⟩
def V3:SCode :=
 .s [.o 2 (.box 30 (.t 0)),
 .o 3 (.box 25 (.t 1)),
 .z 4,
 .n 5 0]
 (.s [.w 13 4 2,
 .c 14 19 [.t 13],
 .m 12 14,
 .e 15 12 0,
 .e 16 12 1,
 .o 6 (.alloc 50 [.s [],.nil,.nil,.nil,.nil]),
 .s 5 6 15,
 .m 7 16]
 (.seq (.s [.m 17 7,
 .k 18 .neq 17 0]
 (.cond (.t 18)
 (.s [.m 19 7,
 .z 4,
 .m 5 19]
 (.ret))
 (.skip)))
 (.s [.w 21 7 3,
 .c 22 21 [.t 21],
 .c 23 20 [.t 22,.c (.s [115,101,114,118,105,99,101])],
 .m 20 23,
 .e 24 20 0,
 .e 25 20 1,
 .m 8 24,
 .m 9 25]
 (.seq (.s [.m 26 9,
 .o 27 (.not (.t 26))]
 (.cond (.t 27)
 (.s [.z 4,
 .n 5 290]
 (.ret))
 (.skip)))
 (.seq (.s [.f 28 4 6,
 .l 29 28,
 .o 30 (.lenr (.t 29)),
 .n 31 0]
 (.blk 0
 (.loop
 (.s [.b 32 .lss 31 30]
 (.seq (.cond (.t 32)
 (.skip)
 (.exit 0))
 (.seq (.blk 1
 (.s [.o 33 (.iad 3 (.t 29) (.t 31)),
 .w 34 3 33,
 .o 11 (.alloc 57 [.s [],.nil,.nil]),
 .s 3 11 34]
 (.seq (.drw [.f 35 0 11,
 .l 36 35,
 .f 37 0 3,
 .w 38 2 37,
 .c 39 22 [.t 38],
 .o 40 (.bin .add (.t 39) (.c (.s [35]))),
 .m 41 8,
 .b 42 .add 40 41,
 .b 43 .eql 36 42] 9 [])
 (.cond (.t 43)
 (.s [.w 44 3 11,
 .w 45 7 3,
 .c 46 23 [.t 44,.t 45],
 .e 47 46 0,
 .e 48 46 1,
 .m 4 47,
 .m 5 48]
 (.ret))
 (.skip)))))
 (.reg [.k 49 .add 31 1,
 .m 31 49])))))))
 (.s [.z 4,
 .n 5 290]
 (.ret)))))))
theorem mX:FnIs Tryz.prog 7 50 [.tmp 4,.tmp 5] V3:=⟨⟨_,_,Tryz.func7,rfl,rfl,by kernel_rfl,by kernel_rfl⟩⟩
def Wv:SCode :=
 .s [.o 4 (.box 44 (.t 1)),
 .o 6 (.alloc 30 [.i .i64 0,.s [],.nil,.nil])]
 (.s [.f 11 0 4,
 .l 12 11,
 .k 13 .eql 12 3,
 .m 14 13,
 ⟨some 15,.fad 0 (.t 4),some (14,false)⟩,
 ⟨some 16,.load1 (.t 15),some (14,false)⟩,
 ⟨some 17,.bin .eql (.t 16) (.c (.i .i64 4)),some (14,false)⟩,
 .p 18 14 17,
 .m 19 18,
 ⟨some 20,.fad 0 (.t 4),some (19,false)⟩,
 ⟨some 21,.load1 (.t 20),some (19,false)⟩,
 ⟨some 22,.bin .eql (.t 21) (.c (.i .i64 5)),some (19,false)⟩,
 .p 23 19 22,
 .m 24 23,
 ⟨some 25,.loadn 3 (.t 4),some (24,false)⟩,
 ⟨some 26,.call 27 [.t 25,.c (.s [91])],some (24,false)⟩,
 .p 27 24 26,
 .m 28 27,
 ⟨some 29,.loadn 3 (.t 4),some (28,false)⟩,
 ⟨some 30,.call 27 [.t 29,.c (.s [123])],some (28,false)⟩,
 .p 31 28 30,
 .m 7 31]
 (.seq (.s [.m 32 0,
 .o 33 (.nck (.t 32)),
 .f 34 3 33,
 .l 35 34,
 .k 36 .neq 35 0]
 (.cond (.t 36)
 (.s [.o 37 (.build [.i .i64 0,.s [],.nil,.nil] []),
 .s 4 6 37]
 (.ret))
 (.skip)))
 (.seq (.s [.m 38 7,
 .o 39 (.not (.t 38))]
 (.cond (.t 39)
 (.s [.m 40 0,
 .f 41 2 4,
 .l 42 41,
 .c 43 11 [.t 40,.t 42,.c (.i .i64 140)]]
 (.s [.o 44 (.build [.i .i64 0,.s [],.nil,.nil] []),
 .s 4 6 44]
 (.ret)))
 (.skip)))
 (.seq (.s [.f 45 0 4,
 .l 46 45,
 .k 47 .eql 46 2,
 .m 48 47,
 ⟨some 49,.mv (.t 2),some (48,true)⟩,
 ⟨some 50,.bin .eql (.t 49) (.c (.i .i64 64)),some (48,true)⟩,
 .o 51 (.pick (.t 48) (.t 50) (.c (.b false)))]
 (.cond (.t 51)
 (.s [.m 52 0,
 .f 53 2 4,
 .l 54 53,
 .c 55 11 [.t 52,.t 54,.c (.i .i64 141)]]
 (.s [.o 56 (.build [.i .i64 0,.s [],.nil,.nil] []),
 .s 4 6 56]
 (.ret)))
 (.skip)))
 (.s [.f 57 1 4,
 .l 58 57,
 .o 59 (.build [.i .i64 0,.s [],.nil,.nil] [(0,(1,.c (.i .i64 5))),(1,(1,.t 58))]),
 .o 8 (.alloc 30 [.i .i64 0,.s [],.nil,.nil]),
 .s 4 8 59]
 (.seq (.s [.f 60 0 4,
 .l 61 60,
 .k 62 .eql 61 4]
 (.cond (.t 62)
 (.s [.f 64 1 4,
 .l 65 64,
 .c 66 28 [.t 65],
 .m 63 66,
 .e 67 63 0,
 .e 68 63 1,
 .m 9 67,
 .m 10 68]
 (.seq (.s [.m 69 10,
 .k 70 .neq 69 0]
 (.cond (.t 70)
 (.reg [.m 71 0,
 .f 72 2 4,
 .l 73 72,
 .m 74 10,
 .c 75 11 [.t 71,.t 73,.t 74]])
 (.skip)))
 (.reg [.m 76 9,
 .o 77 (.build [.i .i64 0,.s [],.nil,.nil] [(0,(1,.c (.i .i64 4))),(1,(1,.t 76))]),
 .s 4 8 77])))
 (.skip)))
 (.seq (.s [.m 78 0,
 .o 79 (.nck (.t 78)),
 .f 80 2 79,
 .l 81 80,
 .k 82 .add 81 1,
 .o 83 (.nck (.t 78)),
 .f 84 2 83,
 .s 1 84 82]
 (.s [.m 85 0,
 .o 86 (.nck (.t 85)),
 .f 87 2 86,
 .l 88 87,
 .k 89 .gtr 88 20000]
 (.cond (.t 89)
 (.reg [.m 90 0,
 .f 91 2 4,
 .l 92 91,
 .c 93 11 [.t 90,.t 92,.c (.i .i64 142)]])
 (.skip))))
 (.seq (.blk 0
 (.s [.f 95 0 4,
 .l 96 95,
 .k 97 .eql 96 5,
 .m 94 97]
 (.cond (.t 94)
 (.s [.f 98 1 4,
 .l 99 98,
 .c 100 29 [.t 99],
 .o 101 (.build [.i .i64 0,.s [],.nil,.nil] [(0,(1,.t 100))]),
 .s 4 6 101]
 (.ret))
 (.s [.w 103 3 4,
 .c 104 27 [.t 103,.c (.s [91])],
 .m 102 104]
 (.cond (.t 102)
 (.s [.m 105 0,
 .m 106 2,
 .k 107 .add 106 1,
 .c 108 30 [.t 105,.t 107],
 .s 4 6 108]
 (.ret))
 (.s [.w 110 3 4,
 .c 111 27 [.t 110,.c (.s [123])],
 .m 109 111]
 (.cond (.t 109)
 (.s [.m 112 0,
 .m 113 2,
 .k 114 .add 113 1,
 .c 115 31 [.t 112,.t 114],
 .s 4 6 115]
 (.ret))
 (.skip))))))))
 (.s [.w 116 4 8,
 .s 4 6 116]
 (.ret))))))))))
theorem oK:FnIs Tryz.prog 9 117 [.celln 6 4] Wv:=⟨⟨_,_,Tryz.func9,rfl,rfl,by kernel_rfl,by kernel_rfl⟩⟩
def WD:SCode :=
 .s [.o 2 (.alloc 44 [.i .i64 0,.s [],.i .i64 0])]
 (.seq (.s [.m 6 0,
 .o 7 (.nck (.t 6)),
 .f 8 3 7,
 .l 9 8,
 .k 10 .neq 9 0]
 (.cond (.t 10)
 (.s [.o 11 (.build [.i .i64 0,.s [],.i .i64 0] []),
 .s 3 2 11]
 (.ret))
 (.skip)))
 (.seq (.drw [.m 13 0,
 .o 14 (.nck (.t 13)),
 .f 15 0 14,
 .l 16 15,
 .m 17 0,
 .o 18 (.nck (.t 17)),
 .f 19 1 18,
 .l 20 19,
 .o 21 (.pcall 32 [.t 16,.t 20]),
 .m 12 21,
 .e 22 12 0,
 .e 23 12 1,
 .e 24 12 2,
 .o 3 (.alloc 44 [.i .i64 0,.s [],.i .i64 0]),
 .s 3 3 22,
 .m 4 23,
 .m 5 24] 17 [(15,(3,none)),(19,(3,none))])
 (.seq (.s [.m 25 5,
 .k 26 .neq 25 0]
 (.cond (.t 26)
 (.s [.m 27 0,
 .m 28 0,
 .o 29 (.nck (.t 28)),
 .f 30 1 29,
 .l 31 30,
 .m 32 5,
 .c 33 11 [.t 27,.t 31,.t 32]]
 (.s [.o 34 (.build [.i .i64 0,.s [],.i .i64 0] []),
 .s 3 2 34]
 (.ret)))
 (.skip)))
 (.s [.m 35 0,
 .m 36 4,
 .o 37 (.nck (.t 35)),
 .f 38 1 37,
 .s 1 38 36]
 (.s [.w 39 3 3,
 .s 3 2 39]
 (.ret))))))
theorem nX:FnIs Tryz.prog 10 40 [.celln 2 3] WD:=⟨⟨_,_,Tryz.func10,rfl,rfl,by kernel_rfl,by kernel_rfl⟩⟩
def Qm:SCode :=
 .s [.m 6 0,
 .o 7 (.nck (.t 6)),
 .f 8 3 7,
 .l 9 8,
 .k 10 .eql 9 0]
 (.cond (.t 10)
 (.reg [.m 11 0,
 .m 12 0,
 .m 13 2,
 .m 14 1,
 .o 15 (.nck (.t 11)),
 .f 16 3 15,
 .s 1 16 13,
 .o 17 (.nck (.t 12)),
 .f 18 4 17,
 .s 1 18 14])
 (.skip))
theorem nY:FnIs Tryz.prog 11 19 [] Qm:=⟨⟨_,_,Tryz.func11,rfl,rfl,by kernel_rfl,by kernel_rfl⟩⟩
def Wb:SCode :=
 .s [.o 1 (.box 30 (.t 0)),
 .o 2 (.alloc 50 [.s [],.nil,.nil,.nil,.nil]),
 .n 3 0]
 (.s [.w 16 4 1,
 .c 17 33 [.t 16],
 .m 4 17]
 (.s [.w 19 4 1,
 .c 20 34 [.t 19],
 .m 18 20,
 .e 21 18 0,
 .e 22 18 1,
 .o 5 (.alloc 23 [.s [],.s []]),
 .s 2 5 21,
 .m 6 22]
 (.seq (.s [.m 23 6,
 .k 24 .neq 23 0]
 (.cond (.t 24)
 (.s [.o 25 (.build [.s [],.nil,.nil,.nil,.nil] []),
 .m 26 6,
 .s 5 2 25,
 .m 3 26]
 (.ret))
 (.skip)))
 (.s [.w 27 2 5,
 .c 28 15 [.t 27],
 .o 29 (.build [.s [],.nil,.nil,.nil,.nil] [(0,(1,.t 28))]),
 .o 7 (.alloc 50 [.s [],.nil,.nil,.nil,.nil]),
 .s 5 7 29]
 (.seq (.s [.m 31 4,
 .o 32 (.callv (.t 31) [.c (.s [97,108,115,111,75,110,111,119,110,65,115])]),
 .m 30 32,
 .e 33 30 0,
 .e 34 30 1,
 .o 8 (.alloc 30 [.i .i64 0,.s [],.nil,.nil]),
 .s 4 8 33,
 .m 9 34]
 (.s [.m 35 9]
 (.cond (.t 35)
 (.s [.w 37 4 8,
 .c 38 35 [.t 37],
 .m 36 38,
 .e 39 36 0,
 .e 40 36 1,
 .f 41 1 7,
 .s 1 41 39,
 .m 6 40]
 (.s [.m 42 6,
 .k 43 .neq 42 0]
 (.cond (.t 43)
 (.s [.o 44 (.build [.s [],.nil,.nil,.nil,.nil] []),
 .m 45 6,
 .s 5 2 44,
 .m 3 45]
 (.ret))
 (.skip))))
 (.skip))))
 (.seq (.s [.m 47 4,
 .o 48 (.callv (.t 47) [.c (.s [99,111,110,116,114,111,108,108,101,114])]),
 .m 46 48,
 .e 49 46 0,
 .e 50 46 1,
 .o 10 (.alloc 30 [.i .i64 0,.s [],.nil,.nil]),
 .s 4 10 49,
 .m 11 50]
 (.s [.m 51 11]
 (.cond (.t 51)
 (.s [.w 53 4 10,
 .c 54 36 [.t 53],
 .m 52 54,
 .e 55 52 0,
 .e 56 52 1,
 .f 57 2 7,
 .s 1 57 55,
 .m 6 56]
 (.s [.m 58 6,
 .k 59 .neq 58 0]
 (.cond (.t 59)
 (.s [.o 60 (.build [.s [],.nil,.nil,.nil,.nil] []),
 .m 61 6,
 .s 5 2 60,
 .m 3 61]
 (.ret))
 (.skip))))
 (.skip))))
 (.seq (.s [.m 63 4,
 .o 64 (.callv (.t 63) [.c (.s [118,101,114,105,102,105,99,97,116,105,111,110,77,101,116,104,111,100])]),
 .m 62 64,
 .e 65 62 0,
 .e 66 62 1,
 .o 12 (.alloc 30 [.i .i64 0,.s [],.nil,.nil]),
 .s 4 12 65,
 .m 13 66]
 (.s [.m 67 13]
 (.cond (.t 67)
 (.s [.w 69 4 12,
 .w 70 2 5,
 .c 71 37 [.t 69,.t 70,.c (.fn 38 [] [])],
 .m 68 71,
 .e 72 68 0,
 .e 73 68 1,
 .f 74 3 7,
 .s 1 74 72,
 .m 6 73]
 (.s [.m 75 6,
 .k 76 .neq 75 0]
 (.cond (.t 76)
 (.s [.o 77 (.build [.s [],.nil,.nil,.nil,.nil] []),
 .m 78 6,
 .s 5 2 77,
 .m 3 78]
 (.ret))
 (.skip))))
 (.skip))))
 (.seq (.s [.m 80 4,
 .o 81 (.callv (.t 80) [.c (.s [115,101,114,118,105,99,101])]),
 .m 79 81,
 .e 82 79 0,
 .e 83 79 1,
 .o 14 (.alloc 30 [.i .i64 0,.s [],.nil,.nil]),
 .s 4 14 82,
 .m 15 83]
 (.s [.m 84 15]
 (.cond (.t 84)
 (.s [.w 86 4 14,
 .w 87 2 5,
 .c 88 39 [.t 86,.t 87,.c (.fn 40 [] [])],
 .m 85 88,
 .e 89 85 0,
 .e 90 85 1,
 .f 91 4 7,
 .s 1 91 89,
 .m 6 90]
 (.s [.m 92 6,
 .k 93 .neq 92 0]
 (.cond (.t 93)
 (.s [.o 94 (.build [.s [],.nil,.nil,.nil,.nil] []),
 .m 95 6,
 .s 5 2 94,
 .m 3 95]
 (.ret))
 (.skip))))
 (.skip))))
 (.s [.w 96 5 7,
 .s 5 2 96,
 .n 3 0]
 (.ret))))))))))
theorem nE:FnIs Tryz.prog 12 97 [.celln 2 5,.tmp 3] Wb:=⟨⟨_,_,Tryz.func12,rfl,rfl,by kernel_rfl,by kernel_rfl⟩⟩
def Wh:SCode :=
 .s [.o 1 (.box 25 (.t 0)),
 .o 2 (.mv (.c (.o .nilFunc)))]
 (.s [.o 3 (.alloc 37 [.nil])]
 (.seq (.s [.f 4 5 1,
 .l 5 4]
 (.cond (.t 5)
 (.reg [.f 6 3 1,
 .l 7 6,
 .c 8 8 [.t 7],
 .s 1 3 8])
 (.skip)))
 (.s [.o 9 (.mkf 41 [] [.t 3]),
 .m 2 9]
 (.ret))))
theorem nN:FnIs Tryz.prog 13 10 [.tmp 2] Wh:=⟨⟨_,_,Tryz.func13,rfl,rfl,by kernel_rfl,by kernel_rfl⟩⟩
def WB:SCode :=
 .s [.o 2 (.box 50 (.t 0)),
 .o 4 (.alloc 57 [.s [],.nil,.nil]),
 .o 5 (.mv (.c (.b false)))]
 (.seq (.s [.f 8 4 2,
 .l 9 8,
 .o 10 (.lenr (.t 9)),
 .n 11 0]
 (.blk 0
 (.loop
 (.s [.b 12 .lss 11 10]
 (.seq (.cond (.t 12)
 (.skip)
 (.exit 0))
 (.seq (.blk 1
 (.s [.o 13 (.iad 3 (.t 9) (.t 11)),
 .w 14 3 13,
 .o 7 (.alloc 57 [.s [],.nil,.nil]),
 .s 3 7 14]
 (.s [.f 15 0 7,
 .l 16 15,
 .m 17 1,
 .b 18 .eql 16 17]
 (.cond (.t 18)
 (.s [.w 19 3 7,
 .s 3 4 19,
 .o 5 (.mv (.c (.b true)))]
 (.ret))
 (.skip)))))
 (.reg [.k 20 .add 11 1,
 .m 11 20])))))))
 (.s [.o 21 (.build [.s [],.nil,.nil] []),
 .s 3 4 21,
 .o 5 (.mv (.c (.b false)))]
 (.ret)))
theorem nV:FnIs Tryz.prog 14 22 [.celln 4 3,.tmp 5] WB:=⟨⟨_,_,Tryz.func14,rfl,rfl,by kernel_rfl,by kernel_rfl⟩⟩
def Wa:SCode :=
 .s [.o 1 (.box 23 (.t 0)),
 .z 2]
 (.s [.f 3 0 1,
 .l 4 3,
 .o 5 (.bin .add (.c (.s [100,105,100,58])) (.t 4)),
 .o 6 (.bin .add (.t 5) (.c (.s [58]))),
 .f 7 1 1,
 .l 8 7,
 .b 9 .add 6 8,
 .m 2 9]
 (.ret))
theorem nD:FnIs Tryz.prog 15 10 [.tmp 2] Wa:=⟨⟨_,_,Tryz.func15,rfl,rfl,by kernel_rfl,by kernel_rfl⟩⟩
def Qi:SCode :=
 .s [.o 2 (.alloc 62 [.s [],.i .i64 0,.s [],.s [],.s [],.b false,.b false]),
 .n 3 0]
 (.seq (.s [.m 8 0,
 .h 9 8,
 .k 10 .gtr 9 4096]
 (.cond (.t 10)
 (.s [.o 11 (.build [.s [],.i .i64 0,.s [],.s [],.s [],.b false,.b false] []),
 .s 7 2 11,
 .n 3 5]
 (.ret))
 (.skip)))
 (.s [.m 13 0,
 .c 14 42 [.t 13],
 .m 12 14,
 .e 15 12 0,
 .e 16 12 1,
 .o 4 (.alloc 99 [.s [],.s [],.s [],.s [],.s [],.b false,.b false,.b false,.b false]),
 .s 9 4 15,
 .m 5 16]
 (.seq (.s [.m 17 5,
 .k 18 .neq 17 0]
 (.cond (.t 18)
 (.s [.o 19 (.build [.s [],.i .i64 0,.s [],.s [],.s [],.b false,.b false] []),
 .m 20 5,
 .s 7 2 19,
 .m 3 20]
 (.ret))
 (.skip)))
 (.s [.w 22 9 4,
 .c 23 43 [.t 22],
 .m 21 23,
 .e 24 21 0,
 .e 25 21 1,
 .o 6 (.alloc 103 [.s [],.i .i64 0]),
 .s 2 6 24,
 .m 5 25]
 (.seq (.s [.m 26 5,
 .k 27 .neq 26 0]
 (.cond (.t 27)
 (.s [.o 28 (.build [.s [],.i .i64 0,.s [],.s [],.s [],.b false,.b false] []),
 .m 29 5,
 .s 7 2 28,
 .m 3 29]
 (.ret))
 (.skip)))
 (.s [.w 31 9 4,
 .c 32 44 [.t 31],
 .m 30 32,
 .e 33 30 0,
 .e 34 30 1,
 .o 7 (.alloc 62 [.s [],.i .i64 0,.s [],.s [],.s [],.b false,.b false]),
 .s 7 7 33,
 .m 5 34]
 (.seq (.s [.m 35 5,
 .k 36 .neq 35 0]
 (.cond (.t 36)
 (.s [.o 37 (.build [.s [],.i .i64 0,.s [],.s [],.s [],.b false,.b false] []),
 .m 38 5,
 .s 7 2 37,
 .m 3 38]
 (.ret))
 (.skip)))
 (.seq (.drw [.f 39 0 6,
 .l 40 39,
 .f 41 1 6,
 .l 42 41,
 .f 43 0 7,
 .s 1 43 40,
 .f 44 1 7,
 .s 1 44 42] 8 [(41,(43,none))])
 (.seq (.s [.w 45 7 7,
 .c 46 18 [.t 45],
 .h 47 46,
 .k 48 .gtr 47 4096]
 (.cond (.t 48)
 (.s [.o 49 (.build [.s [],.i .i64 0,.s [],.s [],.s [],.b false,.b false] []),
 .s 7 2 49,
 .n 3 5]
 (.ret))
 (.skip)))
 (.s [.w 50 7 7,
 .s 7 2 50,
 .n 3 0]
 (.ret)))))))))))
theorem mE:FnIs Tryz.prog 16 51 [.celln 2 7,.tmp 3] Qi:=⟨⟨_,_,Tryz.func16,rfl,rfl,by kernel_rfl,by kernel_rfl⟩⟩
def Wp:SCode :=
 .s [.o 2 (.box 62 (.t 0)),
 .o 4 (.alloc 62 [.s [],.i .i64 0,.s [],.s [],.s [],.b false,.b false]),
 .n 5 0]
 (.seq (.s [.w 10 7 2,
 .c 11 45 [.t 10],
 .o 12 (.not (.t 11))]
 (.cond (.t 12)
 (.s [.o 13 (.build [.s [],.i .i64 0,.s [],.s [],.s [],.b false,.b false] []),
 .s 7 4 13,
 .n 5 8]
 (.ret))
 (.skip)))
 (.s [.w 15 7 2,
 .c 16 18 [.t 15],
 .c 17 42 [.t 16],
 .m 14 17,
 .e 18 14 0,
 .e 19 14 1,
 .o 6 (.alloc 99 [.s [],.s [],.s [],.s [],.s [],.b false,.b false,.b false,.b false]),
 .s 9 6 18,
 .m 7 19]
 (.seq (.s [.m 20 7,
 .k 21 .neq 20 0]
 (.cond (.t 21)
 (.s [.o 22 (.build [.s [],.i .i64 0,.s [],.s [],.s [],.b false,.b false] []),
 .m 23 7,
 .s 7 4 22,
 .m 5 23]
 (.ret))
 (.skip)))
 (.s [.m 25 1,
 .c 26 42 [.t 25],
 .m 24 26,
 .e 27 24 0,
 .e 28 24 1,
 .o 8 (.alloc 99 [.s [],.s [],.s [],.s [],.s [],.b false,.b false,.b false,.b false]),
 .s 9 8 27,
 .m 7 28]
 (.seq (.s [.m 29 7,
 .k 30 .neq 29 0]
 (.cond (.t 30)
 (.s [.o 31 (.build [.s [],.i .i64 0,.s [],.s [],.s [],.b false,.b false] []),
 .m 32 7,
 .s 7 4 31,
 .m 5 32]
 (.ret))
 (.skip)))
 (.s [.w 33 9 6,
 .w 34 9 8,
 .c 35 46 [.t 33,.t 34],
 .o 9 (.alloc 99 [.s [],.s [],.s [],.s [],.s [],.b false,.b false,.b false,.b false]),
 .s 9 9 35]
 (.seq (.s [.f 36 0 9,
 .l 37 36,
 .c 38 47 [.t 37,.c (.s [104,116,116,112,115])],
 .o 39 (.not (.t 38))]
 (.cond (.t 39)
 (.s [.o 40 (.build [.s [],.i .i64 0,.s [],.s [],.s [],.b false,.b false] []),
 .s 7 4 40,
 .n 5 253]
 (.ret))
 (.skip)))
 (.s [.w 41 9 9,
 .c 42 48 [.t 41],
 .c 43 16 [.t 42],
 .e 44 43 0,
 .e 45 43 1,
 .s 7 4 44,
 .m 5 45]
 (.ret)))))))))
theorem nU:FnIs Tryz.prog 17 46 [.celln 4 7,.tmp 5] Wp:=⟨⟨_,_,Tryz.func17,rfl,rfl,by kernel_rfl,by kernel_rfl⟩⟩
def V4:SCode :=
 .s [.o 1 (.box 62 (.t 0)),
 .z 2]
 (.seq (.drw [.w 4 7 1,
 .c 5 50 [.t 4],
 .c 6 49 [.t 5],
 .o 7 (.bin .add (.c (.s [104,116,116,112,115,58,47,47])) (.t 6)),
 .w 8 7 1,
 .c 9 51 [.t 8],
 .b 10 .add 7 9,
 .m 3 10] 8 [])
 (.seq (.s [.f 11 6 1,
 .l 12 11]
 (.cond (.t 12)
 (.reg [.m 13 3,
 .f 14 4 1,
 .l 15 14,
 .o 16 (.bin .add (.c (.s [35])) (.t 15)),
 .b 17 .add 13 16,
 .m 3 17])
 (.skip)))
 (.s [.m 18 3,
 .m 2 18]
 (.ret))))
theorem mY:FnIs Tryz.prog 18 19 [.tmp 2] V4:=⟨⟨_,_,Tryz.func18,rfl,rfl,by kernel_rfl,by kernel_rfl⟩⟩
def VT:SCode :=
 .s [.o 1 (.box 30 (.t 0)),
 .o 2 (.alloc 50 [.s [],.nil,.nil,.nil,.nil]),
 .n 3 0]
 (.seq (.s [.f 12 0 1,
 .l 13 12,
 .k 14 .neq 13 7]
 (.cond (.t 14)
 (.s [.o 15 (.build [.s [],.nil,.nil,.nil,.nil] []),
 .s 5 2 15,
 .n 3 160]
 (.ret))
 (.skip)))
 (.s [.o 16 (.build [.s [],.s [],.i .i64 0] []),
 .o 17 (.box 115 (.t 16)),
 .m 4 17]
 (.s [.m 19 4,
 .w 20 4 1,
 .c 21 53 [.t 19,.t 20,.c (.s [105,100])],
 .c 22 52 [.t 21],
 .m 18 22,
 .e 23 18 0,
 .e 24 18 1,
 .o 5 (.alloc 23 [.s [],.s []]),
 .s 2 5 23,
 .m 6 24]
 (.seq (.s [.m 25 6,
 .k 26 .neq 25 0]
 (.cond (.t 26)
 (.s [.o 27 (.build [.s [],.nil,.nil,.nil,.nil] []),
 .s 5 2 27,
 .n 3 160]
 (.ret))
 (.skip)))
 (.s [.m 28 4,
 .w 29 2 5,
 .o 30 (.nck (.t 28)),
 .f 31 0 30,
 .s 2 31 29]
 (.seq (.cra 7 50 [.s [],.nil,.nil,.nil,.nil] [([.w 32 2 5,.m 34 4,.w 35 4 1,.o 1000003 (.mv (.c .nil))],.c 33 22 [.t 32]),([],.c 36 54 [.t 34,.t 35,.c (.s [97,108,115,111,75,110,111,119,110,65,115]),.c (.b false)])] [.o 37 (.build [.s [],.nil,.nil,.nil,.nil] [(0,(1,.t 33)),(1,(1,.t 36))])] ⟨none,.store 5 (.t 7) (.t 37),none⟩)
 (.s [.m 38 4,
 .w 39 4 1,
 .c 40 54 [.t 38,.t 39,.c (.s [99,111,110,116,114,111,108,108,101,114]),.c (.b true)],
 .f 41 2 7,
 .s 1 41 40]
 (.seq (.s [.m 42 4,
 .w 43 4 1,
 .c 44 55 [.t 42,.t 43,.c (.s [118,101,114,105,102,105,99,97,116,105,111,110,77,101,116,104,111,100])],
 .o 45 (.lenr (.t 44)),
 .n 46 0]
 (.blk 0
 (.loop
 (.s [.b 47 .lss 46 45]
 (.seq (.cond (.t 47)
 (.skip)
 (.exit 0))
 (.seq (.blk 1
 (.s [.o 48 (.iad 4 (.t 44) (.t 46)),
 .w 49 4 48,
 .o 9 (.alloc 30 [.i .i64 0,.s [],.nil,.nil]),
 .s 4 9 49]
 (.crg [.f 50 3 7,.l 51 50,.m 52 4,.w 53 4 9] ⟨some 54,.call 56 [.t 52,.t 53],none⟩ [.o 55 (.bslice 1 [.s [],.s [],.s []] [(0,(3,.t 54))]),.o 56 (.app 93 3 48 (.t 51) (.t 55)),.f 57 3 7,.s 1 57 56])))
 (.reg [.k 58 .add 46 1,
 .m 46 58])))))))
 (.seq (.s [.m 59 4,
 .w 60 4 1,
 .c 61 55 [.t 59,.t 60,.c (.s [115,101,114,118,105,99,101])],
 .o 62 (.lenr (.t 61)),
 .n 63 0]
 (.blk 2
 (.loop
 (.s [.b 64 .lss 63 62]
 (.seq (.cond (.t 64)
 (.skip)
 (.exit 2))
 (.seq (.blk 3
 (.s [.o 65 (.iad 4 (.t 61) (.t 63)),
 .w 66 4 65,
 .o 11 (.alloc 30 [.i .i64 0,.s [],.nil,.nil]),
 .s 4 11 66]
 (.crg [.f 67 4 7,.l 68 67,.m 69 4,.w 70 4 11] ⟨some 71,.call 57 [.t 69,.t 70],none⟩ [.o 72 (.bslice 1 [.s [],.nil,.nil] [(0,(3,.t 71))]),.o 73 (.app 57 3 64 (.t 68) (.t 72)),.f 74 4 7,.s 1 74 73])))
 (.reg [.k 75 .add 63 1,
 .m 63 75])))))))
 (.seq (.s [.m 76 4,
 .o 77 (.nck (.t 76)),
 .f 78 2 77,
 .l 79 78,
 .k 80 .neq 79 0]
 (.cond (.t 80)
 (.seq (.drw [.o 81 (.build [.s [],.nil,.nil,.nil,.nil] []),
 .m 82 4,
 .o 83 (.nck (.t 82)),
 .f 84 2 83,
 .l 85 84,
 .s 5 2 81,
 .m 3 85] 7 [(84,(2,none))])
 (.ret))
 (.skip)))
 (.s [.w 86 5 7,
 .s 5 2 86,
 .n 3 0]
 (.ret))))))))))))
theorem mB:FnIs Tryz.prog 19 87 [.celln 2 5,.tmp 3] VT:=⟨⟨_,_,Tryz.func19,rfl,rfl,by kernel_rfl,by kernel_rfl⟩⟩
def VJ:SCode :=
 .s [.z 4,
 .o 5 (.mv (.c (.b false)))]
 (.seq (.s [.m 8 0,
 .o 9 (.lenr (.t 8)),
 .n 10 0]
 (.blk 0
 (.loop
 (.s [.b 11 .lss 10 9]
 (.seq (.cond (.t 11)
 (.skip)
 (.exit 0))
 (.seq (.blk 1
 (.s [.o 12 (.iad 2 (.t 8) (.t 10)),
 .w 13 2 12,
 .o 7 (.alloc 77 [.s [],.s []]),
 .s 2 7 13]
 (.s [.f 14 0 7,
 .l 15 14,
 .m 16 1,
 .b 17 .eql 15 16]
 (.cond (.t 17)
 (.s [.f 18 1 7,
 .l 19 18,
 .m 4 19,
 .o 5 (.mv (.c (.b true)))]
 (.ret))
 (.skip)))))
 (.reg [.k 20 .add 10 1,
 .m 10 20])))))))
 (.s [.z 4,
 .o 5 (.mv (.c (.b false)))]
 (.ret)))
theorem lU:FnIs Tryz.prog 20 21 [.tmp 4,.tmp 5] VJ:=⟨⟨_,_,Tryz.func20,rfl,rfl,by kernel_rfl,by kernel_rfl⟩⟩
def VV:SCode :=
 .s [.o 1 (.box 25 (.t 0)),
 .o 2 (.mv (.c .nil))]
 (.seq (.s [.f 3 5 1,
 .l 4 3,
 .o 5 (.not (.t 4))]
 (.cond (.t 5)
 (.s [.o 2 (.mv (.c .nil))]
 (.ret))
 (.skip)))
 (.s [.f 6 3 1,
 .l 7 6,
 .c 8 58 [.t 7],
 .m 2 8]
 (.ret)))
theorem mD:FnIs Tryz.prog 21 9 [.tmp 2] VV:=⟨⟨_,_,Tryz.func21,rfl,rfl,by kernel_rfl,by kernel_rfl⟩⟩
def Wn:SCode :=
 .s [.o 1 (.box 23 (.t 0)),
 .z 2]
 (.s [.f 3 0 1,
 .l 4 3,
 .o 5 (.bin .add (.c (.s [100,105,100,58])) (.t 4)),
 .o 6 (.bin .add (.t 5) (.c (.s [58]))),
 .f 7 1 1,
 .l 8 7,
 .b 9 .add 6 8,
 .m 2 9]
 (.ret))
theorem nS:FnIs Tryz.prog 22 10 [.tmp 2] Wn:=⟨⟨_,_,Tryz.func22,rfl,rfl,by kernel_rfl,by kernel_rfl⟩⟩
def V1:SCode :=
 .s [.o 2 (.box 57 (.t 0)),
 .o 3 (.box 25 (.t 1)),
 .z 4,
 .n 5 0]
 (.seq (.s [.f 11 2 2,
 .l 12 11,
 .o 13 (.lenr (.t 12)),
 .k 14 .eql 13 0]
 (.cond (.t 14)
 (.s [.z 4,
 .n 5 292]
 (.ret))
 (.skip)))
 (.s [.f 16 2 2,
 .l 17 16,
 .o 18 (.iad 1 (.t 17) (.c (.i .i64 0))),
 .l 19 18,
 .c 20 59 [.t 19],
 .m 15 20,
 .e 21 15 0,
 .e 22 15 1,
 .o 6 (.alloc 62 [.s [],.i .i64 0,.s [],.s [],.s [],.b false,.b false]),
 .s 7 6 21,
 .m 7 22]
 (.seq (.s [.m 23 7,
 .k 24 .neq 23 0]
 (.cond (.t 24)
 (.s [.z 4,
 .n 5 292]
 (.ret))
 (.skip)))
 (.seq (.s [.w 26 7 3,
 .c 27 21 [.t 26],
 .c 28 20 [.t 27,.c (.s [114,101,108,97,116,105,118,101,82,101,102])],
 .m 25 28,
 .e 29 25 0,
 .e 30 25 1,
 .m 8 29,
 .m 9 30]
 (.s [.m 31 9]
 (.cond (.t 31)
 (.s [.w 33 7 6,
 .m 34 8,
 .c 35 60 [.t 33,.t 34],
 .m 32 35,
 .e 36 32 0,
 .e 37 32 1,
 .s 7 6 36,
 .m 7 37]
 (.s [.m 38 7,
 .k 39 .neq 38 0]
 (.cond (.t 39)
 (.s [.z 4,
 .n 5 292]
 (.ret))
 (.skip))))
 (.skip))))
 (.seq (.s [.f 40 6 3,
 .l 41 40,
 .m 42 41,
 ⟨some 43,.fad 6 (.t 6),some (42,true)⟩,
 ⟨some 44,.load1 (.t 43),some (42,true)⟩,
 ⟨some 45,.not (.t 44),some (42,true)⟩,
 .o 46 (.pick (.t 42) (.t 45) (.c (.b false)))]
 (.cond (.t 46)
 (.reg [.f 47 4 3,
 .l 48 47,
 .f 49 4 6,
 .s 1 49 48,
 .f 50 6 6,
 ⟨none,.store 1 (.t 50) (.c (.b true)),none⟩])
 (.skip)))
 (.seq (.s [.w 51 7 6,
 .c 52 61 [.t 51],
 .m 10 52]
 (.s [.m 53 10,
 .h 54 53,
 .k 55 .leq 54 4096]
 (.cond (.t 55)
 (.s [.m 56 10,
 .m 4 56,
 .n 5 0]
 (.ret))
 (.skip))))
 (.s [.z 4,
 .n 5 292]
 (.ret))))))))
theorem nM:FnIs Tryz.prog 23 57 [.tmp 4,.tmp 5] V1:=⟨⟨_,_,Tryz.func23,rfl,rfl,by kernel_rfl,by kernel_rfl⟩⟩
def My:SCode :=
 .s [.o 2 (.box 44 (.t 0)),
 .o 4 (.mv (.c (.b false)))]
 (.s [.f 5 0 2,
 .l 6 5,
 .k 7 .eql 6 2,
 .m 8 7,
 ⟨some 9,.fad 1 (.t 2),some (8,true)⟩,
 ⟨some 10,.load1 (.t 9),some (8,true)⟩,
 ⟨some 11,.mv (.t 1),some (8,true)⟩,
 ⟨some 12,.bin .eql (.t 10) (.t 11),some (8,true)⟩,
 .o 13 (.pick (.t 8) (.t 12) (.c (.b false))),
 .m 4 13]
 (.ret))
theorem jO:FnIs Tryz.prog 27 14 [.tmp 4] My:=⟨⟨_,_,Tryz.func27,rfl,rfl,by kernel_rfl,by kernel_rfl⟩⟩
def Qh:SCode :=
 .s [.z 2,
 .n 3 0]
 (.seq (.s [.m 9 0,
 .o 10 (.bin .eql (.t 9) (.c (.s []))),
 .m 11 10,
 ⟨some 12,.mv (.t 0),some (11,false)⟩,
 ⟨some 13,.call 66 [.t 12],some (11,false)⟩,
 ⟨some 14,.mv (.t 0),some (11,false)⟩,
 ⟨some 15,.lens (.t 14),some (11,false)⟩,
 ⟨some 16,.bin .neq (.t 13) (.t 15),some (11,false)⟩,
 .p 17 11 16]
 (.cond (.t 17)
 (.s [.z 2,
 .n 3 130]
 (.ret))
 (.skip)))
 (.s [.z 4]
 (.seq (.s [.m 18 0,
 .o 19 (.idx (.t 18) (.c (.i .i64 0))),
 .o 20 (.bin .eql (.t 19) (.c (.i .u8 45)))]
 (.cond (.t 20)
 (.drw [.m 21 0,
 .o 22 (.slcs (.t 21) (some (.c (.i .i64 1))) none),
 .o 4 (.mv (.c (.s [45]))),
 .m 0 22] 4 [])
 (.skip)))
 (.s [.m 23 0,
 .c 24 67 [.t 23,.c (.s [101,69])],
 .m 5 24]
 (.seq (.drw [.m 25 0,
 .m 26 5,
 .k 27 .add 26 1,
 .c 28 69 [.t 25,.t 27],
 .c 29 68 [.t 28],
 .m 30 0,
 .m 31 5,
 .o 32 (.slcs (.t 30) none (some (.t 31))),
 .m 6 29,
 .m 7 32] 10 [])
 (.seq (.s [.m 33 7,
 .c 34 67 [.t 33,.c (.s [46])],
 .m 8 34]
 (.s [.m 35 8,
 .m 36 7,
 .h 37 36,
 .b 38 .lss 35 37]
 (.cond (.t 38)
 (.drw [.m 39 6,
 .m 40 7,
 .h 41 40,
 .m 42 8,
 .b 43 .sub 41 42,
 .k 44 .sub 43 1,
 .b 45 .sub 39 44,
 .m 46 7,
 .m 47 8,
 .o 48 (.slcs (.t 46) none (some (.t 47))),
 .m 49 7,
 .m 50 8,
 .k 51 .add 50 1,
 .o 52 (.slcs (.t 49) (some (.t 51)) none),
 .b 53 .add 48 52,
 .m 6 45,
 .m 7 53] 17 [])
 (.skip))))
 (.seq (.blk 0
 (.loop
 (.seq (.s [.m 54 7,
 .h 55 54,
 .k 56 .gtr 55 0,
 .m 57 56,
 ⟨some 58,.mv (.t 7),some (57,true)⟩,
 ⟨some 59,.idx (.t 58) (.c (.i .i64 0)),some (57,true)⟩,
 ⟨some 60,.bin .eql (.t 59) (.c (.i .u8 48)),some (57,true)⟩,
 .o 61 (.pick (.t 57) (.t 60) (.c (.b false)))]
 (.cond (.t 61)
 (.skip)
 (.exit 0)))
 (.blk 1
 (.reg [.m 62 7,
 .o 63 (.slcs (.t 62) (some (.c (.i .i64 1))) none),
 .m 7 63])))))
 (.seq (.s [.m 64 7,
 .o 65 (.bin .eql (.t 64) (.c (.s [])))]
 (.cond (.t 65)
 (.s [.o 2 (.mv (.c (.s [48]))),
 .n 3 0]
 (.ret))
 (.skip)))
 (.seq (.blk 2
 (.loop
 (.seq (.s [.m 66 7,
 .m 67 7,
 .h 68 67,
 .k 69 .sub 68 1,
 .o 70 (.idx (.t 66) (.t 69)),
 .o 71 (.bin .eql (.t 70) (.c (.i .u8 48)))]
 (.cond (.t 71)
 (.skip)
 (.exit 2)))
 (.blk 3
 (.reg [.m 72 7,
 .m 73 7,
 .h 74 73,
 .k 75 .sub 74 1,
 .o 76 (.slcs (.t 72) none (some (.t 75))),
 .m 77 6,
 .k 78 .add 77 1,
 .m 7 76,
 .m 6 78])))))
 (.seq (.blk 4
 (.s [.m 80 7,
 .h 81 80,
 .k 82 .gtr 81 40,
 .m 83 82,
 ⟨some 84,.mv (.t 6),some (83,false)⟩,
 ⟨some 85,.bin .gtr (.t 84) (.c (.i .i64 400)),some (83,false)⟩,
 .p 86 83 85,
 .m 87 86,
 ⟨some 88,.mv (.t 6),some (87,false)⟩,
 ⟨some 89,.bin .lss (.t 88) (.c (.i .i64 (-400))),some (87,false)⟩,
 .p 90 87 89,
 .m 79 90]
 (.cond (.t 79)
 (.s [.z 2,
 .n 3 144]
 (.ret))
 (.s [.m 92 6,
 .k 93 .lss 92 0,
 .m 91 93]
 (.cond (.t 91)
 (.s [.m 94 4,
 .m 95 7,
 .b 96 .add 94 95,
 .o 97 (.bin .add (.t 96) (.c (.s [101,45]))),
 .m 98 6,
 .o 99 (.neg (.t 98)),
 .o 100 (.cvi .u64 (.t 99)),
 .c 101 70 [.t 100],
 .b 102 .add 97 101,
 .m 2 102,
 .n 3 0]
 (.ret))
 (.s [.m 104 6,
 .k 105 .gtr 104 0,
 .m 103 105]
 (.cond (.t 103)
 (.s [.m 106 4,
 .m 107 7,
 .b 108 .add 106 107,
 .o 109 (.bin .add (.t 108) (.c (.s [101]))),
 .m 110 6,
 .o 111 (.cvi .u64 (.t 110)),
 .c 112 70 [.t 111],
 .b 113 .add 109 112,
 .m 2 113,
 .n 3 0]
 (.ret))
 (.skip))))))))
 (.s [.m 114 4,
 .m 115 7,
 .b 116 .add 114 115,
 .m 2 116,
 .n 3 0]
 (.ret))))))))))))
theorem mA:FnIs Tryz.prog 28 117 [.tmp 2,.tmp 3] Qh:=⟨⟨_,_,Tryz.func28,rfl,rfl,by kernel_rfl,by kernel_rfl⟩⟩
def MJ:SCode :=
 .s [.n 2 0]
 (.seq (.s [.m 3 0]
 (.blk 0
 (.s [.o 5 (.bin .eql (.t 3) (.c (.s [116,114,117,101]))),
 .m 4 5]
 (.cond (.t 4)
 (.s [.n 2 3]
 (.ret))
 (.s [.o 7 (.bin .eql (.t 3) (.c (.s [102,97,108,115,101]))),
 .m 6 7]
 (.cond (.t 6)
 (.s [.n 2 2]
 (.ret))
 (.skip)))))))
 (.s [.n 2 1]
 (.ret)))
theorem kW:FnIs Tryz.prog 29 8 [.tmp 2] MJ:=⟨⟨_,_,Tryz.func29,rfl,rfl,by kernel_rfl,by kernel_rfl⟩⟩
def Wu:SCode :=
 .s [.o 4 (.alloc 30 [.i .i64 0,.s [],.nil,.nil])]
 (.s [.o 7 (.build [.i .i64 0,.s [],.nil,.nil] [(0,(1,.c (.i .i64 6)))]),
 .o 5 (.alloc 30 [.i .i64 0,.s [],.nil,.nil]),
 .s 4 5 7]
 (.s [.m 8 0,
 .c 9 10 [.t 8],
 .o 6 (.alloc 44 [.i .i64 0,.s [],.i .i64 0]),
 .s 3 6 9]
 (.seq (.s [.w 10 3 6,
 .c 11 27 [.t 10,.c (.s [93])]]
 (.cond (.t 11)
 (.s [.w 12 4 5,
 .s 4 4 12]
 (.ret))
 (.skip)))
 (.seq (.blk 0
 (.loop
 (.seq (.s [.m 13 0,
 .o 14 (.nck (.t 13)),
 .f 15 3 14,
 .l 16 15,
 .k 17 .eql 16 0]
 (.cond (.t 17)
 (.skip)
 (.exit 0)))
 (.blk 1
 (.seq (.crg [.f 18 3 5,.l 19 18,.m 20 0,.w 21 3 6,.m 22 1] ⟨some 23,.call 9 [.t 20,.t 21,.t 22],none⟩ [.o 24 (.bslice 1 [.i .i64 0,.s [],.nil,.nil] [(0,(4,.t 23))]),.o 25 (.app 30 4 72 (.t 19) (.t 24)),.f 26 3 5,.s 1 26 25])
 (.s [.m 27 0,
 .c 28 10 [.t 27],
 .s 3 6 28]
 (.seq (.s [.w 29 3 6,
 .c 30 27 [.t 29,.c (.s [93])]]
 (.cond (.t 30)
 (.s [.w 31 4 5,
 .s 4 4 31]
 (.ret))
 (.skip)))
 (.seq (.s [.m 32 0,
 .o 33 (.nck (.t 32)),
 .f 34 3 33,
 .l 35 34,
 .k 36 .eql 35 0,
 .m 37 36,
 ⟨some 38,.loadn 3 (.t 6),some (37,true)⟩,
 ⟨some 39,.call 27 [.t 38,.c (.s [44])],some (37,true)⟩,
 ⟨some 40,.not (.t 39),some (37,true)⟩,
 .o 41 (.pick (.t 37) (.t 40) (.c (.b false)))]
 (.cond (.t 41)
 (.reg [.m 42 0,
 .f 43 2 6,
 .l 44 43,
 .c 45 11 [.t 42,.t 44,.c (.i .i64 140)]])
 (.skip)))
 (.reg [.m 46 0,
 .c 47 10 [.t 46],
 .s 3 6 47])))))))))
 (.s [.w 48 4 5,
 .s 4 4 48]
 (.ret))))))
theorem oJ:FnIs Tryz.prog 30 49 [.celln 4 4] Wu:=⟨⟨_,_,Tryz.func30,rfl,rfl,by kernel_rfl,by kernel_rfl⟩⟩
def Wy:SCode :=
 .s [.o 4 (.alloc 30 [.i .i64 0,.s [],.nil,.nil])]
 (.s [.o 11 (.build [.i .i64 0,.s [],.nil,.nil] [(0,(1,.c (.i .i64 7)))]),
 .o 5 (.alloc 30 [.i .i64 0,.s [],.nil,.nil]),
 .s 4 5 11]
 (.s [.m 12 0,
 .c 13 10 [.t 12],
 .o 6 (.alloc 44 [.i .i64 0,.s [],.i .i64 0]),
 .s 3 6 13]
 (.seq (.s [.w 14 3 6,
 .c 15 27 [.t 14,.c (.s [125])]]
 (.cond (.t 15)
 (.s [.w 16 4 5,
 .s 4 4 16]
 (.ret))
 (.skip)))
 (.seq (.blk 0
 (.loop
 (.seq (.s [.m 17 0,
 .o 18 (.nck (.t 17)),
 .f 19 3 18,
 .l 20 19,
 .k 21 .eql 20 0]
 (.cond (.t 21)
 (.skip)
 (.exit 0)))
 (.blk 1
 (.seq (.s [.f 22 0 6,
 .l 23 22,
 .k 24 .neq 23 3]
 (.cond (.t 24)
 (.reg [.m 25 0,
 .f 26 2 6,
 .l 27 26,
 .c 28 11 [.t 25,.t 27,.c (.i .i64 140)]])
 (.skip)))
 (.seq (.s [.w 30 4 5,
 .f 31 1 6,
 .l 32 31,
 .c 33 71 [.t 30,.t 32],
 .m 29 33,
 .e 34 29 0,
 .e 35 29 1,
 .o 7 (.alloc 30 [.i .i64 0,.s [],.nil,.nil]),
 .s 4 7 34,
 .m 8 35]
 (.s [.m 36 8]
 (.cond (.t 36)
 (.reg [.m 37 0,
 .f 38 2 6,
 .l 39 38,
 .c 40 11 [.t 37,.t 39,.c (.i .i64 143)]])
 (.skip))))
 (.s [.f 41 1 6,
 .l 42 41,
 .m 9 42]
 (.seq (.s [.m 43 0,
 .c 44 10 [.t 43],
 .s 3 6 44]
 (.s [.m 45 0,
 .o 46 (.nck (.t 45)),
 .f 47 3 46,
 .l 48 47,
 .k 49 .eql 48 0,
 .m 50 49,
 ⟨some 51,.loadn 3 (.t 6),some (50,true)⟩,
 ⟨some 52,.call 27 [.t 51,.c (.s [58])],some (50,true)⟩,
 ⟨some 53,.not (.t 52),some (50,true)⟩,
 .o 54 (.pick (.t 50) (.t 53) (.c (.b false)))]
 (.cond (.t 54)
 (.reg [.m 55 0,
 .f 56 2 6,
 .l 57 56,
 .c 58 11 [.t 55,.t 57,.c (.i .i64 140)]])
 (.skip))))
 (.s [.m 59 0,
 .m 60 0,
 .c 61 10 [.t 60],
 .m 62 1,
 .c 63 9 [.t 59,.t 61,.t 62],
 .o 10 (.alloc 30 [.i .i64 0,.s [],.nil,.nil]),
 .s 4 10 63]
 (.seq (.drw [.f 64 2 5,
 .l 65 64,
 .m 66 9,
 .o 67 (.bslice 1 [.s []] [(0,(1,.t 66))]),
 .o 68 (.app 9 1 16 (.t 65) (.t 67)),
 .f 69 3 5,
 .l 70 69,
 .w 71 4 10,
 .o 72 (.bslice 1 [.i .i64 0,.s [],.nil,.nil] [(0,(4,.t 71))]),
 .o 73 (.app 30 4 72 (.t 70) (.t 72)),
 .f 74 2 5,
 .s 1 74 68,
 .f 75 3 5,
 .s 1 75 73] 14 [(69,(68,none)),(10,(68,none))])
 (.s [.m 76 0,
 .c 77 10 [.t 76],
 .s 3 6 77]
 (.seq (.s [.w 78 3 6,
 .c 79 27 [.t 78,.c (.s [125])]]
 (.cond (.t 79)
 (.s [.w 80 4 5,
 .s 4 4 80]
 (.ret))
 (.skip)))
 (.seq (.s [.m 81 0,
 .o 82 (.nck (.t 81)),
 .f 83 3 82,
 .l 84 83,
 .k 85 .eql 84 0,
 .m 86 85,
 ⟨some 87,.loadn 3 (.t 6),some (86,true)⟩,
 ⟨some 88,.call 27 [.t 87,.c (.s [44])],some (86,true)⟩,
 ⟨some 89,.not (.t 88),some (86,true)⟩,
 .o 90 (.pick (.t 86) (.t 89) (.c (.b false)))]
 (.cond (.t 90)
 (.reg [.m 91 0,
 .f 92 2 6,
 .l 93 92,
 .c 94 11 [.t 91,.t 93,.c (.i .i64 140)]])
 (.skip)))
 (.reg [.m 95 0,
 .c 96 10 [.t 95],
 .s 3 6 96]))))))))))))))
 (.s [.w 97 4 5,
 .s 4 4 97]
 (.ret))))))
theorem oE:FnIs Tryz.prog 31 98 [.celln 4 4] Wy:=⟨⟨_,_,Tryz.func31,rfl,rfl,by kernel_rfl,by kernel_rfl⟩⟩
def MI:SCode :=
 .s [.o 4 (.alloc 44 [.i .i64 0,.s [],.i .i64 0]),
 .n 5 0,
 .n 6 0]
 (.seq (.s [.m 14 1,
 .k 15 .lss 14 0,
 .m 16 15,
 ⟨some 17,.mv (.t 1),some (16,false)⟩,
 ⟨some 18,.mv (.t 0),some (16,false)⟩,
 ⟨some 19,.lens (.t 18),some (16,false)⟩,
 ⟨some 20,.bin .gtr (.t 17) (.t 19),some (16,false)⟩,
 .p 21 16 20]
 (.cond (.t 21)
 (.s [.o 22 (.build [.i .i64 0,.s [],.i .i64 0] []),
 .s 3 4 22,
 .n 5 0,
 .n 6 4]
 (.ret))
 (.skip)))
 (.seq (.blk 0
 (.loop
 (.seq (.s [.m 23 1,
 .m 24 0,
 .h 25 24,
 .b 26 .lss 23 25,
 .m 27 26,
 ⟨some 28,.mv (.t 0),some (27,true)⟩,
 ⟨some 29,.mv (.t 1),some (27,true)⟩,
 ⟨some 30,.idx (.t 28) (.t 29),some (27,true)⟩,
 ⟨some 31,.call 72 [.t 30],some (27,true)⟩,
 .o 32 (.pick (.t 27) (.t 31) (.c (.b false)))]
 (.cond (.t 32)
 (.skip)
 (.exit 0)))
 (.blk 1
 (.reg [.m 33 1,
 .k 34 .add 33 1,
 .m 1 34])))))
 (.seq (.s [.m 35 1,
 .m 36 0,
 .h 37 36,
 .b 38 .eql 35 37]
 (.cond (.t 38)
 (.s [.m 39 1,
 .o 40 (.build [.i .i64 0,.s [],.i .i64 0] [(0,(1,.c (.i .i64 1))),(2,(1,.t 39))]),
 .m 41 1,
 .s 3 4 40,
 .m 5 41,
 .n 6 0]
 (.ret))
 (.skip)))
 (.seq (.s [.m 42 0,
 .m 43 1,
 .o 44 (.idx (.t 42) (.t 43)),
 .m 7 44]
 (.blk 2
 (.s [.m 46 7,
 .c 47 73 [.t 46,.c (.s [123,125,91,93,58,44])],
 .m 45 47]
 (.cond (.t 45)
 (.s [.m 48 0,
 .m 49 1,
 .m 50 1,
 .k 51 .add 50 1,
 .o 52 (.slcs (.t 48) (some (.t 49)) (some (.t 51))),
 .m 53 1,
 .o 54 (.build [.i .i64 0,.s [],.i .i64 0] [(0,(1,.c (.i .i64 2))),(1,(1,.t 52)),(2,(1,.t 53))]),
 .m 55 1,
 .k 56 .add 55 1,
 .s 3 4 54,
 .m 5 56,
 .n 6 0]
 (.ret))
 (.s [.m 58 7,
 .o 59 (.bin .eql (.t 58) (.c (.i .u8 34))),
 .m 57 59]
 (.cond (.t 57)
 (.s [.m 61 0,
 .m 62 1,
 .c 63 74 [.t 61,.t 62],
 .m 60 63,
 .e 64 60 0,
 .e 65 60 1,
 .e 66 60 2,
 .m 8 64,
 .m 9 65,
 .m 10 66]
 (.seq (.s [.m 67 10,
 .k 68 .neq 67 0]
 (.cond (.t 68)
 (.s [.o 69 (.build [.i .i64 0,.s [],.i .i64 0] []),
 .m 70 10,
 .s 3 4 69,
 .n 5 0,
 .m 6 70]
 (.ret))
 (.skip)))
 (.s [.m 71 8,
 .m 72 1,
 .o 73 (.build [.i .i64 0,.s [],.i .i64 0] [(0,(1,.c (.i .i64 3))),(1,(1,.t 71)),(2,(1,.t 72))]),
 .m 74 9,
 .s 3 4 73,
 .m 5 74,
 .n 6 0]
 (.ret))))
 (.s [.m 76 7,
 .o 77 (.bin .eql (.t 76) (.c (.i .u8 45))),
 .m 78 77,
 ⟨some 79,.mv (.t 7),some (78,false)⟩,
 ⟨some 80,.call 75 [.t 79],some (78,false)⟩,
 .p 81 78 80,
 .m 75 81]
 (.cond (.t 75)
 (.s [.m 82 0,
 .m 83 1,
 .o 84 (.slcs (.t 82) (some (.t 83)) none),
 .c 85 66 [.t 84],
 .m 11 85]
 (.seq (.s [.m 86 11,
 .k 87 .eql 86 0]
 (.cond (.t 87)
 (.s [.o 88 (.build [.i .i64 0,.s [],.i .i64 0] []),
 .s 3 4 88,
 .n 5 0,
 .n 6 130]
 (.ret))
 (.skip)))
 (.s [.m 89 0,
 .m 90 1,
 .m 91 1,
 .m 92 11,
 .b 93 .add 91 92,
 .o 94 (.slcs (.t 89) (some (.t 90)) (some (.t 93))),
 .m 95 1,
 .o 96 (.build [.i .i64 0,.s [],.i .i64 0] [(0,(1,.c (.i .i64 4))),(1,(1,.t 94)),(2,(1,.t 95))]),
 .m 97 1,
 .m 98 11,
 .b 99 .add 97 98,
 .s 3 4 96,
 .m 5 99,
 .n 6 0]
 (.ret))))
 (.skip)))))))))
 (.s [.n 12 0]
 (.seq (.blk 3
 (.loop
 (.seq (.s [.m 100 1,
 .m 101 12,
 .b 102 .add 100 101,
 .m 103 0,
 .h 104 103,
 .b 105 .lss 102 104,
 .m 106 105,
 ⟨some 107,.mv (.t 0),some (106,true)⟩,
 ⟨some 108,.mv (.t 1),some (106,true)⟩,
 ⟨some 109,.mv (.t 12),some (106,true)⟩,
 ⟨some 110,.bin .add (.t 108) (.t 109),some (106,true)⟩,
 ⟨some 111,.idx (.t 107) (.t 110),some (106,true)⟩,
 ⟨some 112,.call 76 [.t 111],some (106,true)⟩,
 .o 113 (.pick (.t 106) (.t 112) (.c (.b false)))]
 (.cond (.t 113)
 (.skip)
 (.exit 3)))
 (.blk 4
 (.reg [.m 114 12,
 .k 115 .add 114 1,
 .m 12 115])))))
 (.seq (.s [.m 116 0,
 .m 117 1,
 .m 118 1,
 .m 119 12,
 .b 120 .add 118 119,
 .o 121 (.slcs (.t 116) (some (.t 117)) (some (.t 120))),
 .m 13 121]
 (.s [.m 122 13,
 .o 123 (.bin .eql (.t 122) (.c (.s [116,114,117,101]))),
 .m 124 123,
 ⟨some 125,.mv (.t 13),some (124,false)⟩,
 ⟨some 126,.bin .eql (.t 125) (.c (.s [102,97,108,115,101])),some (124,false)⟩,
 .p 127 124 126,
 .m 128 127,
 ⟨some 129,.mv (.t 13),some (128,false)⟩,
 ⟨some 130,.bin .eql (.t 129) (.c (.s [110,117,108,108])),some (128,false)⟩,
 .p 131 128 130]
 (.cond (.t 131)
 (.s [.m 132 13,
 .m 133 1,
 .o 134 (.build [.i .i64 0,.s [],.i .i64 0] [(0,(1,.c (.i .i64 5))),(1,(1,.t 132)),(2,(1,.t 133))]),
 .m 135 1,
 .m 136 12,
 .b 137 .add 135 136,
 .s 3 4 134,
 .m 5 137,
 .n 6 0]
 (.ret))
 (.skip))))
 (.s [.o 138 (.build [.i .i64 0,.s [],.i .i64 0] []),
 .s 3 4 138,
 .n 5 0,
 .n 6 130]
 (.ret)))))))))
theorem kS:FnIs Tryz.prog 32 139 [.celln 4 3,.tmp 5,.tmp 6] MI:=⟨⟨_,_,Tryz.func32,rfl,rfl,by kernel_rfl,by kernel_rfl⟩⟩
def Wi:SCode :=
 .s [.o 1 (.box 30 (.t 0)),
 .o 2 (.mv (.c (.o .nilFunc)))]
 (.s [.o 3 (.mkf 77 [] [.t 1]),
 .m 2 3]
 (.ret))
theorem nO:FnIs Tryz.prog 33 4 [.tmp 2] Wi:=⟨⟨_,_,Tryz.func33,rfl,rfl,by kernel_rfl,by kernel_rfl⟩⟩
def VY:SCode :=
 .s [.o 1 (.box 30 (.t 0)),
 .o 2 (.alloc 23 [.s [],.s []]),
 .n 3 0]
 (.s [.w 9 4 1,
 .c 10 79 [.t 9,.c (.s [105,100])],
 .m 8 10,
 .e 11 8 0,
 .e 12 8 1,
 .m 4 11,
 .m 5 12]
 (.seq (.s [.m 13 5,
 .o 14 (.not (.t 13))]
 (.cond (.t 14)
 (.s [.o 15 (.build [.s [],.s []] []),
 .s 2 2 15,
 .n 3 160]
 (.ret))
 (.skip)))
 (.s [.m 17 4,
 .c 18 80 [.t 17],
 .m 16 18,
 .e 19 16 0,
 .e 20 16 1,
 .o 6 (.alloc 23 [.s [],.s []]),
 .s 2 6 19,
 .m 7 20]
 (.seq (.s [.m 21 7,
 .k 22 .neq 21 0]
 (.cond (.t 22)
 (.s [.o 23 (.build [.s [],.s []] []),
 .s 2 2 23,
 .n 3 160]
 (.ret))
 (.skip)))
 (.s [.w 24 2 6,
 .s 2 2 24,
 .n 3 0]
 (.ret))))))
theorem nI:FnIs Tryz.prog 34 25 [.celln 2 2,.tmp 3] VY:=⟨⟨_,_,Tryz.func34,rfl,rfl,by kernel_rfl,by kernel_rfl⟩⟩
def Wc:SCode :=
 .s [.o 1 (.box 30 (.t 0)),
 .o 2 (.mv (.c .nil)),
 .n 3 0]
 (.seq (.s [.f 4 0 1,
 .l 5 4,
 .k 6 .neq 5 6]
 (.cond (.t 6)
 (.s [.o 2 (.mv (.c .nil)),
 .n 3 160]
 (.ret))
 (.skip)))
 (.s [.f 7 3 1,
 .l 8 7,
 .c 9 81 [.t 8],
 .e 10 9 0,
 .e 11 9 1,
 .m 2 10,
 .m 3 11]
 (.ret)))
theorem nF:FnIs Tryz.prog 35 12 [.tmp 2,.tmp 3] Wc:=⟨⟨_,_,Tryz.func35,rfl,rfl,by kernel_rfl,by kernel_rfl⟩⟩
def Wt:SCode :=
 .s [.o 1 (.box 30 (.t 0)),
 .o 2 (.mv (.c .nil)),
 .n 3 0]
 (.seq (.s [.f 4 0 1,
 .l 5 4,
 .k 6 .eql 5 6]
 (.cond (.t 6)
 (.s [.w 7 4 1,
 .c 8 35 [.t 7],
 .e 9 8 0,
 .e 10 8 1,
 .m 2 9,
 .m 3 10]
 (.ret))
 (.skip)))
 (.s [.w 11 4 1,
 .o 12 (.bslice 1 [.i .i64 0,.s [],.nil,.nil] [(0,(4,.t 11))]),
 .c 13 81 [.t 12],
 .e 14 13 0,
 .e 15 13 1,
 .m 2 14,
 .m 3 15]
 (.ret)))
theorem oI:FnIs Tryz.prog 36 16 [.tmp 2,.tmp 3] Wt:=⟨⟨_,_,Tryz.func36,rfl,rfl,by kernel_rfl,by kernel_rfl⟩⟩
def WN:SCode :=
 .s [.o 3 (.box 30 (.t 0)),
 .o 4 (.box 23 (.t 1)),
 .o 6 (.mv (.c .nil)),
 .n 7 0]
 (.seq (.s [.f 13 0 3,
 .l 14 13,
 .k 15 .neq 14 6]
 (.cond (.t 15)
 (.s [.o 6 (.mv (.c .nil)),
 .n 7 160]
 (.ret))
 (.skip)))
 (.seq (.s [.f 16 3 3,
 .l 17 16,
 .o 18 (.lenr (.t 17)),
 .k 19 .gtr 18 64]
 (.cond (.t 19)
 (.s [.o 6 (.mv (.c .nil)),
 .n 7 161]
 (.ret))
 (.skip)))
 (.s [.o 8 (.mv (.c .nil))]
 (.seq (.s [.f 20 3 3,
 .l 21 20,
 .o 22 (.lenr (.t 21)),
 .n 23 0]
 (.blk 0
 (.loop
 (.s [.b 24 .lss 23 22]
 (.seq (.cond (.t 24)
 (.skip)
 (.exit 0))
 (.seq (.blk 1
 (.s [.o 25 (.iad 4 (.t 21) (.t 23)),
 .w 26 4 25,
 .o 10 (.alloc 30 [.i .i64 0,.s [],.nil,.nil]),
 .s 4 10 26]
 (.s [.m 28 2,
 .w 29 4 10,
 .w 30 2 4,
 .o 31 (.callv (.t 28) [.t 29,.t 30]),
 .m 27 31,
 .e 32 27 0,
 .e 33 27 1,
 .o 11 (.alloc 93 [.s [],.s [],.s []]),
 .s 3 11 32,
 .m 12 33]
 (.seq (.s [.m 34 12,
 .k 35 .neq 34 0]
 (.cond (.t 35)
 (.s [.m 36 12,
 .o 6 (.mv (.c .nil)),
 .m 7 36]
 (.ret))
 (.skip)))
 (.reg [.m 37 8,
 .w 38 3 11,
 .o 39 (.bslice 1 [.s [],.s [],.s []] [(0,(3,.t 38))]),
 .o 40 (.app 93 3 48 (.t 37) (.t 39)),
 .m 8 40])))))
 (.reg [.k 41 .add 23 1,
 .m 23 41])))))))
 (.s [.m 42 8,
 .m 6 42,
 .n 7 0]
 (.ret))))))
theorem oQ:FnIs Tryz.prog 37 43 [.tmp 6,.tmp 7] WN:=⟨⟨_,_,Tryz.func37,rfl,rfl,by kernel_rfl,by kernel_rfl⟩⟩
def Ww:SCode :=
 .s [.o 2 (.box 30 (.t 0)),
 .o 3 (.box 23 (.t 1)),
 .o 4 (.alloc 93 [.s [],.s [],.s []]),
 .n 5 0]
 (.s [.w 13 4 2,
 .w 14 2 3,
 .c 15 82 [.t 13,.t 14],
 .m 12 15,
 .e 16 12 0,
 .e 17 12 1,
 .m 6 16,
 .m 7 17]
 (.seq (.s [.m 18 7,
 .k 19 .neq 18 0]
 (.cond (.t 19)
 (.s [.o 20 (.build [.s [],.s [],.s []] []),
 .m 21 7,
 .s 3 4 20,
 .m 5 21]
 (.ret))
 (.skip)))
 (.s [.w 23 4 2,
 .c 24 79 [.t 23,.c (.s [116,121,112,101])],
 .m 22 24,
 .e 25 22 0,
 .e 26 22 1,
 .m 8 25,
 .m 9 26]
 (.s [.w 28 4 2,
 .c 29 79 [.t 28,.c (.s [99,111,110,116,114,111,108,108,101,114])],
 .m 27 29,
 .e 30 27 0,
 .e 31 27 1,
 .m 10 30,
 .m 11 31]
 (.seq (.s [.m 32 9,
 .o 33 (.not (.t 32)),
 .m 34 33,
 ⟨some 35,.mv (.t 11),some (34,false)⟩,
 ⟨some 36,.not (.t 35),some (34,false)⟩,
 .p 37 34 36]
 (.cond (.t 37)
 (.s [.o 38 (.build [.s [],.s [],.s []] []),
 .s 3 4 38,
 .n 5 160]
 (.ret))
 (.skip)))
 (.s [.m 39 6,
 .m 40 8,
 .m 41 10,
 .o 42 (.build [.s [],.s [],.s []] [(0,(1,.t 39)),(1,(1,.t 40)),(2,(1,.t 41))]),
 .s 3 4 42,
 .n 5 0]
 (.ret)))))))
theorem oC:FnIs Tryz.prog 38 43 [.celln 4 3,.tmp 5] Ww:=⟨⟨_,_,Tryz.func38,rfl,rfl,by kernel_rfl,by kernel_rfl⟩⟩
def WL:SCode :=
 .s [.o 3 (.box 30 (.t 0)),
 .o 4 (.box 23 (.t 1)),
 .o 6 (.mv (.c .nil)),
 .n 7 0]
 (.seq (.s [.f 13 0 3,
 .l 14 13,
 .k 15 .neq 14 6]
 (.cond (.t 15)
 (.s [.o 6 (.mv (.c .nil)),
 .n 7 160]
 (.ret))
 (.skip)))
 (.seq (.s [.f 16 3 3,
 .l 17 16,
 .o 18 (.lenr (.t 17)),
 .k 19 .gtr 18 64]
 (.cond (.t 19)
 (.s [.o 6 (.mv (.c .nil)),
 .n 7 161]
 (.ret))
 (.skip)))
 (.s [.o 8 (.mv (.c .nil))]
 (.seq (.s [.f 20 3 3,
 .l 21 20,
 .o 22 (.lenr (.t 21)),
 .n 23 0]
 (.blk 0
 (.loop
 (.s [.b 24 .lss 23 22]
 (.seq (.cond (.t 24)
 (.skip)
 (.exit 0))
 (.seq (.blk 1
 (.s [.o 25 (.iad 4 (.t 21) (.t 23)),
 .w 26 4 25,
 .o 10 (.alloc 30 [.i .i64 0,.s [],.nil,.nil]),
 .s 4 10 26]
 (.s [.m 28 2,
 .w 29 4 10,
 .w 30 2 4,
 .o 31 (.callv (.t 28) [.t 29,.t 30]),
 .m 27 31,
 .e 32 27 0,
 .e 33 27 1,
 .o 11 (.alloc 57 [.s [],.nil,.nil]),
 .s 3 11 32,
 .m 12 33]
 (.seq (.s [.m 34 12,
 .k 35 .neq 34 0]
 (.cond (.t 35)
 (.s [.m 36 12,
 .o 6 (.mv (.c .nil)),
 .m 7 36]
 (.ret))
 (.skip)))
 (.reg [.m 37 8,
 .w 38 3 11,
 .o 39 (.bslice 1 [.s [],.nil,.nil] [(0,(3,.t 38))]),
 .o 40 (.app 57 3 64 (.t 37) (.t 39)),
 .m 8 40])))))
 (.reg [.k 41 .add 23 1,
 .m 23 41])))))))
 (.s [.m 42 8,
 .m 6 42,
 .n 7 0]
 (.ret))))))
theorem oS:FnIs Tryz.prog 39 43 [.tmp 6,.tmp 7] WL:=⟨⟨_,_,Tryz.func39,rfl,rfl,by kernel_rfl,by kernel_rfl⟩⟩
def WG:SCode :=
 .s [.o 2 (.box 30 (.t 0)),
 .o 3 (.box 23 (.t 1)),
 .o 4 (.alloc 57 [.s [],.nil,.nil]),
 .n 5 0]
 (.s [.w 14 4 2,
 .c 15 33 [.t 14],
 .m 6 15]
 (.s [.w 17 4 2,
 .w 18 2 3,
 .c 19 82 [.t 17,.t 18],
 .m 16 19,
 .e 20 16 0,
 .e 21 16 1,
 .m 7 20,
 .m 8 21]
 (.seq (.s [.m 22 8,
 .k 23 .neq 22 0]
 (.cond (.t 23)
 (.s [.o 24 (.build [.s [],.nil,.nil] []),
 .m 25 8,
 .s 3 4 24,
 .m 5 25]
 (.ret))
 (.skip)))
 (.s [.m 26 7,
 .o 27 (.build [.s [],.nil,.nil] [(0,(1,.t 26))]),
 .o 9 (.alloc 57 [.s [],.nil,.nil]),
 .s 3 9 27]
 (.s [.m 29 6,
 .o 30 (.callv (.t 29) [.c (.s [116,121,112,101])]),
 .m 28 30,
 .e 31 28 0,
 .e 32 28 1,
 .o 10 (.alloc 30 [.i .i64 0,.s [],.nil,.nil]),
 .s 4 10 31,
 .m 11 32]
 (.seq (.s [.w 34 4 10,
 .c 35 36 [.t 34],
 .m 33 35,
 .e 36 33 0,
 .e 37 33 1,
 .f 38 1 9,
 .s 1 38 36,
 .m 8 37]
 (.s [.m 39 8,
 .k 40 .neq 39 0]
 (.cond (.t 40)
 (.s [.o 41 (.build [.s [],.nil,.nil] []),
 .m 42 8,
 .s 3 4 41,
 .m 5 42]
 (.ret))
 (.skip))))
 (.s [.m 44 6,
 .o 45 (.callv (.t 44) [.c (.s [115,101,114,118,105,99,101,69,110,100,112,111,105,110,116])]),
 .m 43 45,
 .e 46 43 0,
 .e 47 43 1,
 .o 12 (.alloc 30 [.i .i64 0,.s [],.nil,.nil]),
 .s 4 12 46,
 .m 13 47]
 (.seq (.s [.f 48 0 12,
 .l 49 48,
 .k 50 .eql 49 7]
 (.cond (.t 50)
 (.s [.w 51 3 9,
 .s 3 4 51,
 .n 5 0]
 (.ret))
 (.skip)))
 (.seq (.s [.w 53 4 12,
 .c 54 36 [.t 53],
 .m 52 54,
 .e 55 52 0,
 .e 56 52 1,
 .f 57 2 9,
 .s 1 57 55,
 .m 8 56]
 (.s [.m 58 8,
 .k 59 .neq 58 0]
 (.cond (.t 59)
 (.s [.o 60 (.build [.s [],.nil,.nil] []),
 .m 61 8,
 .s 3 4 60,
 .m 5 61]
 (.ret))
 (.skip))))
 (.s [.w 62 3 9,
 .s 3 4 62,
 .n 5 0]
 (.ret)))))))))))
theorem oM:FnIs Tryz.prog 40 63 [.celln 4 3,.tmp 5] WG:=⟨⟨_,_,Tryz.func40,rfl,rfl,by kernel_rfl,by kernel_rfl⟩⟩
def WA:SCode :=
 .s [.z 3,
 .o 4 (.mv (.c (.b false)))]
 (.seq (.s [.l 7 1,
 .o 8 (.lenr (.t 7)),
 .n 9 0]
 (.blk 0
 (.loop
 (.s [.b 10 .lss 9 8]
 (.seq (.cond (.t 10)
 (.skip)
 (.exit 0))
 (.seq (.blk 1
 (.s [.o 11 (.iad 2 (.t 7) (.t 9)),
 .w 12 2 11,
 .o 6 (.alloc 77 [.s [],.s []]),
 .s 2 6 12]
 (.s [.f 13 0 6,
 .l 14 13,
 .m 15 0,
 .b 16 .eql 14 15]
 (.cond (.t 16)
 (.s [.f 17 1 6,
 .l 18 17,
 .m 3 18,
 .o 4 (.mv (.c (.b true)))]
 (.ret))
 (.skip)))))
 (.reg [.k 19 .add 9 1,
 .m 9 19])))))))
 (.s [.z 3,
 .o 4 (.mv (.c (.b false)))]
 (.ret)))
theorem oG:FnIs Tryz.prog 41 20 [.tmp 3,.tmp 4] WA:=⟨⟨_,_,Tryz.func41,rfl,rfl,by kernel_rfl,by kernel_rfl⟩⟩
def UO:SCode :=
 .s [.o 2 (.alloc 99 [.s [],.s [],.s [],.s [],.s [],.b false,.b false,.b false,.b false]),
 .n 3 0]
 (.seq (.s [.m 10 0,
 .h 11 10,
 .k 12 .gtr 11 16384]
 (.cond (.t 12)
 (.s [.o 13 (.build [.s [],.s [],.s [],.s [],.s [],.b false,.b false,.b false,.b false] []),
 .s 9 2 13,
 .n 3 5]
 (.ret))
 (.skip)))
 (.s [.m 14 0,
 .o 4 (.alloc 9 [.s []]),
 .s 1 4 14]
 (.s [.o 15 (.mkf 83 [] [.t 4]),
 .m 5 15]
 (.s [.o 6 (.alloc 99 [.s [],.s [],.s [],.s [],.s [],.b false,.b false,.b false,.b false])]
 (.s [.m 17 5,
 .o 18 (.callv (.t 17) [.c (.i .u8 35)]),
 .m 16 18,
 .e 19 16 0,
 .e 20 16 1,
 .f 21 4 6,
 .s 1 21 19,
 .f 22 8 6,
 .s 1 22 20]
 (.s [.m 24 5,
 .o 25 (.callv (.t 24) [.c (.i .u8 63)]),
 .m 23 25,
 .e 26 23 0,
 .e 27 23 1,
 .f 28 3 6,
 .s 1 28 26,
 .f 29 7 6,
 .s 1 29 27]
 (.seq (.s [.l 30 4,
 .c 31 85 [.t 30],
 .m 7 31]
 (.s [.m 32 7,
 .k 33 .geq 32 0]
 (.cond (.t 33)
 (.seq (.s [.l 34 4,
 .m 35 7,
 .o 36 (.slcs (.t 34) none (some (.t 35))),
 .c 37 86 [.t 36],
 .o 38 (.not (.t 37))]
 (.cond (.t 38)
 (.s [.o 39 (.build [.s [],.s [],.s [],.s [],.s [],.b false,.b false,.b false,.b false] []),
 .s 9 2 39,
 .n 3 6]
 (.ret))
 (.skip)))
 (.drw [.l 40 4,
 .m 41 7,
 .o 42 (.slcs (.t 40) none (some (.t 41))),
 .l 43 4,
 .m 44 7,
 .k 45 .add 44 1,
 .o 46 (.slcs (.t 43) (some (.t 45)) none),
 .f 47 0 6,
 .s 1 47 42,
 .f 48 5 6,
 ⟨none,.store 1 (.t 48) (.c (.b true)),none⟩,
 .s 1 4 46] 12 [(4,(47,none)),(4,(48,none))]))
 (.skip))))
 (.seq (.s [.l 50 4,
 .c 51 87 [.t 50,.c (.s [47,47])],
 .m 49 51,
 .e 52 49 0,
 .e 53 49 1,
 .m 8 52,
 .m 9 53]
 (.s [.m 54 9]
 (.cond (.t 54)
 (.s [.m 55 8,
 .c 56 88 [.t 55],
 .f 57 1 6,
 .s 1 57 56,
 .f 58 6 6,
 ⟨none,.store 1 (.t 58) (.c (.b true)),none⟩]
 (.reg [.m 59 8,
 .f 60 1 6,
 .l 61 60,
 .h 62 61,
 .o 63 (.slcs (.t 59) (some (.t 62)) none),
 .s 1 4 63]))
 (.skip))))
 (.s [.l 64 4,
 .f 65 2 6,
 .s 1 65 64]
 (.s [.w 66 9 6,
 .s 9 2 66,
 .n 3 0]
 (.ret)))))))))))
theorem kI:FnIs Tryz.prog 42 67 [.celln 2 9,.tmp 3] UO:=⟨⟨_,_,Tryz.func42,rfl,rfl,by kernel_rfl,by kernel_rfl⟩⟩
def JZ:SCode :=
 .s [.o 1 (.box 99 (.t 0)),
 .o 2 (.alloc 103 [.s [],.i .i64 0]),
 .n 3 0]
 (.seq (.blk 0
 (.s [.f 5 5 1,
 .l 6 5,
 .o 7 (.not (.t 6)),
 .m 8 7,
 ⟨some 9,.fad 0 (.t 1),some (8,false)⟩,
 ⟨some 10,.load1 (.t 9),some (8,false)⟩,
 ⟨some 11,.call 47 [.t 10,.c (.s [104,116,116,112,115])],some (8,false)⟩,
 ⟨some 12,.not (.t 11),some (8,false)⟩,
 .p 13 8 12,
 .m 4 13]
 (.cond (.t 4)
 (.s [.o 14 (.build [.s [],.i .i64 0] []),
 .s 2 2 14,
 .n 3 60]
 (.ret))
 (.s [.f 16 6 1,
 .l 17 16,
 .o 18 (.not (.t 17)),
 .m 15 18]
 (.cond (.t 15)
 (.s [.o 19 (.build [.s [],.i .i64 0] []),
 .s 2 2 19,
 .n 3 71]
 (.ret))
 (.s [.f 21 1 1,
 .l 22 21,
 .c 23 89 [.t 22,.c (.s [64])],
 .m 20 23]
 (.cond (.t 20)
 (.s [.o 24 (.build [.s [],.i .i64 0] []),
 .s 2 2 24,
 .n 3 70]
 (.ret))
 (.skip))))))))
 (.s [.f 25 1 1,
 .l 26 25,
 .c 27 90 [.t 26],
 .e 28 27 0,
 .e 29 27 1,
 .s 2 2 28,
 .m 3 29]
 (.ret)))
theorem oL:FnIs Tryz.prog 43 30 [.celln 2 2,.tmp 3] JZ:=⟨⟨_,_,Tryz.func43,rfl,rfl,by kernel_rfl,by kernel_rfl⟩⟩
def Wk:SCode :=
 .s [.o 1 (.box 99 (.t 0)),
 .o 2 (.alloc 62 [.s [],.i .i64 0,.s [],.s [],.s [],.b false,.b false]),
 .n 3 0]
 (.s [.f 9 2 1,
 .l 10 9,
 .c 11 91 [.t 10,.c (.s [33,36,38,39,40,41,42,43,44,59,61,58,64,47])],
 .m 8 11,
 .e 12 8 0,
 .e 13 8 1,
 .m 4 12,
 .m 5 13]
 (.seq (.s [.m 14 5,
 .k 15 .neq 14 0]
 (.cond (.t 15)
 (.s [.o 16 (.build [.s [],.i .i64 0,.s [],.s [],.s [],.b false,.b false] []),
 .m 17 5,
 .s 7 2 16,
 .m 3 17]
 (.ret))
 (.skip)))
 (.seq (.s [.m 18 4,
 .c 19 92 [.t 18],
 .m 4 19]
 (.s [.m 20 4,
 .o 21 (.bin .eql (.t 20) (.c (.s [])))]
 (.cond (.t 21)
 (.reg [.o 4 (.mv (.c (.s [47])))])
 (.skip))))
 (.s [.f 23 3 1,
 .l 24 23,
 .c 25 91 [.t 24,.c (.s [33,36,38,39,40,41,42,43,44,59,61,58,64,47,63])],
 .m 22 25,
 .e 26 22 0,
 .e 27 22 1,
 .m 6 26,
 .m 5 27]
 (.seq (.s [.m 28 5,
 .k 29 .neq 28 0]
 (.cond (.t 29)
 (.s [.o 30 (.build [.s [],.i .i64 0,.s [],.s [],.s [],.b false,.b false] []),
 .m 31 5,
 .s 7 2 30,
 .m 3 31]
 (.ret))
 (.skip)))
 (.s [.f 33 4 1,
 .l 34 33,
 .c 35 91 [.t 34,.c (.s [33,36,38,39,40,41,42,43,44,59,61,58,64,47,63])],
 .m 32 35,
 .e 36 32 0,
 .e 37 32 1,
 .m 7 36,
 .m 5 37]
 (.seq (.s [.m 38 5,
 .k 39 .neq 38 0]
 (.cond (.t 39)
 (.s [.o 40 (.build [.s [],.i .i64 0,.s [],.s [],.s [],.b false,.b false] []),
 .m 41 5,
 .s 7 2 40,
 .m 3 41]
 (.ret))
 (.skip)))
 (.s [.m 42 4,
 .m 43 6,
 .f 44 7 1,
 .l 45 44,
 .m 46 7,
 .f 47 8 1,
 .l 48 47,
 .o 49 (.build [.s [],.i .i64 0,.s [],.s [],.s [],.b false,.b false] [(2,(1,.t 42)),(3,(1,.t 43)),(5,(1,.t 45)),(4,(1,.t 46)),(6,(1,.t 48))]),
 .s 7 2 49,
 .n 3 0]
 (.ret)))))))))
theorem nQ:FnIs Tryz.prog 44 50 [.celln 2 7,.tmp 3] Wk:=⟨⟨_,_,Tryz.func44,rfl,rfl,by kernel_rfl,by kernel_rfl⟩⟩
def VW:SCode :=
 .s [.o 1 (.box 62 (.t 0)),
 .o 2 (.mv (.c (.b false)))]
 (.s [.w 6 7 1,
 .c 7 18 [.t 6],
 .c 8 16 [.t 7],
 .m 5 8,
 .e 9 5 0,
 .e 10 5 1,
 .o 3 (.alloc 62 [.s [],.i .i64 0,.s [],.s [],.s [],.b false,.b false]),
 .s 7 3 9,
 .m 4 10]
 (.s [.m 11 4,
 .k 12 .eql 11 0,
 .m 13 12,
 ⟨some 14,.loadn 7 (.t 3),some (13,true)⟩,
 ⟨some 15,.loadn 7 (.t 1),some (13,true)⟩,
 ⟨some 16,.eqs false (.str [(0,(none,.ts)),(1,(none,.ti)),(2,(none,.ts)),(3,(none,.ts)),(4,(none,.ts)),(5,(none,.tb)),(6,(none,.tb))]) (.t 14) (.t 15),some (13,true)⟩,
 .o 17 (.pick (.t 13) (.t 16) (.c (.b false))),
 .m 2 17]
 (.ret)))
theorem mF:FnIs Tryz.prog 45 18 [.tmp 2] VW:=⟨⟨_,_,Tryz.func45,rfl,rfl,by kernel_rfl,by kernel_rfl⟩⟩
def I6:SCode :=
 .s [.o 2 (.box 99 (.t 0)),
 .o 3 (.box 99 (.t 1)),
 .o 4 (.alloc 99 [.s [],.s [],.s [],.s [],.s [],.b false,.b false,.b false,.b false])]
 (.s [.w 6 9 3,
 .o 5 (.alloc 99 [.s [],.s [],.s [],.s [],.s [],.b false,.b false,.b false,.b false]),
 .s 9 5 6]
 (.seq (.s [.f 7 5 3,
 .l 8 7]
 (.cond (.t 8)
 (.s [.f 9 2 3,
 .l 10 9,
 .c 11 92 [.t 10],
 .f 12 2 5,
 .s 1 12 11]
 (.s [.w 13 9 5,
 .s 9 4 13]
 (.ret)))
 (.skip)))
 (.seq (.drw [.f 14 0 2,
 .l 15 14,
 .f 16 5 2,
 .l 17 16,
 .f 18 0 5,
 .s 1 18 15,
 .f 19 5 5,
 .s 1 19 17] 8 [(16,(18,none))])
 (.seq (.s [.f 20 6 3,
 .l 21 20]
 (.cond (.t 21)
 (.s [.f 22 2 3,
 .l 23 22,
 .c 24 92 [.t 23],
 .f 25 2 5,
 .s 1 25 24]
 (.s [.w 26 9 5,
 .s 9 4 26]
 (.ret)))
 (.skip)))
 (.seq (.drw [.f 27 1 2,
 .l 28 27,
 .f 29 6 2,
 .l 30 29,
 .f 31 1 5,
 .s 1 31 28,
 .f 32 6 5,
 .s 1 32 30] 8 [(29,(31,none))])
 (.seq (.blk 0
 (.s [.f 40 2 3,
 .l 41 40,
 .o 42 (.bin .eql (.t 41) (.c (.s []))),
 .m 39 42]
 (.cond (.t 39)
 (.s [.f 43 2 2,
 .l 44 43,
 .f 45 2 5,
 .s 1 45 44]
 (.s [.f 46 7 3,
 .l 47 46,
 .o 48 (.not (.t 47))]
 (.cond (.t 48)
 (.drw [.f 49 3 2,
 .l 50 49,
 .f 51 7 2,
 .l 52 51,
 .f 53 3 5,
 .s 1 53 50,
 .f 54 7 5,
 .s 1 54 52] 8 [(51,(53,none))])
 (.skip))))
 (.s [.f 56 2 3,
 .l 57 56,
 .o 58 (.idx (.t 57) (.c (.i .i64 0))),
 .o 59 (.bin .eql (.t 58) (.c (.i .u8 47))),
 .m 55 59]
 (.cond (.t 55)
 (.reg [.f 60 2 3,
 .l 61 60,
 .c 62 92 [.t 61],
 .f 63 2 5,
 .s 1 63 62])
 (.reg [.w 33 9 2,
 .f 34 2 3,
 .l 35 34,
 .c 36 93 [.t 33,.t 35],
 .c 37 92 [.t 36],
 .f 38 2 5,
 .s 1 38 37]))))))
 (.s [.w 64 9 5,
 .s 9 4 64]
 (.ret))))))))
theorem lV:FnIs Tryz.prog 46 65 [.celln 4 9] I6:=⟨⟨_,_,Tryz.func46,rfl,rfl,by kernel_rfl,by kernel_rfl⟩⟩
def UJ:SCode :=
 .s [.o 1 (.box 99 (.t 0)),
 .z 2]
 (.seq (.drw [.f 3 5 1,
 .l 4 3,
 .f 5 0 1,
 .l 6 5,
 .o 7 (.bslice 2 [.s [],.s []] [(0,(1,.t 6)),(1,(1,.c (.s [58])))]),
 .c 8 96 [.t 4,.t 7],
 .f 9 6 1,
 .l 10 9,
 .f 11 1 1,
 .l 12 11,
 .o 13 (.bslice 2 [.s [],.s []] [(0,(1,.c (.s [47,47]))),(1,(1,.t 12))]),
 .c 14 96 [.t 10,.t 13],
 .f 15 2 1,
 .l 16 15,
 .f 17 7 1,
 .l 18 17,
 .f 19 3 1,
 .l 20 19,
 .o 21 (.bslice 2 [.s [],.s []] [(0,(1,.c (.s [63]))),(1,(1,.t 20))]),
 .c 22 96 [.t 18,.t 21],
 .f 23 8 1,
 .l 24 23,
 .f 25 4 1,
 .l 26 25,
 .o 27 (.bslice 2 [.s [],.s []] [(0,(1,.c (.s [35]))),(1,(1,.t 26))]),
 .c 28 96 [.t 24,.t 27],
 .o 29 (.bslice 5 [.s [],.s [],.s [],.s [],.s []] [(0,(1,.t 8)),(1,(1,.t 14)),(2,(1,.t 16)),(3,(1,.t 22)),(4,(1,.t 28))]),
 .c 30 95 [.t 29],
 .m 2 30] 29 [])
 (.ret))
theorem jP:FnIs Tryz.prog 48 31 [.tmp 2] UJ:=⟨⟨_,_,Tryz.func48,rfl,rfl,by kernel_rfl,by kernel_rfl⟩⟩
def P3:SCode :=
 .s [.o 1 (.box 103 (.t 0)),
 .z 2]
 (.seq (.s [.f 3 1 1,
 .l 4 3,
 .k 5 .eql 4 0]
 (.cond (.t 5)
 (.s [.f 6 0 1,
 .l 7 6,
 .m 2 7]
 (.ret))
 (.skip)))
 (.seq (.drw [.f 8 0 1,
 .l 9 8,
 .o 10 (.bin .add (.t 9) (.c (.s [58]))),
 .f 11 1 1,
 .l 12 11,
 .c 13 97 [.t 12],
 .b 14 .add 10 13,
 .m 2 14] 8 [])
 (.ret)))
theorem lK:FnIs Tryz.prog 49 15 [.tmp 2] P3:=⟨⟨_,_,Tryz.func49,rfl,rfl,by kernel_rfl,by kernel_rfl⟩⟩
def V5:SCode :=
 .s [.o 1 (.box 62 (.t 0)),
 .o 2 (.alloc 103 [.s [],.i .i64 0])]
 (.s [.f 3 0 1,
 .l 4 3,
 .f 5 1 1,
 .l 6 5,
 .o 7 (.build [.s [],.i .i64 0] [(0,(1,.t 4)),(1,(1,.t 6))]),
 .s 2 2 7]
 (.ret))
theorem mZ:FnIs Tryz.prog 50 8 [.celln 2 2] V5:=⟨⟨_,_,Tryz.func50,rfl,rfl,by kernel_rfl,by kernel_rfl⟩⟩
def V6:SCode :=
 .s [.o 1 (.box 62 (.t 0)),
 .z 2]
 (.seq (.s [.f 3 5 1,
 .l 4 3,
 .o 5 (.not (.t 4))]
 (.cond (.t 5)
 (.s [.f 6 2 1,
 .l 7 6,
 .m 2 7]
 (.ret))
 (.skip)))
 (.s [.f 8 2 1,
 .l 9 8,
 .o 10 (.bin .add (.t 9) (.c (.s [63]))),
 .f 11 3 1,
 .l 12 11,
 .b 13 .add 10 12,
 .m 2 13]
 (.ret)))
theorem nA:FnIs Tryz.prog 51 14 [.tmp 2] V6:=⟨⟨_,_,Tryz.func51,rfl,rfl,by kernel_rfl,by kernel_rfl⟩⟩
def Qk:SCode :=
 .s [.o 2 (.alloc 23 [.s [],.s []]),
 .n 3 0]
 (.seq (.blk 0
 (.s [.m 17 0,
 .h 18 17,
 .k 19 .gtr 18 4096,
 .m 16 19]
 (.cond (.t 16)
 (.s [.o 20 (.build [.s [],.s []] []),
 .s 2 2 20,
 .n 3 5]
 (.ret))
 (.s [.m 22 0,
 .c 23 98 [.t 22,.c (.s [100,105,100,58])],
 .o 24 (.not (.t 23)),
 .m 21 24]
 (.cond (.t 21)
 (.s [.o 25 (.build [.s [],.s []] []),
 .s 2 2 25,
 .n 3 60]
 (.ret))
 (.skip))))))
 (.s [.m 26 0,
 .o 27 (.slcs (.t 26) (some (.c (.i .i64 4))) none),
 .m 0 27]
 (.s [.m 28 0,
 .c 29 67 [.t 28,.c (.s [58])],
 .m 4 29]
 (.seq (.s [.m 30 4,
 .m 31 0,
 .h 32 31,
 .b 33 .eql 30 32]
 (.cond (.t 33)
 (.s [.o 34 (.build [.s [],.s []] []),
 .s 2 2 34,
 .n 3 6]
 (.ret))
 (.skip)))
 (.seq (.s [.m 35 0,
 .m 36 4,
 .o 37 (.slcs (.t 35) none (some (.t 36))),
 .c 38 99 [.t 37],
 .o 39 (.not (.t 38))]
 (.cond (.t 39)
 (.s [.o 40 (.build [.s [],.s []] []),
 .s 2 2 40,
 .n 3 100]
 (.ret))
 (.skip)))
 (.s [.m 41 0,
 .m 42 4,
 .k 43 .add 42 1,
 .o 44 (.slcs (.t 41) (some (.t 43)) none),
 .c 45 100 [.t 44,.c (.i .u8 58)],
 .m 5 45]
 (.seq (.s [.m 46 5,
 .o 47 (.lenr (.t 46)),
 .n 48 0]
 (.blk 1
 (.loop
 (.s [.b 49 .lss 48 47]
 (.seq (.cond (.t 49)
 (.skip)
 (.exit 1))
 (.seq (.blk 2
 (.s [.o 50 (.iad 1 (.t 46) (.t 48)),
 .l 51 50,
 .m 7 51]
 (.s [.m 53 7,
 .c 54 101 [.t 53],
 .m 52 54,
 .e 55 52 0,
 .e 56 52 1,
 .m 8 55,
 .m 9 56]
 (.s [.m 57 9,
 .k 58 .neq 57 0]
 (.cond (.t 58)
 (.s [.o 59 (.build [.s [],.s []] []),
 .s 2 2 59,
 .n 3 2]
 (.ret))
 (.skip))))))
 (.reg [.k 60 .add 48 1,
 .m 48 60])))))))
 (.s [.z 10]
 (.seq (.s [.m 61 5,
 .o 62 (.lenr (.t 61)),
 .n 63 0]
 (.blk 3
 (.loop
 (.s [.b 64 .lss 63 62]
 (.seq (.cond (.t 64)
 (.skip)
 (.exit 3))
 (.seq (.blk 4
 (.s [.m 65 63,
 .o 66 (.iad 1 (.t 61) (.t 63)),
 .l 67 66,
 .m 11 65,
 .m 12 67]
 (.seq (.s [.n 13 0]
 (.blk 5
 (.loop
 (.seq (.s [.m 68 13,
 .m 69 12,
 .h 70 69,
 .b 71 .lss 68 70]
 (.cond (.t 71)
 (.skip)
 (.exit 5)))
 (.seq (.blk 6
 (.s [.m 74 12,
 .m 75 13,
 .o 76 (.idx (.t 74) (.t 75)),
 .c 77 102 [.t 76],
 .o 78 (.not (.t 77)),
 .m 79 78,
 ⟨some 80,.mv (.t 12),some (79,true)⟩,
 ⟨some 81,.mv (.t 13),some (79,true)⟩,
 ⟨some 82,.idx (.t 80) (.t 81),some (79,true)⟩,
 ⟨some 83,.bin .neq (.t 82) (.c (.i .u8 37)),some (79,true)⟩,
 .o 84 (.pick (.t 79) (.t 83) (.c (.b false)))]
 (.cond (.t 84)
 (.s [.o 85 (.build [.s [],.s []] []),
 .s 2 2 85,
 .n 3 1]
 (.ret))
 (.skip))))
 (.reg [.m 72 13,
 .k 73 .add 72 1,
 .m 13 73]))))))
 (.s [.m 87 12,
 .c 88 101 [.t 87],
 .m 86 88,
 .e 89 86 0,
 .e 90 86 1,
 .m 14 89,
 .m 15 90]
 (.seq (.s [.m 91 11,
 .k 92 .gtr 91 0]
 (.cond (.t 92)
 (.reg [.m 93 10,
 .o 94 (.bin .add (.t 93) (.c (.s [58]))),
 .m 10 94])
 (.skip)))
 (.reg [.m 95 10,
 .m 96 14,
 .c 97 103 [.t 96],
 .b 98 .add 95 97,
 .m 10 98]))))))
 (.reg [.k 99 .add 63 1,
 .m 63 99])))))))
 (.seq (.s [.m 100 5,
 .m 101 5,
 .o 102 (.lenr (.t 101)),
 .k 103 .sub 102 1,
 .o 104 (.iad 1 (.t 100) (.t 103)),
 .l 105 104,
 .o 106 (.bin .eql (.t 105) (.c (.s [])))]
 (.cond (.t 106)
 (.s [.o 107 (.build [.s [],.s []] []),
 .s 2 2 107,
 .n 3 3]
 (.ret))
 (.skip)))
 (.s [.m 108 0,
 .m 109 4,
 .o 110 (.slcs (.t 108) none (some (.t 109))),
 .m 111 10,
 .o 112 (.build [.s [],.s []] [(0,(1,.t 110)),(1,(1,.t 111))]),
 .s 2 2 112,
 .n 3 0]
 (.ret))))))))))))
theorem nK:FnIs Tryz.prog 52 113 [.celln 2 2,.tmp 3] Qk:=⟨⟨_,_,Tryz.func52,rfl,rfl,by kernel_rfl,by kernel_rfl⟩⟩
def WF:SCode :=
 .s [.o 4 (.box 30 (.t 1)),
 .z 6]
 (.s [.w 10 4 4,
 .m 11 2,
 .c 12 71 [.t 10,.t 11],
 .m 9 12,
 .e 13 9 0,
 .e 14 9 1,
 .o 7 (.alloc 30 [.i .i64 0,.s [],.nil,.nil]),
 .s 4 7 13,
 .m 8 14]
 (.seq (.s [.f 15 0 7,
 .l 16 15,
 .k 17 .neq 16 5]
 (.cond (.t 17)
 (.reg [.m 18 0,
 .c 19 104 [.t 18,.c (.i .i64 160)]])
 (.skip)))
 (.s [.f 20 1 7,
 .l 21 20,
 .m 6 21]
 (.ret))))
theorem oB:FnIs Tryz.prog 53 22 [.tmp 6] WF:=⟨⟨_,_,Tryz.func53,rfl,rfl,by kernel_rfl,by kernel_rfl⟩⟩
def WJ:SCode :=
 .s [.o 5 (.box 30 (.t 1)),
 .o 8 (.mv (.c .nil))]
 (.s [.w 15 4 5,
 .m 16 2,
 .c 17 71 [.t 15,.t 16],
 .m 14 17,
 .e 18 14 0,
 .e 19 14 1,
 .o 9 (.alloc 30 [.i .i64 0,.s [],.nil,.nil]),
 .s 4 9 18,
 .m 10 19]
 (.seq (.blk 0
 (.s [.m 21 10,
 .o 22 (.not (.t 21)),
 .m 20 22]
 (.cond (.t 20)
 (.s [.o 8 (.mv (.c .nil))]
 (.ret))
 (.s [.m 24 3,
 .m 25 24,
 ⟨some 26,.fad 0 (.t 9),some (25,true)⟩,
 ⟨some 27,.load1 (.t 26),some (25,true)⟩,
 ⟨some 28,.bin .eql (.t 27) (.c (.i .i64 5)),some (25,true)⟩,
 .o 29 (.pick (.t 25) (.t 28) (.c (.b false))),
 .m 23 29]
 (.cond (.t 23)
 (.s [.f 30 1 9,
 .l 31 30,
 .o 32 (.bslo 9 1 1 [.s []] [(0,(1,.t 31))]),
 .m 8 32]
 (.ret))
 (.s [.f 34 0 9,
 .l 35 34,
 .k 36 .neq 35 6,
 .m 33 36]
 (.cond (.t 33)
 (.s [.m 37 0,
 .c 38 104 [.t 37,.c (.i .i64 160)]]
 (.s [.o 8 (.mv (.c .nil))]
 (.ret)))
 (.s [.f 40 3 9,
 .l 41 40,
 .o 42 (.lenr (.t 41)),
 .k 43 .gtr 42 64,
 .m 39 43]
 (.cond (.t 39)
 (.s [.m 44 0,
 .c 45 104 [.t 44,.c (.i .i64 161)]]
 (.s [.o 8 (.mv (.c .nil))]
 (.ret)))
 (.skip))))))))))
 (.s [.o 11 (.mv (.c .nil))]
 (.seq (.s [.f 46 3 9,
 .l 47 46,
 .o 48 (.lenr (.t 47)),
 .n 49 0]
 (.blk 1
 (.loop
 (.s [.b 50 .lss 49 48]
 (.seq (.cond (.t 50)
 (.skip)
 (.exit 1))
 (.seq (.blk 2
 (.s [.o 51 (.iad 4 (.t 47) (.t 49)),
 .w 52 4 51,
 .o 13 (.alloc 30 [.i .i64 0,.s [],.nil,.nil]),
 .s 4 13 52]
 (.seq (.s [.f 53 0 13,
 .l 54 53,
 .k 55 .neq 54 5]
 (.cond (.t 55)
 (.reg [.m 56 0,
 .c 57 104 [.t 56,.c (.i .i64 160)]])
 (.skip)))
 (.reg [.m 58 11,
 .f 59 1 13,
 .l 60 59,
 .o 61 (.bslice 1 [.s []] [(0,(1,.t 60))]),
 .o 62 (.app 9 1 16 (.t 58) (.t 61)),
 .m 11 62]))))
 (.reg [.k 63 .add 49 1,
 .m 49 63])))))))
 (.s [.m 64 11,
 .m 8 64]
 (.ret))))))
theorem oP:FnIs Tryz.prog 54 65 [.tmp 8] WJ:=⟨⟨_,_,Tryz.func54,rfl,rfl,by kernel_rfl,by kernel_rfl⟩⟩
def WH:SCode :=
 .s [.o 4 (.box 30 (.t 1)),
 .o 6 (.mv (.c .nil))]
 (.s [.w 10 4 4,
 .m 11 2,
 .c 12 71 [.t 10,.t 11],
 .m 9 12,
 .e 13 9 0,
 .e 14 9 1,
 .o 7 (.alloc 30 [.i .i64 0,.s [],.nil,.nil]),
 .s 4 7 13,
 .m 8 14]
 (.seq (.blk 0
 (.s [.m 16 8,
 .o 17 (.not (.t 16)),
 .m 15 17]
 (.cond (.t 15)
 (.s [.o 6 (.mv (.c .nil))]
 (.ret))
 (.s [.f 19 0 7,
 .l 20 19,
 .k 21 .neq 20 6,
 .m 18 21]
 (.cond (.t 18)
 (.s [.m 22 0,
 .c 23 104 [.t 22,.c (.i .i64 160)]]
 (.s [.o 6 (.mv (.c .nil))]
 (.ret)))
 (.s [.f 25 3 7,
 .l 26 25,
 .o 27 (.lenr (.t 26)),
 .k 28 .gtr 27 64,
 .m 24 28]
 (.cond (.t 24)
 (.s [.m 29 0,
 .c 30 104 [.t 29,.c (.i .i64 161)]]
 (.s [.o 6 (.mv (.c .nil))]
 (.ret)))
 (.skip))))))))
 (.s [.f 31 3 7,
 .l 32 31,
 .m 6 32]
 (.ret))))
theorem oN:FnIs Tryz.prog 55 33 [.tmp 6] WH:=⟨⟨_,_,Tryz.func55,rfl,rfl,by kernel_rfl,by kernel_rfl⟩⟩
def Wz:SCode :=
 .s [.o 3 (.box 30 (.t 1)),
 .o 4 (.alloc 93 [.s [],.s [],.s []])]
 (.seq (.s [.f 6 0 3,
 .l 7 6,
 .k 8 .neq 7 7]
 (.cond (.t 8)
 (.s [.m 9 0,
 .c 10 104 [.t 9,.c (.i .i64 160)]]
 (.s [.o 11 (.build [.s [],.s [],.s []] []),
 .s 3 4 11]
 (.ret)))
 (.skip)))
 (.s [.m 12 0,
 .w 13 4 3,
 .c 14 105 [.t 12,.t 13],
 .o 15 (.build [.s [],.s [],.s []] [(0,(1,.t 14))]),
 .o 5 (.alloc 93 [.s [],.s [],.s []]),
 .s 3 5 15]
 (.s [.m 16 0,
 .w 17 4 3,
 .c 18 53 [.t 16,.t 17,.c (.s [116,121,112,101])],
 .f 19 1 5,
 .s 1 19 18]
 (.s [.m 20 0,
 .w 21 4 3,
 .c 22 53 [.t 20,.t 21,.c (.s [99,111,110,116,114,111,108,108,101,114])],
 .f 23 2 5,
 .s 1 23 22]
 (.s [.w 24 3 5,
 .s 3 4 24]
 (.ret))))))
theorem oF:FnIs Tryz.prog 56 25 [.celln 4 3] Wz:=⟨⟨_,_,Tryz.func56,rfl,rfl,by kernel_rfl,by kernel_rfl⟩⟩
def WI:SCode :=
 .s [.o 3 (.box 30 (.t 1)),
 .o 4 (.alloc 57 [.s [],.nil,.nil])]
 (.seq (.s [.f 10 0 3,
 .l 11 10,
 .k 12 .neq 11 7]
 (.cond (.t 12)
 (.s [.m 13 0,
 .c 14 104 [.t 13,.c (.i .i64 160)]]
 (.s [.o 15 (.build [.s [],.nil,.nil] []),
 .s 3 4 15]
 (.ret)))
 (.skip)))
 (.s [.m 16 0,
 .w 17 4 3,
 .c 18 105 [.t 16,.t 17],
 .o 19 (.build [.s [],.nil,.nil] [(0,(1,.t 18))]),
 .o 5 (.alloc 57 [.s [],.nil,.nil]),
 .s 3 5 19]
 (.seq (.s [.w 21 4 3,
 .c 22 71 [.t 21,.c (.s [116,121,112,101])],
 .m 20 22,
 .e 23 20 0,
 .e 24 20 1,
 .o 6 (.alloc 30 [.i .i64 0,.s [],.nil,.nil]),
 .s 4 6 23,
 .m 7 24]
 (.s [.m 25 7,
 .o 26 (.not (.t 25))]
 (.cond (.t 26)
 (.reg [.m 27 0,
 .c 28 104 [.t 27,.c (.i .i64 160)]])
 (.skip))))
 (.s [.m 29 0,
 .w 30 4 3,
 .c 31 54 [.t 29,.t 30,.c (.s [116,121,112,101]),.c (.b true)],
 .f 32 1 5,
 .s 1 32 31]
 (.s [.w 34 4 3,
 .c 35 71 [.t 34,.c (.s [115,101,114,118,105,99,101,69,110,100,112,111,105,110,116])],
 .m 33 35,
 .e 36 33 0,
 .e 37 33 1,
 .o 8 (.alloc 30 [.i .i64 0,.s [],.nil,.nil]),
 .s 4 8 36,
 .m 9 37]
 (.seq (.s [.m 38 9,
 .o 39 (.not (.t 38))]
 (.cond (.t 39)
 (.reg [.m 40 0,
 .c 41 104 [.t 40,.c (.i .i64 160)]])
 (.skip)))
 (.seq (.s [.f 42 0 8,
 .l 43 42,
 .k 44 .neq 43 7]
 (.cond (.t 44)
 (.reg [.m 45 0,
 .w 46 4 3,
 .c 47 54 [.t 45,.t 46,.c (.s [115,101,114,118,105,99,101,69,110,100,112,111,105,110,116]),.c (.b true)],
 .f 48 2 5,
 .s 1 48 47])
 (.skip)))
 (.s [.w 49 3 5,
 .s 3 4 49]
 (.ret)))))))))
theorem oO:FnIs Tryz.prog 57 50 [.celln 4 3] WI:=⟨⟨_,_,Tryz.func57,rfl,rfl,by kernel_rfl,by kernel_rfl⟩⟩
def VU:SCode :=
 .s [.o 2 (.mv (.c .nil))]
 (.s [.o 3 (.mv (.c .nil))]
 (.seq (.s [.m 9 0,
 .c 10 100 [.t 9,.c (.i .u8 38)],
 .o 11 (.lenr (.t 10)),
 .n 12 0]
 (.blk 0
 (.loop
 (.s [.b 13 .lss 12 11]
 (.seq (.cond (.t 13)
 (.skip)
 (.exit 0))
 (.seq (.blk 1
 (.s [.o 14 (.iad 1 (.t 10) (.t 12)),
 .l 15 14,
 .m 5 15]
 (.s [.m 16 5,
 .c 17 67 [.t 16,.c (.s [61])],
 .m 6 17]
 (.s [.m 19 5,
 .m 20 6,
 .k 21 .add 20 1,
 .c 22 106 [.t 19,.t 21],
 .c 23 101 [.t 22],
 .m 18 23,
 .e 24 18 0,
 .e 25 18 1,
 .m 7 24,
 .m 8 25]
 (.s [.m 26 5,
 .o 27 (.bin .neq (.t 26) (.c (.s []))),
 .m 28 27,
 ⟨some 29,.mv (.t 8),some (28,true)⟩,
 ⟨some 30,.bin .eql (.t 29) (.c (.i .i64 0)),some (28,true)⟩,
 .o 31 (.pick (.t 28) (.t 30) (.c (.b false)))]
 (.cond (.t 31)
 (.reg [.m 32 3,
 .m 33 5,
 .m 34 6,
 .o 35 (.slcs (.t 33) none (some (.t 34))),
 .m 36 7,
 .o 37 (.build [.s [],.s []] [(0,(1,.t 35)),(1,(1,.t 36))]),
 .o 38 (.bslice 1 [.s [],.s []] [(0,(2,.t 37))]),
 .o 39 (.app 77 2 32 (.t 32) (.t 38)),
 .m 3 39])
 (.skip)))))))
 (.reg [.k 40 .add 12 1,
 .m 12 40])))))))
 (.s [.m 41 3,
 .m 2 41]
 (.ret))))
theorem mC:FnIs Tryz.prog 58 42 [.tmp 2] VU:=⟨⟨_,_,Tryz.func58,rfl,rfl,by kernel_rfl,by kernel_rfl⟩⟩
def P4:SCode :=
 .s [.o 2 (.alloc 62 [.s [],.i .i64 0,.s [],.s [],.s [],.b false,.b false]),
 .n 3 0]
 (.seq (.s [.m 11 0,
 .h 12 11,
 .k 13 .gtr 12 4096]
 (.cond (.t 13)
 (.s [.o 14 (.build [.s [],.i .i64 0,.s [],.s [],.s [],.b false,.b false] []),
 .s 7 2 14,
 .n 3 5]
 (.ret))
 (.skip)))
 (.s [.m 16 0,
 .c 17 107 [.t 16],
 .m 15 17,
 .e 18 15 0,
 .e 19 15 1,
 .o 4 (.alloc 99 [.s [],.s [],.s [],.s [],.s [],.b false,.b false,.b false,.b false]),
 .s 9 4 18,
 .m 5 19]
 (.seq (.s [.m 20 5,
 .k 21 .neq 20 0]
 (.cond (.t 21)
 (.s [.o 22 (.build [.s [],.i .i64 0,.s [],.s [],.s [],.b false,.b false] []),
 .m 23 5,
 .s 7 2 22,
 .m 3 23]
 (.ret))
 (.skip)))
 (.seq (.blk 0
 (.s [.f 25 5 4,
 .l 26 25,
 .o 27 (.not (.t 26)),
 .m 28 27,
 ⟨some 29,.fad 0 (.t 4),some (28,false)⟩,
 ⟨some 30,.load1 (.t 29),some (28,false)⟩,
 ⟨some 31,.call 108 [.t 30,.c (.s [104,116,116,112,115])],some (28,false)⟩,
 ⟨some 32,.not (.t 31),some (28,false)⟩,
 .p 33 28 32,
 .m 24 33]
 (.cond (.t 24)
 (.s [.o 34 (.build [.s [],.i .i64 0,.s [],.s [],.s [],.b false,.b false] []),
 .s 7 2 34,
 .n 3 60]
 (.ret))
 (.s [.f 36 6 4,
 .l 37 36,
 .o 38 (.not (.t 37)),
 .m 35 38]
 (.cond (.t 35)
 (.s [.o 39 (.build [.s [],.i .i64 0,.s [],.s [],.s [],.b false,.b false] []),
 .s 7 2 39,
 .n 3 71]
 (.ret))
 (.seq (.drw [.f 41 1 4,
 .l 42 41,
 .c 43 67 [.t 42,.c (.s [64])],
 .f 44 1 4,
 .l 45 44,
 .h 46 45,
 .b 47 .lss 43 46,
 .m 40 47] 8 [])
 (.cond (.t 40)
 (.s [.o 48 (.build [.s [],.i .i64 0,.s [],.s [],.s [],.b false,.b false] []),
 .s 7 2 48,
 .n 3 70]
 (.ret))
 (.skip))))))))
 (.s [.f 50 1 4,
 .l 51 50,
 .c 52 109 [.t 51],
 .m 49 52,
 .e 53 49 0,
 .e 54 49 1,
 .o 6 (.alloc 103 [.s [],.i .i64 0]),
 .s 2 6 53,
 .m 5 54]
 (.seq (.s [.m 55 5,
 .k 56 .neq 55 0]
 (.cond (.t 56)
 (.s [.o 57 (.build [.s [],.i .i64 0,.s [],.s [],.s [],.b false,.b false] []),
 .m 58 5,
 .s 7 2 57,
 .m 3 58]
 (.ret))
 (.skip)))
 (.s [.f 60 2 4,
 .l 61 60,
 .c 62 110 [.t 61,.c (.s [33,36,38,39,40,41,42,43,44,59,61,58,64,47])],
 .m 59 62,
 .e 63 59 0,
 .e 64 59 1,
 .m 7 63,
 .m 5 64]
 (.seq (.s [.m 65 5,
 .k 66 .neq 65 0]
 (.cond (.t 66)
 (.s [.o 67 (.build [.s [],.i .i64 0,.s [],.s [],.s [],.b false,.b false] []),
 .m 68 5,
 .s 7 2 67,
 .m 3 68]
 (.ret))
 (.skip)))
 (.s [.f 70 3 4,
 .l 71 70,
 .c 72 110 [.t 71,.c (.s [33,36,38,39,40,41,42,43,44,59,61,58,64,47,63])],
 .m 69 72,
 .e 73 69 0,
 .e 74 69 1,
 .m 8 73,
 .m 5 74]
 (.seq (.s [.m 75 5,
 .k 76 .neq 75 0]
 (.cond (.t 76)
 (.s [.o 77 (.build [.s [],.i .i64 0,.s [],.s [],.s [],.b false,.b false] []),
 .m 78 5,
 .s 7 2 77,
 .m 3 78]
 (.ret))
 (.skip)))
 (.s [.f 80 4 4,
 .l 81 80,
 .c 82 110 [.t 81,.c (.s [33,36,38,39,40,41,42,43,44,59,61,58,64,47,63])],
 .m 79 82,
 .e 83 79 0,
 .e 84 79 1,
 .m 9 83,
 .m 5 84]
 (.seq (.s [.m 85 5,
 .k 86 .neq 85 0]
 (.cond (.t 86)
 (.s [.o 87 (.build [.s [],.i .i64 0,.s [],.s [],.s [],.b false,.b false] []),
 .m 88 5,
 .s 7 2 87,
 .m 3 88]
 (.ret))
 (.skip)))
 (.seq (.s [.m 89 7,
 .c 90 111 [.t 89],
 .m 7 90]
 (.s [.m 91 7,
 .o 92 (.bin .eql (.t 91) (.c (.s [])))]
 (.cond (.t 92)
 (.reg [.o 7 (.mv (.c (.s [47])))])
 (.skip))))
 (.s [.f 93 0 6,
 .l 94 93,
 .f 95 1 6,
 .l 96 95,
 .m 97 7,
 .m 98 8,
 .m 99 9,
 .f 100 7 4,
 .l 101 100,
 .f 102 8 4,
 .l 103 102,
 .o 104 (.build [.s [],.i .i64 0,.s [],.s [],.s [],.b false,.b false] [(0,(1,.t 94)),(1,(1,.t 96)),(2,(1,.t 97)),(3,(1,.t 98)),(4,(1,.t 99)),(5,(1,.t 101)),(6,(1,.t 103))]),
 .o 10 (.alloc 62 [.s [],.i .i64 0,.s [],.s [],.s [],.b false,.b false]),
 .s 7 10 104]
 (.seq (.s [.w 105 7 10,
 .c 106 61 [.t 105],
 .h 107 106,
 .k 108 .gtr 107 4096]
 (.cond (.t 108)
 (.s [.o 109 (.build [.s [],.i .i64 0,.s [],.s [],.s [],.b false,.b false] []),
 .s 7 2 109,
 .n 3 5]
 (.ret))
 (.skip)))
 (.s [.w 110 7 10,
 .s 7 2 110,
 .n 3 0]
 (.ret)))))))))))))))))
theorem lO:FnIs Tryz.prog 59 111 [.celln 2 7,.tmp 3] P4:=⟨⟨_,_,Tryz.func59,rfl,rfl,by kernel_rfl,by kernel_rfl⟩⟩
def VZ:SCode :=
 .s [.o 2 (.box 62 (.t 0)),
 .o 4 (.alloc 62 [.s [],.i .i64 0,.s [],.s [],.s [],.b false,.b false]),
 .n 5 0]
 (.seq (.s [.w 11 7 2,
 .c 12 112 [.t 11],
 .o 13 (.not (.t 12))]
 (.cond (.t 13)
 (.s [.o 14 (.build [.s [],.i .i64 0,.s [],.s [],.s [],.b false,.b false] []),
 .s 7 4 14,
 .n 5 8]
 (.ret))
 (.skip)))
 (.s [.w 16 7 2,
 .c 17 61 [.t 16],
 .c 18 107 [.t 17],
 .m 15 18,
 .e 19 15 0,
 .e 20 15 1,
 .o 6 (.alloc 99 [.s [],.s [],.s [],.s [],.s [],.b false,.b false,.b false,.b false]),
 .s 9 6 19,
 .m 7 20]
 (.s [.m 22 1,
 .c 23 107 [.t 22],
 .m 21 23,
 .e 24 21 0,
 .e 25 21 1,
 .o 8 (.alloc 99 [.s [],.s [],.s [],.s [],.s [],.b false,.b false,.b false,.b false]),
 .s 9 8 24,
 .m 9 25]
 (.seq (.s [.m 26 9,
 .k 27 .neq 26 0]
 (.cond (.t 27)
 (.s [.o 28 (.build [.s [],.i .i64 0,.s [],.s [],.s [],.b false,.b false] []),
 .m 29 9,
 .s 7 4 28,
 .m 5 29]
 (.ret))
 (.skip)))
 (.s [.w 30 9 6,
 .w 31 9 8,
 .c 32 113 [.t 30,.t 31],
 .o 10 (.alloc 99 [.s [],.s [],.s [],.s [],.s [],.b false,.b false,.b false,.b false]),
 .s 9 10 32]
 (.seq (.s [.f 33 0 10,
 .l 34 33,
 .c 35 108 [.t 34,.c (.s [104,116,116,112,115])],
 .o 36 (.not (.t 35))]
 (.cond (.t 36)
 (.s [.o 37 (.build [.s [],.i .i64 0,.s [],.s [],.s [],.b false,.b false] []),
 .s 7 4 37,
 .n 5 253]
 (.ret))
 (.skip)))
 (.s [.w 38 9 10,
 .c 39 114 [.t 38],
 .c 40 59 [.t 39],
 .e 41 40 0,
 .e 42 40 1,
 .s 7 4 41,
 .m 5 42]
 (.ret))))))))
theorem nJ:FnIs Tryz.prog 60 43 [.celln 4 7,.tmp 5] VZ:=⟨⟨_,_,Tryz.func60,rfl,rfl,by kernel_rfl,by kernel_rfl⟩⟩
def VO:SCode :=
 .s [.o 1 (.box 62 (.t 0)),
 .z 2]
 (.seq (.drw [.w 4 7 1,
 .c 5 116 [.t 4],
 .c 6 115 [.t 5],
 .o 7 (.bin .add (.c (.s [104,116,116,112,115,58,47,47])) (.t 6)),
 .w 8 7 1,
 .c 9 117 [.t 8],
 .b 10 .add 7 9,
 .m 3 10] 8 [])
 (.seq (.s [.f 11 6 1,
 .l 12 11]
 (.cond (.t 12)
 (.reg [.m 13 3,
 .f 14 4 1,
 .l 15 14,
 .o 16 (.bin .add (.c (.s [35])) (.t 15)),
 .b 17 .add 13 16,
 .m 3 17])
 (.skip)))
 (.s [.m 18 3,
 .m 2 18]
 (.ret))))
theorem mM:FnIs Tryz.prog 61 19 [.tmp 2] VO:=⟨⟨_,_,Tryz.func61,rfl,rfl,by kernel_rfl,by kernel_rfl⟩⟩
def Wg:SCode :=
 .s [.n 2 0]
 (.s [.n 3 0]
 (.seq (.s [.m 7 3,
 .m 8 0,
 .h 9 8,
 .b 10 .lss 7 9,
 .m 11 10,
 ⟨some 12,.mv (.t 0),some (11,true)⟩,
 ⟨some 13,.mv (.t 3),some (11,true)⟩,
 ⟨some 14,.idx (.t 12) (.t 13),some (11,true)⟩,
 ⟨some 15,.bin .eql (.t 14) (.c (.i .u8 45)),some (11,true)⟩,
 .o 16 (.pick (.t 11) (.t 15) (.c (.b false)))]
 (.cond (.t 16)
 (.reg [.m 17 3,
 .k 18 .add 17 1,
 .m 3 18])
 (.skip)))
 (.seq (.s [.m 19 3,
 .m 20 0,
 .h 21 20,
 .b 22 .eql 19 21,
 .m 23 22,
 ⟨some 24,.mv (.t 0),some (23,false)⟩,
 ⟨some 25,.mv (.t 3),some (23,false)⟩,
 ⟨some 26,.idx (.t 24) (.t 25),some (23,false)⟩,
 ⟨some 27,.call 75 [.t 26],some (23,false)⟩,
 ⟨some 28,.not (.t 27),some (23,false)⟩,
 .p 29 23 28]
 (.cond (.t 29)
 (.s [.n 2 0]
 (.ret))
 (.skip)))
 (.seq (.s [.m 30 0,
 .m 31 3,
 .o 32 (.idx (.t 30) (.t 31)),
 .o 33 (.bin .eql (.t 32) (.c (.i .u8 48)))]
 (.cond (.t 33)
 (.reg [.m 34 3,
 .k 35 .add 34 1,
 .m 3 35])
 (.reg [.m 36 3,
 .m 37 0,
 .m 38 3,
 .o 39 (.slcs (.t 37) (some (.t 38)) none),
 .c 40 121 [.t 39],
 .b 41 .add 36 40,
 .m 3 41])))
 (.seq (.s [.m 42 0,
 .m 43 3,
 .k 44 .add 43 1,
 .c 45 69 [.t 42,.t 44],
 .c 46 121 [.t 45],
 .m 4 46]
 (.s [.m 47 3,
 .m 48 0,
 .h 49 48,
 .b 50 .lss 47 49,
 .m 51 50,
 ⟨some 52,.mv (.t 0),some (51,true)⟩,
 ⟨some 53,.mv (.t 3),some (51,true)⟩,
 ⟨some 54,.idx (.t 52) (.t 53),some (51,true)⟩,
 ⟨some 55,.bin .eql (.t 54) (.c (.i .u8 46)),some (51,true)⟩,
 .o 56 (.pick (.t 51) (.t 55) (.c (.b false))),
 .m 57 56,
 ⟨some 58,.mv (.t 4),some (57,true)⟩,
 ⟨some 59,.bin .gtr (.t 58) (.c (.i .i64 0)),some (57,true)⟩,
 .o 60 (.pick (.t 57) (.t 59) (.c (.b false)))]
 (.cond (.t 60)
 (.reg [.m 61 3,
 .m 62 4,
 .o 63 (.bin .add (.c (.i .i64 1)) (.t 62)),
 .b 64 .add 61 63,
 .m 3 64])
 (.skip))))
 (.seq (.s [.m 65 3,
 .m 66 0,
 .h 67 66,
 .b 68 .lss 65 67,
 .m 69 68,
 ⟨some 70,.mv (.t 0),some (69,true)⟩,
 ⟨some 71,.mv (.t 3),some (69,true)⟩,
 ⟨some 72,.idx (.t 70) (.t 71),some (69,true)⟩,
 ⟨some 73,.call 73 [.t 72,.c (.s [101,69])],some (69,true)⟩,
 .o 74 (.pick (.t 69) (.t 73) (.c (.b false)))]
 (.cond (.t 74)
 (.s [.m 75 3,
 .k 76 .add 75 1,
 .m 5 76]
 (.seq (.s [.m 77 5,
 .m 78 0,
 .h 79 78,
 .b 80 .lss 77 79,
 .m 81 80,
 ⟨some 82,.mv (.t 0),some (81,true)⟩,
 ⟨some 83,.mv (.t 5),some (81,true)⟩,
 ⟨some 84,.idx (.t 82) (.t 83),some (81,true)⟩,
 ⟨some 85,.call 73 [.t 84,.c (.s [43,45])],some (81,true)⟩,
 .o 86 (.pick (.t 81) (.t 85) (.c (.b false)))]
 (.cond (.t 86)
 (.reg [.m 87 5,
 .k 88 .add 87 1,
 .m 5 88])
 (.skip)))
 (.s [.m 89 0,
 .m 90 5,
 .c 91 69 [.t 89,.t 90],
 .c 92 121 [.t 91],
 .m 6 92]
 (.s [.m 93 6,
 .k 94 .gtr 93 0]
 (.cond (.t 94)
 (.reg [.m 95 5,
 .m 96 6,
 .b 97 .add 95 96,
 .m 3 97])
 (.skip))))))
 (.skip)))
 (.s [.m 98 3,
 .m 2 98]
 (.ret))))))))
theorem mW:FnIs Tryz.prog 66 99 [.tmp 2] Wg:=⟨⟨_,_,Tryz.func66,rfl,rfl,by kernel_rfl,by kernel_rfl⟩⟩
def V0:SCode :=
 .s [.n 2 0]
 (.s [.m 6 0,
 .o 7 (.bin .neq (.t 6) (.c (.s []))),
 .m 8 7,
 ⟨some 9,.mv (.t 0),some (8,true)⟩,
 ⟨some 10,.idx (.t 9) (.c (.i .i64 0)),some (8,true)⟩,
 ⟨some 11,.bin .eql (.t 10) (.c (.i .u8 45)),some (8,true)⟩,
 .o 12 (.pick (.t 8) (.t 11) (.c (.b false))),
 .m 3 12]
 (.seq (.s [.m 13 0,
 .o 14 (.bin .neq (.t 13) (.c (.s []))),
 .m 15 14,
 ⟨some 16,.mv (.t 0),some (15,true)⟩,
 ⟨some 17,.idx (.t 16) (.c (.i .i64 0)),some (15,true)⟩,
 ⟨some 18,.call 73 [.t 17,.c (.s [43,45])],some (15,true)⟩,
 .o 19 (.pick (.t 15) (.t 18) (.c (.b false)))]
 (.cond (.t 19)
 (.reg [.m 20 0,
 .o 21 (.slcs (.t 20) (some (.c (.i .i64 1))) none),
 .m 0 21])
 (.skip)))
 (.s [.n 4 0]
 (.seq (.s [.n 5 0]
 (.blk 0
 (.loop
 (.seq (.s [.m 22 5,
 .m 23 0,
 .h 24 23,
 .b 25 .lss 22 24]
 (.cond (.t 25)
 (.skip)
 (.exit 0)))
 (.seq (.blk 1
 (.reg [.m 28 4,
 .k 29 .mul 28 10,
 .m 30 0,
 .m 31 5,
 .o 32 (.idx (.t 30) (.t 31)),
 .o 33 (.bin .sub (.t 32) (.c (.i .u8 48))),
 .o 34 (.cvi .i64 (.t 33)),
 .b 35 .add 29 34,
 .o 36 (.pu .mn [.t 35,.c (.i .i64 1073741824)]),
 .m 4 36]))
 (.reg [.m 26 5,
 .k 27 .add 26 1,
 .m 5 27]))))))
 (.seq (.s [.m 37 3]
 (.cond (.t 37)
 (.s [.m 38 4,
 .o 39 (.neg (.t 38)),
 .m 2 39]
 (.ret))
 (.skip)))
 (.s [.m 40 4,
 .m 2 40]
 (.ret)))))))
theorem nL:FnIs Tryz.prog 68 41 [.tmp 2] V0:=⟨⟨_,_,Tryz.func68,rfl,rfl,by kernel_rfl,by kernel_rfl⟩⟩
def P8:SCode :=
 .s [.z 4]
 (.seq (.s [.m 5 1,
 .m 6 0,
 .h 7 6,
 .b 8 .geq 5 7]
 (.cond (.t 8)
 (.s [.z 4]
 (.ret))
 (.skip)))
 (.s [.m 9 0,
 .m 10 1,
 .o 11 (.slcs (.t 9) (some (.t 10)) none),
 .m 4 11]
 (.ret)))
theorem kT:FnIs Tryz.prog 69 12 [.tmp 4] P8:=⟨⟨_,_,Tryz.func69,rfl,rfl,by kernel_rfl,by kernel_rfl⟩⟩
def PK:SCode :=
 .s [.o 2 (.box 30 (.t 0)),
 .o 4 (.alloc 30 [.i .i64 0,.s [],.nil,.nil]),
 .o 5 (.mv (.c (.b false)))]
 (.seq (.s [.f 7 0 2,
 .l 8 7,
 .k 9 .neq 8 7]
 (.cond (.t 9)
 (.s [.o 10 (.build [.i .i64 0,.s [],.nil,.nil] []),
 .s 4 4 10,
 .o 5 (.mv (.c (.b false)))]
 (.ret))
 (.skip)))
 (.seq (.s [.f 11 2 2,
 .l 12 11,
 .o 13 (.lenr (.t 12)),
 .n 14 0]
 (.blk 0
 (.loop
 (.s [.b 15 .lss 14 13]
 (.seq (.cond (.t 15)
 (.skip)
 (.exit 0))
 (.seq (.blk 1
 (.s [.m 16 14,
 .m 6 16]
 (.s [.f 17 2 2,
 .l 18 17,
 .m 19 6,
 .o 20 (.iad 1 (.t 18) (.t 19)),
 .l 21 20,
 .m 22 1,
 .b 23 .eql 21 22,
 .m 24 23,
 ⟨some 25,.mv (.t 6),some (24,true)⟩,
 ⟨some 26,.fad 3 (.t 2),some (24,true)⟩,
 ⟨some 27,.load1 (.t 26),some (24,true)⟩,
 ⟨some 28,.lenr (.t 27),some (24,true)⟩,
 ⟨some 29,.bin .lss (.t 25) (.t 28),some (24,true)⟩,
 .o 30 (.pick (.t 24) (.t 29) (.c (.b false)))]
 (.cond (.t 30)
 (.s [.f 31 3 2,
 .l 32 31,
 .m 33 6,
 .o 34 (.iad 4 (.t 32) (.t 33)),
 .w 35 4 34,
 .s 4 4 35,
 .o 5 (.mv (.c (.b true)))]
 (.ret))
 (.skip)))))
 (.reg [.k 36 .add 14 1,
 .m 14 36])))))))
 (.s [.o 37 (.build [.i .i64 0,.s [],.nil,.nil] []),
 .s 4 4 37,
 .o 5 (.mv (.c (.b false)))]
 (.ret))))
theorem Vq:FnIs Tryz.prog 71 38 [.celln 4 4,.tmp 5] PK:=⟨⟨_,_,Tryz.func71,rfl,rfl,by kernel_rfl,by kernel_rfl⟩⟩
def VH:SCode :=
 .s [.o 2 (.mv (.c (.b false)))]
 (.s [.m 3 0,
 .c 4 73 [.t 3,.c (.s [32,9,10,13])],
 .m 2 4]
 (.ret))
theorem lS:FnIs Tryz.prog 72 5 [.tmp 2] VH:=⟨⟨_,_,Tryz.func72,rfl,rfl,by kernel_rfl,by kernel_rfl⟩⟩
def Vi:SCode :=
 .s [.z 4,
 .n 5 0,
 .n 6 0]
 (.s [.z 7]
 (.seq (.s [.m 15 1,
 .k 16 .add 15 1,
 .m 8 16]
 (.blk 0
 (.loop
 (.seq (.s [.m 17 8,
 .m 18 0,
 .h 19 18,
 .b 20 .lss 17 19]
 (.cond (.t 20)
 (.skip)
 (.exit 0)))
 (.blk 1
 (.blk 2
 (.s [.m 39 0,
 .m 40 8,
 .o 41 (.idx (.t 39) (.t 40)),
 .o 42 (.bin .eql (.t 41) (.c (.i .u8 34))),
 .m 38 42]
 (.cond (.t 38)
 (.s [.m 43 7,
 .m 44 8,
 .k 45 .add 44 1,
 .m 4 43,
 .m 5 45,
 .n 6 0]
 (.ret))
 (.s [.m 47 0,
 .m 48 8,
 .o 49 (.idx (.t 47) (.t 48)),
 .o 50 (.bin .eql (.t 49) (.c (.i .u8 92))),
 .m 46 50]
 (.cond (.t 46)
 (.s [.m 52 0,
 .m 53 8,
 .c 54 122 [.t 52,.t 53],
 .m 51 54,
 .e 55 51 0,
 .e 56 51 1,
 .e 57 51 2,
 .m 9 55,
 .m 10 56,
 .m 11 57]
 (.seq (.s [.m 58 11,
 .k 59 .neq 58 0]
 (.cond (.t 59)
 (.s [.m 60 11,
 .z 4,
 .n 5 0,
 .m 6 60]
 (.ret))
 (.skip)))
 (.reg [.m 61 7,
 .m 62 9,
 .b 63 .add 61 62,
 .m 64 10,
 .m 7 63,
 .m 8 64])))
 (.s [.m 66 0,
 .m 67 8,
 .o 68 (.idx (.t 66) (.t 67)),
 .o 69 (.bin .lss (.t 68) (.c (.i .u8 32))),
 .m 65 69]
 (.cond (.t 65)
 (.s [.z 4,
 .n 5 0,
 .n 6 130]
 (.ret))
 (.s [.m 22 0,
 .m 23 8,
 .c 24 123 [.t 22,.t 23],
 .m 21 24,
 .e 25 21 0,
 .e 26 21 1,
 .e 27 21 2,
 .m 12 25,
 .m 13 26,
 .m 14 27]
 (.seq (.s [.m 28 14,
 .k 29 .neq 28 0]
 (.cond (.t 29)
 (.s [.m 30 14,
 .z 4,
 .n 5 0,
 .m 6 30]
 (.ret))
 (.skip)))
 (.reg [.m 31 7,
 .m 32 0,
 .m 33 8,
 .m 34 13,
 .o 35 (.slcs (.t 32) (some (.t 33)) (some (.t 34))),
 .b 36 .add 31 35,
 .m 37 13,
 .m 7 36,
 .m 8 37])))))))))))))))
 (.s [.z 4,
 .n 5 0,
 .n 6 130]
 (.ret))))
theorem kU:FnIs Tryz.prog 74 70 [.tmp 4,.tmp 5,.tmp 6] Vi:=⟨⟨_,_,Tryz.func74,rfl,rfl,by kernel_rfl,by kernel_rfl⟩⟩
def Ws:SCode :=
 .s [.o 3 (.alloc 30 [.i .i64 0,.s [],.nil,.nil]),
 .o 4 (.mv (.c (.b false)))]
 (.s [.w 5 4 1,
 .m 6 0,
 .c 7 78 [.t 5,.t 6],
 .e 8 7 0,
 .e 9 7 1,
 .s 4 3 8,
 .m 4 9]
 (.ret))
theorem oH:FnIs Tryz.prog 77 10 [.celln 3 4,.tmp 4] Ws:=⟨⟨_,_,Tryz.func77,rfl,rfl,by kernel_rfl,by kernel_rfl⟩⟩
def VB:SCode :=
 .s [.o 2 (.box 30 (.t 0)),
 .o 4 (.alloc 30 [.i .i64 0,.s [],.nil,.nil]),
 .o 5 (.mv (.c (.b false)))]
 (.seq (.s [.f 7 0 2,
 .l 8 7,
 .k 9 .neq 8 7]
 (.cond (.t 9)
 (.s [.o 10 (.build [.i .i64 0,.s [],.nil,.nil] []),
 .s 4 4 10,
 .o 5 (.mv (.c (.b false)))]
 (.ret))
 (.skip)))
 (.s [.f 11 2 2,
 .l 12 11,
 .m 13 1,
 .c 14 124 [.t 12,.t 13],
 .m 6 14]
 (.seq (.s [.m 15 6,
 .k 16 .lss 15 0,
 .m 17 16,
 ⟨some 18,.mv (.t 6),some (17,false)⟩,
 ⟨some 19,.fad 3 (.t 2),some (17,false)⟩,
 ⟨some 20,.load1 (.t 19),some (17,false)⟩,
 ⟨some 21,.lenr (.t 20),some (17,false)⟩,
 ⟨some 22,.bin .geq (.t 18) (.t 21),some (17,false)⟩,
 .p 23 17 22]
 (.cond (.t 23)
 (.s [.o 24 (.build [.i .i64 0,.s [],.nil,.nil] []),
 .s 4 4 24,
 .o 5 (.mv (.c (.b false)))]
 (.ret))
 (.skip)))
 (.s [.f 25 3 2,
 .l 26 25,
 .m 27 6,
 .o 28 (.iad 4 (.t 26) (.t 27)),
 .w 29 4 28,
 .c 30 125 [.t 29],
 .s 4 4 30,
 .o 5 (.mv (.c (.b true)))]
 (.ret)))))
theorem lL:FnIs Tryz.prog 78 31 [.celln 4 4,.tmp 5] VB:=⟨⟨_,_,Tryz.func78,rfl,rfl,by kernel_rfl,by kernel_rfl⟩⟩
def WC:SCode :=
 .s [.o 2 (.box 30 (.t 0)),
 .z 4,
 .o 5 (.mv (.c (.b false)))]
 (.s [.w 9 4 2,
 .c 10 33 [.t 9],
 .m 11 1,
 .o 12 (.callv (.t 10) [.t 11]),
 .m 8 12,
 .e 13 8 0,
 .e 14 8 1,
 .o 6 (.alloc 30 [.i .i64 0,.s [],.nil,.nil]),
 .s 4 6 13,
 .m 7 14]
 (.seq (.s [.m 15 7,
 .o 16 (.not (.t 15)),
 .m 17 16,
 ⟨some 18,.fad 0 (.t 6),some (17,false)⟩,
 ⟨some 19,.load1 (.t 18),some (17,false)⟩,
 ⟨some 20,.bin .neq (.t 19) (.c (.i .i64 5)),some (17,false)⟩,
 .p 21 17 20]
 (.cond (.t 21)
 (.s [.z 4,
 .o 5 (.mv (.c (.b false)))]
 (.ret))
 (.skip)))
 (.s [.f 22 1 6,
 .l 23 22,
 .m 4 23,
 .o 5 (.mv (.c (.b true)))]
 (.ret))))
theorem nW:FnIs Tryz.prog 79 24 [.tmp 4,.tmp 5] WC:=⟨⟨_,_,Tryz.func79,rfl,rfl,by kernel_rfl,by kernel_rfl⟩⟩
def Qf:SCode :=
 .s [.o 2 (.alloc 23 [.s [],.s []]),
 .n 3 0]
 (.seq (.s [.m 9 0,
 .h 10 9,
 .k 11 .gtr 10 4096]
 (.cond (.t 11)
 (.s [.o 12 (.build [.s [],.s []] []),
 .s 2 2 12,
 .n 3 5]
 (.ret))
 (.skip)))
 (.s [.m 14 0,
 .c 15 87 [.t 14,.c (.s [100,105,100,58])],
 .m 13 15,
 .e 16 13 0,
 .e 17 13 1,
 .m 4 16,
 .m 5 17]
 (.seq (.s [.m 18 5,
 .o 19 (.not (.t 18))]
 (.cond (.t 19)
 (.s [.o 20 (.build [.s [],.s []] []),
 .s 2 2 20,
 .n 3 60]
 (.ret))
 (.skip)))
 (.s [.m 22 4,
 .c 23 25 [.t 22,.c (.s [58])],
 .m 21 23,
 .e 24 21 0,
 .e 25 21 1,
 .e 26 21 2,
 .m 6 24,
 .m 7 25,
 .m 5 26]
 (.seq (.s [.m 27 5,
 .o 28 (.not (.t 27))]
 (.cond (.t 28)
 (.s [.o 29 (.build [.s [],.s []] []),
 .s 2 2 29,
 .n 3 6]
 (.ret))
 (.skip)))
 (.seq (.s [.m 30 6,
 .c 31 126 [.t 30],
 .o 32 (.not (.t 31))]
 (.cond (.t 32)
 (.s [.o 33 (.build [.s [],.s []] []),
 .s 2 2 33,
 .n 3 100]
 (.ret))
 (.skip)))
 (.s [.m 35 7,
 .c 36 127 [.t 35],
 .m 34 36,
 .e 37 34 0,
 .e 38 34 1,
 .m 7 37,
 .m 8 38]
 (.seq (.s [.m 39 8,
 .k 40 .neq 39 0]
 (.cond (.t 40)
 (.s [.o 41 (.build [.s [],.s []] []),
 .m 42 8,
 .s 2 2 41,
 .m 3 42]
 (.ret))
 (.skip)))
 (.s [.m 43 6,
 .m 44 7,
 .o 45 (.build [.s [],.s []] [(0,(1,.t 43)),(1,(1,.t 44))]),
 .s 2 2 45,
 .n 3 0]
 (.ret))))))))))
theorem lH:FnIs Tryz.prog 80 46 [.celln 2 2,.tmp 3] Qf:=⟨⟨_,_,Tryz.func80,rfl,rfl,by kernel_rfl,by kernel_rfl⟩⟩
def VN:SCode :=
 .s [.o 2 (.mv (.c .nil)),
 .n 3 0]
 (.seq (.s [.m 7 0,
 .o 8 (.lenr (.t 7)),
 .k 9 .gtr 8 64]
 (.cond (.t 9)
 (.s [.o 2 (.mv (.c .nil)),
 .n 3 161]
 (.ret))
 (.skip)))
 (.s [.o 4 (.mv (.c .nil))]
 (.seq (.s [.m 10 0,
 .o 11 (.lenr (.t 10)),
 .n 12 0]
 (.blk 0
 (.loop
 (.s [.b 13 .lss 12 11]
 (.seq (.cond (.t 13)
 (.skip)
 (.exit 0))
 (.seq (.blk 1
 (.s [.o 14 (.iad 4 (.t 10) (.t 12)),
 .w 15 4 14,
 .o 6 (.alloc 30 [.i .i64 0,.s [],.nil,.nil]),
 .s 4 6 15]
 (.seq (.s [.f 16 0 6,
 .l 17 16,
 .k 18 .neq 17 5]
 (.cond (.t 18)
 (.s [.o 2 (.mv (.c .nil)),
 .n 3 160]
 (.ret))
 (.skip)))
 (.reg [.m 19 4,
 .f 20 1 6,
 .l 21 20,
 .o 22 (.bslice 1 [.s []] [(0,(1,.t 21))]),
 .o 23 (.app 9 1 16 (.t 19) (.t 22)),
 .m 4 23]))))
 (.reg [.k 24 .add 12 1,
 .m 12 24])))))))
 (.s [.m 25 4,
 .m 2 25,
 .n 3 0]
 (.ret)))))
theorem mJ:FnIs Tryz.prog 81 26 [.tmp 2,.tmp 3] VN:=⟨⟨_,_,Tryz.func81,rfl,rfl,by kernel_rfl,by kernel_rfl⟩⟩
def Wm:SCode :=
 .s [.o 2 (.box 30 (.t 0)),
 .o 3 (.box 23 (.t 1)),
 .z 4,
 .n 5 0]
 (.s [.w 11 4 2,
 .c 12 79 [.t 11,.c (.s [105,100])],
 .m 10 12,
 .e 13 10 0,
 .e 14 10 1,
 .m 6 13,
 .m 7 14]
 (.seq (.s [.m 15 7,
 .o 16 (.not (.t 15))]
 (.cond (.t 16)
 (.s [.z 4,
 .n 5 160]
 (.ret))
 (.skip)))
 (.s [.w 18 2 3,
 .m 19 6,
 .c 20 128 [.t 18,.t 19],
 .m 17 20,
 .e 21 17 0,
 .e 22 17 1,
 .o 8 (.alloc 25 [.s [],.s [],.s [],.s [],.s [],.b false,.b false]),
 .s 7 8 21,
 .m 9 22]
 (.seq (.s [.m 23 9,
 .k 24 .neq 23 0]
 (.cond (.t 24)
 (.s [.z 4,
 .n 5 160]
 (.ret))
 (.skip)))
 (.s [.w 25 7 8,
 .c 26 129 [.t 25],
 .m 4 26,
 .n 5 0]
 (.ret))))))
theorem nR:FnIs Tryz.prog 82 27 [.tmp 4,.tmp 5] Wm:=⟨⟨_,_,Tryz.func82,rfl,rfl,by kernel_rfl,by kernel_rfl⟩⟩
def VK:SCode :=
 .s [.z 3,
 .o 4 (.mv (.c (.b false)))]
 (.s [.l 7 1,
 .m 8 0,
 .c 9 84 [.t 7,.t 8],
 .m 5 9]
 (.seq (.s [.m 10 5,
 .k 11 .lss 10 0]
 (.cond (.t 11)
 (.s [.z 3,
 .o 4 (.mv (.c (.b false)))]
 (.ret))
 (.skip)))
 (.s [.l 12 1,
 .m 13 5,
 .k 14 .add 13 1,
 .o 15 (.slcs (.t 12) (some (.t 14)) none),
 .m 6 15]
 (.s [.l 16 1,
 .m 17 5,
 .o 18 (.slcs (.t 16) none (some (.t 17))),
 .s 1 1 18]
 (.s [.m 19 6,
 .m 3 19,
 .o 4 (.mv (.c (.b true)))]
 (.ret))))))
theorem lW:FnIs Tryz.prog 83 20 [.tmp 3,.tmp 4] VK:=⟨⟨_,_,Tryz.func83,rfl,rfl,by kernel_rfl,by kernel_rfl⟩⟩
def MG:SCode :=
 .s [.o 2 (.box 99 (.t 0)),
 .z 4]
 (.seq (.s [.f 5 6 2,
 .l 6 5,
 .m 7 6,
 ⟨some 8,.fad 2 (.t 2),some (7,true)⟩,
 ⟨some 9,.load1 (.t 8),some (7,true)⟩,
 ⟨some 10,.bin .eql (.t 9) (.c (.s [])),some (7,true)⟩,
 .o 11 (.pick (.t 7) (.t 10) (.c (.b false)))]
 (.cond (.t 11)
 (.s [.m 12 1,
 .o 13 (.bin .add (.c (.s [47])) (.t 12)),
 .m 4 13]
 (.ret))
 (.skip)))
 (.seq (.drw [.f 14 2 2,
 .l 15 14,
 .f 16 2 2,
 .l 17 16,
 .c 18 143 [.t 17,.c (.i .u8 47)],
 .k 19 .add 18 1,
 .o 20 (.slcs (.t 15) none (some (.t 19))),
 .m 21 1,
 .b 22 .add 20 21,
 .m 4 22] 10 [])
 (.ret)))
theorem jU:FnIs Tryz.prog 93 23 [.tmp 4] MG:=⟨⟨_,_,Tryz.func93,rfl,rfl,by kernel_rfl,by kernel_rfl⟩⟩
def Vj:SCode :=
 .s [.z 2]
 (.s [.m 3 0,
 .c 4 145 [.t 3,.c (.s [])],
 .m 2 4]
 (.ret))
theorem kY:FnIs Tryz.prog 95 5 [.tmp 2] Vj:=⟨⟨_,_,Tryz.func95,rfl,rfl,by kernel_rfl,by kernel_rfl⟩⟩
def PL:SCode :=
 .s [.z 4]
 (.seq (.s [.m 5 0,
 .o 6 (.not (.t 5))]
 (.cond (.t 6)
 (.s [.z 4]
 (.ret))
 (.skip)))
 (.s [.m 7 1,
 .c 8 95 [.t 7],
 .m 4 8]
 (.ret)))
theorem kJ:FnIs Tryz.prog 96 9 [.tmp 4] PL:=⟨⟨_,_,Tryz.func96,rfl,rfl,by kernel_rfl,by kernel_rfl⟩⟩
def VS:SCode :=
 .s [.o 2 (.mv (.c (.b false)))]
 (.seq (.s [.n 3 0]
 (.blk 0
 (.loop
 (.seq (.s [.m 4 3,
 .m 5 0,
 .h 6 5,
 .b 7 .lss 4 6]
 (.cond (.t 7)
 (.skip)
 (.exit 0)))
 (.seq (.blk 1
 (.s [.m 10 0,
 .m 11 3,
 .o 12 (.idx (.t 10) (.t 11)),
 .c 13 75 [.t 12],
 .o 14 (.not (.t 13)),
 .m 15 14,
 ⟨some 16,.mv (.t 0),some (15,true)⟩,
 ⟨some 17,.mv (.t 3),some (15,true)⟩,
 ⟨some 18,.idx (.t 16) (.t 17),some (15,true)⟩,
 ⟨some 19,.bin .lss (.t 18) (.c (.i .u8 97)),some (15,true)⟩,
 ⟨some 20,.mv (.t 19),some (15,true)⟩,
 ⟨some 21,.mv (.t 0),some (20,false)⟩,
 ⟨some 22,.mv (.t 3),some (20,false)⟩,
 ⟨some 23,.idx (.t 21) (.t 22),some (20,false)⟩,
 ⟨some 24,.bin .gtr (.t 23) (.c (.i .u8 122)),some (20,false)⟩,
 ⟨some 25,.pick (.t 20) (.c (.b true)) (.t 24),some (15,true)⟩,
 .o 26 (.pick (.t 15) (.t 25) (.c (.b false)))]
 (.cond (.t 26)
 (.s [.o 2 (.mv (.c (.b false)))]
 (.ret))
 (.skip))))
 (.reg [.m 8 3,
 .k 9 .add 8 1,
 .m 3 9]))))))
 (.s [.m 27 0,
 .o 28 (.bin .neq (.t 27) (.c (.s []))),
 .m 2 28]
 (.ret)))
theorem mQ:FnIs Tryz.prog 99 29 [.tmp 2] VS:=⟨⟨_,_,Tryz.func99,rfl,rfl,by kernel_rfl,by kernel_rfl⟩⟩
def VG:SCode :=
 .s [.o 2 (.mv (.c (.b false)))]
 (.s [.m 3 0,
 .c 4 76 [.t 3],
 .m 5 4,
 ⟨some 6,.mv (.t 0),some (5,false)⟩,
 ⟨some 7,.call 75 [.t 6],some (5,false)⟩,
 .p 8 5 7,
 .m 9 8,
 ⟨some 10,.mv (.t 0),some (9,false)⟩,
 ⟨some 11,.call 73 [.t 10,.c (.s [46,45,95])],some (9,false)⟩,
 .p 12 9 11,
 .m 2 12]
 (.ret))
theorem lR:FnIs Tryz.prog 102 13 [.tmp 2] VG:=⟨⟨_,_,Tryz.func102,rfl,rfl,by kernel_rfl,by kernel_rfl⟩⟩
def We:SCode :=
 .s [.z 2]
 (.s [.z 3]
 (.seq (.s [.n 4 0]
 (.blk 0
 (.loop
 (.seq (.s [.m 5 4,
 .m 6 0,
 .h 7 6,
 .b 8 .lss 5 7]
 (.cond (.t 8)
 (.skip)
 (.exit 0)))
 (.seq (.blk 1
 (.s [.m 11 0,
 .m 12 4,
 .o 13 (.idx (.t 11) (.t 12)),
 .c 14 102 [.t 13]]
 (.cond (.t 14)
 (.reg [.m 15 3,
 .m 16 0,
 .m 17 4,
 .m 18 4,
 .k 19 .add 18 1,
 .o 20 (.slcs (.t 16) (some (.t 17)) (some (.t 19))),
 .b 21 .add 15 20,
 .m 3 21])
 (.reg [.m 22 3,
 .m 23 0,
 .m 24 4,
 .o 25 (.idx (.t 23) (.t 24)),
 .c 26 148 [.t 25],
 .b 27 .add 22 26,
 .m 3 27]))))
 (.reg [.m 9 4,
 .k 10 .add 9 1,
 .m 4 10]))))))
 (.s [.m 28 3,
 .m 2 28]
 (.ret))))
theorem mU:FnIs Tryz.prog 103 29 [.tmp 2] We:=⟨⟨_,_,Tryz.func103,rfl,rfl,by kernel_rfl,by kernel_rfl⟩⟩
def WE:SCode :=
 .s [.m 4 0,
 .o 5 (.nck (.t 4)),
 .f 6 2 5,
 .l 7 6,
 .k 8 .eql 7 0]
 (.cond (.t 8)
 (.reg [.m 9 0,
 .m 10 1,
 .o 11 (.nck (.t 9)),
 .f 12 2 11,
 .s 1 12 10])
 (.skip))
theorem nZ:FnIs Tryz.prog 104 13 [] WE:=⟨⟨_,_,Tryz.func104,rfl,rfl,by kernel_rfl,by kernel_rfl⟩⟩
def Wo:SCode :=
 .s [.o 3 (.box 30 (.t 1)),
 .z 4]
 (.s [.m 8 0,
 .w 9 4 3,
 .c 10 53 [.t 8,.t 9,.c (.s [105,100])],
 .m 5 10]
 (.s [.m 12 0,
 .o 13 (.nck (.t 12)),
 .f 14 0 13,
 .w 15 2 14,
 .m 16 5,
 .c 17 149 [.t 15,.t 16],
 .m 11 17,
 .e 18 11 0,
 .e 19 11 1,
 .o 6 (.alloc 25 [.s [],.s [],.s [],.s [],.s [],.b false,.b false]),
 .s 7 6 18,
 .m 7 19]
 (.seq (.s [.m 20 7,
 .k 21 .neq 20 0]
 (.cond (.t 21)
 (.s [.m 22 0,
 .c 23 104 [.t 22,.c (.i .i64 160)]]
 (.s [.z 4]
 (.ret)))
 (.skip)))
 (.s [.w 24 7 6,
 .c 25 150 [.t 24],
 .m 4 25]
 (.ret)))))
theorem nT:FnIs Tryz.prog 105 26 [.tmp 4] Wo:=⟨⟨_,_,Tryz.func105,rfl,rfl,by kernel_rfl,by kernel_rfl⟩⟩
def P9:SCode :=
 .s [.z 4]
 (.seq (.s [.m 5 1,
 .m 6 0,
 .h 7 6,
 .b 8 .geq 5 7]
 (.cond (.t 8)
 (.s [.z 4]
 (.ret))
 (.skip)))
 (.s [.m 9 0,
 .m 10 1,
 .o 11 (.slcs (.t 9) (some (.t 10)) none),
 .m 4 11]
 (.ret)))
theorem kX:FnIs Tryz.prog 106 12 [.tmp 4] P9:=⟨⟨_,_,Tryz.func106,rfl,rfl,by kernel_rfl,by kernel_rfl⟩⟩
def VE:SCode :=
 .s [.o 2 (.alloc 99 [.s [],.s [],.s [],.s [],.s [],.b false,.b false,.b false,.b false]),
 .n 3 0]
 (.seq (.s [.m 9 0,
 .h 10 9,
 .k 11 .gtr 10 16384]
 (.cond (.t 11)
 (.s [.o 12 (.build [.s [],.s [],.s [],.s [],.s [],.b false,.b false,.b false,.b false] []),
 .s 9 2 12,
 .n 3 5]
 (.ret))
 (.skip)))
 (.s [.o 4 (.alloc 99 [.s [],.s [],.s [],.s [],.s [],.b false,.b false,.b false,.b false])]
 (.seq (.s [.m 13 0,
 .c 14 67 [.t 13,.c (.s [35])],
 .m 5 14]
 (.s [.m 15 5,
 .m 16 0,
 .h 17 16,
 .b 18 .lss 15 17]
 (.cond (.t 18)
 (.drw [.m 19 0,
 .m 20 5,
 .k 21 .add 20 1,
 .o 22 (.slcs (.t 19) (some (.t 21)) none),
 .m 23 0,
 .m 24 5,
 .o 25 (.slcs (.t 23) none (some (.t 24))),
 .f 26 4 4,
 .s 1 26 22,
 .f 27 8 4,
 ⟨none,.store 1 (.t 27) (.c (.b true)),none⟩,
 .m 0 25] 12 [])
 (.skip))))
 (.seq (.s [.m 28 0,
 .c 29 67 [.t 28,.c (.s [63])],
 .m 6 29]
 (.s [.m 30 6,
 .m 31 0,
 .h 32 31,
 .b 33 .lss 30 32]
 (.cond (.t 33)
 (.drw [.m 34 0,
 .m 35 6,
 .k 36 .add 35 1,
 .o 37 (.slcs (.t 34) (some (.t 36)) none),
 .m 38 0,
 .m 39 6,
 .o 40 (.slcs (.t 38) none (some (.t 39))),
 .f 41 3 4,
 .s 1 41 37,
 .f 42 7 4,
 ⟨none,.store 1 (.t 42) (.c (.b true)),none⟩,
 .m 0 40] 12 [])
 (.skip))))
 (.seq (.s [.m 43 0,
 .c 44 67 [.t 43,.c (.s [58,47])],
 .m 7 44]
 (.s [.m 45 7,
 .m 46 0,
 .h 47 46,
 .b 48 .lss 45 47,
 .m 49 48,
 ⟨some 50,.mv (.t 0),some (49,true)⟩,
 ⟨some 51,.mv (.t 7),some (49,true)⟩,
 ⟨some 52,.idx (.t 50) (.t 51),some (49,true)⟩,
 ⟨some 53,.bin .eql (.t 52) (.c (.i .u8 58)),some (49,true)⟩,
 .o 54 (.pick (.t 49) (.t 53) (.c (.b false)))]
 (.cond (.t 54)
 (.seq (.s [.m 55 0,
 .m 56 7,
 .o 57 (.slcs (.t 55) none (some (.t 56))),
 .c 58 151 [.t 57],
 .o 59 (.not (.t 58))]
 (.cond (.t 59)
 (.s [.o 60 (.build [.s [],.s [],.s [],.s [],.s [],.b false,.b false,.b false,.b false] []),
 .s 9 2 60,
 .n 3 6]
 (.ret))
 (.skip)))
 (.drw [.m 61 0,
 .m 62 7,
 .o 63 (.slcs (.t 61) none (some (.t 62))),
 .m 64 0,
 .m 65 7,
 .k 66 .add 65 1,
 .o 67 (.slcs (.t 64) (some (.t 66)) none),
 .f 68 0 4,
 .s 1 68 63,
 .f 69 5 4,
 ⟨none,.store 1 (.t 69) (.c (.b true)),none⟩,
 .m 0 67] 12 []))
 (.skip))))
 (.seq (.s [.m 70 0,
 .c 71 98 [.t 70,.c (.s [47,47])]]
 (.cond (.t 71)
 (.s [.m 72 0,
 .o 73 (.slcs (.t 72) (some (.c (.i .i64 2))) none),
 .c 74 67 [.t 73,.c (.s [47])],
 .o 75 (.bin .add (.c (.i .i64 2)) (.t 74)),
 .m 8 75]
 (.drw [.m 76 0,
 .m 77 8,
 .o 78 (.slcs (.t 76) (some (.c (.i .i64 2))) (some (.t 77))),
 .m 79 0,
 .m 80 8,
 .o 81 (.slcs (.t 79) (some (.t 80)) none),
 .f 82 1 4,
 .s 1 82 78,
 .f 83 6 4,
 ⟨none,.store 1 (.t 83) (.c (.b true)),none⟩,
 .m 0 81] 11 []))
 (.skip)))
 (.s [.m 84 0,
 .f 85 2 4,
 .s 1 85 84]
 (.s [.w 86 9 4,
 .s 9 2 86,
 .n 3 0]
 (.ret)))))))))
theorem lN:FnIs Tryz.prog 107 87 [.celln 2 9,.tmp 3] VE:=⟨⟨_,_,Tryz.func107,rfl,rfl,by kernel_rfl,by kernel_rfl⟩⟩
def VC:SCode :=
 .s [.o 2 (.alloc 103 [.s [],.i .i64 0]),
 .n 3 0]
 (.s [.m 8 0,
 .c 9 67 [.t 8,.c (.s [58])],
 .m 4 9]
 (.s [.m 11 0,
 .m 12 4,
 .o 13 (.slcs (.t 11) none (some (.t 12))),
 .c 14 153 [.t 13],
 .m 10 14,
 .e 15 10 0,
 .e 16 10 1,
 .m 5 15,
 .m 6 16]
 (.seq (.s [.m 17 6,
 .k 18 .neq 17 0]
 (.cond (.t 18)
 (.s [.o 19 (.build [.s [],.i .i64 0] []),
 .m 20 6,
 .s 2 2 19,
 .m 3 20]
 (.ret))
 (.skip)))
 (.seq (.s [.m 21 4,
 .m 22 0,
 .h 23 22,
 .b 24 .eql 21 23]
 (.cond (.t 24)
 (.s [.m 25 5,
 .o 26 (.build [.s [],.i .i64 0] [(0,(1,.t 25))]),
 .s 2 2 26,
 .n 3 0]
 (.ret))
 (.skip)))
 (.s [.m 28 0,
 .m 29 4,
 .k 30 .add 29 1,
 .o 31 (.slcs (.t 28) (some (.t 30)) none),
 .c 32 154 [.t 31],
 .m 27 32,
 .e 33 27 0,
 .e 34 27 1,
 .m 7 33,
 .m 6 34]
 (.seq (.s [.m 35 6,
 .k 36 .neq 35 0]
 (.cond (.t 36)
 (.s [.o 37 (.build [.s [],.i .i64 0] []),
 .m 38 6,
 .s 2 2 37,
 .m 3 38]
 (.ret))
 (.skip)))
 (.seq (.s [.m 39 7,
 .k 40 .eql 39 443]
 (.cond (.t 40)
 (.reg [.n 7 0])
 (.skip)))
 (.s [.m 41 5,
 .m 42 7,
 .o 43 (.build [.s [],.i .i64 0] [(0,(1,.t 41)),(1,(1,.t 42))]),
 .s 2 2 43,
 .n 3 0]
 (.ret)))))))))
theorem lM:FnIs Tryz.prog 109 44 [.celln 2 2,.tmp 3] VC:=⟨⟨_,_,Tryz.func109,rfl,rfl,by kernel_rfl,by kernel_rfl⟩⟩
def Wj:SCode :=
 .s [.z 2]
 (.s [.m 6 0,
 .m 3 6,
 .z 4]
 (.seq (.blk 0
 (.loop
 (.seq (.s [.m 7 3,
 .o 8 (.bin .neq (.t 7) (.c (.s [])))]
 (.cond (.t 8)
 (.skip)
 (.exit 0)))
 (.blk 1
 (.blk 2
 (.s [.m 22 3,
 .c 23 98 [.t 22,.c (.s [46,46,47])],
 .m 21 23]
 (.cond (.t 21)
 (.reg [.m 24 3,
 .o 25 (.slcs (.t 24) (some (.c (.i .i64 3))) none),
 .m 3 25])
 (.s [.m 27 3,
 .c 28 98 [.t 27,.c (.s [46,47])],
 .m 26 28]
 (.cond (.t 26)
 (.reg [.m 29 3,
 .o 30 (.slcs (.t 29) (some (.c (.i .i64 2))) none),
 .m 3 30])
 (.s [.m 32 3,
 .c 33 98 [.t 32,.c (.s [47,46,47])],
 .m 31 33]
 (.cond (.t 31)
 (.reg [.m 34 3,
 .o 35 (.slcs (.t 34) (some (.c (.i .i64 2))) none),
 .m 3 35])
 (.s [.m 37 3,
 .o 38 (.bin .eql (.t 37) (.c (.s [47,46]))),
 .m 36 38]
 (.cond (.t 36)
 (.reg [.o 3 (.mv (.c (.s [47])))])
 (.s [.m 40 3,
 .c 41 98 [.t 40,.c (.s [47,46,46,47])],
 .m 39 41]
 (.cond (.t 39)
 (.drw [.m 42 3,
 .o 43 (.slcs (.t 42) (some (.c (.i .i64 3))) none),
 .m 44 4,
 .c 45 156 [.t 44],
 .m 3 43,
 .m 4 45] 6 [])
 (.s [.m 47 3,
 .o 48 (.bin .eql (.t 47) (.c (.s [47,46,46]))),
 .m 46 48]
 (.cond (.t 46)
 (.reg [.m 49 4,
 .c 50 156 [.t 49],
 .o 3 (.mv (.c (.s [47]))),
 .m 4 50])
 (.s [.m 52 3,
 .o 53 (.bin .eql (.t 52) (.c (.s [46]))),
 .m 54 53,
 ⟨some 55,.mv (.t 3),some (54,false)⟩,
 ⟨some 56,.bin .eql (.t 55) (.c (.s [46,46])),some (54,false)⟩,
 .p 57 54 56,
 .m 51 57]
 (.cond (.t 51)
 (.reg [.z 3])
 (.s [.m 9 3,
 .o 10 (.slcs (.t 9) (some (.c (.i .i64 1))) none),
 .c 11 67 [.t 10,.c (.s [47])],
 .o 12 (.bin .add (.c (.i .i64 1)) (.t 11)),
 .m 5 12]
 (.drw [.m 13 3,
 .m 14 5,
 .o 15 (.slcs (.t 13) (some (.t 14)) none),
 .m 16 4,
 .m 17 3,
 .m 18 5,
 .o 19 (.slcs (.t 17) none (some (.t 18))),
 .b 20 .add 16 19,
 .m 3 15,
 .m 4 20] 10 [])))))))))))))))))))))
 (.s [.m 58 4,
 .m 2 58]
 (.ret))))
theorem nP:FnIs Tryz.prog 111 59 [.tmp 2] Wj:=⟨⟨_,_,Tryz.func111,rfl,rfl,by kernel_rfl,by kernel_rfl⟩⟩
def VF:SCode :=
 .s [.o 1 (.box 62 (.t 0)),
 .o 2 (.mv (.c (.b false)))]
 (.s [.w 6 7 1,
 .c 7 61 [.t 6],
 .c 8 59 [.t 7],
 .m 5 8,
 .e 9 5 0,
 .e 10 5 1,
 .o 3 (.alloc 62 [.s [],.i .i64 0,.s [],.s [],.s [],.b false,.b false]),
 .s 7 3 9,
 .m 4 10]
 (.s [.m 11 4,
 .k 12 .eql 11 0,
 .m 13 12,
 ⟨some 14,.loadn 7 (.t 1),some (13,true)⟩,
 ⟨some 15,.loadn 7 (.t 3),some (13,true)⟩,
 ⟨some 16,.eqs false (.str [(0,(none,.ts)),(1,(none,.ti)),(2,(none,.ts)),(3,(none,.ts)),(4,(none,.ts)),(5,(none,.tb)),(6,(none,.tb))]) (.t 14) (.t 15),some (13,true)⟩,
 .o 17 (.pick (.t 13) (.t 16) (.c (.b false))),
 .m 2 17]
 (.ret)))
theorem lP:FnIs Tryz.prog 112 18 [.tmp 2] VF:=⟨⟨_,_,Tryz.func112,rfl,rfl,by kernel_rfl,by kernel_rfl⟩⟩
def JX:SCode :=
 .s [.o 2 (.box 99 (.t 0)),
 .o 3 (.box 99 (.t 1)),
 .o 4 (.alloc 99 [.s [],.s [],.s [],.s [],.s [],.b false,.b false,.b false,.b false])]
 (.s [.w 6 9 3,
 .o 5 (.alloc 99 [.s [],.s [],.s [],.s [],.s [],.b false,.b false,.b false,.b false]),
 .s 9 5 6]
 (.seq (.blk 0
 (.s [.f 27 5 3,
 .l 28 27,
 .m 26 28]
 (.cond (.t 26)
 (.s [.f 29 2 3,
 .l 30 29,
 .c 31 111 [.t 30],
 .f 32 2 5,
 .s 1 32 31]
 (.s [.w 33 9 5,
 .s 9 4 33]
 (.ret)))
 (.s [.f 35 6 3,
 .l 36 35,
 .m 34 36]
 (.cond (.t 34)
 (.reg [.f 37 2 3,
 .l 38 37,
 .c 39 111 [.t 38],
 .f 40 2 5,
 .s 1 40 39])
 (.s [.f 42 2 3,
 .l 43 42,
 .o 44 (.bin .eql (.t 43) (.c (.s []))),
 .m 41 44]
 (.cond (.t 41)
 (.s [.f 45 2 2,
 .l 46 45,
 .f 47 2 5,
 .s 1 47 46]
 (.seq (.s [.f 48 7 3,
 .l 49 48,
 .o 50 (.not (.t 49))]
 (.cond (.t 50)
 (.drw [.f 51 3 2,
 .l 52 51,
 .f 53 7 2,
 .l 54 53,
 .f 55 3 5,
 .s 1 55 52,
 .f 56 7 5,
 .s 1 56 54] 8 [(53,(55,none))])
 (.skip)))
 (.drw [.f 57 1 2,
 .l 58 57,
 .f 59 6 2,
 .l 60 59,
 .f 61 1 5,
 .s 1 61 58,
 .f 62 6 5,
 .s 1 62 60] 8 [(59,(61,none))])))
 (.s [.w 7 9 2,
 .w 8 9 3,
 .c 9 157 [.t 7,.t 8],
 .c 10 111 [.t 9],
 .f 11 2 5,
 .s 1 11 10]
 (.seq (.s [.f 12 2 3,
 .l 13 12,
 .o 14 (.idx (.t 13) (.c (.i .i64 0))),
 .o 15 (.bin .eql (.t 14) (.c (.i .u8 47)))]
 (.cond (.t 15)
 (.reg [.f 16 2 3,
 .l 17 16,
 .c 18 111 [.t 17],
 .f 19 2 5,
 .s 1 19 18])
 (.skip)))
 (.drw [.f 20 1 2,
 .l 21 20,
 .f 22 6 2,
 .l 23 22,
 .f 24 1 5,
 .s 1 24 21,
 .f 25 6 5,
 .s 1 25 23] 8 [(22,(24,none))]))))))))))
 (.seq (.drw [.f 63 0 2,
 .l 64 63,
 .f 65 5 2,
 .l 66 65,
 .f 67 0 5,
 .s 1 67 64,
 .f 68 5 5,
 .s 1 68 66] 8 [(65,(67,none))])
 (.s [.w 69 9 5,
 .s 9 4 69]
 (.ret)))))
theorem mT:FnIs Tryz.prog 113 70 [.celln 4 9] JX:=⟨⟨_,_,Tryz.func113,rfl,rfl,by kernel_rfl,by kernel_rfl⟩⟩
def Vh:SCode :=
 .s [.o 1 (.box 99 (.t 0)),
 .z 2]
 (.s [.z 3]
 (.seq (.s [.f 4 5 1,
 .l 5 4]
 (.cond (.t 5)
 (.reg [.m 6 3,
 .f 7 0 1,
 .l 8 7,
 .o 9 (.bin .add (.t 8) (.c (.s [58]))),
 .b 10 .add 6 9,
 .m 3 10])
 (.skip)))
 (.seq (.s [.f 11 6 1,
 .l 12 11]
 (.cond (.t 12)
 (.reg [.m 13 3,
 .f 14 1 1,
 .l 15 14,
 .o 16 (.bin .add (.c (.s [47,47])) (.t 15)),
 .b 17 .add 13 16,
 .m 3 17])
 (.skip)))
 (.s [.m 18 3,
 .f 19 2 1,
 .l 20 19,
 .b 21 .add 18 20,
 .m 3 21]
 (.seq (.s [.f 22 7 1,
 .l 23 22]
 (.cond (.t 23)
 (.reg [.m 24 3,
 .f 25 3 1,
 .l 26 25,
 .o 27 (.bin .add (.c (.s [63])) (.t 26)),
 .b 28 .add 24 27,
 .m 3 28])
 (.skip)))
 (.seq (.s [.f 29 8 1,
 .l 30 29]
 (.cond (.t 30)
 (.reg [.m 31 3,
 .f 32 4 1,
 .l 33 32,
 .o 34 (.bin .add (.c (.s [35])) (.t 33)),
 .b 35 .add 31 34,
 .m 3 35])
 (.skip)))
 (.s [.m 36 3,
 .m 2 36]
 (.ret))))))))
theorem kR:FnIs Tryz.prog 114 37 [.tmp 2] Vh:=⟨⟨_,_,Tryz.func114,rfl,rfl,by kernel_rfl,by kernel_rfl⟩⟩
def Qg:SCode :=
 .s [.o 1 (.box 103 (.t 0)),
 .z 2]
 (.seq (.s [.f 3 1 1,
 .l 4 3,
 .k 5 .eql 4 0]
 (.cond (.t 5)
 (.s [.f 6 0 1,
 .l 7 6,
 .m 2 7]
 (.ret))
 (.skip)))
 (.seq (.drw [.f 8 0 1,
 .l 9 8,
 .o 10 (.bin .add (.t 9) (.c (.s [58]))),
 .f 11 1 1,
 .l 12 11,
 .c 13 158 [.t 12],
 .b 14 .add 10 13,
 .m 2 14] 8 [])
 (.ret)))
theorem mK:FnIs Tryz.prog 115 15 [.tmp 2] Qg:=⟨⟨_,_,Tryz.func115,rfl,rfl,by kernel_rfl,by kernel_rfl⟩⟩
def VP:SCode :=
 .s [.o 1 (.box 62 (.t 0)),
 .o 2 (.alloc 103 [.s [],.i .i64 0])]
 (.s [.f 3 0 1,
 .l 4 3,
 .f 5 1 1,
 .l 6 5,
 .o 7 (.build [.s [],.i .i64 0] [(0,(1,.t 4)),(1,(1,.t 6))]),
 .s 2 2 7]
 (.ret))
theorem mN:FnIs Tryz.prog 116 8 [.celln 2 2] VP:=⟨⟨_,_,Tryz.func116,rfl,rfl,by kernel_rfl,by kernel_rfl⟩⟩
def VQ:SCode :=
 .s [.o 1 (.box 62 (.t 0)),
 .z 2]
 (.seq (.s [.f 3 5 1,
 .l 4 3]
 (.cond (.t 4)
 (.s [.f 5 2 1,
 .l 6 5,
 .o 7 (.bin .add (.t 6) (.c (.s [63]))),
 .f 8 3 1,
 .l 9 8,
 .b 10 .add 7 9,
 .m 2 10]
 (.ret))
 (.skip)))
 (.s [.f 11 2 1,
 .l 12 11,
 .m 2 12]
 (.ret)))
theorem mO:FnIs Tryz.prog 117 13 [.tmp 2] VQ:=⟨⟨_,_,Tryz.func117,rfl,rfl,by kernel_rfl,by kernel_rfl⟩⟩
def UN:SCode :=
 .s [.n 2 0]
 (.s [.n 3 0]
 (.seq (.blk 0
 (.loop
 (.seq (.s [.m 4 3,
 .m 5 0,
 .h 6 5,
 .b 7 .lss 4 6,
 .m 8 7,
 ⟨some 9,.mv (.t 0),some (8,true)⟩,
 ⟨some 10,.mv (.t 3),some (8,true)⟩,
 ⟨some 11,.idx (.t 9) (.t 10),some (8,true)⟩,
 ⟨some 12,.call 75 [.t 11],some (8,true)⟩,
 .o 13 (.pick (.t 8) (.t 12) (.c (.b false)))]
 (.cond (.t 13)
 (.skip)
 (.exit 0)))
 (.blk 1
 (.reg [.m 14 3,
 .k 15 .add 14 1,
 .m 3 15])))))
 (.s [.m 16 3,
 .m 2 16]
 (.ret))))
theorem kH:FnIs Tryz.prog 121 17 [.tmp 2] UN:=⟨⟨_,_,Tryz.func121,rfl,rfl,by kernel_rfl,by kernel_rfl⟩⟩
def WO:SCode :=
 .s [.n 4 0]
 (.seq (.s [.m 6 0,
 .o 7 (.lenr (.t 6)),
 .n 8 0]
 (.blk 0
 (.loop
 (.s [.b 9 .lss 8 7]
 (.seq (.cond (.t 9)
 (.skip)
 (.exit 0))
 (.seq (.blk 1
 (.s [.m 10 8,
 .m 5 10]
 (.s [.m 11 1,
 .m 12 0,
 .m 13 5,
 .o 14 (.iad 1 (.t 12) (.t 13)),
 .l 15 14,
 .b 16 .eql 11 15]
 (.cond (.t 16)
 (.s [.m 17 5,
 .m 4 17]
 (.ret))
 (.skip)))))
 (.reg [.k 18 .add 8 1,
 .m 8 18])))))))
 (.s [.n 4 (-1)]
 (.ret)))
theorem oR:FnIs Tryz.prog 124 19 [.tmp 4] WO:=⟨⟨_,_,Tryz.func124,rfl,rfl,by kernel_rfl,by kernel_rfl⟩⟩
def Wd:SCode :=
 .s [.o 1 (.box 30 (.t 0)),
 .o 2 (.alloc 30 [.i .i64 0,.s [],.nil,.nil])]
 (.s [.f 4 2 1,
 .l 5 4,
 .c 6 166 [.t 5],
 .f 7 2 1,
 .s 1 7 6]
 (.s [.f 8 3 1,
 .l 9 8,
 .c 10 167 [.t 9],
 .f 11 3 1,
 .s 1 11 10]
 (.seq (.s [.f 12 3 1,
 .l 13 12,
 .o 14 (.lenr (.t 13)),
 .n 15 0]
 (.blk 0
 (.loop
 (.s [.b 16 .lss 15 14]
 (.seq (.cond (.t 16)
 (.skip)
 (.exit 0))
 (.seq (.blk 1
 (.s [.m 17 15,
 .m 3 17]
 (.drw [.f 18 3 1,
 .l 19 18,
 .m 20 3,
 .f 21 3 1,
 .l 22 21,
 .m 23 3,
 .o 24 (.iad 4 (.t 22) (.t 23)),
 .w 25 4 24,
 .c 26 125 [.t 25],
 .o 27 (.iad 4 (.t 19) (.t 20)),
 .s 4 27 26] 10 [])))
 (.reg [.k 28 .add 15 1,
 .m 15 28])))))))
 (.s [.w 29 4 1,
 .s 4 2 29]
 (.ret)))))
theorem mR:FnIs Tryz.prog 125 30 [.celln 2 4] Wd:=⟨⟨_,_,Tryz.func125,rfl,rfl,by kernel_rfl,by kernel_rfl⟩⟩
def VM:SCode :=
 .s [.o 2 (.mv (.c (.b false)))]
 (.seq (.s [.m 4 0,
 .h 5 4,
 .n 6 0]
 (.blk 0
 (.loop
 (.s [.b 7 .lss 6 5]
 (.seq (.cond (.t 7)
 (.skip)
 (.exit 0))
 (.seq (.blk 1
 (.s [.m 8 6,
 .m 3 8]
 (.s [.m 9 0,
 .m 10 3,
 .o 11 (.idx (.t 9) (.t 10)),
 .c 12 132 [.t 11],
 .o 13 (.not (.t 12)),
 .m 14 13,
 ⟨some 15,.mv (.t 0),some (14,true)⟩,
 ⟨some 16,.mv (.t 3),some (14,true)⟩,
 ⟨some 17,.idx (.t 15) (.t 16),some (14,true)⟩,
 ⟨some 18,.bin .lss (.t 17) (.c (.i .u8 97)),some (14,true)⟩,
 ⟨some 19,.mv (.t 18),some (14,true)⟩,
 ⟨some 20,.mv (.t 0),some (19,false)⟩,
 ⟨some 21,.mv (.t 3),some (19,false)⟩,
 ⟨some 22,.idx (.t 20) (.t 21),some (19,false)⟩,
 ⟨some 23,.bin .gtr (.t 22) (.c (.i .u8 122)),some (19,false)⟩,
 ⟨some 24,.pick (.t 19) (.c (.b true)) (.t 23),some (14,true)⟩,
 .o 25 (.pick (.t 14) (.t 24) (.c (.b false)))]
 (.cond (.t 25)
 (.s [.o 2 (.mv (.c (.b false)))]
 (.ret))
 (.skip)))))
 (.reg [.k 26 .add 6 1,
 .m 6 26])))))))
 (.s [.m 27 0,
 .o 28 (.bin .neq (.t 27) (.c (.s []))),
 .m 2 28]
 (.ret)))
theorem mI:FnIs Tryz.prog 126 29 [.tmp 2] VM:=⟨⟨_,_,Tryz.func126,rfl,rfl,by kernel_rfl,by kernel_rfl⟩⟩
def VA:SCode :=
 .s [.z 2,
 .n 3 0]
 (.seq (.s [.m 10 0,
 .c 11 26 [.t 10],
 .m 9 11,
 .e 12 9 0,
 .e 13 9 1,
 .m 4 12,
 .m 5 13]
 (.s [.m 14 5,
 .k 15 .neq 14 0]
 (.cond (.t 15)
 (.s [.m 16 5,
 .z 2,
 .m 3 16]
 (.ret))
 (.skip))))
 (.seq (.s [.m 17 0,
 .h 18 17,
 .n 19 0]
 (.blk 0
 (.loop
 (.s [.b 20 .lss 19 18]
 (.seq (.cond (.t 20)
 (.skip)
 (.exit 0))
 (.seq (.blk 1
 (.s [.m 21 19,
 .m 6 21]
 (.s [.m 22 0,
 .m 23 6,
 .o 24 (.idx (.t 22) (.t 23)),
 .o 25 (.bin .neq (.t 24) (.c (.i .u8 37))),
 .m 26 25,
 ⟨some 27,.mv (.t 0),some (26,true)⟩,
 ⟨some 28,.mv (.t 6),some (26,true)⟩,
 ⟨some 29,.idx (.t 27) (.t 28),some (26,true)⟩,
 ⟨some 30,.call 168 [.t 29],some (26,true)⟩,
 ⟨some 31,.not (.t 30),some (26,true)⟩,
 .o 32 (.pick (.t 26) (.t 31) (.c (.b false)))]
 (.cond (.t 32)
 (.s [.z 2,
 .n 3 1]
 (.ret))
 (.skip)))))
 (.reg [.k 33 .add 19 1,
 .m 19 33])))))))
 (.seq (.s [.m 34 0,
 .o 35 (.bin .eql (.t 34) (.c (.s []))),
 .m 36 35,
 ⟨some 37,.mv (.t 0),some (36,false)⟩,
 ⟨some 38,.mv (.t 0),some (36,false)⟩,
 ⟨some 39,.lens (.t 38),some (36,false)⟩,
 ⟨some 40,.bin .sub (.t 39) (.c (.i .i64 1)),some (36,false)⟩,
 ⟨some 41,.idx (.t 37) (.t 40),some (36,false)⟩,
 ⟨some 42,.bin .eql (.t 41) (.c (.i .u8 58)),some (36,false)⟩,
 .p 43 36 42]
 (.cond (.t 43)
 (.s [.z 2,
 .n 3 3]
 (.ret))
 (.skip)))
 (.s [.m 45 0,
 .c 46 91 [.t 45,.c (.s [46,45,95,58])],
 .m 44 46,
 .e 47 44 0,
 .e 48 44 1,
 .m 7 47,
 .m 8 48]
 (.seq (.s [.m 49 8,
 .k 50 .neq 49 0]
 (.cond (.t 50)
 (.s [.m 51 8,
 .z 2,
 .m 3 51]
 (.ret))
 (.skip)))
 (.s [.m 52 7,
 .c 53 169 [.t 52,.c (.s [126]),.c (.s [37,55,69])],
 .m 2 53,
 .n 3 0]
 (.ret)))))))
theorem lJ:FnIs Tryz.prog 127 54 [.tmp 2,.tmp 3] VA:=⟨⟨_,_,Tryz.func127,rfl,rfl,by kernel_rfl,by kernel_rfl⟩⟩
def Vn:SCode :=
 .s [.o 2 (.box 23 (.t 0)),
 .o 4 (.alloc 25 [.s [],.s [],.s [],.s [],.s [],.b false,.b false]),
 .n 5 0]
 (.seq (.blk 0
 (.s [.m 7 1,
 .c 8 141 [.t 7,.c (.s [100,105,100,58])],
 .m 6 8]
 (.cond (.t 6)
 (.s [.m 9 1,
 .c 10 170 [.t 9],
 .e 11 10 0,
 .e 12 10 1,
 .s 7 4 11,
 .m 5 12]
 (.ret))
 (.s [.m 14 1,
 .o 15 (.bin .eql (.t 14) (.c (.s []))),
 .m 16 15,
 ⟨some 17,.mv (.t 1),some (16,false)⟩,
 ⟨some 18,.idx (.t 17) (.c (.i .i64 0)),some (16,false)⟩,
 ⟨some 19,.call 84 [.c (.s [47,63,35]),.t 18],some (16,false)⟩,
 ⟨some 20,.bin .geq (.t 19) (.c (.i .i64 0)),some (16,false)⟩,
 .p 21 16 20,
 .m 13 21]
 (.cond (.t 13)
 (.s [.w 22 2 2,
 .c 23 15 [.t 22],
 .m 24 1,
 .b 25 .add 23 24,
 .c 26 170 [.t 25],
 .e 27 26 0,
 .e 28 26 1,
 .s 7 4 27,
 .m 5 28]
 (.ret))
 (.skip))))))
 (.s [.o 29 (.build [.s [],.s [],.s [],.s [],.s [],.b false,.b false] []),
 .s 7 4 29,
 .n 5 6]
 (.ret)))
theorem lI:FnIs Tryz.prog 128 30 [.celln 4 7,.tmp 5] Vn:=⟨⟨_,_,Tryz.func128,rfl,rfl,by kernel_rfl,by kernel_rfl⟩⟩
def Vf:SCode :=
 .s [.o 1 (.box 25 (.t 0)),
 .z 2]
 (.seq (.drw [.f 4 0 1,
 .w 5 2 4,
 .c 6 15 [.t 5],
 .f 7 2 1,
 .l 8 7,
 .b 9 .add 6 8,
 .m 3 9] 7 [])
 (.seq (.s [.f 10 5 1,
 .l 11 10]
 (.cond (.t 11)
 (.reg [.m 12 3,
 .f 13 3 1,
 .l 14 13,
 .o 15 (.bin .add (.c (.s [63])) (.t 14)),
 .b 16 .add 12 15,
 .m 3 16])
 (.skip)))
 (.seq (.s [.f 17 6 1,
 .l 18 17]
 (.cond (.t 18)
 (.reg [.m 19 3,
 .f 20 4 1,
 .l 21 20,
 .o 22 (.bin .add (.c (.s [35])) (.t 21)),
 .b 23 .add 19 22,
 .m 3 23])
 (.skip)))
 (.s [.m 24 3,
 .m 2 24]
 (.ret)))))
theorem kP:FnIs Tryz.prog 129 25 [.tmp 2] Vf:=⟨⟨_,_,Tryz.func129,rfl,rfl,by kernel_rfl,by kernel_rfl⟩⟩
def Wf:SCode :=
 .s [.o 2 (.box 23 (.t 0)),
 .o 4 (.alloc 25 [.s [],.s [],.s [],.s [],.s [],.b false,.b false]),
 .n 5 0]
 (.seq (.s [.m 6 1,
 .c 7 98 [.t 6,.c (.s [100,105,100,58])]]
 (.cond (.t 7)
 (.s [.m 8 1,
 .c 9 186 [.t 8],
 .e 10 9 0,
 .e 11 9 1,
 .s 7 4 10,
 .m 5 11]
 (.ret))
 (.skip)))
 (.seq (.s [.m 12 1,
 .o 13 (.bin .neq (.t 12) (.c (.s []))),
 .m 14 13,
 ⟨some 15,.mv (.t 1),some (14,true)⟩,
 ⟨some 16,.idx (.t 15) (.c (.i .i64 0)),some (14,true)⟩,
 ⟨some 17,.call 73 [.t 16,.c (.s [47,63,35])],some (14,true)⟩,
 ⟨some 18,.not (.t 17),some (14,true)⟩,
 .o 19 (.pick (.t 14) (.t 18) (.c (.b false)))]
 (.cond (.t 19)
 (.s [.o 20 (.build [.s [],.s [],.s [],.s [],.s [],.b false,.b false] []),
 .s 7 4 20,
 .n 5 6]
 (.ret))
 (.skip)))
 (.s [.w 21 2 2,
 .c 22 22 [.t 21],
 .m 23 1,
 .b 24 .add 22 23,
 .c 25 186 [.t 24],
 .e 26 25 0,
 .e 27 25 1,
 .s 7 4 26,
 .m 5 27]
 (.ret))))
theorem mV:FnIs Tryz.prog 149 28 [.celln 4 7,.tmp 5] Wf:=⟨⟨_,_,Tryz.func149,rfl,rfl,by kernel_rfl,by kernel_rfl⟩⟩
def VR:SCode :=
 .s [.o 1 (.box 25 (.t 0)),
 .z 2]
 (.seq (.drw [.f 4 0 1,
 .w 5 2 4,
 .c 6 22 [.t 5],
 .f 7 2 1,
 .l 8 7,
 .b 9 .add 6 8,
 .m 3 9] 7 [])
 (.seq (.s [.f 10 5 1,
 .l 11 10]
 (.cond (.t 11)
 (.reg [.m 12 3,
 .f 13 3 1,
 .l 14 13,
 .o 15 (.bin .add (.c (.s [63])) (.t 14)),
 .b 16 .add 12 15,
 .m 3 16])
 (.skip)))
 (.seq (.s [.f 17 6 1,
 .l 18 17]
 (.cond (.t 18)
 (.reg [.m 19 3,
 .f 20 4 1,
 .l 21 20,
 .o 22 (.bin .add (.c (.s [35])) (.t 21)),
 .b 23 .add 19 22,
 .m 3 23])
 (.skip)))
 (.s [.m 24 3,
 .m 2 24]
 (.ret)))))
theorem mP:FnIs Tryz.prog 150 25 [.tmp 2] VR:=⟨⟨_,_,Tryz.func150,rfl,rfl,by kernel_rfl,by kernel_rfl⟩⟩
def MQ:SCode :=
 .s [.o 2 (.box 99 (.t 0)),
 .o 3 (.box 99 (.t 1)),
 .z 4]
 (.seq (.s [.f 6 6 2,
 .l 7 6,
 .m 8 7,
 ⟨some 9,.fad 2 (.t 2),some (8,true)⟩,
 ⟨some 10,.load1 (.t 9),some (8,true)⟩,
 ⟨some 11,.bin .eql (.t 10) (.c (.s [])),some (8,true)⟩,
 .o 12 (.pick (.t 8) (.t 11) (.c (.b false)))]
 (.cond (.t 12)
 (.s [.f 13 2 3,
 .l 14 13,
 .o 15 (.bin .add (.c (.s [47])) (.t 14)),
 .m 4 15]
 (.ret))
 (.skip)))
 (.seq (.s [.f 16 2 2,
 .l 17 16,
 .h 18 17,
 .k 19 .sub 18 1,
 .m 5 19]
 (.blk 0
 (.loop
 (.seq (.s [.m 20 5,
 .k 21 .geq 20 0]
 (.cond (.t 21)
 (.skip)
 (.exit 0)))
 (.seq (.blk 1
 (.s [.f 24 2 2,
 .l 25 24,
 .m 26 5,
 .o 27 (.idx (.t 25) (.t 26)),
 .o 28 (.bin .eql (.t 27) (.c (.i .u8 47)))]
 (.cond (.t 28)
 (.seq (.drw [.f 29 2 2,
 .l 30 29,
 .m 31 5,
 .k 32 .add 31 1,
 .o 33 (.slcs (.t 30) none (some (.t 32))),
 .f 34 2 3,
 .l 35 34,
 .b 36 .add 33 35,
 .m 4 36] 9 [])
 (.ret))
 (.skip))))
 (.reg [.m 22 5,
 .k 23 .sub 22 1,
 .m 5 23]))))))
 (.s [.f 37 2 3,
 .l 38 37,
 .m 4 38]
 (.ret))))
theorem mL:FnIs Tryz.prog 157 39 [.tmp 4] MQ:=⟨⟨_,_,Tryz.func157,rfl,rfl,by kernel_rfl,by kernel_rfl⟩⟩
def Ql:SCode :=
 .s [.z 2]
 (.seq (.s [.m 3 0,
 .k 4 .lss 3 0]
 (.cond (.t 4)
 (.s [.m 5 0,
 .k 6 .add 5 1,
 .o 7 (.neg (.t 6)),
 .o 8 (.cvi .u64 (.t 7)),
 .o 9 (.bin .add (.t 8) (.c (.i .u64 1))),
 .c 10 70 [.t 9],
 .o 11 (.bin .add (.c (.s [45])) (.t 10)),
 .m 2 11]
 (.ret))
 (.skip)))
 (.s [.m 12 0,
 .o 13 (.cvi .u64 (.t 12)),
 .c 14 70 [.t 13],
 .m 2 14]
 (.ret)))
theorem mS:FnIs Tryz.prog 158 15 [.tmp 2] Ql:=⟨⟨_,_,Tryz.func158,rfl,rfl,by kernel_rfl,by kernel_rfl⟩⟩
def KX:SCode :=
 .s [.n 4 0,
 .o 5 (.mv (.c (.b false)))]
 (.seq (.s [.m 8 1,
 .k 9 .add 8 6,
 .m 10 0,
 .h 11 10,
 .b 12 .gtr 9 11,
 .m 13 12,
 ⟨some 14,.mv (.t 0),some (13,false)⟩,
 ⟨some 15,.mv (.t 1),some (13,false)⟩,
 ⟨some 16,.idx (.t 14) (.t 15),some (13,false)⟩,
 ⟨some 17,.bin .neq (.t 16) (.c (.i .u8 92)),some (13,false)⟩,
 .p 18 13 17,
 .m 19 18,
 ⟨some 20,.mv (.t 0),some (19,false)⟩,
 ⟨some 21,.mv (.t 1),some (19,false)⟩,
 ⟨some 22,.bin .add (.t 21) (.c (.i .i64 1)),some (19,false)⟩,
 ⟨some 23,.idx (.t 20) (.t 22),some (19,false)⟩,
 ⟨some 24,.bin .neq (.t 23) (.c (.i .u8 117)),some (19,false)⟩,
 .p 25 19 24]
 (.cond (.t 25)
 (.s [.n 4 0,
 .o 5 (.mv (.c (.b false)))]
 (.ret))
 (.skip)))
 (.s [.m 27 0,
 .m 28 1,
 .k 29 .add 28 2,
 .m 30 1,
 .k 31 .add 30 6,
 .o 32 (.slcs (.t 27) (some (.t 29)) (some (.t 31))),
 .c 33 191 [.t 32,.c (.i .u64 65535)],
 .m 26 33,
 .e 34 26 0,
 .e 35 26 1,
 .m 6 34,
 .m 7 35]
 (.s [.m 36 6,
 .o 37 (.cvi .i64 (.t 36)),
 .m 38 7,
 .k 39 .eql 38 0,
 .m 4 37,
 .m 5 39]
 (.ret))))
theorem kV:FnIs Tryz.prog 163 40 [.tmp 4,.tmp 5] KX:=⟨⟨_,_,Tryz.func163,rfl,rfl,by kernel_rfl,by kernel_rfl⟩⟩
def Qn:SCode :=
 .s [.o 2 (.mv (.c .nil))]
 (.seq (.s [.m 3 0,
 .o 4 (.pu (.snil false) [.t 3,.c .nil])]
 (.cond (.t 4)
 (.s [.o 2 (.mv (.c .nil))]
 (.ret))
 (.skip)))
 (.s [.o 5 (.mks 9 1 1 (.c (.i .i64 0)) (.c (.i .i64 0))),
 .m 6 0,
 .o 7 (.app 9 1 16 (.t 5) (.t 6)),
 .m 2 7]
 (.ret)))
theorem WM:FnIs Tryz.prog 166 8 [.tmp 2] Qn:=⟨⟨_,_,Tryz.func166,rfl,rfl,by kernel_rfl,by kernel_rfl⟩⟩
def Qo:SCode :=
 .s [.o 2 (.mv (.c .nil))]
 (.seq (.s [.m 3 0,
 .o 4 (.pu (.snil false) [.t 3,.c .nil])]
 (.cond (.t 4)
 (.s [.o 2 (.mv (.c .nil))]
 (.ret))
 (.skip)))
 (.s [.o 5 (.mks 30 4 1 (.c (.i .i64 0)) (.c (.i .i64 0))),
 .m 6 0,
 .o 7 (.app 30 4 72 (.t 5) (.t 6)),
 .m 2 7]
 (.ret)))
theorem WK:FnIs Tryz.prog 167 8 [.tmp 2] Qo:=⟨⟨_,_,Tryz.func167,rfl,rfl,by kernel_rfl,by kernel_rfl⟩⟩
def VL:SCode :=
 .s [.o 2 (.mv (.c (.b false)))]
 (.s [.m 3 0,
 .c 4 131 [.t 3],
 .m 5 4,
 ⟨some 6,.mv (.t 0),some (5,false)⟩,
 ⟨some 7,.call 132 [.t 6],some (5,false)⟩,
 .p 8 5 7,
 .m 9 8,
 ⟨some 10,.mv (.t 0),some (9,false)⟩,
 ⟨some 11,.call 84 [.c (.s [46,45,95,58]),.t 10],some (9,false)⟩,
 ⟨some 12,.bin .geq (.t 11) (.c (.i .i64 0)),some (9,false)⟩,
 .p 13 9 12,
 .m 2 13]
 (.ret))
theorem mH:FnIs Tryz.prog 168 14 [.tmp 2] VL:=⟨⟨_,_,Tryz.func168,rfl,rfl,by kernel_rfl,by kernel_rfl⟩⟩
def PJ:SCode :=
 .s [.o 2 (.alloc 25 [.s [],.s [],.s [],.s [],.s [],.b false,.b false]),
 .n 3 0]
 (.seq (.s [.m 15 0,
 .h 16 15,
 .k 17 .gtr 16 4096]
 (.cond (.t 17)
 (.s [.o 18 (.build [.s [],.s [],.s [],.s [],.s [],.b false,.b false] []),
 .s 7 2 18,
 .n 3 5]
 (.ret))
 (.skip)))
 (.s [.m 20 0,
 .c 21 25 [.t 20,.c (.s [35])],
 .m 19 21,
 .e 22 19 0,
 .e 23 19 1,
 .e 24 19 2,
 .m 4 22,
 .m 5 23,
 .m 6 24]
 (.s [.m 26 4,
 .c 27 25 [.t 26,.c (.s [63])],
 .m 25 27,
 .e 28 25 0,
 .e 29 25 1,
 .e 30 25 2,
 .m 4 28,
 .m 7 29,
 .m 8 30]
 (.s [.m 32 4,
 .c 33 25 [.t 32,.c (.s [47])],
 .m 31 33,
 .e 34 31 0,
 .e 35 31 1,
 .e 36 31 2,
 .m 9 34,
 .m 10 35,
 .m 11 36]
 (.s [.m 38 9,
 .c 39 80 [.t 38],
 .m 37 39,
 .e 40 37 0,
 .e 41 37 1,
 .o 12 (.alloc 23 [.s [],.s []]),
 .s 2 12 40,
 .m 13 41]
 (.seq (.s [.m 42 13,
 .k 43 .neq 42 0]
 (.cond (.t 43)
 (.s [.o 44 (.build [.s [],.s [],.s [],.s [],.s [],.b false,.b false] []),
 .m 45 13,
 .s 7 2 44,
 .m 3 45]
 (.ret))
 (.skip)))
 (.s [.m 47 4,
 .m 48 9,
 .h 49 48,
 .o 50 (.slcs (.t 47) (some (.t 49)) none),
 .c 51 91 [.t 50,.c (.s [33,36,38,39,40,41,42,43,44,59,61,58,64,47])],
 .m 46 51,
 .e 52 46 0,
 .e 53 46 1,
 .m 14 52,
 .m 13 53]
 (.seq (.s [.m 54 13,
 .k 55 .neq 54 0]
 (.cond (.t 55)
 (.s [.o 56 (.build [.s [],.s [],.s [],.s [],.s [],.b false,.b false] []),
 .m 57 13,
 .s 7 2 56,
 .m 3 57]
 (.ret))
 (.skip)))
 (.s [.m 59 7,
 .c 60 91 [.t 59,.c (.s [33,36,38,39,40,41,42,43,44,59,61,58,64,47,63])],
 .m 58 60,
 .e 61 58 0,
 .e 62 58 1,
 .m 7 61,
 .m 13 62]
 (.seq (.s [.m 63 13,
 .k 64 .neq 63 0]
 (.cond (.t 64)
 (.s [.o 65 (.build [.s [],.s [],.s [],.s [],.s [],.b false,.b false] []),
 .m 66 13,
 .s 7 2 65,
 .m 3 66]
 (.ret))
 (.skip)))
 (.s [.m 68 5,
 .c 69 91 [.t 68,.c (.s [33,36,38,39,40,41,42,43,44,59,61,58,64,47,63])],
 .m 67 69,
 .e 70 67 0,
 .e 71 67 1,
 .m 5 70,
 .m 13 71]
 (.seq (.s [.m 72 13,
 .k 73 .neq 72 0]
 (.cond (.t 73)
 (.s [.o 74 (.build [.s [],.s [],.s [],.s [],.s [],.b false,.b false] []),
 .m 75 13,
 .s 7 2 74,
 .m 3 75]
 (.ret))
 (.skip)))
 (.s [.w 76 2 12,
 .m 77 14,
 .m 78 7,
 .m 79 8,
 .m 80 5,
 .m 81 6,
 .o 82 (.build [.s [],.s [],.s [],.s [],.s [],.b false,.b false] [(0,(2,.t 76)),(2,(1,.t 77)),(3,(1,.t 78)),(5,(1,.t 79)),(4,(1,.t 80)),(6,(1,.t 81))]),
 .s 7 2 82,
 .n 3 0]
 (.ret))))))))))))))
theorem kF:FnIs Tryz.prog 170 83 [.celln 2 7,.tmp 3] PJ:=⟨⟨_,_,Tryz.func170,rfl,rfl,by kernel_rfl,by kernel_rfl⟩⟩
def P5:SCode :=
 .s [.o 2 (.alloc 25 [.s [],.s [],.s [],.s [],.s [],.b false,.b false]),
 .n 3 0]
 (.seq (.s [.m 11 0,
 .h 12 11,
 .k 13 .gtr 12 4096]
 (.cond (.t 13)
 (.s [.o 14 (.build [.s [],.s [],.s [],.s [],.s [],.b false,.b false] []),
 .s 7 2 14,
 .n 3 5]
 (.ret))
 (.skip)))
 (.s [.m 15 0,
 .c 16 67 [.t 15,.c (.s [47,63,35])],
 .m 4 16]
 (.s [.m 18 0,
 .m 19 4,
 .o 20 (.slcs (.t 18) none (some (.t 19))),
 .c 21 52 [.t 20],
 .m 17 21,
 .e 22 17 0,
 .e 23 17 1,
 .o 5 (.alloc 23 [.s [],.s []]),
 .s 2 5 22,
 .m 6 23]
 (.seq (.s [.m 24 6,
 .k 25 .neq 24 0]
 (.cond (.t 25)
 (.s [.o 26 (.build [.s [],.s [],.s [],.s [],.s [],.b false,.b false] []),
 .m 27 6,
 .s 7 2 26,
 .m 3 27]
 (.ret))
 (.skip)))
 (.seq (.drw [.w 28 2 5,
 .o 29 (.build [.s [],.s [],.s [],.s [],.s [],.b false,.b false] [(0,(2,.t 28))]),
 .m 30 0,
 .m 31 4,
 .o 32 (.slcs (.t 30) (some (.t 31)) none),
 .o 7 (.alloc 25 [.s [],.s [],.s [],.s [],.s [],.b false,.b false]),
 .s 7 7 29,
 .m 8 32] 8 [(5,(7,none))])
 (.seq (.s [.m 33 8,
 .c 34 67 [.t 33,.c (.s [35])],
 .m 9 34]
 (.s [.m 35 9,
 .m 36 8,
 .h 37 36,
 .b 38 .lss 35 37]
 (.cond (.t 38)
 (.drw [.m 39 8,
 .m 40 9,
 .k 41 .add 40 1,
 .o 42 (.slcs (.t 39) (some (.t 41)) none),
 .m 43 8,
 .m 44 9,
 .o 45 (.slcs (.t 43) none (some (.t 44))),
 .f 46 4 7,
 .s 1 46 42,
 .f 47 6 7,
 ⟨none,.store 1 (.t 47) (.c (.b true)),none⟩,
 .m 8 45] 12 [])
 (.skip))))
 (.seq (.s [.m 48 8,
 .c 49 67 [.t 48,.c (.s [63])],
 .m 10 49]
 (.s [.m 50 10,
 .m 51 8,
 .h 52 51,
 .b 53 .lss 50 52]
 (.cond (.t 53)
 (.drw [.m 54 8,
 .m 55 10,
 .k 56 .add 55 1,
 .o 57 (.slcs (.t 54) (some (.t 56)) none),
 .m 58 8,
 .m 59 10,
 .o 60 (.slcs (.t 58) none (some (.t 59))),
 .f 61 3 7,
 .s 1 61 57,
 .f 62 5 7,
 ⟨none,.store 1 (.t 62) (.c (.b true)),none⟩,
 .m 8 60] 12 [])
 (.skip))))
 (.seq (.s [.m 64 8,
 .c 65 110 [.t 64,.c (.s [33,36,38,39,40,41,42,43,44,59,61,58,64,47])],
 .m 63 65,
 .e 66 63 0,
 .e 67 63 1,
 .f 68 2 7,
 .s 1 68 66,
 .m 6 67]
 (.s [.m 69 6,
 .k 70 .neq 69 0]
 (.cond (.t 70)
 (.s [.o 71 (.build [.s [],.s [],.s [],.s [],.s [],.b false,.b false] []),
 .m 72 6,
 .s 7 2 71,
 .m 3 72]
 (.ret))
 (.skip))))
 (.seq (.s [.f 74 3 7,
 .l 75 74,
 .c 76 110 [.t 75,.c (.s [33,36,38,39,40,41,42,43,44,59,61,58,64,47,63])],
 .m 73 76,
 .e 77 73 0,
 .e 78 73 1,
 .f 79 3 7,
 .s 1 79 77,
 .m 6 78]
 (.s [.m 80 6,
 .k 81 .neq 80 0]
 (.cond (.t 81)
 (.s [.o 82 (.build [.s [],.s [],.s [],.s [],.s [],.b false,.b false] []),
 .m 83 6,
 .s 7 2 82,
 .m 3 83]
 (.ret))
 (.skip))))
 (.seq (.s [.f 85 4 7,
 .l 86 85,
 .c 87 110 [.t 86,.c (.s [33,36,38,39,40,41,42,43,44,59,61,58,64,47,63])],
 .m 84 87,
 .e 88 84 0,
 .e 89 84 1,
 .f 90 4 7,
 .s 1 90 88,
 .m 6 89]
 (.s [.m 91 6,
 .k 92 .neq 91 0]
 (.cond (.t 92)
 (.s [.o 93 (.build [.s [],.s [],.s [],.s [],.s [],.b false,.b false] []),
 .m 94 6,
 .s 7 2 93,
 .m 3 94]
 (.ret))
 (.skip))))
 (.s [.w 95 7 7,
 .s 7 2 95,
 .n 3 0]
 (.ret))))))))))))
theorem lQ:FnIs Tryz.prog 186 96 [.celln 2 7,.tmp 3] P5:=⟨⟨_,_,Tryz.func186,rfl,rfl,by kernel_rfl,by kernel_rfl⟩⟩
end Go.Proofs.YtbgaknpnkcdbfaaGreatDoor.Sx
namespace Go.Proofs.YtbgaknpnkcdbfaaGreatDoor
open Go.RowKit Sx
theorem So (G:Gh) (I:Al):∀l:List (List UInt8),Ad G I (l.map .s) (sv l)
 | []=>Ad.nil
 | x::l=>by
  show Ad G I (AV.s x::l.map .s) (.string (S x)::sv l);exact Ad.cons (by simp[Ab]) (So G I l)
theorem jS {P:Program} [Tabs P] {f:FuncId} {args:List AV} {vs:List Value} {objs:List OB} {K:List OB->AV->Prop} (l:List (List UInt8)) (hne:0<l.length) (hk:K objs (.row l.length (l.map .s))) (ha:FJ args=some vs)
  (h:∀w,Calls P f vs.toArray w fun e w'=>∃v,e=.returned v/\CB w' w.heap.size v l/\Qb w w'):Ah P f args objs K:=by
 intro C _ G I w hin hm ys hd;rw[(Gp G I args vs ha ys).1 hd];refine(h w).mono ?_;rintro e w' ⟨v,rfl,hr,hb⟩;obtain⟨g,cap,rfl,h1,h2,h3⟩:=hr.form hne;have hg:w.grownBy w' none:=⟨hb.os,hb.tape,hb.output,Below.size hb,fun k hk _=>Below.block hb k hk⟩;obtain⟨I',s1,s2,s3,s4⟩:=Pf hin hm hg g l.length cap (l.map .s) (sv l) h1 h3 (So G I l) (Rn l) (fun j u hj=>by
  have hjl:j<l.length:=by
   have:=(List.getElem?_eq_some_iff.1 hj).1
   rwa [Ui] at this
  rw[hr.cell j hjl,<-Rm l j hjl];exact hj)
 exact⟨_,objs,.row l.length (l.map .s),G,I',rfl,hk,Gh.le.refl G,s1,s2,s3,s4⟩
section
variable [Tabs Tryz.prog] {objs:List OB} {K:List OB->AV->Prop}
theorem SM (s:List UInt8) (c:UInt8) (hs:s.length<=1000000) (hk:K objs (.row (AC c s).length ((AC c s).map .s))):Ah Tryz.prog 100 [.s s,.i .u8 c.toNat] objs K :=
 jS (vs:=[.string (S s),.int .u8 c.toNat]) _ (JS c s) hk rfl (fun w=>PH (S s) c w (by rw[AL];exact hs))
end
end Go.Proofs.YtbgaknpnkcdbfaaGreatDoor
namespace Go.Proofs.YtbgaknpnkcdbfaaGreatDoor
open Lib renaming hasPrefix->zj, hid->zb, indexByte->jk
open List renaming isPrefixOf_iff_prefix->yb, length->jd, length_nil->qd, length_take->zq, take_zero->jy
open Nat renaming zero_le->zd
structure UriP where
 scheme:List UInt8
 auth:List UInt8
 path:List UInt8
 query:List UInt8
 frag:List UInt8
 hs:Bool
 ha:Bool
 hq:Bool
 hf:Bool
def K8:UriP:=⟨[],[],[],[],[],false,false,false,false⟩
def A8 (l:List UInt8):List UInt8:=(Af 47 l).1
def EJ (c:UInt8):Bool:=Ce c||Av c||AI c [43,45,46]
def Fw:List UInt8->Bool
 | []=>false
 | c::t=>Ce c&&t.all EJ
def E6 (l:List UInt8):Bool:=zj l [47,47]
theorem gL {l:List UInt8} (h:E6 l=true):Lib.trimPrefix l [47,47]=l.drop 2:=by unfold Lib.trimPrefix;rw[if_pos (show zj l [47,47]=true from h)];rfl
theorem fC {l:List UInt8} (h:E6 l=true):2<=l.length:=by
 have:=(yb.1 h).length_le;simpa using this
def Bg (l:List UInt8):List UInt8:=(Af 63 (Af 35 l).1).1
def Ei (l:List UInt8):List UInt8×List UInt8×Bool:=Af 58 (A8 (Bg l))
def Iw (l:List UInt8):List UInt8:=if (Ei l).2.2=true then (Bg l).drop ((Ei l).1.length+1) else Bg l
def ED (r:List UInt8):List UInt8:=if E6 r=true then A8 (r.drop 2) else []
def FN (r:List UInt8):List UInt8:=if E6 r=true then (r.drop 2).drop (ED r).length else r
def AB (l:List UInt8):Int×UriP :=
 if 16384<l.length then (5,K8)
 else if ((Ei l).2.2&&!Fw (Ei l).1)=true then (6,K8)
 else (0,{ scheme:=if (Ei l).2.2=true then (Ei l).1 else [],auth:=ED (Iw l),path:=FN (Iw l),query:=(Af 63 (Af 35 l).1).2.1,frag:=(Af 35 l).2.1,hs:=(Ei l).2.2,ha:=E6 (Iw l),hq:=(Af 63 (Af 35 l).1).2.2,hf:=(Af 35 l).2.2 })
theorem Gs (l:List UInt8):A8 l=l.take (A8 l).length/\(A8 l).length<=l.length:=by
 unfold A8;rcases Fs 47 l with ⟨h1,h2,h3⟩|⟨k,h1,h2,h3,h4⟩
 ·rw[h2];simp
 ·rw[h3];simp;omega
open Go.RowKit
def BL (w:World) (g:Nat) (t:TypeId) (cs:Array Value):Prop:=w.heap[g]? = some (.cells cs t (0,0))
theorem BL.lt {w:World} {g:Nat} {t:TypeId} {cs:Array Value} (h:BL w g t cs):g<w.heap.size:=by
 rcases Nat.lt_or_ge g w.heap.size with h1|h1
 ·exact h1
 ·unfold BL at h;rw[Array.getElem?_eq_none h1] at h;cases h
theorem BL.cell {w:World} {g:Nat} {t:TypeId} {cs:Array Value} (h:BL w g t cs) (i:Nat):w.cell? ⟨g,i,none⟩=cs[i]?:=cell_of_row w g i cs t (0,0) h
theorem BL.frozen {w:World} {g:Nat} {t:TypeId} {cs:Array Value} (h:BL w g t cs) (i:Nat):w.frozen? ⟨g,i,none⟩=false:=by
 unfold BL at h;simp[World.frozen?,h]
theorem BL.new (w:World) (t:TypeId) (cs:Array Value):BL (w.alloc (.cells cs t)) w.heap.size t cs:=heap_alloc_new w _
theorem BL.qb {w w':World} {g:Nat} {t:TypeId} {cs:Array Value} (h:BL w g t cs) (hq:Qb w w'):BL w' g t cs:=(hq.block g h.lt).trans h
theorem BL.alloc {w:World} {g:Nat} {t:TypeId} {cs:Array Value} (h:BL w g t cs) (o:Obj):BL (w.alloc o) g t cs:=(Below.heap_alloc w o g h.lt).trans h
theorem BL.drew {w:World} {g:Nat} {t:TypeId} {cs:Array Value} (h:BL w g t cs):BL w.drew g t cs:=h
theorem BL.drewN {w:World} {g:Nat} {t:TypeId} {cs:Array Value} (h:BL w g t cs) (n:Nat):BL (w.drewN n) g t cs:=h
theorem BL.put {w:World} {g:Nat} {t:TypeId} {cs:Array Value} (h:BL w g t cs) (i:Nat) (u:Value):BL (w.setCell ⟨g,i,none⟩ u) g t (cs.setIfInBounds i u):=by
 unfold BL at h ⊢;simp[World.setCell,Array.getElem?_modify,h]
theorem BL.far {w:World} {g:Nat} {t:TypeId} {cs:Array Value} (h:BL w g t cs) {p:Addr} (hp:g≠p.block) (u:Value):BL (w.setCell p u) g t cs:=(Below.heap_setCell w p u g hp).trans h
theorem BL.at_ (w:World) (t:TypeId) (cs:Array Value) (g:Nat) (h:w.heap.size=g):BL (w.alloc (.cells cs t)) g t cs:=by subst h;exact BL.new w t cs
theorem BL.st {w:World} {g:Nat} {t:TypeId} {cs:Array Value} (h:BL w g t cs) (b o:Nat) (u:Value) (hne:g≠b):BL (w.setCell ⟨b,o,none⟩ u) g t cs:=h.far (p:=⟨b,o,none⟩) hne u
theorem Qb.st {a c:World} (h:Qb a c) (b o:Nat) (u:Value) (hb:a.heap.size<=b):Qb a (c.setCell ⟨b,o,none⟩ u):=h.set (p:=⟨b,o,none⟩) hb u
theorem BL.other {w w':World} {g b:Nat} {t:TypeId} {cs:Array Value} (h:BL w g t cs) (hg:w.grownBy w' (some b)) (hne:g≠b):BL w' g t cs:=(hg.block g h.lt (fun e=>hne (Option.some.inj e))).trans h
theorem P6 (s:ByteArray) (w:World) (hs:s.size<=maxLen) :
  Calls Tryz.prog 88 #[.string s] w fun e w'=>e=.returned (.string (S (A8 s.data.toList)))/\Qb w w':=by
 obtain⟨p,q,b,hcut⟩:∃p q b,Af 47 s.data.toList=(p,q,b):=⟨_,_,_,rfl⟩;have HC:=zb hcut;clear hcut
 go_enter Tryz.func88,Tryz.ntmps88
 go_wp2_with fail
 refine(D7 s 47 _ hs).mono ?_;rintro e w1 ⟨rfl,hq1⟩;rw[HC.out];unfold DD
 go_wp2_with fail
 go_ret
 exact⟨OP (by unfold A8;rw[HC.out]),hq1⟩
theorem lF (s:ByteArray) (w:World) (hs:s.size<=maxLen) :
  Calls Tryz.prog 85 #[.string s] w fun e w'=>e=.returned (.int .i64 (jk (A8 s.data.toList) 58))/\Qb w w':=by
 go_enter Tryz.func85,Tryz.ntmps85
 go_wp2_with fail
 refine(P6 s _ hs).mono ?_;rintro e w1 ⟨rfl,hq1⟩
 go_wp2_with fail
 refine(Tryz.strings_IndexByte _ _ _).mono ?_;rintro e w2 ⟨rfl,rfl⟩
 go_wp2_with fail
 go_ret
 exact⟨rfl,hq1⟩
def DU (l:List UInt8):Bool:=match l with | []=>true|c::t=>Ce c&&t.all EJ
theorem Un (l:List UInt8) (x:UInt8):DU (l++[x])=(DU l&&(if l=[] then Ce x else EJ x)):=by
 rcases l with _|⟨c,t⟩
 ·simp[DU]
 ·simp[DU,Bool.and_assoc]
theorem S5 {l:List UInt8} {k:Nat} (h:DU (l.take k)=false):DU l=false:=by
 rcases l with _|⟨c,t⟩
 ·simp[DU] at h
 ·rcases k with _|k
  ·simp[DU] at h
  ·rw[List.take_succ_cons] at h;have h':(Ce c&&(t.take k).all EJ)=false:=h;show (Ce c&&t.all EJ)=false;rcases hc:Ce c with _|_
   ·rfl
   ·rw[hc,Bool.true_and] at h';rw[Ig EJ t k h'];rfl
theorem Mp {l:List UInt8} (h:l≠[]):Fw l=DU l:=by
 rcases l with _|⟨c,t⟩
 ·exact absurd rfl h
 ·rfl
theorem Ob {l:List UInt8} {c:UInt8}:jk l c<0↔AI c l=false:=by
 unfold AI;rcases Fs c l with ⟨h1,h2,h3⟩|⟨k,h1,h2,h3,h4⟩
 ·rw[h1];simp[h3]
 ·rw[h1];have:=List.mem_of_getElem? h4;simp[this]
theorem kE (s:ByteArray) (w:World) (hs:s.size<=maxLen) :
  Calls Tryz.prog 86 #[.string s] w fun e w'=>e=.returned (.bool (Fw s.data.toList))/\w=w':=by
 unfold maxLen at hs
 go_enter Tryz.func86,Tryz.ntmps86
 go_wp2_with fail
 go_loop [6] (fun i=>∃k:Nat,k<=s.size/\i=.int .i64 k/\Hid (DU (s.data.toList.take k)=true)) (fun i=>s.size - (intOf i).toNat)
 case atStart=>exact⟨0,zd _,rfl,zb rfl⟩
 case round=>
  obtain⟨k,hk,rfl,HT⟩:=hrel
  by_cases hlt:k<s.size
  ·have hne:Hid (s.data.toList≠[]):=zb (fun e=>by have:=Ay s;rw[e] at this;simp at this;omega);have hstep:DU (s.data.toList.take (k+1))=(if s.data.toList.take k=[] then Ce s[k] else EJ s[k]):=by
    rw[Ic s k hlt,Un,HT.out,Bool.true_and]
   have hbad:DU (s.data.toList.take (k+1))=false->Hid (Fw s.data.toList=false):=fun h=>zb (by rw[Mp hne.out,S5 h]);rcases ha:Ce s[k] with _|_
   ·by_cases hk0:k=0
    ·subst hk0;have HB:=hbad (by rw[hstep,jy,if_pos rfl,ha]);have H1:=zb ha;clear ha hstep hbad
     go_wp2_with fail
     refine(Gq _ _).mono ?_;rintro e w' ⟨rfl,rfl⟩;rw[H1.out]
     go_wp2_with fail
     go_ret
     exact⟨Bi (by rw[HB.out]),rfl⟩
    ·have hkb:((k:Int)==0)=false:=by rw[beq_eq_false_iff_ne];omega
     have htk:s.data.toList.take k≠[]:=fun e=>by have:=congrArg jd e;rw[zq,Ay,qd] at this;omega
     rw[if_neg htk] at hstep;rcases hd:Av s[k] with _|_
     ·rcases hi:AI s[k] [43,45,46] with _|_
      ·have HB:=hbad (by rw[hstep];unfold EJ;rw[ha,hd,hi];rfl);have hidx:jk [43,45,46] s[k]<0:=Ob.2 hi;have H1:=zb ha;have H2:=zb hd;clear ha hd hi hstep hbad hk0 htk
       go_wp2_with fail
       refine(Gq _ _).mono ?_;rintro e w' ⟨rfl,rfl⟩;rw[H1.out]
       go_wp2_with fail
       refine(Fa _ _).mono ?_;rintro e w' ⟨rfl,rfl⟩;rw[H2.out]
       go_wp2_with fail
       refine(Tryz.strings_IndexByte _ _ _).mono ?_;rintro e w2 ⟨rfl,rfl⟩;rw[AO,Vv]
       go_wp2_with fail
       go_ret
       exact⟨Bi (by rw[HB.out]),rfl⟩
      ·have HB:Hid (DU (s.data.toList.take (k+1))=true):=zb (by rw[hstep];unfold EJ;rw[ha,hd,hi];rfl);have hidx:0<=jk [43,45,46] s[k]:=by
        by_cases h:jk [43,45,46] s[k]<0
        ·rw[Ob.1 h] at hi;cases hi
        ·omega
       have H1:=zb ha;have H2:=zb hd;clear ha hd hi hstep hbad hk0 htk
       go_wp2_with fail
       refine(Gq _ _).mono ?_;rintro e w' ⟨rfl,rfl⟩;rw[H1.out]
       go_wp2_with fail
       refine(Fa _ _).mono ?_;rintro e w' ⟨rfl,rfl⟩;rw[H2.out]
       go_wp2_with fail
       refine(Tryz.strings_IndexByte _ _ _).mono ?_;rintro e w2 ⟨rfl,rfl⟩;rw[AO,Vv]
       go_wp2_with fail
       go_round
       case rel=>exact⟨k+1,by omega,by go_num,HB⟩
       case measure=>simp[intOf];omega
     ·have HB:Hid (DU (s.data.toList.take (k+1))=true):=zb (by rw[hstep];unfold EJ;rw[ha,hd];rfl);have H1:=zb ha;have H2:=zb hd;clear ha hd hstep hbad hk0 htk
      go_wp2_with fail
      refine(Gq _ _).mono ?_;rintro e w' ⟨rfl,rfl⟩;rw[H1.out]
      go_wp2_with fail
      refine(Fa _ _).mono ?_;rintro e w' ⟨rfl,rfl⟩;rw[H2.out]
      go_wp2_with fail
      go_round
      case rel=>exact⟨k+1,by omega,by go_num,HB⟩
      case measure=>simp[intOf];omega
   ·have HB:Hid (DU (s.data.toList.take (k+1))=true):=zb (by rw[hstep];unfold EJ;rw[ha];split<;>rfl)
    have H1:=zb ha;clear ha hstep hbad
    go_wp2_with fail
    refine(Gq _ _).mono ?_;rintro e w' ⟨rfl,rfl⟩;rw[H1.out]
    go_wp2_with fail
    go_round
    case rel=>exact⟨k+1,by omega,by go_num,HB⟩
    case measure=>simp[intOf];omega
  ·have HE:=zb (Fu s k hlt)
   by_cases h0:s.size=0
   ·obtain rfl:s=S []:=GL h0;clear h0 hs hk hlt HE HT
    go_wp2_with fail
    go_ret
    exact⟨rfl,rfl⟩
   ·have hne:s.data.toList≠[]:=fun e=>by have:=Ay s;rw[e] at this;simp at this;omega
    have he1:s.toList.isEmpty=false:=by rw[ByteArray.toList_eq];simpa using hne
    have HB:Hid (Fw s.data.toList=true):=zb (by rw[Mp hne,<-HE.out,HT.out]);clear hne h0
    go_wp2_with fail
    go_ret
    exact⟨Bi (by rw[HB.out]),rfl⟩
def Aq (l set:List UInt8):Nat:=l.findIdx fun c=>AI c set
theorem IG (l set:List UInt8):Aq l set<=l.length:=List.findIdx_le_length
theorem XI {l set:List UInt8} {k:Nat} (h:k<l.length) (h1:∀j (hj:j<k),AI (l[j]'(by omega)) set=false) (h2:AI l[k] set=true):Aq l set=k:=by
 unfold Aq;rw[List.findIdx_eq h];exact⟨h2,fun j hj=>by rw[h1 j hj]⟩
theorem eY {l set:List UInt8} (h1:∀j (hj:j<l.length),AI l[j] set=false):Aq l set=l.length:=by
 unfold Aq;rw[List.findIdx_eq_length];intro x hx;obtain⟨j,hj,rfl⟩:=List.getElem_of_mem hx;rw[h1 j hj]
theorem L6 (c:UInt8):∀l,Aq l [c]=(Af c l).1.length
 | []=>rfl
 | x::t=>by
  have ih:=L6 c t;unfold Aq at ih ⊢;rw[List.findIdx_cons,CO,ih]
  by_cases h:x=c
  ·subst h;simp[AI]
  ·rw[if_neg h];have:AI x [c]=false:=by simp[AI,h]
   rw[this];rfl
theorem hQ (s set:ByteArray) (w:World) (hs:s.size<=maxLen) (ha:set.size<=maxLen) :
  Calls Tryz.prog 67 #[.string s,.string set] w fun e w'=>e=.returned (.int .i64 (Aq s.data.toList set.data.toList))/\w=w':=by
 have hm:=hs;unfold maxLen at hm
 go_enter Tryz.func67,Tryz.ntmps67
 go_wp2_with fail
 go_loop [5] (fun i=>∃k:Nat,k<=s.size/\i=.int .i64 k/\Hid (∀j (hj:j<s.size),j<k->AI s[j] set.data.toList=false)) (fun i=>s.size - (intOf i).toNat)
 case atStart=>exact⟨0,zd _,rfl,zb (fun j hj h=>absurd h (Nat.not_lt_zero _))⟩
 case round=>
  obtain⟨k,hk,rfl,HT⟩:=hrel
  by_cases hlt:k<s.size
  ·rcases hb:AI s[k] set.data.toList with _|_
   ·have HB:=zb hb;have HN:Hid (∀j (hj:j<s.size),j<k+1->AI s[j] set.data.toList=false):=zb fun j hj h=>by
     by_cases e:j=k
     ·subst e;exact HB.out
     ·exact HT.out j hj (by omega)
    clear hb
    go_wp2_with fail
    refine(GJ _ _ _ ha).mono ?_;rintro e w' ⟨rfl,rfl⟩;rw[HB.out]
    go_wp2_with fail
    go_round
    case rel=>exact⟨k+1,by omega,by go_num,HN⟩
    case measure=>simp[intOf];omega
   ·have HB:=zb hb;have HN:Hid (Aq s.data.toList set.data.toList=k):=zb (XI (by rw[Ay];exact hlt) (fun j hj=>HT.out j (by omega) hj) hb);clear hb
    go_wp2_with fail
    refine(GJ _ _ _ ha).mono ?_;rintro e w' ⟨rfl,rfl⟩;rw[HB.out]
    go_wp2_with fail
    go_ret
    exact⟨EP (by rw[HN.out]),rfl⟩
  ·have HN:Hid (Aq s.data.toList set.data.toList=s.size):=zb (by
    rw[eY (fun j hj=>HT.out j (by rw[Ay] at hj;exact hj) (by rw[Ay] at hj;omega)),Ay])
   go_wp2_with fail
   go_ret
   exact⟨EP (by rw[HN.out]),rfl⟩
theorem SI (s p:List UInt8):zj s p=(s.take p.length==p):=by
 unfold zj;rw[Bool.eq_iff_iff,yb,beq_iff_eq]
 constructor
 ·rintro⟨t,rfl⟩;simp
 ·intro h;exact⟨s.drop p.length,by have:=List.take_append_drop p.length s;rw[h] at this;exact this⟩
theorem iX (s p:ByteArray) (w:World) (hs:s.size<=maxLen) :
  Calls Tryz.prog 98 #[.string s,.string p] w fun e w'=>e=.returned (.bool (zj s.data.toList p.data.toList))/\w=w':=by
 unfold maxLen at hs
 by_cases h:p.size<=s.size
 ·have HP:Hid (zj s.data.toList p.data.toList=((s.extract 0 p.size).toList==p.toList)):=zb (by
   rw[SI,ByteArray.toList_eq,ByteArray.toList_eq,PS,AO,Ay])
  go_enter Tryz.func98,Tryz.ntmps98
  go_wp2_with fail
  go_ret
  exact⟨Bi (by rw[HP.out]),rfl⟩
 ·have HP:Hid (zj s.data.toList p.data.toList=false):=zb (by
   rw[SI,beq_eq_false_iff_ne];intro e;have:=congrArg jd e;rw[zq,Ay,Ay] at this;omega)
  have h2:s.size<p.size:=by omega
  clear h
  go_enter Tryz.func98,Tryz.ntmps98
  go_wp2_with fail
  go_ret
  exact⟨Bi (by rw[HP.out]),rfl⟩
theorem jC (s:ByteArray) (w:World) (hs:s.size<=maxLen) :
  Calls Tryz.prog 151 #[.string s] w fun e w'=>e=.returned (.bool (Fw s.data.toList))/\w=w':=by
 unfold maxLen at hs
 go_enter Tryz.func151,Tryz.ntmps151
 go_wp2_with fail
 go_loop [3] (fun i=>∃k:Nat,k<=s.size/\i=.int .i64 k/\Hid (DU (s.data.toList.take k)=true)) (fun i=>s.size - (intOf i).toNat)
 case atStart=>exact⟨0,zd _,rfl,zb rfl⟩
 case round=>
  obtain⟨k,hk,rfl,HT⟩:=hrel
  by_cases hlt:k<s.size
  ·have hne:Hid (s.data.toList≠[]):=zb (fun e=>by have:=Ay s;rw[e] at this;simp at this;omega);have hstep:DU (s.data.toList.take (k+1))=(if s.data.toList.take k=[] then Ce s[k] else EJ s[k]):=by
    rw[Ic s k hlt,Un,HT.out,Bool.true_and]
   have hbad:DU (s.data.toList.take (k+1))=false->Hid (Fw s.data.toList=false):=fun h=>zb (by rw[Mp hne.out,S5 h]);rcases ha:Ce s[k] with _|_
   ·by_cases hk0:k=0
    ·subst hk0;have HB:=hbad (by rw[hstep,jy,if_pos rfl,ha]);have H1:=zb ha;clear ha hstep hbad
     go_wp2_with fail
     refine(FY _ _).mono ?_;rintro e w' ⟨rfl,rfl⟩;rw[H1.out]
     go_wp2_with fail
     go_ret
     exact⟨Bi (by rw[HB.out]),rfl⟩
    ·have hkb:((k:Int)==0)=false:=by rw[beq_eq_false_iff_ne];omega
     have htk:s.data.toList.take k≠[]:=fun e=>by have:=congrArg jd e;rw[zq,Ay,qd] at this;omega
     rw[if_neg htk] at hstep;rcases hd:Av s[k] with _|_
     ·rcases hi:AI s[k] [43,45,46] with _|_
      ·have HB:=hbad (by rw[hstep];unfold EJ;rw[ha,hd,hi];rfl);have H1:=zb ha;have H2:=zb hd;have H3:=zb hi;clear ha hd hi hstep hbad hk0 htk
       go_wp2_with fail
       refine(FY _ _).mono ?_;rintro e w' ⟨rfl,rfl⟩;rw[H1.out]
       go_wp2_with fail
       refine(FZ _ _).mono ?_;rintro e w' ⟨rfl,rfl⟩;rw[H2.out]
       go_wp2_with fail
       refine(GJ _ _ _ (by decide)).mono ?_;rintro e w2 ⟨rfl,rfl⟩;rw[AO,H3.out]
       go_wp2_with fail
       go_ret
       exact⟨Bi (by rw[HB.out]),rfl⟩
      ·have HB:Hid (DU (s.data.toList.take (k+1))=true):=zb (by rw[hstep];unfold EJ;rw[ha,hd,hi];rfl);have H1:=zb ha;have H2:=zb hd;have H3:=zb hi;clear ha hd hi hstep hbad hk0 htk
       go_wp2_with fail
       refine(FY _ _).mono ?_;rintro e w' ⟨rfl,rfl⟩;rw[H1.out]
       go_wp2_with fail
       refine(FZ _ _).mono ?_;rintro e w' ⟨rfl,rfl⟩;rw[H2.out]
       go_wp2_with fail
       refine(GJ _ _ _ (by decide)).mono ?_;rintro e w2 ⟨rfl,rfl⟩;rw[AO,H3.out]
       go_wp2_with fail
       go_round
       case rel=>exact⟨k+1,by omega,by go_num,HB⟩
       case measure=>simp[intOf];omega
     ·have HB:Hid (DU (s.data.toList.take (k+1))=true):=zb (by rw[hstep];unfold EJ;rw[ha,hd];rfl);have H1:=zb ha;have H2:=zb hd;clear ha hd hstep hbad hk0 htk
      go_wp2_with fail
      refine(FY _ _).mono ?_;rintro e w' ⟨rfl,rfl⟩;rw[H1.out]
      go_wp2_with fail
      refine(FZ _ _).mono ?_;rintro e w' ⟨rfl,rfl⟩;rw[H2.out]
      go_wp2_with fail
      go_round
      case rel=>exact⟨k+1,by omega,by go_num,HB⟩
      case measure=>simp[intOf];omega
   ·have HB:Hid (DU (s.data.toList.take (k+1))=true):=zb (by rw[hstep];unfold EJ;rw[ha];split<;>rfl)
    have H1:=zb ha;clear ha hstep hbad
    go_wp2_with fail
    refine(FY _ _).mono ?_;rintro e w' ⟨rfl,rfl⟩;rw[H1.out]
    go_wp2_with fail
    go_round
    case rel=>exact⟨k+1,by omega,by go_num,HB⟩
    case measure=>simp[intOf];omega
  ·have HE:=zb (Fu s k hlt)
   by_cases h0:s.size=0
   ·obtain rfl:s=S []:=GL h0;clear h0 hs hk hlt HE HT
    go_wp2_with fail
    go_ret
    exact⟨rfl,rfl⟩
   ·have hne:s.data.toList≠[]:=fun e=>by have:=Ay s;rw[e] at this;simp at this;omega
    have he1:s.toList.isEmpty=false:=by rw[ByteArray.toList_eq];simpa using hne
    have HB:Hid (Fw s.data.toList=true):=zb (by rw[Mp hne,<-HE.out,HT.out]);clear hne h0
    go_wp2_with fail
    go_ret
    exact⟨Bi (by rw[HB.out]),rfl⟩
end Go.Proofs.YtbgaknpnkcdbfaaGreatDoor
namespace Go.Proofs.YtbgaknpnkcdbfaaGreatDoor
open Lib renaming decDigits->xj
theorem X4 {m:Nat} (h:m<10):xj m=[UInt8.ofNat (48+m)]:=Lib.decDigits_one h
theorem aB {m:Nat} (h:¬m<10):xj m=xj (m / 10)++[UInt8.ofNat (48+m % 10)]:=by
 rw[xj,dif_neg h]
open Go.RowKit Go.Sort
def Pw (w : World) : Prop := Lib.TabIs Tryz.prog w "internal/strconv.uint64pow10" .u64 Lib.pow10Tab
theorem Pw.keep {w w':World} (h:Pw w) (hq:Qb w w'):Pw w':=Lib.tabBelow_of_tabIs h w' hq
theorem Pw.drew {w:World} (h:Pw w):Pw w.drew:=h
theorem Pw.alloc {w:World} (h:Pw w) (o:Obj):Pw (w.alloc o):=Lib.tabIs_alloc h o
theorem Yn (w:World) (k:Nat) (os:Array Obj):Qb w (grow (w.drewN k) os):=Lib.below_grow w.heap.size w (Nat.le_refl _) k os
end Go.Proofs.YtbgaknpnkcdbfaaGreatDoor
namespace Go.Proofs.YtbgaknpnkcdbfaaGreatDoor
open Go.RowKit
open Lib renaming decDigits->xj, hid->zb
theorem aS (x:Nat) (t:List UInt8):(strOfNums [48+(x:Int)]++S t:ByteArray)=S (UInt8.ofNat (48+x)::t):=by
 rw[<-Ir (strOfNums [48+(x:Int)]++S t),ByteArray.data_append,Array.toList_append,strOfNums_data];have:(48+(x:Int)).toNat=48+x:=by omega
 simp[this]
set_option maxHeartbeats 1000000 in
theorem lB (u:Nat) (hu64:u<18446744073709551616) (w:World) :
  Calls Tryz.prog 70 #[.int .u64 u] w fun e w'=>e=.returned (.string (S (xj u)))/\Qb w w':=by
 go_enter Tryz.func70,Tryz.ntmps70
 go_wp2_with fail
 go_loopw [0,3] (fun n s wr=>∃(m:Nat) (t:List UInt8),m<=u/\n=.int .u64 m/\s=.string (S t)/\Hid (xj u=xj m++t)/\Qb w wr) (fun n _ _=>(intOf n).toNat)
 case atStart=>exact⟨u,[],Nat.le_refl _,rfl,rfl,zb (by simp),Qb.refl w⟩
 case round=>
  obtain⟨m,t,hm,rfl,rfl,HD,hq⟩:=hrel;have hst:=KB wr [48+(m:Int) % 10] 1 rfl;simp only[List.map_cons,List.map_nil] at hst;have HC:Hid ((strOfNums [48+(m:Int) % 10]++S t:ByteArray)=S (UInt8.ofNat (48+m % 10)::t)):=zb (aS (m % 10) t);have hsz:(S t).size<=30:=by
   have h1:=congrArg List.length HD.out;rw[List.length_append,Lib.decDigits_length] at h1;have h2:=Lib.nDigits_le20 u hu64;rw[AL];omega
  have hsx:(strOfNums [48+(m:Int) % 10]).size<=1:=by rw[<-Ay,strOfNums_data];simp
  by_cases h10:m<10
  ·have HN:Hid (xj u=UInt8.ofNat (48+m % 10)::t):=zb (by rw[HD.out,X4 h10,Nat.mod_eq_of_lt h10];rfl);have hz:((m:Int) / 10==0)=true:=by rw[beq_iff_eq];omega
   clear HD
   go_wp2_with fail
   go_ret
   exact⟨NW (by rw[HN.out,HC.out]),hq.alloc _⟩
  ·have HN:Hid (xj u=xj (m / 10)++(UInt8.ofNat (48+m % 10)::t)):=zb (by rw[HD.out,aB h10,List.append_assoc];rfl);have hz:((m:Int) / 10==0)=false:=by rw[beq_eq_false_iff_ne];omega
   clear HD
   go_wp2_with fail
   go_roundw
   case rel=>exact⟨m / 10,_,by omega,by go_num,congrArg Value.string HC.out,HN,hq.alloc _⟩
   case measure=>simp[intOf];omega
end Go.Proofs.YtbgaknpnkcdbfaaGreatDoor
