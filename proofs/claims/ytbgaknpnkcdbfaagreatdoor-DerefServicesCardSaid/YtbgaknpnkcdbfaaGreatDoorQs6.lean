/- The texts that the proofs of these statements reach, in their order, as few files. -/
import Derived.Test.YtbgaknpnkcdbfaaGreatDoorQs5
set_option linter.unusedVariables false
set_option linter.unusedSimpArgs false
set_option maxRecDepth 100000
namespace Go.Proofs.YtbgaknpnkcdbfaaGreatDoor
open Lib renaming hasPrefix->zj
open List renaming Perm->jf, all_cons->jn, all_eq_true->zw, append_assoc->zu, append_nil->qm, cons_append->ja, drop_eq_getElem_cons->jq, drop_succ_cons->yd, eq_nil_of_length_eq_zero->qz, flatMap_cons->y7, getElem?_append_left->qh, getElem?_eq_getElem->zk, getElem?_eq_some_iff->zf, getElem?_map->je, getElem?_set->za, getElem?_set_ne->zo, getElem?_set_self->zm, getElem_mem->jg, isPrefixOf_iff_prefix->yb, length->jd, length_append->zg, length_cons->zp, length_drop->zr, length_map->qk, length_nil->qd, length_set->zh, length_take->zq, map_append->ji, map_cons->zl, mem_append->qc, mem_cons->zv, mem_cons_of_mem->qp, mem_iff_getElem->y5, mem_map->jr, mem_singleton->xy, nil_append->qo, nodup_cons->xz, not_mem_nil->ju, sublist_cons_self->jp, take_length->jh, take_succ_eq_append_getElem->xk
open Nat renaming le_refl->ze, le_trans->qg, lt_or_ge->zx, zero_le->zd
def CP (c:UInt8):Bool:=c==37||idB c
theorem fS {a b:UInt8} (r:List UInt8) (ha:a≠58) (hb:b≠58) {p:List UInt8} {ps:List (List UInt8)} (h:AC 58 r=p::ps):AC 58 (37::a::b::r)=(37::a::b::p)::ps:=by
 rw[Fz,if_neg (by decide),Fz,if_neg ha,Fz,if_neg hb,h]
theorem ZV (c:UInt8) (out:List UInt8) (h:D3 c C2=true):Bb C2 out c false=(0,out++[c]):=Fx rfl h
theorem Sm {c:UInt8} (t out:List UInt8) (hc:c≠37) (h:D3 c C2=true):Ao (Bb C2) 0 (c::t) out=Ao (Bb C2) 0 t (out++[c]):=by
 rw[Ao,if_neg hc,ZV c out h,if_pos rfl]
theorem Yz (a b:UInt8) (r out:List UInt8) (he:BF (37::a::b::r)=true):Ao (Bb C2) 0 (37::a::b::r) out=Ao (Bb C2) 0 r (out++(if BY (Bj (37::a::b::r))=true then [Bj (37::a::b::r)] else BX (Bj (37::a::b::r)))):=by
 rw[Ao,if_pos rfl,if_pos he];rcases hu:BY (Bj (37::a::b::r)) with _|_
 ·rw[JE hu,if_pos rfl,FV,if_neg Bool.false_ne_true];rfl
 ·rw[Fx (by rw[hu];rfl) (JU hu),if_pos rfl,FV,if_pos rfl];rfl
theorem gR (v:UInt8):EO (if BY v=true then [v] else BX v)=if idB v=true then [v] else BX v:=by
 have hf:=IX v;rcases hu:BY v with _|_
 ·rw[if_neg Bool.false_ne_true,hf.2.2.1 hu,if_neg Bool.false_ne_true,gK]
 ·rw[if_pos rfl]
  by_cases h:v=126
  ·subst h;decide
  ·rw[hf.2.1 hu h,if_pos rfl,Pu h]
theorem gZ:∀(n:Nat) (l p:List UInt8) (ps:List (List UInt8)),l.length<=n->AC 58 l=p::ps->((Bz l).1=0↔∀q∈p::ps,(Bz q).1=0) /\
  (l.all DN=true->(Bz l).1=0->∀out,∃y,Ao (Bb C2) 0 l out=(0,out++y)/\EO y=BR (Bz p).2++ps.flatMap fun q=>58::BR (Bz q).2):=by
 intro n
 induction n with
 | zero=>
  intro l p ps hl hs;obtain rfl:l=[]:=qz (by omega);obtain⟨rfl,rfl⟩:p=[]/\ps=[]:=by
   have:AC 58 []=[[]]:=rfl;rw[this] at hs;injection hs with h1 h2;exact⟨h1.symm,h2.symm⟩
  exact⟨by simp,fun _ _ out=>⟨[],by rw[Ao,qm],rfl⟩⟩
 | succ n ih=>
  intro l p ps hl hs
  cases l with
  | nil=>
   obtain⟨rfl,rfl⟩:p=[]/\ps=[]:=by
    have:AC 58 []=[[]]:=rfl;rw[this] at hs;injection hs with h1 h2;exact⟨h1.symm,h2.symm⟩
   exact⟨by simp,fun _ _ out=>⟨[],by rw[Ao,qm],rfl⟩⟩
  | cons c t=>
   simp only[zp] at hl
   by_cases hc:c=37
   ·subst hc;rcases he:BF (37::t) with _|_
    ·obtain⟨p',ps',e'⟩:=Ev 58 t;rw[Fz,if_neg (by decide),e'] at hs;injection hs with h1 h2
     have hb:=JB he;have hp:BF p=false:=by
      rw[<-h1];rcases hq:BF (37::p') with _|_
      ·rfl
      ·obtain⟨a,b,r,rfl⟩:=Hi hq;have hx:(A9 a&&A9 b)=true:=hq;have ht:t=a::b::t.drop 2:=by
        have h3:AC 58 t=(a::b::r)::ps':=e';rw[Gt] at h3;rcases Fs 58 t with ⟨_,h4,_⟩|⟨k,_,hk,h4,_⟩
        ·rw[h4] at h3;simp only[Bool.false_eq_true,if_false,List.cons.injEq] at h3;rw[h3.1];rfl
        ·rw[h4] at h3;simp only[if_true,List.cons.injEq] at h3;have h5:=h3.1
         match t,k,h5 with
         | [],k,h5=>simp at h5
         | [x],0,h5=>simp at h5
         | [x],k+1,h5=>simp at h5
         | x::y::t,0,h5=>simp at h5
         | x::y::t,1,h5=>simp at h5
         | x::y::t,k+2,h5=>simp at h5;rw[h5.1,h5.2.1];rfl
       rw[ht] at he;have:BF (37::a::b::t.drop 2)=(A9 a&&A9 b):=rfl;rw[this,hx] at he;cases he
     have hpb:(Bz p).1=2:=by rw[<-h1] at hp ⊢;exact JB hp
     exact⟨⟨(fun h=>by rw[hb] at h;cases h),(fun h=>by have:=h p (by simp);rw[hpb] at this;cases this)⟩,(fun _ h=>by rw[hb] at h;cases h)⟩
    ·obtain⟨a,b,r,rfl⟩:=Hi he;have hx:A9 a=true/\A9 b=true:=by
      have:(A9 a&&A9 b)=true:=he;simpa using this
     have ha:=((IX a).2.2.2.2 hx.1).1;have hb:=((IX b).2.2.2.2 hx.2).1;obtain⟨p',ps',e'⟩:=Ev 58 r;rw[fS r ha hb e'] at hs;injection hs with h1 h2
     subst h1 h2;have hep:BF (37::a::b::p')=true:=he;have hv:Bj (37::a::b::p')=Bj (37::a::b::r):=rfl;obtain⟨i1,i2⟩:=ih r p' ps' (by simp at hl;omega) e';have d1:=IE he;have d2:=IE hep;refine⟨?_,fun hall h0 out=>?_⟩
     ·rw[d1.1,i1];simp only[zv,forall_eq_or_imp,d2.1]
     ·rw[d1.1] at h0;have hall':r.all DN=true:=by
       simp only[jn,Bool.and_eq_true] at hall;exact hall.2.2.2
      obtain⟨y,y1,y2⟩:=i2 hall' h0 (out++(if BY (Bj (37::a::b::r))=true then [Bj (37::a::b::r)] else BX (Bj (37::a::b::r))));have hp0:=(i1.1 h0) p' (by simp);refine⟨(if BY (Bj (37::a::b::r))=true then [Bj (37::a::b::r)] else BX (Bj (37::a::b::r)))++y,?_,?_⟩
      ·rw[Yz a b r out he,y1,zu]
      ·rw[Qj,gR,y2,d2.2 hp0,hv,Ib,zu]
   ·by_cases h58:c=58
    ·subst h58;obtain⟨p',ps',e'⟩:=Ev 58 t;rw[Fz,if_pos rfl,e'] at hs;injection hs with h1 h2
     subst h1 h2;obtain⟨i1,i2⟩:=ih t p' ps' (by omega) e';have d1:=H5 (c:=58) (t:=t) (by decide);refine⟨?_,fun hall h0 out=>?_⟩
     ·rw[d1.1,i1];simp only[zv,forall_eq_or_imp];exact⟨fun h=>⟨rfl,h⟩,fun h=>h.2⟩
     ·rw[d1.1] at h0;have hall':t.all DN=true:=by
       simp only[jn,Bool.and_eq_true] at hall;exact hall.2
      obtain⟨y,y1,y2⟩:=i2 hall' h0 (out++[58]);refine⟨58::y,?_,?_⟩
      ·rw[Sm t out (by decide) (by decide),y1,zu];rfl
      ·show EO ([58]++y)=_;rw[Qj,Pu (by decide),y2];simp[BR,Bz,Ao]
    ·obtain⟨p',ps',e'⟩:=Ev 58 t;rw[Fz,if_neg h58,e'] at hs;injection hs with h1 h2
     subst h1 h2;obtain⟨i1,i2⟩:=ih t p' ps' (by omega) e';have d1:=H5 (c:=c) (t:=t) hc;have d2:=H5 (c:=c) (t:=p') hc;refine⟨?_,fun hall h0 out=>?_⟩
     ·rw[d1.1,i1];simp only[zv,forall_eq_or_imp,d2.1]
     ·rw[d1.1] at h0;simp only[jn,Bool.and_eq_true] at hall;have hid:idB c=true:=by
       have:=hall.1;unfold DN at this;simp only[Bool.or_eq_true,beq_iff_eq] at this;rcases this with (h|h)|h
       ·exact absurd h hc
       ·exact h
       ·exact absurd h h58
      have hf:=(IX c).1 hid;obtain⟨y,y1,y2⟩:=i2 hall.2 h0 (out++[c]);have hp0:=(i1.1 h0) p' (by simp);refine⟨c::y,?_,?_⟩
      ·rw[Sm t out hc hf.1,y1,zu];rfl
      ·show EO ([c]++y)=_;rw[Qj,Pu hf.2.1,y2,d2.2 hp0,Ib,if_pos hid,zu]
theorem Ml:∀l:List UInt8,l.all DN=(AC 58 l).all fun q=>q.all CP
 | []=>rfl
 | c::t=>by
  have ih:=Ml t;obtain⟨p',ps',e'⟩:=Ev 58 t;rw[Fz]
  by_cases h:c=58
  ·subst h;rw[if_pos rfl,jn,ih,jn];rfl
  ·rw[if_neg h,e',jn,ih,e',jn,jn,jn,<-Bool.and_assoc]
   congr 2
   unfold DN CP;have:(c==58)=false:=by simpa using h
   rw[this,Bool.or_false]
theorem TI:∀l:List UInt8,(AC 58 l).getLastD []=[]↔(l=[]\/l.getLast? = some 58)
 | []=>by simp[AC]
 | [c]=>by
  by_cases h:c=58
  ·subst h;simp[AC]
  ·rw[Fz,if_neg h];simp[AC,h]
 | c::d::t=>by
  have ih:=TI (d::t);obtain⟨p',ps',e'⟩:=Ev 58 (d::t);rw[Fz];simp only[reduceCtorEq,false_or,List.getLast?_cons_cons] at ih ⊢;rw[<-ih]
  by_cases h:c=58
  ·subst h;rw[if_pos rfl,e'];simp
  ·rw[if_neg h,e']
   cases ps' with
   | nil=>
    simp only[List.getLastD_cons,List.getLastD_nil];rw[e'] at ih;simp only[List.getLastD_cons,List.getLastD_nil] at ih
    constructor
    ·intro h2;cases h2
    ·intro h2;subst h2;exfalso;have hsp:=Gt 58 (d::t);rw[e'] at hsp
     split at hsp
     ·rename_i h3;injection hsp with _ h4
      have:=JS 58 (Af 58 (d::t)).2.1;rw[<-h4] at this;simp at this
     ·injection hsp with h4 _;cases h4
   | cons q qs=>simp
theorem O3 (l p:List UInt8) (ps:List (List UInt8)) (hl:l.length<=16384) (hs:AC 58 l=p::ps) :
  DY l=if ¬(∀q∈p::ps,(A6 q).1=0) then (2,[]) else if (p::ps).all (fun q=>q.all CP)=false then (1,[]) else if (p::ps).getLastD []=[] then (3,[]) else (0,BJ p++F2 ps):=by
 obtain⟨m1,m2⟩:=gZ l.length l p ps (ze _) hs;have hq:∀q∈p::ps,A6 q=Bz q:=fun q hq=>JG (by
  rw[<-hs] at hq;have:=GQ 58 l q hq;omega)
 have e1:(∀q∈p::ps,(A6 q).1=0)↔(Bz l).1=0:=by
  rw[m1];exact forall_congr' fun q=>forall_congr' fun h=>by rw[hq q h]
 unfold DY;rw[JG hl,<-hs,Ml,hs];have e2:=TI l;rw[hs] at e2
 by_cases h0:(Bz l).1=0
 ·rw[if_neg (show ¬(Bz l).1≠0 from fun h=>h h0),if_neg (show ¬¬(∀q∈p::ps,(A6 q).1=0) from fun h=>h (e1.2 h0))]
  by_cases h1:((p::ps).all fun q=>q.all CP)=false
  ·rw[if_pos h1,if_pos h1]
  ·rw[if_neg h1,if_neg h1]
   by_cases h2:(p::ps).getLastD []=[]
   ·rw[if_pos h2,if_pos (e2.1 h2)]
   ·rw[if_neg h2,if_neg (fun h=>h2 (e2.2 h))];obtain⟨y,y1,y2⟩:=m2 (by rw[Ml,hs];simpa using h1) h0 [];have hn:Am l C2=(0,y):=by
     unfold Am C9;rw[if_neg (by omega),y1];rfl
    rw[hn,if_neg (by simp)];simp only;rw[y2];have e3:BJ p=BR (Bz p).2:=by unfold BJ;rw[hq p (by simp)]
    have e4:F2 ps=ps.flatMap fun q=>58::BR (Bz q).2:=by
     unfold F2;have:∀qs:List (List UInt8),(∀q∈qs,A6 q=Bz q)->qs.flatMap (fun q=>58::BJ q)=qs.flatMap fun q=>58::BR (Bz q).2:=by
      intro qs
      induction qs with
      | nil=>intro _;rfl
      | cons q qs ih=>
       intro h;rw[y7,y7,ih (fun q' h'=>h q' (by simp[h']))];unfold BJ;rw[h q (by simp)]
     exact this ps (fun q h=>hq q (by simp[h]))
    rw[e3,e4]
 ·have h2:(Bz l).1=2:=(X1 l.length l (ze _)).resolve_left h0;rw[if_pos h0,if_pos (by rw[e1];exact h0),h2]
theorem SD:∀d:List UInt8,Bz (BR d)=(0,d)
 | []=>rfl
 | c::d=>by
  have ih:=SD d;rw[Ib]
  by_cases h:idB c=true
  ·rw[if_pos h];have h37:=((IX c).1 h).2.2.2;have d1:=H5 (c:=c) (t:=BR d) h37;show Bz (c::BR d)=_;rw[ih] at d1;have e2:=d1.2 rfl;have:Bz (c::BR d)=((Bz (c::BR d)).1,(Bz (c::BR d)).2):=rfl;rw[this,d1.1,e2]
  ·rw[if_neg h];have he:=RA c (BR d);have d1:=IE (a:=Cb (c.toNat / 16)) (b:=Cb (c.toNat % 16)) (r:=BR d) he.1;have e:BX c++BR d=37::Cb (c.toNat / 16)::Cb (c.toNat % 16)::BR d:=rfl;rw[e];rw[ih] at d1;have e2:=d1.2 rfl;have hv:Bj (37::Cb (c.toNat / 16)::Cb (c.toNat % 16)::BR d)=c:=he.2;rw[hv] at e2;have:Bz (37::Cb (c.toNat / 16)::Cb (c.toNat % 16)::BR d)=((Bz (37::Cb (c.toNat / 16)::Cb (c.toNat % 16)::BR d)).1,(Bz (37::Cb (c.toNat / 16)::Cb (c.toNat % 16)::BR d)).2):=rfl;rw[this,d1.1,e2]
theorem cP:∀n:Fin 256,(BX (UInt8.ofNat n.val)).all (fun c=>CP c&&c != 58)=true:=by decide +kernel
theorem N3:∀d:List UInt8,(BR d).all (fun c=>CP c&&c != 58)=true
 | []=>rfl
 | c::d=>by
  rw[Ib,List.all_append,N3 d,Bool.and_true]
  by_cases h:idB c=true
  ·rw[if_pos h];have hf:=(IX c).1 h;simp[CP,h,hf.2.2.1]
  ·rw[if_neg h];have:=cP ⟨c.toNat,UInt8.toNat_lt c⟩;simpa using this
theorem Ua (d:List UInt8):(58:UInt8)∉BR d:=by
 intro hm;have:=zw.1 (N3 d) 58 hm;simp at this
theorem ZD (d:List UInt8):(BR d).all CP=true:=by
 rw[zw];intro x hx;have:=zw.1 (N3 d) x hx;simp only[Bool.and_eq_true] at this;exact this.1
theorem ZC (d:List UInt8):BR d=[]↔d=[]:=by
 cases d with
 | nil=>exact⟨fun _=>rfl,fun _=>rfl⟩
 | cons c d=>
  rw[Ib]
  constructor
  ·intro h;exfalso;have:=congrArg jd h;rw[zg] at this
   split at this<;>simp[BX] at this
  ·intro h;cases h
def js (ps:List (List UInt8)):List UInt8:=ps.flatMap fun q=>58::q
theorem Tz:∀(s:List UInt8) (l:List (List UInt8)),58∉s->(∀x∈l,(58:UInt8)∉x)->AC 58 (s++js l)=s::l
 | s,[],hs,_=>by
  show AC 58 (s++[])=_;rw[qm,Gt,KL 58 s hs];simp
 | s,x::l,hs,h=>by
  have:s++js (x::l)=s++58::(x++js l):=by simp[js]
  rw[this,Gt,JP 58 s _ hs,if_pos rfl,Tz x l (h x (by simp)) (fun y hy=>h y (by simp[hy]))]
theorem LA (ps:List (List UInt8)):F2 ps=js (ps.map BJ):=by
 unfold F2 js;rw[List.flatMap_map]
theorem PZ {q:List UInt8} (h1:(BJ q).length<=16384):(A6 (BJ q)).1=0/\BJ (BJ q)=BJ q:=by
 have e:A6 (BJ q)=(0,(A6 q).2):=by
  unfold BJ at h1 ⊢;rw[JG h1,SD]
 refine⟨by rw[e],?_⟩;show BR (A6 (BJ q)).2=BJ q;rw[e];rfl
theorem Uz:∀(ps:List (List UInt8)) (q:List UInt8),q∈ps->q.length<=(js ps).length
 | [],q,h=>by cases h
 | p::ps,q,h=>by
  have:js (p::ps)=58::(p++js ps):=by simp[js]
  rw[this,zp,zg];rcases zv.1 h with rfl|h
  ·omega
  ·have:=Uz ps q h;omega
theorem Vp (f:List UInt8->List UInt8):∀(p:List UInt8) (ps:List (List UInt8)),((p::ps).map f).getLastD []=f ((p::ps).getLastD [])
 | p,[]=>by simp
 | p,q::ps=>by
  have:=Vp f q ps;simpa using this
theorem Uf {l i:List UInt8} (hl:l.length<=16384) (hi:i.length<=16384) (h:DY l=(0,i)):DY i=(0,i)/\i.all DN=true:=by
 obtain⟨p,ps,hs⟩:=Ev 58 l;have hp:=O3 l p ps hl hs;rw[h] at hp
 split at hp
 ·cases hp
 ·rename_i g1
  split at hp
  ·cases hp
  ·rename_i g2
   split at hp
   ·cases hp
   ·rename_i g3;injection hp with _ hp
    simp only[Decidable.not_not] at g1;have hsi:AC 58 i=BJ p::ps.map BJ:=by
     rw[hp,LA];exact Tz _ _ (Ua _) (fun x hx=>by
      obtain⟨q,_,rfl⟩:=jr.1 hx;exact Ua _)
    have hlen:∀q∈p::ps,(BJ q).length<=16384:=by
     intro q hq;have hi2:=hi;rw[hp,LA,zg] at hi2;rcases zv.1 hq with rfl|hq
     ·omega
     ·have:=Uz (ps.map BJ) (BJ q) (List.mem_map_of_mem hq);omega
    have hq:=O3 i (BJ p) (ps.map BJ) hi hsi;have c1:∀q∈BJ p::ps.map BJ,(A6 q).1=0:=by
     intro q hq;have:q∈(p::ps).map BJ:=hq;obtain⟨q',h1,rfl⟩:=jr.1 this;exact(PZ (hlen q' h1)).1
    have c2:(BJ p::ps.map BJ).all (fun q=>q.all CP)=true:=by
     rw[zw];intro q hq;have:q∈(p::ps).map BJ:=hq;obtain⟨q',h1,rfl⟩:=jr.1 this;exact ZD _
    have c3:¬(BJ p::ps.map BJ).getLastD []=[]:=by
     have e:=Vp BJ p ps;show ¬((p::ps).map BJ).getLastD []=[];rw[e];intro e2;unfold BJ at e2;rw[ZC] at e2
     apply g3
     have hm:(p::ps).getLastD []∈p::ps:=by
      rw[List.getLastD_eq_getLast?,List.getLast?_eq_some_getLast (by simp)];exact List.getLast_mem _
     generalize (p::ps).getLastD []=q at *;have hql:q.length<=l.length:=GQ 58 l q (by rw[hs];exact hm);have h0:=g1 q hm
     cases q with
     | nil=>rfl
     | cons c t=>
      exfalso;rw[JG (by omega)] at h0 e2
      by_cases hc:c=37
      ·subst hc;rcases he:BF (37::t) with _|_
       ·rw[JB he] at h0;cases h0
       ·obtain⟨a,b,r,rfl⟩:=Hi he;have d1:=IE he;rw[d1.1] at h0;rw[d1.2 h0] at e2;cases e2
      ·have d1:=H5 (c:=c) (t:=t) hc;rw[d1.1] at h0;rw[d1.2 h0] at e2;cases e2
    rw[if_neg (fun h=>h c1),if_neg (by rw[c2];simp),if_neg c3] at hq;refine⟨?_,?_⟩
    ·rw[hq,(PZ (hlen p (by simp))).2,hp]
     congr 2
     rw[LA,LA,List.map_map]
     congr 1
     refine List.map_congr_left fun q hq=>?_;exact(PZ (hlen q (by simp[hq]))).2
    ·rw[Ml,hsi];exact c2
structure CanD (u:DidU):Prop where
 meth:Fv u.meth=true
 id:DY u.id=(0,u.id)
 idb:u.id.all DN=true
 path:Am u.path Bh=(0,u.path)
 slash:u.path=[]\/∃r,u.path=47::r
 query:Am u.query AJ=(0,u.query)
 frag:Am u.frag AJ=(0,u.frag)
 noq:u.hq=false->u.query=[]
 nof:u.hf=false->u.frag=[]
 len:(Du u).length<=4096
theorem pX:∀n:Fin 256,(C6 (UInt8.ofNat n.val)=true->AI (UInt8.ofNat n.val) [58,47,63,35]=false)/\(DN (UInt8.ofNat n.val)=true->AI (UInt8.ofNat n.val) [47,63,35]=false)/\(Hn Bh (UInt8.ofNat n.val)=true->AI (UInt8.ofNat n.val) [63,35]=false)/\(Hn AJ (UInt8.ofNat n.val)=true->UInt8.ofNat n.val≠35):=by decide +kernel
theorem KD (c:UInt8):(C6 c=true->AI c [58,47,63,35]=false)/\(DN c=true->AI c [47,63,35]=false)/\(Hn Bh c=true->AI c [63,35]=false)/\(Hn AJ c=true->c≠35):=by
 have:=pX ⟨c.toNat,UInt8.toNat_lt c⟩;simpa using this
theorem Jr {l cs:List UInt8} {c:UInt8} (h:∀x∈l,AI x cs=false) (hc:AI c cs=true):c∉l:=fun hm=>by
 have:=h c hm;rw[hc] at this;cases this
theorem Xz {m i:List UInt8} (hm:Fv m=true) (hi:i.all DN=true):∀x∈AU m i,AI x [47,63,35]=false:=by
 intro x hx;unfold AU at hx;simp only[qc,zv,ju,or_false] at hx;rcases hx with ((hx|hx)|hx)|hx
 ·have:∀x∈CV,AI x [47,63,35]=false:=by decide
  exact this x hx
 ·unfold Fv at hm;simp only[Bool.and_eq_true] at hm;have:=(KD x).1 (zw.1 hm.1 x hx);unfold AI at this ⊢;simp only[List.contains_cons,List.contains_nil,Bool.or_false,Bool.or_eq_false_iff] at this ⊢;exact this.2
 ·subst hx;decide
 ·exact(KD x).2.1 (zw.1 hi x hx)
theorem X7 {m i:List UInt8} (hm:Fv m=true) (hi:DY i=(0,i)) (hl:(AU m i).length<=4096):Bl (AU m i)=(0,m,i):=by
 have h58:(58:UInt8)∉m:=by
  unfold Fv at hm;simp only[Bool.and_eq_true] at hm;exact Jr (fun x hx=>(KD x).1 (zw.1 hm.1 x hx)) (by decide)
 have hp:zj (AU m i) CV=true:=by
  unfold AU;rw[zu,zu];exact yb.2 (List.prefix_append _ _)
 have hd:(AU m i).drop 4=m++58::i:=by simp[AU,CV]
 unfold Bl;rw[if_neg (by omega),if_neg (by rw[hp];simp),hd,JP 58 m i h58];simp only;rw[hm,hi];simp
theorem CanD.back {u:DidU} (h:CanD u):Ea (Du u)=(0,u):=by
 obtain⟨m,i,pa,qu,fr,hq,hf⟩:=u;have hl:=h.len;have hno:=Xz h.meth h.idb;have npa:∀x∈pa,AI x [63,35]=false:=fun x hx=>(KD x).2.2.1 (zw.1 (VX h.path) x hx);have nqu:(35:UInt8)∉qu:=fun hx=>(KD 35).2.2.2 (zw.1 (VX h.query) 35 hx) rfl;have hs:=h.slash;have hqn:=h.noq;have hfn:=h.nof;simp only at hno hs hqn hfn hl;have f35:(35:UInt8)∉AU m i:=Jr hno (by decide);have f63:(63:UInt8)∉AU m i:=Jr hno (by decide);have f47:(47:UInt8)∉AU m i:=Jr hno (by decide);have p35:(35:UInt8)∉pa:=Jr npa (by decide);have p63:(63:UInt8)∉pa:=Jr npa (by decide);have q35:(35:UInt8)∉(if hq=true then [63]++qu else []):=by
  split
  ·simp[nqu]
  ·simp
 have e35:Af 35 (Du ⟨m,i,pa,qu,fr,hq,hf⟩)=(AU m i++pa++(if hq=true then [63]++qu else []),fr,hf):=by
  unfold Du
  cases hf
  ·have:=hfn rfl;subst this;simp only[Bool.false_eq_true,if_false,qm];exact KL 35 _ (by simp only[qc,not_or];exact⟨⟨f35,p35⟩,q35⟩)
  ·simp only[if_true];have:AU m i++pa++(if hq=true then [63]++qu else [])++([35]++fr)=(AU m i++pa++(if hq=true then [63]++qu else []))++35::fr:=by simp
   rw[this];exact JP 35 _ fr (by simp only[qc,not_or];exact⟨⟨f35,p35⟩,q35⟩)
 have e63:Af 63 (AU m i++pa++(if hq=true then [63]++qu else []))=(AU m i++pa,qu,hq):=by
  cases hq
  ·have:=hqn rfl;subst this;simp only[Bool.false_eq_true,if_false,qm];exact KL 63 _ (by simp only[qc,not_or];exact⟨f63,p63⟩)
  ·simp only[if_true];have:AU m i++pa++([63]++qu)=(AU m i++pa)++63::qu:=by simp
   rw[this];exact JP 63 _ qu (by simp only[qc,not_or];exact⟨f63,p63⟩)
 have eb:Bg (Du ⟨m,i,pa,qu,fr,hq,hf⟩)=AU m i++pa:=by
  unfold Bg;rw[e35];simp only;rw[e63]
 have en:AD (Du ⟨m,i,pa,qu,fr,hq,hf⟩)=AU m i:=by
  unfold AD A8;rw[eb];rcases hs with rfl|⟨r,rfl⟩
  ·rw[qm,KL 47 _ f47]
  ·rw[JP 47 _ r f47]
 have hdl:(AU m i).length<=4096:=by
  unfold Du at hl;simp only[zg] at hl;omega
 unfold Ea;rw[if_neg (by omega),en,X7 h.meth h.id hdl,eb,e35];simp only;rw[e63];simp only;have ed:(AU m i++pa).drop (AU m i).length=pa:=by simp
 rw[ed,h.path,h.query,h.frag];simp
theorem Rd {s m i:List UInt8} (h:Bl s=(0,m,i)):Fv m=true/\∃l,s=AU m l/\DY l=(0,i)/\s.length<=4096:=by
 unfold Bl at h
 split at h
 ·cases h
 ·rename_i g0
  split at h
  ·cases h
  ·rename_i g1
   split at h
   ·cases h
   ·rename_i g2
    split at h
    ·cases h
    ·rename_i g3
     split at h
     ·rename_i g4;injection h with h1 _;exact absurd h1 g4
     ·rename_i g4;simp only[Decidable.not_not] at g4;injection h with _ h
      injection h with h1 h2
      subst h1 h2;simp only[Bool.not_eq_false] at g1 g2 g3;refine⟨g3,(Af 58 (s.drop 4)).2.1,?_,by rw[<-g4],by omega⟩;obtain⟨t,ht⟩:=yb.1 (show List.isPrefixOf CV s=true from g1);have hj:=Hg 58 (s.drop 4);rw[g2,if_pos rfl] at hj;unfold AU;have hd:s.drop 4=t:=by rw[<-ht];simp[CV]
      rw[zu,zu,<-zu _ [58],zu _ [58],<-hj,hd,ht]
theorem tJ {l i:List UInt8} (h:DY l=(0,i)):i.length<=3*l.length:=by
 unfold DY at h
 split at h
 ·rename_i g;injection h with h1 _;exact absurd h1 g
 ·split at h
  ·cases h
  ·split at h
   ·cases h
   ·split at h
    ·rename_i g;injection h with h1 _;exact absurd h1 g
    ·injection h with _ h
     have h1:=Gk l C2;have h2:=UU (Am l C2).2;rw[<-h];omega
theorem CanD.of {s:List UInt8} {u:DidU} (hs:s.length<=1000) (h:Ea s=(0,u)):CanD u:=by
 unfold Ea at h
 split at h
 ·cases h
 ·split at h
  ·rename_i g;injection h with h1 _;exact absurd h1 g
  ·rename_i g1
   split at h
   ·rename_i g;injection h with h1 _;exact absurd h1 g
   ·rename_i g2
    split at h
    ·rename_i g;injection h with h1 _;exact absurd h1 g
    ·rename_i g3
     split at h
     ·rename_i g;injection h with h1 _;exact absurd h1 g
     ·rename_i g4;simp only[Decidable.not_not] at g1 g2 g3 g4;injection h with _ h
      have hd:Bl (AD s)=(0,(Bl (AD s)).2.1,(Bl (AD s)).2.2):=by rw[<-g1]
      obtain⟨k1,l,k2,k3,k4⟩:=Rd hd;have e2:Am ((Bg s).drop (AD s).length) Bh=(0,(Am ((Bg s).drop (AD s).length) Bh).2):=by rw[<-g2]
      have e3:Am (Af 63 (Af 35 s).1).2.1 AJ=(0,(Am (Af 63 (Af 35 s).1).2.1 AJ).2):=by rw[<-g3]
      have e4:Am (Af 35 s).2.1 AJ=(0,(Am (Af 35 s).2.1 AJ).2):=by rw[<-g4]
      have j1:=congrArg jd (Hg 35 s);have j2:=congrArg jd (Hg 63 (Af 35 s).1);have c1:=Gm 35 s;have c2:=Gm 63 (Af 35 s).1;have hnb:=(Gs (Bg s)).2;have hnl:(AD s).length<=(Bg s).length:=hnb;have hbl:(Bg s).length<=(Af 35 s).1.length:=LP 63 _;have h35l:=LP 35 s;have kl:(AD s).length=(Bl (AD s)).2.1.length+l.length+5:=by
       have hk2:=congrArg jd k2;simp only[AU,CV,zg,zp,qd] at hk2;omega
      have il:=tJ k3;have pl:=(E9 _ _ _ e2).2.2;have ql:=(E9 _ _ _ e3).2.2;have fl:=(E9 _ _ _ e4).2.2;rw[zr] at pl;have ia:=Uf (l:=l) (by omega) (by omega) k3;have q0:(Af 63 (Af 35 s).1).2.1.length<=(Af 35 s).1.length:=(EG 63 _).2;have f0:(Af 35 s).2.1.length<=s.length:=(EG 35 _).2;have qs:(Bg s).length+(Af 63 (Af 35 s).1).2.1.length<=(Af 35 s).1.length:=by
       show (Af 63 (Af 35 s).1).1.length+_<=_;rcases hb:(Af 63 (Af 35 s).1).2.2 with _|_
       ·rw[(c2.2.2 hb).1,(c2.2.2 hb).2];simp
       ·have:=c2.2.1 hb;omega
      have fs:(Af 35 s).1.length+(Af 35 s).2.1.length<=s.length:=by
       rcases hb:(Af 35 s).2.2 with _|_
       ·rw[(c1.2.2 hb).1,(c1.2.2 hb).2];simp
       ·have:=c1.2.1 hb;omega
      have hslash:(Am ((Bg s).drop (AD s).length) Bh).2=[]\/∃r,(Am ((Bg s).drop (AD s).length) Bh).2=47::r:=by
       have hx:(Bg s).drop (AD s).length=[]\/∃r,(Bg s).drop (AD s).length=47::r:=by
        unfold AD A8;rcases Fs 47 (Bg s) with ⟨_,h3,_⟩|⟨k,_,hk,h3,h4⟩
        ·rw[h3];left;simp
        ·rw[h3];right;have e:((Bg s).take k).length=k:=by rw[zq];omega
         simp only[e];rw[jq hk];rw[zk hk] at h4;injection h4 with h4
         exact⟨_,by rw[h4]⟩
       rcases hx with hx|⟨r,hx⟩
       ·left;rw[hx];decide
       ·right;rw[hx] at e2 ⊢;have hlen:=KE e2;have hr:Ao (Bb Bh) 0 (47::r) []=(0,(Am (47::r) Bh).2):=by
         have e5:=e2;unfold Am C9 at e5;rw[if_neg (by omega)] at e5;rw[e5];unfold Am C9;rw[if_neg (by omega)]
        have hp1:Ao (Bb Bh) 0 (47::r) []=Ao (Bb Bh) 0 r [47]:=by
         rw[Ao,if_neg (by decide),Fx rfl (by decide),if_pos rfl];rfl
        rw[hp1] at hr;obtain⟨y,a,k5,_⟩:=Pg Bh r.length r [47] _ (ze _) hr;exact⟨y,k5⟩
      rw[<-h];refine⟨k1,ia.1,ia.2,(E9 _ _ _ e2).1,hslash,(E9 _ _ _ e3).1,(E9 _ _ _ e4).1,?_,?_,?_⟩
      ·intro hq;show (Am (Af 63 (Af 35 s).1).2.1 AJ).2=[];rw[(c2.2.2 hq).2];rfl
      ·intro hf;show (Am (Af 35 s).2.1 AJ).2=[];rw[(c1.2.2 hf).2];rfl
      ·unfold Du;simp only[zg];have z1:((if (Af 63 (Af 35 s).1).2.2=true then [63]++(Am (Af 63 (Af 35 s).1).2.1 AJ).2 else []):List UInt8).length<=(Am (Af 63 (Af 35 s).1).2.1 AJ).2.length+1:=by
        split<;>simp
       have z2:((if (Af 35 s).2.2=true then [35]++(Am (Af 35 s).2.1 AJ).2 else []):List UInt8).length<=(Am (Af 35 s).2.1 AJ).2.length+1:=by
        split<;>simp
       have z3:(AU (Bl (AD s)).2.1 (Bl (AD s)).2.2).length=(Bl (AD s)).2.1.length+(Bl (AD s)).2.2.length+5:=by simp[AU,CV];omega
       omega
section
open Go.RowKit Sx
section
variable {objs:List OB} {K:List OB->AV->Prop}
end
theorem CanD.lens {u:DidU} (h:CanD u):u.meth.length<=4096/\u.id.length<=4096/\u.path.length<=4096/\u.query.length<=16384/\u.frag.length<=16384:=by
 have hl:=h.len;have h1:=KE h.query;have h2:=KE h.frag;have h3:=Hh u.meth u.id;unfold Du at hl;simp only[zg] at hl;omega
end
open Nat renaming reduceAdd -> z6, reduceSub -> z7, reduceLeDiff -> z8, reduceLT -> j4, reduceMul -> j5, reduceEqDiff -> j6
open Int renaming reduceToNat -> j7, reduceAdd -> j8, reduceSub -> j9, reduceMul -> x0, reduceNeg -> x6, reduceLT -> x7, reduceLE -> x8, reduceEq -> x9, reduceNe -> y4
open Go.RowKit Sx
def Jb:List (List UInt8)->List UInt8
 | []=>[]
 | p::ps=>BJ p++F2 ps
theorem ZS (xs:List (List UInt8)) (q:List UInt8):Jb (xs++[q])=(if xs=[] then [] else Jb xs++[58])++BJ q:=by
 cases xs with
 | nil=>simp[Jb,F2]
 | cons p ps=>simp[Jb,F2]
theorem S7 (d:List UInt8) (hl:d.length<=16384):DY d=if ¬(∀q∈AC 58 d,(A6 q).1=0) then (2,[]) else if (AC 58 d).all (fun q=>q.all CP)=false then (1,[]) else if (AC 58 d).getLastD []=[] then (3,[]) else (0,Jb (AC 58 d)):=by
 obtain⟨p,ps,h⟩:=Ev 58 d;rw[O3 d p ps hl h,h];rfl
theorem Tu (l:List UInt8):(BR l).length<=3*l.length:=by
 induction l with
 | nil=>exact ze _
 | cons c l ih=>
  rw[Ib,zg,zp]
  split<;>simp only[Mk,zp,qd]<;>omega
theorem QZ (c:UInt8):CP c=(c==37||idB c):=rfl
theorem RI {xs:List (List UInt8)} {p:List UInt8->Prop} (h:∀j (hj:j<xs.length),p xs[j]):∀q∈xs,p q:=by
 intro x hx;obtain⟨j,hj,rfl⟩:=y5.1 hx;exact h j hj
theorem cO (l:List UInt8) (c:UInt8):BR (l++[c])=BR l++(if idB c=true then [c] else BX c):=by simp[BR]
theorem X3 (l:List UInt8) (h:(Bz l).1=0):(Bz l).2.length<=l.length:=by
 have key:∀(n:Nat) (l:List UInt8),l.length<=n->(Bz l).1=0->(Bz l).2.length<=l.length:=by
  intro n
  induction n with
  | zero=>
   intro l hl h;obtain rfl:l=[]:=qz (by omega);exact ze _
  | succ n ih=>
   intro l hl h
   cases l with
   | nil=>exact ze _
   | cons c t=>
    by_cases hc:c=37
    ·subst hc;rcases he:BF (37::t) with _|_
     ·rw[JB he] at h;cases h
     ·obtain⟨a,b,r,rfl⟩:=Hi he;have d:=IE he;rw[d.1] at h;have:=ih r (by simp at hl ⊢;omega) h;rw[d.2 h];simp;omega
    ·have d:=H5 (c:=c) (t:=t) hc;rw[d.1] at h;have:=ih t (by simp at hl;omega) h;rw[d.2 h];simp;omega
 exact key l.length l (ze _) h
section
variable [Tabs Tryz.prog] {objs:List OB} {K:List OB->AV->Prop}
theorem SL (c:UInt8) (hk:K objs (.b (Av c))):Ah Tryz.prog 75 [.i .u8 c.toNat] objs K :=
 conv (vs:=[.int .u8 c.toNat]) rfl rfl (fun w=>(FZ c w).mono (by rintro e w' ⟨rfl,rfl⟩;exact⟨rfl,Qb.refl _⟩)) hk
theorem bY (c:UInt8) (hk:K objs (.b (Ce c))):Ah Tryz.prog 76 [.i .u8 c.toNat] objs K :=
 conv (vs:=[.int .u8 c.toNat]) rfl rfl (fun w=>(FY c w).mono (by rintro e w' ⟨rfl,rfl⟩;exact⟨rfl,Qb.refl _⟩)) hk
theorem Xh (c:UInt8) (s:List UInt8) (hs:s.length<=maxLen) (hk:K objs (.b (AI c s))):Ah Tryz.prog 73 [.i .u8 c.toNat,.s s] objs K :=
 conv (vs:=[.int .u8 c.toNat,.string (S s)]) rfl rfl (fun w=>(GJ c (S s) w (by rw[AL];exact hs)).mono (by rintro e w' ⟨rfl,rfl⟩;exact⟨rfl,Qb.refl _⟩)) hk
theorem eD (c:UInt8) (hk:K objs (.s (BX c))):Ah Tryz.prog 148 [.i .u8 c.toNat] objs K :=
 conv (vs:=[.int .u8 c.toNat]) rfl rfl (fun w=>Vc c w) hk
theorem TO (c:UInt8) (hk:K objs (.b (idB c))):Ah Tryz.prog 102 [.i .u8 c.toNat] objs K:=by
 refine AF lR rfl fun C _=>?_;unfold idB at hk;simp only[VG,Aa,simprocAttr];refine Ae (bY c ?_)
 by_cases h1:Ce c=true
 ·simp only[h1,Bool.true_or] at hk;simp only[h1,Aa,simprocAttr];exact hk
 ·simp only[h1,Aa,simprocAttr];refine Ae (SL c ?_)
  by_cases h2:Av c=true
  ·simp only[h1,h2,Bool.true_or,Bool.or_true,Bool.false_or] at hk;simp only[h2,Aa,simprocAttr];exact hk
  ·simp only[h1,h2,Bool.false_or] at hk;simp only[h2,Aa,simprocAttr];refine Ae (Xh c _ (by decide) ?_);simp only[Aa,simprocAttr];exact hk
set_option maxHeartbeats 4000000 in
theorem iB (s:List UInt8) (hs:s.length<=1000000) (hk:K objs (.b (Fv s))):Ah Tryz.prog 99 [.s s] objs K:=by
 refine AF mQ rfl fun C _=>?_;unfold Fv at hk;simp only[VS,Aa,simprocAttr];refine B4 (fun n objs tm=>∃i:Nat,i<=s.length/\n=s.length - i/\objs=[]/\(∀j (h:j<s.length),j<i->C6 s[j]=true)/\tm.length=29/\tm[0]? = some (.s s)/\tm[3]? = some (.i .i64 i)) s.length ⟨0,zd _,rfl,rfl,fun j h h0=>absurd h0 (by omega),rfl,rfl,rfl⟩ ?_;rintro n _ tm ⟨i,hi,rfl,rfl,hall,hlen,t0,t3⟩
 by_cases hlt:(i:Int)<s.length
 ·have hlt':i<s.length:=by omega
  have hg:=DL hlt';have hfin:C6 s[i]=false->K objs (.b false):=fun h=>by
   rw[LO hlt' h] at hk;exact hk
  have hnext:C6 s[i]=true->∀j (h:j<s.length),j<i+1->C6 s[j]=true:=by
   intro h j hj hji;rcases zx j i with h1|h1
   ·exact hall j hj h1
   ·have:j=i:=by omega
    subst this;exact h
  simp only[Aa,simprocAttr,za,hlen,t0,t3,hlt];refine⟨by omega,?_⟩;rw[hg];generalize s[i]=c at *;refine Ae (SL c ?_)
  by_cases hd:Av c=true
  ·have hm:C6 c=true:=by unfold C6;rw[hd];rfl
   simp only[hd,Aa,simprocAttr,za,hlen,t0,t3];exact⟨⟨by omega,by omega⟩,s.length - (i+1),by omega,i+1,by omega,rfl,hnext hm,rfl⟩
  ·simp only[Bool.not_eq_true] at hd;have hm:=R5 c hd
   by_cases h97:((c.toNat:Nat):Int)<97
   ·have hm2:C6 c=false:=by rw[hm,decide_eq_false (by omega)];rfl
    simp only[hd,hg,h97,Aa,simprocAttr,za,hlen,t0,t3];exact⟨⟨by omega,by omega⟩,hfin hm2⟩
   ·by_cases h122:(122:Int)<((c.toNat:Nat):Int)
    ·have hm2:C6 c=false:=by rw[hm,decide_eq_false (p:=c.toNat<=122) (by omega),Bool.and_false]
     simp only[hd,hg,h97,h122,Aa,simprocAttr,za,hlen,t0,t3];exact⟨⟨by omega,by omega⟩,⟨by omega,by omega⟩,hfin hm2⟩
    ·have hm2:C6 c=true:=by rw[hm,decide_eq_true (by omega),decide_eq_true (by omega)];rfl
     simp only[hd,hg,h97,h122,Aa,simprocAttr,za,hlen,t0,t3];exact⟨⟨by omega,by omega⟩,⟨by omega,by omega⟩,⟨by omega,by omega⟩,s.length - (i+1),by omega,i+1,by omega,rfl,hnext hm2,rfl⟩
 ·have hie:i=s.length:=by omega
  subst hie;have ha:s.all C6=true:=Ls fun j h=>hall j h h;rw[ha] at hk;simp only[Aa,simprocAttr,za,hlen,t0,t3,hlt];have e:decide (¬s=[])=(true&&!s.isEmpty):=by cases s<;>simp
  rw[e];exact hk
set_option maxHeartbeats 4000000 in
theorem Vd (s:List UInt8) (hs:s.length<=1000000) (hk:K objs (.s (BR s))):Ah Tryz.prog 103 [.s s] objs K:=by
 refine AF mU rfl fun C _=>?_;simp only[We,Aa,simprocAttr];refine B4 (fun n objs tm=>∃i:Nat,i<=s.length/\n=s.length - i/\objs=[]/\tm.length=29/\tm[0]? = some (.s s)/\tm[3]? = some (.s (BR (s.take i)))/\tm[4]? = some (.i .i64 i)) s.length ⟨0,zd _,rfl,rfl,rfl,rfl,rfl,rfl⟩ ?_;rintro n _ tm ⟨i,hi,rfl,rfl,hlen,t0,t3,t4⟩;have hacc:=Tu (s.take i);rw[zq] at hacc
 by_cases hlt:(i:Int)<s.length
 ·have hlt':i<s.length:=by omega
  have hg:=DL hlt';have hsn:BR (s.take (i+1))=BR (s.take i)++(if idB s[i]=true then [s[i]] else BX s[i]):=by
   rw[xk hlt',cO]
  have hsl:(s.take (i+1)).drop i=[s[i]]:=by
   rw[xk hlt',List.drop_append_of_le_length (by rw[zq];omega)];simp
  generalize s[i]=c at *;simp only[Aa,simprocAttr,za,hlen,t0,t3,t4,hlt,hg];refine⟨by omega,?_⟩;refine Ae (TO c ?_)
  by_cases h:idB c=true
  ·rw[if_pos h] at hsn;simp only[Aa,simprocAttr,za,hlen,t0,t3,t4,h,hg,hsl];exact⟨⟨by omega,by omega⟩,⟨by omega,by omega,by omega⟩,by omega,⟨by omega,by omega⟩,s.length - (i+1),by omega,i+1,by omega,rfl,by rw[hsn],rfl⟩
  ·rw[if_neg h] at hsn;simp only[Aa,simprocAttr,za,hlen,t0,t3,t4,h,hg];refine⟨by omega,?_⟩;refine Ae (eD c ?_);simp only[Aa,simprocAttr,za,hlen,t0,t3,t4,h,hg,Mk];exact⟨by omega,⟨by omega,by omega⟩,s.length - (i+1),by omega,i+1,by omega,rfl,by rw[hsn],rfl⟩
 ·have hie:i=s.length:=by omega
  subst hie;rw[jh] at t3;simp only[Aa,simprocAttr,za,hlen,t0,t3,t4,hlt];exact hk
set_option maxHeartbeats 8000000 in
theorem Vr (s:List UInt8) (hs:s.length<=maxLen) (hk:K objs (.tup [.agg [.s (Bl s).2.1,.s (Bl s).2.2],.i .i64 (Bl s).1])):Ah Tryz.prog 52 [.s s] objs K:=by
 have hm:maxLen=2 ^ 63 - 1:=rfl;refine AF nK rfl fun C _=>?_;unfold Bl at hk
 by_cases c0:(4096:Int)<↑s.length
 ·have c0':4096<s.length:=by omega
  simp only[c0',if_true] at hk;simp only[c0,Qk,Aa,z6,z7,z8,j4,j5,j6,j7,j8,j9,x0,x6,x7,x8,x9,y4,reduceCtorEq,↓reduceIte];exact hk
 ·have c0':¬4096<s.length:=by omega
  simp only[c0',if_false] at hk;simp only[c0,Qk,Aa,z6,z7,z8,j4,j5,j6,j7,j8,j9,x0,x6,x7,x8,x9,y4,reduceCtorEq,↓reduceIte];refine Ae (I1 s CV hs ?_)
  by_cases c1:zj s CV=true
  ·have h4:4<=s.length:=Hf c1;have hdl:(s.drop 4).length<=s.length:=by rw[zr];omega
   simp only[c1,Aa,z6,z7,z8,j4,j5,j6,j7,j8,j9,x0,x6,x7,x8,x9,y4,reduceCtorEq,↓reduceIte] at hk ⊢;refine⟨by omega,?_⟩;generalize s.drop 4=r at *;refine Ae (ES r [58] (by omega) (by decide) ?_);have c58:=He 58 r;have hil:=IG r [58]
   by_cases h58:Aq r [58]<r.length
   ·have e58:=c58.1 h58;rw[e58] at hk;have hne:¬((Aq r [58]:Nat):Int)=((r.length:Nat):Int):=by omega
    have htl:(r.take (Aq r [58])).length<=r.length:=by rw[zq];omega
    have hdl2:(r.drop (Aq r [58]+1)).length<=r.length:=by rw[zr];omega
    simp only[hne,Aa,z6,z7,z8,j4,j5,j6,j7,j8,j9,x0,x6,x7,x8,x9,y4,reduceCtorEq,↓reduceIte] at hk ⊢;refine⟨⟨by omega,by omega⟩,?_⟩;refine Ae (iB _ (by omega) ?_)
    by_cases c2:Fv (r.take (Aq r [58]))=true
    ·simp only[c2,Aa,z6,z7,z8,j4,j5,j6,j7,j8,j9,x0,x6,x7,x8,x9,y4,reduceCtorEq,↓reduceIte] at hk ⊢;refine⟨⟨by omega,by omega⟩,⟨by omega,by omega⟩,?_⟩;refine Ae (SM _ 58 (by omega) ?_);have hid:=S7 (r.drop (Aq r [58]+1)) (by omega);have hxl:=JR 58 (r.drop (Aq r [58]+1));have hxp:=JS 58 (r.drop (Aq r [58]+1));have hxs:∀q∈AC 58 (r.drop (Aq r [58]+1)),q.length<=4096:=fun q hq=>by
      have:=GQ 58 _ q hq;omega
     generalize DY (r.drop (Aq r [58]+1))=ie at hk hid;generalize AC 58 (r.drop (Aq r [58]+1))=xs at hid hxl hxp hxs ⊢;have hb:Aq r [58]<=r.length:=hil;clear c58 e58 hil hne;generalize Aq r [58]=ix at *;simp only[Aa,z6,z7,z8,j4,j5,j6,j7,j8,j9,x0,x6,x7,x8,x9,y4,reduceCtorEq,↓reduceIte];refine B4 (fun n objs tm=>∃i:Nat,i<=xs.length/\n=xs.length - i/\objs=[.box 23 [.s [],.s []]]/\(∀j (h:j<xs.length),j<i->(A6 xs[j]).1=0)/\tm.length=113/\tm[0]? = some (.s r)/\tm[2]? = some (.p 0 0)/\tm[4]? = some (.i .i64 ix)/\tm[5]? = some (.row xs.length (xs.map .s))/\tm[46]? = some (.row xs.length (xs.map .s))/\tm[47]? = some (.i .i64 xs.length)/\tm[48]? = some (.i .i64 i)) xs.length ⟨0,zd _,rfl,rfl,fun j h h0=>absurd h0 (by omega),rfl,rfl,rfl,rfl,rfl,rfl,rfl,rfl⟩ ?_;rintro n _ tm ⟨i,hi,rfl,rfl,hall,hlen,t0,t2,t4,t5,t46,t47,t48⟩
     by_cases hlt:(i:Int)<xs.length
     ·have hlt':i<xs.length:=by omega
      have hx:(xs.map AV.s)[i]? = some (.s xs[i]):=by simp
      have hni:(A6 xs[i]).1≠0->K objs (.tup [.agg [.s [],.s []],.i .i64 2]):=fun h=>by
       rw[if_pos (fun h2=>h (h2 _ (jg hlt')))] at hid;rw[hid] at hk;simp only[Aa,z6,z7,z8,j4,j5,j6,j7,j8,j9,x0,x6,x7,x8,x9,y4,reduceCtorEq,↓reduceIte] at hk;exact hk
      have hnext:(A6 xs[i]).1=0->∀j (h:j<xs.length),j<i+1->(A6 xs[j]).1=0:=by
       intro h j hj hji;rcases zx j i with h1|h1
       ·exact hall j hj h1
       ·have:j=i:=by omega
        subst this;exact h
      clear hk;generalize xs[i]=q at *;simp only[Aa,z6,z7,z8,j4,j5,j6,j7,j8,j9,x0,x6,x7,x8,x9,y4,reduceCtorEq,↓reduceIte,za,hlen,t0,t2,t4,t5,t46,t47,t48,hlt];refine⟨⟨by omega,by simp⟩,?_⟩;rw[Nat.mul_one,hx];simp only[Aa,z6,z7,z8,j4,j5,j6,j7,j8,j9,x0,x6,x7,x8,x9,y4,reduceCtorEq,↓reduceIte,za,hlen,t0,t2,t4,t5,t46,t47,t48];refine Ae (UZ q ?_)
      by_cases hd:(A6 q).1=0
      ·simp only[Aa,z6,z7,z8,j4,j5,j6,j7,j8,j9,x0,x6,x7,x8,x9,y4,reduceCtorEq,↓reduceIte,za,hlen,t0,t2,t4,t5,t46,t47,t48,hd];exact⟨⟨by omega,by omega⟩,xs.length - (i+1),by omega,i+1,by omega,rfl,hnext hd,rfl⟩
      ·simp only[Aa,z6,z7,z8,j4,j5,j6,j7,j8,j9,x0,x6,x7,x8,x9,y4,reduceCtorEq,↓reduceIte,za,hlen,t0,t2,t4,t5,t46,t47,t48,hd];exact hni hd
     ·have hie:i=xs.length:=by omega
      subst hie;have hdec:∀q∈xs,(A6 q).1=0:=RI fun j h=>hall j h h;rw[if_neg (fun h=>h hdec)] at hid;simp only[Aa,z6,z7,z8,j4,j5,j6,j7,j8,j9,x0,x6,x7,x8,x9,y4,reduceCtorEq,↓reduceIte,za,hlen,t0,t2,t4,t5,t46,t47,t48,hlt];refine B4 (fun n objs tm=>∃i:Nat,∃acc:List UInt8,i<=xs.length/\n=xs.length - i/\objs=[.box 23 [.s [],.s []]]/\(∀j (h:j<xs.length),j<i->xs[j].all CP=true)/\acc=Jb (xs.take i)/\acc.length<=i*20000/\tm.length=113/\tm[0]? = some (.s r)/\tm[2]? = some (.p 0 0)/\tm[4]? = some (.i .i64 ix)/\tm[5]? = some (.row xs.length (xs.map .s))/\tm[10]? = some (.s acc)/\tm[61]? = some (.row xs.length (xs.map .s))/\tm[62]? = some (.i .i64 xs.length)/\tm[63]? = some (.i .i64 i)) xs.length ⟨0,[],zd _,rfl,rfl,fun j h h0=>absurd h0 (by omega),rfl,by simp,(by simp only[Aa,z6,z7,z8,j4,j5,j6,j7,j8,j9,x0,x6,x7,x8,x9,y4,reduceCtorEq,↓reduceIte,za,hlen];try rfl),(by simp only[Aa,z6,z7,z8,j4,j5,j6,j7,j8,j9,x0,x6,x7,x8,x9,y4,reduceCtorEq,↓reduceIte,za,hlen,t0];try rfl),(by simp only[Aa,z6,z7,z8,j4,j5,j6,j7,j8,j9,x0,x6,x7,x8,x9,y4,reduceCtorEq,↓reduceIte,za,hlen,t2];try rfl),(by simp only[Aa,z6,z7,z8,j4,j5,j6,j7,j8,j9,x0,x6,x7,x8,x9,y4,reduceCtorEq,↓reduceIte,za,hlen,t4];try rfl),(by simp only[Aa,z6,z7,z8,j4,j5,j6,j7,j8,j9,x0,x6,x7,x8,x9,y4,reduceCtorEq,↓reduceIte,za,hlen,t5];try rfl),(by simp only[Aa,z6,z7,z8,j4,j5,j6,j7,j8,j9,x0,x6,x7,x8,x9,y4,reduceCtorEq,↓reduceIte,za,hlen];try rfl),(by simp only[Aa,z6,z7,z8,j4,j5,j6,j7,j8,j9,x0,x6,x7,x8,x9,y4,reduceCtorEq,↓reduceIte,za,hlen];try rfl),(by simp only[Aa,z6,z7,z8,j4,j5,j6,j7,j8,j9,x0,x6,x7,x8,x9,y4,reduceCtorEq,↓reduceIte,za,hlen];try rfl),(by simp only[Aa,z6,z7,z8,j4,j5,j6,j7,j8,j9,x0,x6,x7,x8,x9,y4,reduceCtorEq,↓reduceIte,za,hlen];try rfl)⟩ ?_;clear hall hlt t0 t2 t4 t5 t46 t47 t48 hlen tm;rintro n _ tm ⟨i,acc,hi,rfl,rfl,hall,hacc,hal,hlen,t0,t2,t4,t5,t10,t61,t62,t63⟩
      by_cases hlt:(i:Int)<xs.length
      ·have hlt':i<xs.length:=by omega
       have hx:(xs.map AV.s)[i]? = some (.s xs[i]):=by simp
       have hql:xs[i].length<=4096:=hxs _ (jg hlt');have hni:xs[i].all CP=false->K objs (.tup [.agg [.s [],.s []],.i .i64 1]):=fun h=>by
        have:(xs.all fun q=>q.all CP)=false:=by
         rw[Bool.eq_false_iff];intro e;have:=zw.1 e _ (jg hlt');rw[h] at this;cases this
        rw[if_pos this] at hid;rw[hid] at hk;simp only[Aa,z6,z7,z8,j4,j5,j6,j7,j8,j9,x0,x6,x7,x8,x9,y4,reduceCtorEq,↓reduceIte] at hk;exact hk
       have hnext:xs[i].all CP=true->∀j (h:j<xs.length),j<i+1->xs[j].all CP=true:=by
        intro h j hj hji;rcases zx j i with h1|h1
        ·exact hall j hj h1
        ·have:j=i:=by omega
         subst this;exact h
       have htk:Jb (xs.take (i+1))=(if xs.take i=[] then [] else acc++[58])++BJ xs[i]:=by
        rw[xk hlt',ZS,hacc]
       have htn:xs.take i=[]↔i=0:=by
        rw[List.take_eq_nil_iff]
        constructor
        ·rintro(h|h)
         ·exact h
         ·rw[h] at hxp;simp at hxp
        ·exact fun h=>.inl h
       have hdq:=hdec _ (jg hlt');have hdl3:(A6 xs[i]).2.length<=4096:=by
        have h2:(A6 xs[i]).2.length<=xs[i].length:=by
         rw[JG (by omega)] at hdq ⊢;exact X3 _ hdq
        omega
       have hpl:(BR (A6 xs[i]).2).length<=13000:=by
        have h1:=Tu (A6 xs[i]).2;omega
       clear hk hid hall hacc hxs hdec;have hpe:BJ xs[i]=BR (A6 xs[i]).2:=rfl;generalize xs[i]=q at *;simp only[Aa,z6,z7,z8,j4,j5,j6,j7,j8,j9,x0,x6,x7,x8,x9,y4,reduceCtorEq,↓reduceIte,za,hlen,t0,t2,t4,t5,t10,t61,t62,t63,hlt];refine⟨⟨by omega,by simp⟩,?_⟩;rw[Nat.mul_one,hx];simp only[Aa,z6,z7,z8,j4,j5,j6,j7,j8,j9,x0,x6,x7,x8,x9,y4,reduceCtorEq,↓reduceIte,za,hlen,t0,t2,t4,t5,t10,t61,t62,t63];refine B4 (fun n objs tm=>∃k:Nat,k<=q.length/\n=q.length - k/\objs=[.box 23 [.s [],.s []]]/\(∀j (h:j<q.length),j<k->CP q[j]=true)/\tm.length=113/\tm[0]? = some (.s r)/\tm[2]? = some (.p 0 0)/\tm[4]? = some (.i .i64 ix)/\tm[5]? = some (.row xs.length (xs.map .s))/\tm[10]? = some (.s acc)/\tm[11]? = some (.i .i64 i)/\tm[12]? = some (.s q)/\tm[13]? = some (.i .i64 k)/\tm[61]? = some (.row xs.length (xs.map .s))/\tm[62]? = some (.i .i64 xs.length)/\tm[63]? = some (.i .i64 i)) q.length ⟨0,zd _,rfl,rfl,fun j h h0=>absurd h0 (by omega),(by simp only[Aa,z6,z7,z8,j4,j5,j6,j7,j8,j9,x0,x6,x7,x8,x9,y4,reduceCtorEq,↓reduceIte,za,hlen];try rfl),(by simp only[Aa,z6,z7,z8,j4,j5,j6,j7,j8,j9,x0,x6,x7,x8,x9,y4,reduceCtorEq,↓reduceIte,za,hlen,t0];try rfl),(by simp only[Aa,z6,z7,z8,j4,j5,j6,j7,j8,j9,x0,x6,x7,x8,x9,y4,reduceCtorEq,↓reduceIte,za,hlen,t2];try rfl),(by simp only[Aa,z6,z7,z8,j4,j5,j6,j7,j8,j9,x0,x6,x7,x8,x9,y4,reduceCtorEq,↓reduceIte,za,hlen,t4];try rfl),(by simp only[Aa,z6,z7,z8,j4,j5,j6,j7,j8,j9,x0,x6,x7,x8,x9,y4,reduceCtorEq,↓reduceIte,za,hlen,t5];try rfl),(by simp only[Aa,z6,z7,z8,j4,j5,j6,j7,j8,j9,x0,x6,x7,x8,x9,y4,reduceCtorEq,↓reduceIte,za,hlen,t10];try rfl),(by simp only[Aa,z6,z7,z8,j4,j5,j6,j7,j8,j9,x0,x6,x7,x8,x9,y4,reduceCtorEq,↓reduceIte,za,hlen];try rfl),(by simp only[Aa,z6,z7,z8,j4,j5,j6,j7,j8,j9,x0,x6,x7,x8,x9,y4,reduceCtorEq,↓reduceIte,za,hlen];try rfl),(by simp only[Aa,z6,z7,z8,j4,j5,j6,j7,j8,j9,x0,x6,x7,x8,x9,y4,reduceCtorEq,↓reduceIte,za,hlen];try rfl),(by simp only[Aa,z6,z7,z8,j4,j5,j6,j7,j8,j9,x0,x6,x7,x8,x9,y4,reduceCtorEq,↓reduceIte,za,hlen,t61];try rfl),(by simp only[Aa,z6,z7,z8,j4,j5,j6,j7,j8,j9,x0,x6,x7,x8,x9,y4,reduceCtorEq,↓reduceIte,za,hlen,t62];try rfl),(by simp only[Aa,z6,z7,z8,j4,j5,j6,j7,j8,j9,x0,x6,x7,x8,x9,y4,reduceCtorEq,↓reduceIte,za,hlen,t63];try rfl)⟩ ?_;clear hx t0 t2 t4 t5 t10 t61 t62 t63 hlen tm;rintro n _ tm ⟨k,hk1,rfl,rfl,hall,hlen,t0,t2,t4,t5,t10,t11,t12,t13,t61,t62,t63⟩
       by_cases hkl:(k:Int)<q.length
       ·have hkl':k<q.length:=by omega
        have hg:=DL hkl';have hbad:CP q[k]=false->K objs (.tup [.agg [.s [],.s []],.i .i64 1]):=fun h=>hni (LO hkl' h);have hgood:CP q[k]=true->∀j (h:j<q.length),j<k+1->CP q[j]=true:=by
         intro h j hj hji;rcases zx j k with h1|h1
         ·exact hall j hj h1
         ·have:j=k:=by omega
          subst this;exact h
        generalize q[k]=c at *;have hpp:=QZ c;simp only[Aa,z6,z7,z8,j4,j5,j6,j7,j8,j9,x0,x6,x7,x8,x9,y4,reduceCtorEq,↓reduceIte,za,hlen,t0,t2,t4,t5,t10,t11,t12,t13,t61,t62,t63,hkl,hg];refine⟨by omega,?_⟩;refine Ae (TO c ?_)
        by_cases hid:idB c=true
        ·simp only[Aa,z6,z7,z8,j4,j5,j6,j7,j8,j9,x0,x6,x7,x8,x9,y4,reduceCtorEq,↓reduceIte,za,hlen,t0,t2,t4,t5,t10,t11,t12,t13,t61,t62,t63,hg,hid];have hpt:CP c=true:=by rw[hpp,hid,Bool.or_true]
         exact⟨⟨by omega,by omega⟩,q.length - (k+1),by omega,k+1,by omega,rfl,hgood hpt,rfl⟩
        ·simp only[Bool.not_eq_true] at hid;rw[hid,Bool.or_false] at hpp
         by_cases h37:c=37
         ·have e37:((c.toNat:Nat):Int)=37:=by rw[h37];rfl
          have hpt:CP c=true:=by rw[hpp,h37];rfl
          simp only[Aa,z6,z7,z8,j4,j5,j6,j7,j8,j9,x0,x6,x7,x8,x9,y4,reduceCtorEq,↓reduceIte,za,hlen,t0,t2,t4,t5,t10,t11,t12,t13,t61,t62,t63,hg,hid,e37];exact⟨⟨by omega,by omega⟩,⟨by omega,by omega⟩,q.length - (k+1),by omega,k+1,by omega,rfl,hgood hpt,rfl⟩
         ·have e37:¬((c.toNat:Nat):Int)=37:=fun e=>h37 (UInt8.toNat_inj.1 (by have:(37:UInt8).toNat=37:=rfl;omega));have hpf:CP c=false:=by rw[hpp];simpa using h37
          simp only[Aa,z6,z7,z8,j4,j5,j6,j7,j8,j9,x0,x6,x7,x8,x9,y4,reduceCtorEq,↓reduceIte,za,hlen,t0,t2,t4,t5,t10,t11,t12,t13,t61,t62,t63,hg,hid,e37];exact⟨⟨by omega,by omega⟩,hbad hpf⟩
       ·have hqa:q.all CP=true:=Ls fun j h=>hall j h (by omega);simp only[Aa,z6,z7,z8,j4,j5,j6,j7,j8,j9,x0,x6,x7,x8,x9,y4,reduceCtorEq,↓reduceIte,za,hlen,t0,t2,t4,t5,t10,t11,t12,t13,t61,t62,t63,hkl];refine Ae (UZ q ?_)
        by_cases hi0:i=0
        ·subst hi0;have hgt:¬(0:Int)<((0:Nat):Int):=by decide
         rw[if_pos (htn.2 rfl)] at htk;have hac:acc.length<=0:=by omega
         obtain rfl:acc=[]:=qz (by omega);simp only[Aa,z6,z7,z8,j4,j5,j6,j7,j8,j9,x0,x6,x7,x8,x9,y4,reduceCtorEq,↓reduceIte,za,hlen,t0,t2,t4,t5,t10,t11,t12,t13,t61,t62,t63,hgt];refine Ae (Vd _ (by omega) ?_);simp only[Aa,z6,z7,z8,j4,j5,j6,j7,j8,j9,x0,x6,x7,x8,x9,y4,reduceCtorEq,↓reduceIte,za,hlen,t0,t2,t4,t5,t10,t11,t12,t13,t61,t62,t63];exact⟨by omega,⟨by omega,by omega⟩,xs.length - 1,by omega,1,_,by omega,rfl,hnext hqa,by rw[htk,hpe];rfl,by omega,rfl,rfl⟩
        ·have hgt:(0:Int)<((i:Nat):Int):=by omega
         rw[if_neg (fun h=>hi0 (htn.1 h))] at htk;simp only[Aa,z6,z7,z8,j4,j5,j6,j7,j8,j9,x0,x6,x7,x8,x9,y4,reduceCtorEq,↓reduceIte,za,hlen,t0,t2,t4,t5,t10,t11,t12,t13,t61,t62,t63,hgt];have hib:i*20000<=100000000:=by omega
         refine⟨by omega,?_⟩;refine Ae (Vd _ (by omega) ?_);simp only[Aa,z6,z7,z8,j4,j5,j6,j7,j8,j9,x0,x6,x7,x8,x9,y4,reduceCtorEq,↓reduceIte,za,hlen,t0,t2,t4,t5,t10,t11,t12,t13,t61,t62,t63];exact⟨by omega,⟨by omega,by omega⟩,xs.length - (i+1),by omega,i+1,_,by omega,rfl,hnext hqa,by rw[htk,hpe],by simp only[zg,zp,qd];omega,rfl,rfl⟩
      ·have hie:i=xs.length:=by omega
       subst hie;have hal2:(xs.all fun q=>q.all CP)=true:=zw.2 (RI fun j h=>hall j h h);rw[if_neg (by rw[hal2];simp)] at hid;have hlast:xs.getLastD []=xs[xs.length - 1]:=V2 xs [] hxp;have hxn:(xs.map AV.s)[((xs.length:Int) - 1).toNat*1]? = some (.s xs[xs.length - 1]):=by
        rw[show ((xs.length:Int) - 1).toNat*1=xs.length - 1 by omega,je,zk (by omega)];rfl
       rw[jh] at hacc;simp only[Aa,z6,z7,z8,j4,j5,j6,j7,j8,j9,x0,x6,x7,x8,x9,y4,reduceCtorEq,↓reduceIte,za,hlen,t0,t2,t4,t5,t10,t61,t62,t63,hlt];refine⟨⟨by omega,by omega⟩,⟨by omega,by omega,by simp⟩,?_⟩;rw[hxn];rw[hlast] at hid
       by_cases hz:xs[xs.length - 1]=[]
       ·rw[if_pos hz] at hid;rw[hid] at hk;simp only[Aa,z6,z7,z8,j4,j5,j6,j7,j8,j9,x0,x6,x7,x8,x9,y4,reduceCtorEq,↓reduceIte,za,hlen,t0,t2,t4,t5,t10,t61,t62,t63,hz] at hk ⊢;exact hk
       ·rw[if_neg hz] at hid;rw[hid] at hk;simp only[Aa,z6,z7,z8,j4,j5,j6,j7,j8,j9,x0,x6,x7,x8,x9,y4,reduceCtorEq,↓reduceIte] at hk;simp only[Aa,z6,z7,z8,j4,j5,j6,j7,j8,j9,x0,x6,x7,x8,x9,y4,reduceCtorEq,↓reduceIte,za,hlen,t0,t2,t4,t5,t10,t61,t62,t63,hz];refine⟨⟨by omega,by omega⟩,?_⟩;rw[hacc];exact hk
    ·simp only[c2,Aa,z6,z7,z8,j4,j5,j6,j7,j8,j9,x0,x6,x7,x8,x9,y4,reduceCtorEq,↓reduceIte] at hk ⊢;exact hk
   ·have e58:=c58.2 h58;rw[e58] at hk;have hne:((Aq r [58]:Nat):Int)=((r.length:Nat):Int):=by omega
    simp only[hne,Aa,z6,z7,z8,j4,j5,j6,j7,j8,j9,x0,x6,x7,x8,x9,y4,reduceCtorEq,↓reduceIte] at hk ⊢;exact hk
  ·simp only[c1,Aa,z6,z7,z8,j4,j5,j6,j7,j8,j9,x0,x6,x7,x8,x9,y4,reduceCtorEq,↓reduceIte] at hk ⊢;exact hk
end
theorem OD:∀s:List UInt8,s.take (Aq s [47,63,35])=AD s/\Aq s [47,63,35]=(AD s).length
 | []=>⟨rfl,rfl⟩
 | c::t=>by
  have ih:=OD t;rw[KM]
  by_cases h35:c=35
  ·subst h35;have:AD (35::t)=[]:=by simp[AD,Bg,CO,A8,Af]
   rw[this];simp[AI]
  ·by_cases h63:c=63
   ·subst h63;have:AD (63::t)=[]:=by simp[AD,Bg,CO,A8,Af]
    rw[this];simp[AI]
   ·by_cases h47:c=47
    ·subst h47;have:AD (47::t)=[]:=by simp[AD,Bg,CO,A8]
     rw[this];simp[AI]
    ·have hb:AI c [47,63,35]=false:=by simp[AI,h35,h63,h47]
     have:AD (c::t)=c::AD t:=by simp[AD,Bg,CO,A8,h35,h63,h47]
     rw[hb,if_neg Bool.false_ne_true,this,List.take_succ_cons,ih.1,ih.2];exact⟨rfl,rfl⟩
theorem cM (s:List UInt8):(Af 35 (s.drop (AD s).length)).1=(Af 35 s).1.drop (AD s).length/\(Af 35 (s.drop (AD s).length)).2=(Af 35 s).2:=by
 induction s with
 | nil=>exact⟨rfl,rfl⟩
 | cons c t ih=>
  by_cases h35:c=35
  ·subst h35;have:AD (35::t)=[]:=by simp[AD,Bg,CO,A8,Af]
   rw[this];simp
  ·by_cases h63:c=63
   ·subst h63;have:AD (63::t)=[]:=by simp[AD,Bg,CO,A8,Af]
    rw[this];simp
   ·by_cases h47:c=47
    ·subst h47;have:AD (47::t)=[]:=by simp[AD,Bg,CO,A8]
     rw[this];simp
    ·have:AD (c::t)=c::AD t:=by simp[AD,Bg,CO,A8,h35,h63,h47]
     rw[this,zp,yd,CO,if_neg h35];exact⟨by rw[ih.1];rfl,ih.2⟩
theorem iT (s:List UInt8):(Af 63 ((Af 35 s).1.drop (AD s).length)).1=(Bg s).drop (AD s).length/\(Af 63 ((Af 35 s).1.drop (AD s).length)).2=(Af 63 (Af 35 s).1).2:=by
 induction s with
 | nil=>exact⟨rfl,rfl⟩
 | cons c t ih=>
  by_cases h35:c=35
  ·subst h35;have:AD (35::t)=[]:=by simp[AD,Bg,CO,A8,Af]
   rw[this];simp[Bg]
  ·by_cases h63:c=63
   ·subst h63;have:AD (63::t)=[]:=by simp[AD,Bg,CO,A8,Af]
    rw[this];simp[Bg]
   ·by_cases h47:c=47
    ·subst h47;have:AD (47::t)=[]:=by simp[AD,Bg,CO,A8]
     rw[this];simp[Bg]
    ·have hn:AD (c::t)=c::AD t:=by simp[AD,Bg,CO,A8,h35,h63,h47]
     have hb:Bg (c::t)=c::Bg t:=by simp[Bg,CO,h35,h63]
     rw[hn,hb,zp,CO,if_neg h35];simp only[yd];rw[CO,if_neg h63];exact ih
theorem Zy (s:List UInt8):(AD s).length<=s.length:=by
 have:=(OD s).2;have h:=IG s [47,63,35];omega
section
variable [Tabs Tryz.prog] {objs:List OB} {K:List OB->AV->Prop}
set_option maxHeartbeats 8000000 in
theorem Pj (s:List UInt8) (hs:s.length<=maxLen) (hk:K objs (.tup [A7 (Ea s).2,.i .i64 (Ea s).1])):Ah Tryz.prog 186 [.s s] objs K:=by
 have hm:maxLen=2 ^ 63 - 1:=rfl;refine AF lQ rfl fun C _=>?_;unfold Ea at hk
 by_cases c0:(4096:Int)<↑s.length
 ·have c0':4096<s.length:=by omega
  simp only[c0',if_true,A7,CI] at hk;simp only[c0,P5,Aa,simprocAttr];exact hk
 ·have c0':¬4096<s.length:=by omega
  simp only[c0',if_false] at hk;simp only[c0,P5,Aa,simprocAttr];refine Ae (ES s [47,63,35] (by omega) (by decide) ?_);obtain⟨x1,x2⟩:=OD s;have hnl:=Zy s;have d1:=cM s;have d2:=iT s;rw[x2] at x1;rw[x2];simp only[Aa,simprocAttr];refine⟨⟨by omega,by omega⟩,?_⟩;rw[x1];refine Ae (Vr (AD s) (by omega) ?_);rw[<-d2.1,<-d2.2] at hk;rw[<-d1.1] at hk d2;rw[<-d1.2] at hk;have hrl:(s.drop (AD s).length).length<=s.length:=by rw[zr];omega
  generalize hrest:s.drop (AD s).length=rest at *;generalize hnn:AD s=nm at *;clear d1 d2 x1 x2
  by_cases c1:(Bl nm).1=0
  ·simp only[c1,Aa,simprocAttr] at hk ⊢;refine⟨⟨by omega,by omega⟩,?_⟩;rw[hrest];refine Ae (ES rest [35] (by omega) (by decide) ?_);have c35:=He 35 rest;have hil:=IG rest [35]
   by_cases h35:Aq rest [35]<rest.length
   ·have e35:=c35.1 h35;rw[e35] at hk;have hne:((Aq rest [35]:Nat):Int)<((rest.length:Nat):Int):=by omega
    have hr2:(rest.take (Aq rest [35])).length<=rest.length:=by rw[zq];omega
    simp only[hne,Aa,simprocAttr] at hk ⊢;refine⟨⟨by omega,by omega⟩,⟨by omega,by omega⟩,⟨by omega,by omega⟩,?_⟩;generalize rest.take (Aq rest [35])=r2 at *;generalize rest.drop (Aq rest [35]+1)=fr at hk ⊢;refine Ae (ES r2 [63] (by omega) (by decide) ?_);have c63:=He 63 r2;have hil2:=IG r2 [63]
    by_cases h63:Aq r2 [63]<r2.length
    ·have e63:=c63.1 h63;rw[e63] at hk;have hne2:((Aq r2 [63]:Nat):Int)<((r2.length:Nat):Int):=by omega
     simp only[hne2,Aa,simprocAttr] at hk ⊢;refine⟨⟨by omega,by omega⟩,⟨by omega,by omega⟩,⟨by omega,by omega⟩,?_⟩;have e63':((Aq r2 [63]:Int)+1).toNat=Aq r2 [63]+1:=by omega
     try rw[e63']
     generalize r2.take (Aq r2 [63])=pa at hk ⊢;generalize r2.drop (Aq r2 [63]+1)=qu at hk ⊢;refine Ae (EU pa Bh (by decide) ?_)
     by_cases c2:(Am pa Bh).1=0
     ·simp only[c2,Aa,simprocAttr] at hk ⊢;refine Ae (EU qu AJ (by decide) ?_)
      by_cases c3:(Am qu AJ).1=0
      ·simp only[c3,Aa,simprocAttr] at hk ⊢;refine Ae (EU fr AJ (by decide) ?_)
       by_cases c4:(Am fr AJ).1=0
       ·simp only[c4,A7,Aa,simprocAttr] at hk ⊢;exact hk
       ·simp only[c4,A7,CI,Aa,simprocAttr] at hk ⊢;exact hk
      ·simp only[c3,A7,CI,Aa,simprocAttr] at hk ⊢;exact hk
     ·simp only[c2,A7,CI,Aa,simprocAttr] at hk ⊢;exact hk
    ·have e63:=c63.2 h63;rw[e63] at hk;have hne2:¬((Aq r2 [63]:Nat):Int)<((r2.length:Nat):Int):=by omega
     simp only[hne2,Aa,simprocAttr] at hk ⊢;refine Ae (EU r2 Bh (by decide) ?_)
     by_cases c2:(Am r2 Bh).1=0
     ·simp only[c2,Aa,simprocAttr] at hk ⊢;refine Ae (EU ([]:List UInt8) AJ (by decide) ?_)
      by_cases c3:(Am ([]:List UInt8) AJ).1=0
      ·simp only[c3,Aa,simprocAttr] at hk ⊢;refine Ae (EU fr AJ (by decide) ?_)
       by_cases c4:(Am fr AJ).1=0
       ·simp only[c4,A7,Aa,simprocAttr] at hk ⊢;exact hk
       ·simp only[c4,A7,CI,Aa,simprocAttr] at hk ⊢;exact hk
      ·simp only[c3,A7,CI,Aa,simprocAttr] at hk ⊢;exact hk
     ·simp only[c2,A7,CI,Aa,simprocAttr] at hk ⊢;exact hk
   ·have e35:=c35.2 h35;rw[e35] at hk;have hne:¬((Aq rest [35]:Nat):Int)<((rest.length:Nat):Int):=by omega
    have hr2:rest.length<=rest.length:=ze _;simp only[hne,Aa,simprocAttr] at hk ⊢;refine Ae (ES rest [63] (by omega) (by decide) ?_);have c63:=He 63 rest;have hil2:=IG rest [63]
    by_cases h63:Aq rest [63]<rest.length
    ·have e63:=c63.1 h63;rw[e63] at hk;have hne2:((Aq rest [63]:Nat):Int)<((rest.length:Nat):Int):=by omega
     simp only[hne2,Aa,simprocAttr] at hk ⊢;refine⟨⟨by omega,by omega⟩,⟨by omega,by omega⟩,⟨by omega,by omega⟩,?_⟩;have e63':((Aq rest [63]:Int)+1).toNat=Aq rest [63]+1:=by omega
     try rw[e63']
     generalize rest.take (Aq rest [63])=pa at hk ⊢;generalize rest.drop (Aq rest [63]+1)=qu at hk ⊢;refine Ae (EU pa Bh (by decide) ?_)
     by_cases c2:(Am pa Bh).1=0
     ·simp only[c2,Aa,simprocAttr] at hk ⊢;refine Ae (EU qu AJ (by decide) ?_)
      by_cases c3:(Am qu AJ).1=0
      ·simp only[c3,Aa,simprocAttr] at hk ⊢;refine Ae (EU ([]:List UInt8) AJ (by decide) ?_)
       by_cases c4:(Am ([]:List UInt8) AJ).1=0
       ·simp only[c4,A7,Aa,simprocAttr] at hk ⊢;exact hk
       ·simp only[c4,A7,CI,Aa,simprocAttr] at hk ⊢;exact hk
      ·simp only[c3,A7,CI,Aa,simprocAttr] at hk ⊢;exact hk
     ·simp only[c2,A7,CI,Aa,simprocAttr] at hk ⊢;exact hk
    ·have e63:=c63.2 h63;rw[e63] at hk;have hne2:¬((Aq rest [63]:Nat):Int)<((rest.length:Nat):Int):=by omega
     simp only[hne2,Aa,simprocAttr] at hk ⊢;refine Ae (EU rest Bh (by decide) ?_)
     by_cases c2:(Am rest Bh).1=0
     ·simp only[c2,Aa,simprocAttr] at hk ⊢;refine Ae (EU ([]:List UInt8) AJ (by decide) ?_)
      by_cases c3:(Am ([]:List UInt8) AJ).1=0
      ·simp only[c3,Aa,simprocAttr] at hk ⊢;refine Ae (EU ([]:List UInt8) AJ (by decide) ?_)
       by_cases c4:(Am ([]:List UInt8) AJ).1=0
       ·simp only[c4,A7,Aa,simprocAttr] at hk ⊢;exact hk
       ·exact absurd c3 c4
      ·simp only[c3,A7,CI,Aa,simprocAttr] at hk ⊢;exact hk
     ·simp only[c2,A7,CI,Aa,simprocAttr] at hk ⊢;exact hk
  ·simp only[c1,A7,CI,Aa,simprocAttr] at hk ⊢;exact hk
set_option maxHeartbeats 4000000 in
theorem iY (m i r:List UInt8) (h1:m.length<=200000000) (h2:i.length<=200000000) (hr:r.length<=200000000) (hk:K objs (.tup [A7 (B1 m i r).2,.i .i64 (B1 m i r).1])):Ah Tryz.prog 149 [.agg [.s m,.s i],.s r] objs K:=by
 have hm:maxLen=2 ^ 63 - 1:=rfl;have hl:=Hh m i;refine AF mV rfl fun C _=>?_;unfold B1 at hk;simp only[Wf,Aa,simprocAttr];refine Ae (I1 r CV (by omega) ?_)
 by_cases c1:zj r CV=true
 ·simp only[c1,Aa,simprocAttr] at hk ⊢;refine Ae (Pj r (by omega) ?_);simp only[A7,Aa,simprocAttr] at hk ⊢;exact hk
 ·cases r with
  | nil=>
   simp only[c1,Aa,simprocAttr] at hk ⊢;refine Ae (I7 m i (by omega) (by omega) ?_);simp only[Aa,simprocAttr];refine⟨by omega,?_⟩;refine Ae (Pj _ (by omega) ?_);simp only[A7,Aa,simprocAttr,true_or] at hk ⊢;exact hk
  | cons c t=>
   simp only[c1,Aa,simprocAttr,List.head?_cons,Option.some.injEq,false_or] at hk;simp only[c1,Aa,simprocAttr,List.getD_cons_zero];refine⟨by omega,?_⟩;refine Ae (Xh c _ (by decide) ?_)
   by_cases c2:AI c [47,63,35]=true
   ·simp only[c2,Aa,simprocAttr] at hk ⊢;refine Ae (I7 m i (by omega) (by omega) ?_);simp only[Aa,simprocAttr];simp only[zp] at hr;refine⟨by omega,?_⟩;refine Ae (Pj _ (by simp only[zg,zp];omega) ?_);simp only[A7,Aa,simprocAttr] at hk ⊢;exact hk
   ·simp only[c2,Aa,simprocAttr] at hk ⊢;simp only[A7,CI,Aa,simprocAttr] at hk;exact hk
end
section
attribute [local irreducible] run
def Bt (m i:List UInt8) (e:Int):OB:=.box 115 [.s m,.s i,.i .i64 e]
theorem Q4 (m i:List UInt8) (e:Int):FC (Bt m i e):=rfl
theorem FM (e:Int):As e 0=e:=by unfold As;split<;>simp_all
section
variable [Tabs Tryz.prog] {objs:List OB} {K:List OB->AV->Prop}
theorem Ft (m i:List UInt8) (e x:Int) (b:Nat) (hb:objs[b]? = some (Bt m i e)) (hk:K (objs.set b (Bt m i (As e x))) (.tup [])):Ah Tryz.prog 104 [.p b 0,.i .i64 x] objs K:=by
 unfold Bt at hb hk;refine DI nZ fun C _=>?_;rw[WE];unfold As at hk
 by_cases c:e=0
 ·rw[if_pos c] at hk;simp only[Aa,simprocAttr,hb,c];exact hk
 ·rw[if_neg c,set_same hb] at hk;simp only[Aa,simprocAttr,hb,c];exact hk
theorem Mb (m i:List UInt8) (v:JV) (e:Int) (key:List UInt8) (b:Nat) (hv:AY v) (hb:objs[b]? = some (Bt m i e)) (hk:∀o,BH objs o b (Bt m i (As e (Cu v key)))->K o (.s (An v key).1.text)):Ah Tryz.prog 53 [.p b 0,.agg (AP v),.s key] objs K:=by
 have hbl:=(zf.1 hb).1;refine DI oB fun C _=>?_;rw[WF];have ejv:=AZ v;rw[ejv];refine Ac fun Z hZ=>?_;simp only[Aa,simprocAttr];have hE0:=(BH.refl hb).app (.box 30 [.i .i64 v.kind,.s v.text,.row v.keys.length (v.keys.map .s),.row v.items.length (Ak v.items)]);have eV:(objs++[OB.box 30 [.i .i64 v.kind,.s v.text,.row v.keys.length (v.keys.map .s),.row v.items.length (Ak v.items)]])[objs.length]? = some (.box 30 [.i .i64 v.kind,.s v.text,.row v.keys.length (v.keys.map .s),.row v.items.length (Ak v.items)]):=AG _ _;generalize objs++[OB.box 30 [.i .i64 v.kind,.s v.text,.row v.keys.length (v.keys.map .s),.row v.items.length (Ak v.items)]]=o0 at hE0 eV ⊢;subst hZ;refine Ac fun Z hZ=>?_;simp only[Aa,simprocAttr,eV];rw[<-ejv];refine Ae (KU v key hv ?_);unfold Cu at hk;generalize An v key=R at hk ⊢;obtain⟨x,ok⟩:=R;unfold CT;dsimp only at hk ⊢;rw[AZ x];simp only[Aa,simprocAttr,AG,BB];have hE:=hE0.app (.box 30 [.i .i64 x.kind,.s x.text,.row x.keys.length (x.keys.map .s),.row x.items.length (Ak x.items)]);have eX:(o0++[OB.box 30 [.i .i64 x.kind,.s x.text,.row x.keys.length (x.keys.map .s),.row x.items.length (Ak x.items)]])[o0.length]? = some (.box 30 [.i .i64 x.kind,.s x.text,.row x.keys.length (x.keys.map .s),.row x.items.length (Ak x.items)]):=AG _ _;have hol:=hE0.2.1;generalize o0.length=q at eX hol ⊢;generalize o0++[OB.box 30 [.i .i64 x.kind,.s x.text,.row x.keys.length (x.keys.map .s),.row x.items.length (Ak x.items)]]=o1 at hE eX ⊢;subst hZ;refine Ac fun Z hZ=>?_
 by_cases c:x.kind=5
 ·rw[if_pos c,FM] at hk;simp only[Aa,simprocAttr,eX,c];subst hZ;simp only[Aa,simprocAttr,eX];exact hk _ hE
 ·rw[if_neg c] at hk;simp only[Aa,simprocAttr,eX,c];refine Ae (Ft m i e 160 b hE.1 ?_);have eX2:(o1.set b (Bt m i (As e 160)))[q]? = some (.box 30 [.i .i64 x.kind,.s x.text,.row x.keys.length (x.keys.map .s),.row x.items.length (Ak x.items)]):=by rw[zo (by omega)];exact eX
  have hE2:=hE.set (Bt m i (As e 160));generalize o1.set b (Bt m i (As e 160))=o2 at eX2 hE2 ⊢;simp only[Aa,simprocAttr];subst hZ;simp only[Aa,simprocAttr,eX2];exact hk _ hE2
theorem Sk (m i:List UInt8) (v:JV) (e:Int) (key:List UInt8) (b:Nat) (hv:AY v) (hb:objs[b]? = some (Bt m i e)) (hk:∀o,BH objs o b (Bt m i (As e (Cl v key).1))->K o (.row (Cl v key).2.length (Ak (Cl v key).2))):Ah Tryz.prog 55 [.p b 0,.agg (AP v),.s key] objs K:=by
 have hbl:=(zf.1 hb).1;refine Gf (.row (Cl v key).2.length (Ak (Cl v key).2)) ?_;refine DI oN fun C _=>?_;rw[WH];have ejv:=AZ v;rw[ejv];refine Ac fun Z hZ=>?_;simp only[Aa,simprocAttr];have hE0:=(BH.refl hb).app (.box 30 [.i .i64 v.kind,.s v.text,.row v.keys.length (v.keys.map .s),.row v.items.length (Ak v.items)]);have eV:(objs++[OB.box 30 [.i .i64 v.kind,.s v.text,.row v.keys.length (v.keys.map .s),.row v.items.length (Ak v.items)]])[objs.length]? = some (.box 30 [.i .i64 v.kind,.s v.text,.row v.keys.length (v.keys.map .s),.row v.items.length (Ak v.items)]):=AG _ _;generalize objs++[OB.box 30 [.i .i64 v.kind,.s v.text,.row v.keys.length (v.keys.map .s),.row v.items.length (Ak v.items)]]=o0 at hE0 eV ⊢;subst hZ;refine Ac fun Z hZ=>?_;simp only[Aa,simprocAttr,eV];rw[<-ejv];refine Ae (KU v key hv ?_);unfold Cl at hk ⊢;generalize An v key=R at hk ⊢;obtain⟨x,ok⟩:=R;unfold CT;dsimp only at hk ⊢;rw[AZ x];simp only[Aa,simprocAttr,AG,BB];have hE:=hE0.app (.box 30 [.i .i64 x.kind,.s x.text,.row x.keys.length (x.keys.map .s),.row x.items.length (Ak x.items)]);have eX:(o0++[OB.box 30 [.i .i64 x.kind,.s x.text,.row x.keys.length (x.keys.map .s),.row x.items.length (Ak x.items)]])[o0.length]? = some (.box 30 [.i .i64 x.kind,.s x.text,.row x.keys.length (x.keys.map .s),.row x.items.length (Ak x.items)]):=AG _ _;have hol:=hE0.2.1;generalize o0.length=q at eX hol ⊢;generalize o0++[OB.box 30 [.i .i64 x.kind,.s x.text,.row x.keys.length (x.keys.map .s),.row x.items.length (Ak x.items)]]=o1 at hE eX ⊢;subst hZ;refine Ac fun Z hZ=>?_;have fin:∀z:Int,BH objs (o1.set b (Bt m i (As e z))) b (Bt m i (As e z)):=fun z=>hE.set _
 cases ok with
 | false=>
  rw[if_pos rfl] at hk ⊢;rw[FM] at hk;simp only[Aa,simprocAttr];exact⟨fun G I y hy=>Cs hy,hk _ hE⟩
 | true=>
  rw[if_neg (show ¬(true=false) by decide)] at hk ⊢
  by_cases c:x.kind=6
  rotate_left
  ·rw[if_pos c] at hk ⊢;simp only[Aa,simprocAttr,eX,c];refine Ae (Ft m i e 160 b hE.1 ?_);simp only[Aa,simprocAttr];exact⟨fun G I y hy=>Cs hy,hk _ (fin 160)⟩
  have nc:¬x.kind≠6:=fun e=>e c;rw[if_neg nc] at hk ⊢
  by_cases c64:(64:Int)<(x.items.length:Int)
  ·have c64':64<x.items.length:=by omega
   rw[if_pos c64'] at hk ⊢;simp only[Aa,simprocAttr,eX,c,c64,decide_true];refine Ae (Ft m i e 161 b hE.1 ?_);simp only[Aa,simprocAttr];exact⟨fun G I y hy=>Cs hy,hk _ (fin 161)⟩
  ·have c64':¬64<x.items.length:=by omega
   rw[if_neg c64'] at hk ⊢;rw[FM] at hk;simp only[Aa,simprocAttr,eX,c,c64,decide_false];subst hZ;simp only[Aa,simprocAttr,eX];exact⟨fun G I y hy=>hy,hk _ hE⟩
end
end
section
attribute [local irreducible] run
def t5 (l:List JV):Int:=if l.all (fun y=>decide (y.kind=5))=true then 0 else 160
theorem qP (e:Int) (a:List JV) {y:JV} (c:y.kind=5):As e (t5 (a++[y]))=As e (t5 a):=by
 unfold t5;rw[List.all_append];simp[c]
theorem qO (e:Int) (a:List JV) {y:JV} (c:¬y.kind=5):As e (t5 (a++[y]))=As (As e (t5 a)) 160:=by
 have:t5 (a++[y])=160:=by unfold t5;rw[List.all_append];simp[c]
 rw[this];unfold t5
 by_cases h:a.all (fun y=>decide (y.kind=5))=true
 ·rw[if_pos h,FM]
 ·rw[if_neg h,Dn];rfl
theorem qN (e:Int):As e (t5 [])=e:=FM e
theorem FF.set5 {m:Nat} {l:List (List UInt8)} {o:List OB} {X:AV} (h:FF m l o X) {r:Nat} {Z:OB} (hz:o[r]? = some Z) (hne:∀g n cs,Z≠.orow 9 1 g n cs) (W:OB):FF m l (o.set r W) X:=by
 rcases h with h|⟨r',g,h1,h0,h2⟩
 ·exact .inl h
 ·refine .inr ⟨r',g,h1,h0,?_⟩;rw[zo (fun e=>by rw[e,h2] at hz;injection hz with hz;exact hne _ _ _ hz.symm)];exact h2
section
variable [Tabs Tryz.prog] {objs:List OB} {K:List OB->AV->Prop}
theorem Jw (m i:List UInt8) (v:JV) (e:Int) (key:List UInt8) (single:Bool) (b:Nat) (hv:AY v) (hb:objs[b]? = some (Bt m i e)) (hk:∀o,BH objs o b (Bt m i (As e (Ca v key single).1))->K o (.row (Ca v key single).2.length ((Ca v key single).2.map .s))):Ah Tryz.prog 54 [.p b 0,.agg (AP v),.s key,.b single] objs K:=by
 have hbl:=(zf.1 hb).1;refine Gf (.row (Ca v key single).2.length ((Ca v key single).2.map .s)) ?_;refine PM ?_;refine DI oP fun C _=>?_;rw[WJ];have ejv:=AZ v;rw[ejv];refine Ac fun Z hZ=>?_;simp only[Aa,z6,z7,z8,j4,j5,j6,j7,j8,j9,x0,x6,x7,x8,x9,y4,reduceCtorEq,↓reduceIte];have hE0:=(BH.refl hb).app (OB.box 30 [.i .i64 v.kind,.s v.text,.row v.keys.length (v.keys.map .s),.row v.items.length (Ak v.items)]);have eV:(objs++[OB.box 30 [.i .i64 v.kind,.s v.text,.row v.keys.length (v.keys.map .s),.row v.items.length (Ak v.items)]])[objs.length]? = some (OB.box 30 [.i .i64 v.kind,.s v.text,.row v.keys.length (v.keys.map .s),.row v.items.length (Ak v.items)]):=AG _ _;generalize objs++[OB.box 30 [.i .i64 v.kind,.s v.text,.row v.keys.length (v.keys.map .s),.row v.items.length (Ak v.items)]]=o0 at hE0 eV ⊢;subst hZ;refine Ac fun Z hZ=>?_;simp only[Aa,z6,z7,z8,j4,j5,j6,j7,j8,j9,x0,x6,x7,x8,x9,y4,reduceCtorEq,↓reduceIte,eV];rw[<-ejv];refine Ae (KU v key hv ?_);unfold Ca at hk ⊢;generalize An v key=R at hk ⊢;obtain⟨x,ok⟩:=R;unfold CT;dsimp only at hk ⊢;rw[AZ x];simp only[Aa,z6,z7,z8,j4,j5,j6,j7,j8,j9,x0,x6,x7,x8,x9,y4,reduceCtorEq,↓reduceIte,AG,BB];have hE:=hE0.app (OB.box 30 [.i .i64 x.kind,.s x.text,.row x.keys.length (x.keys.map .s),.row x.items.length (Ak x.items)]);have eX:(o0++[OB.box 30 [.i .i64 x.kind,.s x.text,.row x.keys.length (x.keys.map .s),.row x.items.length (Ak x.items)]])[o0.length]? = some (OB.box 30 [.i .i64 x.kind,.s x.text,.row x.keys.length (x.keys.map .s),.row x.items.length (Ak x.items)]):=AG _ _;have hol:=hE0.2.1;generalize o0.length=q at eX hol ⊢;generalize o0++[OB.box 30 [.i .i64 x.kind,.s x.text,.row x.keys.length (x.keys.map .s),.row x.items.length (Ak x.items)]]=o1 at hE eX ⊢;have fin:∀z:Int,BH objs (o1.set b (Bt m i (As e z))) b (Bt m i (As e z)):=fun z=>hE.set _;subst hZ;refine Ac fun Z hZ=>?_
 cases ok with
 | false=>
  rw[if_neg (show ¬(false=true) by decide)] at hk ⊢;rw[FM] at hk;simp only[Aa,z6,z7,z8,j4,j5,j6,j7,j8,j9,x0,x6,x7,x8,x9,y4,reduceCtorEq,↓reduceIte];exact .inl ⟨fun G I y hy=>Cs hy,hk _ hE⟩
 | true=>
 rw[if_pos rfl] at hk ⊢;unfold Nb at hk ⊢
 by_cases c1:single=true/\x.kind=5
 ·rw[if_pos c1] at hk ⊢;rw[FM] at hk;obtain⟨rfl,c5⟩:=c1;simp only[Aa,z6,z7,z8,j4,j5,j6,j7,j8,j9,x0,x6,x7,x8,x9,y4,reduceCtorEq,↓reduceIte,eX,c5];refine .inr ⟨o1.length,_,_,_,_,_,AG _ _,fun G I y hy=>by simpa[G5,Dj] using hy,hk _ ((hE.app _).pub (Q4 m i e) _ _ _ _ hE.2.1 hbl)⟩
 rw[if_neg c1] at hk ⊢;refine Bq (fun o t=>o=o1/\x.kind=6/\¬64<x.items.length/\t.length=65/\t[0]? = some (.p b 0)/\t[9]? = some (.p q 0)) ?_ ?_
 ·by_cases c6:x.kind=6
  rotate_left
  ·rw[if_pos c6] at hk ⊢
   cases single with
   | false=>
    simp only[Aa,z6,z7,z8,j4,j5,j6,j7,j8,j9,x0,x6,x7,x8,x9,y4,reduceCtorEq,↓reduceIte,eX,c6];refine Ae (Ft m i e 160 b hE.1 ?_);simp only[Aa,z6,z7,z8,j4,j5,j6,j7,j8,j9,x0,x6,x7,x8,x9,y4,reduceCtorEq,↓reduceIte,GM];exact .inl ⟨fun G I y hy=>Cs hy,hk _ (fin 160)⟩
   | true=>
    have c5:¬x.kind=5:=fun h=>c1 ⟨rfl,h⟩;simp only[Aa,z6,z7,z8,j4,j5,j6,j7,j8,j9,x0,x6,x7,x8,x9,y4,reduceCtorEq,↓reduceIte,eX,c5,c6];refine Ae (Ft m i e 160 b hE.1 ?_);simp only[Aa,z6,z7,z8,j4,j5,j6,j7,j8,j9,x0,x6,x7,x8,x9,y4,reduceCtorEq,↓reduceIte,GM];exact .inl ⟨fun G I y hy=>Cs hy,hk _ (fin 160)⟩
  have nc:¬x.kind≠6:=fun e=>e c6;rw[if_neg nc] at hk ⊢
  by_cases c64:(64:Int)<(x.items.length:Int)
  ·have c64':64<x.items.length:=by omega
   rw[if_pos c64'] at hk ⊢
   cases single with
   | false=>
    simp only[Aa,z6,z7,z8,j4,j5,j6,j7,j8,j9,x0,x6,x7,x8,x9,y4,reduceCtorEq,↓reduceIte,eX,c6,c64,decide_true];refine Ae (Ft m i e 161 b hE.1 ?_);simp only[Aa,z6,z7,z8,j4,j5,j6,j7,j8,j9,x0,x6,x7,x8,x9,y4,reduceCtorEq,↓reduceIte,GM];exact .inl ⟨fun G I y hy=>Cs hy,hk _ (fin 161)⟩
   | true=>
    simp only[Aa,z6,z7,z8,j4,j5,j6,j7,j8,j9,x0,x6,x7,x8,x9,y4,reduceCtorEq,↓reduceIte,eX,c6,c64,decide_true];refine Ae (Ft m i e 161 b hE.1 ?_);simp only[Aa,z6,z7,z8,j4,j5,j6,j7,j8,j9,x0,x6,x7,x8,x9,y4,reduceCtorEq,↓reduceIte,GM];exact .inl ⟨fun G I y hy=>Cs hy,hk _ (fin 161)⟩
  ·have c64':¬64<x.items.length:=by omega
   cases single with
   | false=>
    simp only[Aa,z6,z7,z8,j4,j5,j6,j7,j8,j9,x0,x6,x7,x8,x9,y4,reduceCtorEq,↓reduceIte,eX,c6,c64,decide_false,Ap,c64',not_false_eq_true]
   | true=>
    simp only[Aa,z6,z7,z8,j4,j5,j6,j7,j8,j9,x0,x6,x7,x8,x9,y4,reduceCtorEq,↓reduceIte,eX,c6,c64,decide_false,Ap,c64',not_false_eq_true]
 rintro o t ⟨rfl,c6,c64,hlen,t0,t9⟩;rw[if_neg (show ¬x.kind≠6 from fun e=>e c6),if_neg c64] at hk ⊢;have hit:x.items.length<=64:=by omega
 have hk:∀o,BH objs o b (Bt m i (As e (t5 x.items)))->K o (.row (x.items.map JV.text).length ((x.items.map JV.text).map .s)):=hk;show run _ _ _ _ _ _;subst hZ;refine Ac fun Z hZ=>?_;simp only[Aa,z6,z7,z8,j4,j5,j6,j7,j8,j9,x0,x6,x7,x8,x9,y4,reduceCtorEq,↓reduceIte,za,hlen,t0,t9,eX];subst hZ;refine Ac fun Z hZ=>?_;refine Ac fun W hW=>?_;simp only[Aa,z6,z7,z8,j4,j5,j6,j7,j8,j9,x0,x6,x7,x8,x9,y4,reduceCtorEq,↓reduceIte,za,hlen,t0,t9,eX];generalize x.items=its at hit hk ⊢;have hl4:=Fy its;subst hW;rw[DJ];refine B4 (fun n o tm=>∃(j:Nat),j<=its.length/\n=its.length - j/\BH objs o b (Bt m i (As e (t5 (its.take j))))/\FF objs.length ((its.take j).map JV.text) o (tm[11]?.getD .u)/\tm.length=65/\tm[0]? = some (.p b 0)/\tm[47]? = some (.row its.length (Ak its))/\tm[48]? = some (.i .i64 (its.length:Int))/\tm[49]? = some (.i .i64 (j:Int))) its.length ⟨0,zd _,rfl,by rw[List.take_zero,qN];exact hE,.inl ⟨rfl,by simp only[Aa,z6,z7,z8,j4,j5,j6,j7,j8,j9,x0,x6,x7,x8,x9,y4,reduceCtorEq,↓reduceIte,za,hlen]⟩,by simp only[zh,hlen],by simp only[Aa,z6,z7,z8,j4,j5,j6,j7,j8,j9,x0,x6,x7,x8,x9,y4,reduceCtorEq,↓reduceIte,za,hlen,t0],by simp only[Aa,z6,z7,z8,j4,j5,j6,j7,j8,j9,x0,x6,x7,x8,x9,y4,reduceCtorEq,↓reduceIte,za,hlen],by simp only[Aa,z6,z7,z8,j4,j5,j6,j7,j8,j9,x0,x6,x7,x8,x9,y4,reduceCtorEq,↓reduceIte,za,hlen],by simp only[Aa,z6,z7,z8,j4,j5,j6,j7,j8,j9,x0,x6,x7,x8,x9,y4,reduceCtorEq,↓reduceIte,za,hlen];rfl⟩ ?_;clear hlen t0 t9;rintro n o tm ⟨j,hj,rfl,ho,hA,hlen,t0,t47,t48,t49⟩;obtain⟨a11,t11⟩:∃a,tm[11]? = some a:=⟨_,zk (by omega)⟩;rw[t11,Option.getD_some] at hA;refine Ac fun W hW=>?_
 by_cases hlt:(j:Int)<(its.length:Int)
 ·have hi':j<its.length:=by omega
  have kv:=FK hi';have htk:its.take (j+1)=its.take j++[its[j]]:=by rw[List.take_add_one,zk hi'];rfl
  have hfl:((its.take j).map JV.text).length=j:=by rw[qk,zq];omega
  generalize its[j]=y at kv htk;rw[AZ y] at kv;simp only[Aa,z6,z7,z8,j4,j5,j6,j7,j8,j9,x0,x6,x7,x8,x9,y4,reduceCtorEq,↓reduceIte,za,hlen,t47,t48,t49,hlt];subst hW;refine Ac fun W hW=>?_;simp only[Aa,z6,z7,z8,j4,j5,j6,j7,j8,j9,x0,x6,x7,x8,x9,y4,reduceCtorEq,↓reduceIte,za,hlen];subst hW;refine Ac fun V hV=>?_;rw[DJ];refine Ac fun W hW=>?_;simp only[Aa,z6,z7,z8,j4,j5,j6,j7,j8,j9,x0,x6,x7,x8,x9,y4,reduceCtorEq,↓reduceIte,za,hlen,t47,t49,kv];refine⟨⟨by omega,by omega,by omega⟩,by omega,?_⟩;simp only[Aa,z6,z7,z8,j4,j5,j6,j7,j8,j9,x0,x6,x7,x8,x9,y4,reduceCtorEq,↓reduceIte,za,hlen,AG,BB];subst hW;have hE:=ho.app (OB.box 30 [.i .i64 y.kind,.s y.text,.row y.keys.length (y.keys.map .s),.row y.items.length (Ak y.items)]);have hA2:=hA.mono (OB.box 30 [.i .i64 y.kind,.s y.text,.row y.keys.length (y.keys.map .s),.row y.items.length (Ak y.items)]);have eB:(o++[OB.box 30 [.i .i64 y.kind,.s y.text,.row y.keys.length (y.keys.map .s),.row y.items.length (Ak y.items)]])[o.length]? = some (OB.box 30 [.i .i64 y.kind,.s y.text,.row y.keys.length (y.keys.map .s),.row y.items.length (Ak y.items)]):=AG _ _;have hol:=ho.2.1;generalize hpp:o.length=p at eB hol ⊢;generalize o++[OB.box 30 [.i .i64 y.kind,.s y.text,.row y.keys.length (y.keys.map .s),.row y.items.length (Ak y.items)]]=o1 at hE hA2 eB ⊢;refine Ac fun W hW=>?_;refine Bq (fun o3 t3=>BH objs o3 b (Bt m i (As e (t5 (its.take (j+1)))))/\FF objs.length ((its.take j).map JV.text) o3 a11/\o3[p]? = some (OB.box 30 [.i .i64 y.kind,.s y.text,.row y.keys.length (y.keys.map .s),.row y.items.length (Ak y.items)])/\t3.length=65/\t3[0]? = some (.p b 0)/\t3[11]? = some a11/\t3[13]? = some (.p p 0)/\t3[47]? = some (.row its.length (Ak its))/\t3[48]? = some (.i .i64 (its.length:Int))/\t3[49]? = some (.i .i64 (j:Int))) ?_ ?_
  ·rw[htk]
   by_cases c:y.kind=5
   ·rw[qP e _ c];simp only[Aa,z6,z7,z8,j4,j5,j6,j7,j8,j9,x0,x6,x7,x8,x9,y4,reduceCtorEq,↓reduceIte,za,hlen,eB,c,t0,t11,t47,t48,t49,Ap];exact⟨hE,hA2⟩
   ·rw[qO e _ c];simp only[Aa,z6,z7,z8,j4,j5,j6,j7,j8,j9,x0,x6,x7,x8,x9,y4,reduceCtorEq,↓reduceIte,za,hlen,eB,c,t0];refine Ae (Ft m i _ 160 b hE.1 ?_);simp only[Aa,z6,z7,z8,j4,j5,j6,j7,j8,j9,x0,x6,x7,x8,x9,y4,reduceCtorEq,↓reduceIte,za,hlen,t0,t11,t47,t48,t49,Ap];refine⟨hE.set _,hA2.set5 hE.1 (by intro _ _ _ h;cases h) _,?_⟩;rw[if_neg (by omega)];exact eB
  rintro o3 tm2 ⟨hE3,hA3,eB3,hlen2,k0,k11,k13,k47,k48,k49⟩;subst hW;generalize hacc:(its.take j).map JV.text=acc at hA3 hfl;have hol3:=hE3.2.1;rcases hA3 with ⟨rfl,rfl⟩|⟨r,g,rfl,hr0,hr⟩
  ·simp only[Aa,z6,z7,z8,j4,j5,j6,j7,j8,j9,x0,x6,x7,x8,x9,y4,reduceCtorEq,↓reduceIte,za,hlen2,k0,k11,k13,eB3];subst hV;simp only[Aa,z6,z7,z8,j4,j5,j6,j7,j8,j9,x0,x6,x7,x8,x9,y4,reduceCtorEq,↓reduceIte,za,hlen2,k0,k47,k48,k49];refine⟨by omega,its.length - (j+1),by omega,j+1,by omega,rfl,hE3.app _,?_,rfl⟩;rw[htk,ji,hacc];exact .inr ⟨o3.length,0,rfl,hol3,by rw[AG];rfl⟩
  ·have hrl:=(zf.1 hr).1;simp only[Aa,z6,z7,z8,j4,j5,j6,j7,j8,j9,x0,x6,x7,x8,x9,y4,reduceCtorEq,↓reduceIte,za,hlen2,k0,k11,k13,eB3,hr];refine⟨⟨by omega,by omega⟩,?_⟩;subst hV;simp only[Aa,z6,z7,z8,j4,j5,j6,j7,j8,j9,x0,x6,x7,x8,x9,y4,reduceCtorEq,↓reduceIte,za,hlen2,k0,k47,k48,k49];refine⟨by omega,its.length - (j+1),by omega,j+1,by omega,rfl,hE3.own r _ hr0 hbl,?_,rfl⟩;rw[htk,ji,hacc];exact .inr ⟨r,g+1,rfl,hr0,by rw[zm hrl,zg,ji];rfl⟩
 have hn:j=its.length:=by omega
 rw[hn,List.take_of_length_le (ze _)] at hA ho;simp only[Aa,z6,z7,z8,j4,j5,j6,j7,j8,j9,x0,x6,x7,x8,x9,y4,reduceCtorEq,↓reduceIte,za,hlen,t47,t48,t49,hlt];subst hW;simp only[Aa,z6,z7,z8,j4,j5,j6,j7,j8,j9,x0,x6,x7,x8,x9,y4,reduceCtorEq,↓reduceIte,za,hlen];subst hZ;rcases hA with ⟨h0,rfl⟩|⟨r,g,rfl,hr0,hr⟩
 ·simp only[Aa,z6,z7,z8,j4,j5,j6,j7,j8,j9,x0,x6,x7,x8,x9,y4,reduceCtorEq,↓reduceIte,za,hlen,t11];rw[h0] at hk ⊢;exact .inl ⟨fun G I y hy=>Cs hy,hk _ ho⟩
 ·simp only[Aa,z6,z7,z8,j4,j5,j6,j7,j8,j9,x0,x6,x7,x8,x9,y4,reduceCtorEq,↓reduceIte,za,hlen,t11];refine .inr ⟨r,_,_,_,_,_,hr,fun G I y hy=>?_,hk _ (ho.pub (Q4 _ _ _) r g _ _ hr0 hbl)⟩;simpa[G5,Dj] using hy
theorem Q5 (m i:List UInt8) (v:JV) (e:Int) (b:Nat) (hv:AY v) (h1:m.length<=100000) (h2:i.length<=100000) (ht:(An v AK).1.text.length<=100000000) (hb:objs[b]? = some (Bt m i e)) (hk:∀o,BH objs o b (Bt m i (As e (Em m i v).1))->K o (.s (Em m i v).2)):Ah Tryz.prog 105 [.p b 0,.agg (AP v)] objs K:=by
 have hbl:=(zf.1 hb).1;refine DI nT fun C _=>?_;rw[Wo];have ejv:=AZ v;have hrl:=Pl m i (An v AK).1.text;rw[ejv];refine Ac fun Z hZ=>?_;simp only[Aa,simprocAttr];have hE0:=(BH.refl hb).app (OB.box 30 [.i .i64 v.kind,.s v.text,.row v.keys.length (v.keys.map .s),.row v.items.length (Ak v.items)]);have eV:(objs++[OB.box 30 [.i .i64 v.kind,.s v.text,.row v.keys.length (v.keys.map .s),.row v.items.length (Ak v.items)]])[objs.length]? = some (OB.box 30 [.i .i64 v.kind,.s v.text,.row v.keys.length (v.keys.map .s),.row v.items.length (Ak v.items)]):=AG _ _;generalize objs++[OB.box 30 [.i .i64 v.kind,.s v.text,.row v.keys.length (v.keys.map .s),.row v.items.length (Ak v.items)]]=o0 at hE0 eV ⊢;subst hZ;refine Ac fun Z hZ=>?_;simp only[Aa,simprocAttr,eV];rw[<-ejv];refine Ae (Mb m i v e AK b hv hE0.1 fun o hE1=>?_);have hE1:=hE0.trans hE1;have eb1:=hE1.1;simp only[Aa,simprocAttr];subst hZ;refine Ac fun Z hZ=>?_;unfold Em at hk;have eb1':=eb1;unfold Bt at eb1';generalize (An v AK).1.text=x at ht hk hrl ⊢;generalize Cu v AK=er at hk hE1 eb1 eb1';simp only[Aa,simprocAttr,eb1'];refine Ae (iY m i x (by omega) (by omega) (by omega) ?_);generalize B1 m i x=R at hk hrl ⊢;obtain⟨e2,u⟩:=R;dsimp only at hk hrl ⊢;obtain⟨q1,q2,q3,q4,q5⟩:=hrl;unfold A7;simp only[Aa,simprocAttr,AG,BB];have hE2:=hE1.app (.box 25 [.s u.meth,.s u.id,.s u.path,.s u.query,.s u.frag,.b u.hq,.b u.hf]);have eU:(o++[OB.box 25 [.s u.meth,.s u.id,.s u.path,.s u.query,.s u.frag,.b u.hq,.b u.hf]])[o.length]? = some (.box 25 [.s u.meth,.s u.id,.s u.path,.s u.query,.s u.frag,.b u.hq,.b u.hf]):=AG _ _;generalize o.length=q at eU ⊢;generalize o++[OB.box 25 [.s u.meth,.s u.id,.s u.path,.s u.query,.s u.frag,.b u.hq,.b u.hf]]=o2 at hE2 eU ⊢;subst hZ;refine Ac fun Z hZ=>?_
 by_cases c:e2=0
 ·subst c;rw[if_neg (show ¬((0:Int)≠0) by decide)] at hk;simp only[Aa,simprocAttr];subst hZ;refine Ac fun Z hZ=>?_;simp only[Aa,simprocAttr,eU];refine Ae (iA u (by omega) (by omega) (by omega) (by omega) (by omega) ?_);simp only[Aa,simprocAttr];subst hZ;simp only[Aa,simprocAttr];exact hk _ hE2
 ·rw[if_pos c] at hk;simp only[Aa,simprocAttr,c];refine Ae (Ft m i _ 160 b hE2.1 ?_);simp only[Aa,simprocAttr];exact hk _ (by dsimp only;rw[<-Dn];exact hE2.set _)
end
end
section
attribute [local irreducible] run
theorem BH.keep {o o':List OB} {b:Nat} {X:OB} (h:BH o o' b X) {j:Nat} {Y:OB} (hi:o[j]? = some Y) (hn:j≠b) (hp:FC Y):o'[j]? = some Y:=h.2.2 j Y hn hi (hp.m _)
theorem DK {o:List OB} {j:Nat} {Y:OB} (h:o[j]? = some Y) (z:OB):(o++[z])[j]? = some Y:=by rw[qh (zf.1 h).1];exact h
theorem DW {o:List OB} {j r:Nat} {Y:OB} (h:o[j]? = some Y) (hn:r≠j) (z:OB):(o.set r z)[j]? = some Y:=by rw[zo hn];exact h
theorem Rc {G:Gh} {I:Al} {a a' b b':AV} {t:List UInt8} {y:Value} (h1:∀z,Ab G I a z->Ab G I a' z) (h2:∀z,Ab G I b z->Ab G I b' z) (hd:Ab G I (.agg [.s t,a,b]) y):Ab G I (.agg [.s t,a',b']) y:=by
 simp only[Ad,Ab] at hd ⊢;obtain⟨zs,rfl,⟨z0,m0,rfl,q0,z1,m1,rfl,q1,z2,m2,rfl,q2,q3⟩,hz⟩:=hd;exact⟨_,rfl,⟨_,_,rfl,q0,_,_,rfl,h1 _ q1,_,_,rfl,h2 _ q2,q3⟩,hz⟩
section
variable [Tabs Tryz.prog] {objs:List OB} {K:List OB->AV->Prop}
theorem rF (m i:List UInt8) (v:JV) (e:Int) (b:Nat) (hv:AY v) (h1:m.length<=100000) (h2:i.length<=100000) (ht:(An v AK).1.text.length<=100000000) (hb:objs[b]? = some (Bt m i e)) (hk:∀o,BH objs o b (Bt m i (As e (C5 m i v).1))->K o (.agg (GY (C5 m i v).2))):Ah Tryz.prog 56 [.p b 0,.agg (AP v)] objs K:=by
 have hbl:=(zf.1 hb).1;have ejv:=AZ v;have hpv:FC (OB.box 30 [.i .i64 v.kind,.s v.text,.row v.keys.length (v.keys.map .s),.row v.items.length (Ak v.items)]):=by
  show AE _=true;rw[<-ejv];exact Dw v
 refine DI oF fun C _=>?_;rw[Wz,ejv];refine Ac fun Z hZ=>?_;simp only[Aa,simprocAttr];have hE0:=((BH.refl hb).app (OB.box 30 [.i .i64 v.kind,.s v.text,.row v.keys.length (v.keys.map .s),.row v.items.length (Ak v.items)])).app (OB.box 93 [.s [],.s [],.s []]);have eV:(objs++[OB.box 30 [.i .i64 v.kind,.s v.text,.row v.keys.length (v.keys.map .s),.row v.items.length (Ak v.items)]]++[OB.box 93 [.s [],.s [],.s []]])[objs.length]? = some (OB.box 30 [.i .i64 v.kind,.s v.text,.row v.keys.length (v.keys.map .s),.row v.items.length (Ak v.items)]):=M2 _ _ _;have eM:(objs++[OB.box 30 [.i .i64 v.kind,.s v.text,.row v.keys.length (v.keys.map .s),.row v.items.length (Ak v.items)]]++[OB.box 93 [.s [],.s [],.s []]])[objs.length+1]? = some (OB.box 93 [.s [],.s [],.s []]):=K5 _ _ _;generalize objs++[OB.box 30 [.i .i64 v.kind,.s v.text,.row v.keys.length (v.keys.map .s),.row v.items.length (Ak v.items)]]++[OB.box 93 [.s [],.s [],.s []]]=o0 at hE0 eV eM ⊢;subst hZ;refine Ac fun Z hZ=>?_;unfold C5 at hk
 by_cases c7:v.kind=7
 rotate_left
 ·rw[if_pos c7] at hk;simp only[Aa,simprocAttr,eV,c7];refine Ae (Ft m i e 160 b hE0.1 ?_);have hE1:=hE0.set (Bt m i (As e 160));have eM1:=DW eM (r:=b) (by omega) (Bt m i (As e 160));generalize o0.set b (Bt m i (As e 160))=o1 at hE1 eM1 ⊢;have hl1:=(zf.1 eM1).1;have hk2:=hk _ (hE1.own (objs.length+1) (OB.box 93 [.s [],.s [],.s []]) (by omega) hbl);simp only[Aa,simprocAttr,eM1,hl1,za];exact hk2
 rw[if_neg (show ¬v.kind≠7 from fun e=>e c7)] at hk;simp only[Aa,simprocAttr,eV,c7];subst hZ;refine Ac fun Z hZ=>?_;simp only[Aa,simprocAttr,eV];rw[<-ejv];refine Ae (Q5 m i v e b hv h1 h2 ht hE0.1 fun o1 hX=>?_);have eV1:=hX.keep eV (by omega) hpv;have eM1:=hX.keep eM (by omega) rfl;have hE1:=hE0.trans hX;clear hX hE0 eV eM;generalize Em m i v=R at hk hE1 ⊢;obtain⟨er,id⟩:=R;dsimp only at hk hE1 ⊢;simp only[Aa,simprocAttr,AG,BB];have hol:=hE1.2.1;have hE2:=hE1.app (OB.box 93 [.s id,.s [],.s []]);have eV2:=DK eV1 (OB.box 93 [.s id,.s [],.s []]);have eM2:=DK eM1 (OB.box 93 [.s id,.s [],.s []]);have eN2:(o1++[OB.box 93 [.s id,.s [],.s []]])[o1.length]? = some (OB.box 93 [.s id,.s [],.s []]):=AG _ _;have hq:objs.length+1<o1.length:=(zf.1 eM1).1;generalize o1.length=q at eN2 hq hol ⊢;generalize o1++[OB.box 93 [.s id,.s [],.s []]]=o2 at hE2 eV2 eM2 eN2 ⊢;subst hZ;refine Ac fun Z hZ=>?_;simp only[Aa,simprocAttr,eV2];rw[<-ejv];refine Ae (Mb m i v _ BO b hv hE2.1 fun o3 hX=>?_);have eV3:=hX.keep eV2 (by omega) hpv;have eM3:=hX.keep eM2 (by omega) rfl;have eN3:=hX.keep eN2 (by omega) rfl;have hE3:=hE2.trans hX;clear hX hE2 eV2 eM2 eN2;generalize (An v BO).1.text=ty at hk ⊢;generalize Cu v BO=e2 at hk hE3 ⊢;simp only[Aa,simprocAttr,eN3];have hE4:=hE3.own q (OB.box 93 [.s id,.s ty,.s []]) (by omega) hbl;have eV4:=DW eV3 (r:=q) (by omega) (OB.box 93 [.s id,.s ty,.s []]);have eM4:=DW eM3 (r:=q) (by omega) (OB.box 93 [.s id,.s ty,.s []]);have eN4:(o3.set q (OB.box 93 [.s id,.s ty,.s []]))[q]? = some (OB.box 93 [.s id,.s ty,.s []]):=zm (zf.1 eN3).1;generalize o3.set q (OB.box 93 [.s id,.s ty,.s []])=o4 at hE4 eV4 eM4 eN4 ⊢;subst hZ;refine Ac fun Z hZ=>?_;simp only[Aa,simprocAttr,eV4];rw[<-ejv];refine Ae (Mb m i v _ B9 b hv hE4.1 fun o5 hX=>?_);have eM5:=hX.keep eM4 (by omega) rfl;have eN5:=hX.keep eN4 (by omega) rfl;have hE5:=hE4.trans hX;clear hX hE4 eV4 eM4 eN4;generalize (An v B9).1.text=co at hk ⊢;generalize Cu v B9=e3 at hk hE5 ⊢;simp only[Aa,simprocAttr,eN5];have hE6:=hE5.own q (OB.box 93 [.s id,.s ty,.s co]) (by omega) hbl;have eM6:=DW eM5 (r:=q) (by omega) (OB.box 93 [.s id,.s ty,.s co]);have eN6:(o5.set q (OB.box 93 [.s id,.s ty,.s co]))[q]? = some (OB.box 93 [.s id,.s ty,.s co]):=zm (zf.1 eN5).1;generalize o5.set q (OB.box 93 [.s id,.s ty,.s co])=o6 at hE6 eM6 eN6 ⊢;subst hZ;have hl6:=(zf.1 eM6).1;have hE7:=hE6.own (objs.length+1) (OB.box 93 [.s id,.s ty,.s co]) (by omega) hbl;rw[Dn,Dn,<-Dn er] at hE7;simp only[Aa,simprocAttr,eM6,eN6,hl6,za];exact hk _ hE7
theorem rG (m i:List UInt8) (v:JV) (e:Int) (b:Nat) (hv:AY v) (h1:m.length<=100000) (h2:i.length<=100000) (ht:(An v AK).1.text.length<=100000000) (hb:objs[b]? = some (Bt m i e)) (hk:∀o,BH objs o b (Bt m i (As e (Dp m i v).1))->K o (.agg (Cg (Dp m i v).2))):Ah Tryz.prog 57 [.p b 0,.agg (AP v)] objs K:=by
 refine Gf (.agg (Cg (Dp m i v).2)) ?_;have hbl:=(zf.1 hb).1;have ejv:=AZ v;have hpv:FC (OB.box 30 [.i .i64 v.kind,.s v.text,.row v.keys.length (v.keys.map .s),.row v.items.length (Ak v.items)]):=by
  show AE _=true;rw[<-ejv];exact Dw v
 refine DI oO fun C _=>?_;rw[WI,ejv];refine Ac fun Z hZ=>?_;simp only[Aa,simprocAttr];have hE0:=((BH.refl hb).app (OB.box 30 [.i .i64 v.kind,.s v.text,.row v.keys.length (v.keys.map .s),.row v.items.length (Ak v.items)])).app (OB.box 57 [.s [],.nil,.nil]);have eV:(objs++[OB.box 30 [.i .i64 v.kind,.s v.text,.row v.keys.length (v.keys.map .s),.row v.items.length (Ak v.items)]]++[OB.box 57 [.s [],.nil,.nil]])[objs.length]? = some (OB.box 30 [.i .i64 v.kind,.s v.text,.row v.keys.length (v.keys.map .s),.row v.items.length (Ak v.items)]):=M2 _ _ _;have eM:(objs++[OB.box 30 [.i .i64 v.kind,.s v.text,.row v.keys.length (v.keys.map .s),.row v.items.length (Ak v.items)]]++[OB.box 57 [.s [],.nil,.nil]])[objs.length+1]? = some (OB.box 57 [.s [],.nil,.nil]):=K5 _ _ _;generalize objs++[OB.box 30 [.i .i64 v.kind,.s v.text,.row v.keys.length (v.keys.map .s),.row v.items.length (Ak v.items)]]++[OB.box 57 [.s [],.nil,.nil]]=o0 at hE0 eV eM ⊢;subst hZ;refine Ac fun Z hZ=>?_;unfold Dp at hk ⊢
 by_cases c7:v.kind=7
 rotate_left
 ·rw[if_pos c7] at hk ⊢;simp only[Aa,simprocAttr,eV,c7];refine Ae (Ft m i e 160 b hE0.1 ?_);have hE1:=hE0.set (Bt m i (As e 160));have eM1:=DW eM (r:=b) (by omega) (Bt m i (As e 160));generalize o0.set b (Bt m i (As e 160))=o1 at hE1 eM1 ⊢;have hl1:=(zf.1 eM1).1;have hk2:=hk _ (hE1.own (objs.length+1) (OB.box 57 [.s [],.nil,.nil]) (by omega) hbl);simp only[Aa,simprocAttr,eM1,hl1,za];exact⟨fun G I y h=>Rc (fun z hz=>Cs hz) (fun z hz=>Cs hz) h,hk2⟩
 rw[if_neg (show ¬v.kind≠7 from fun e=>e c7)] at hk ⊢;simp only[Aa,simprocAttr,eV,c7];subst hZ;refine Ac fun Z hZ=>?_;simp only[Aa,simprocAttr,eV];rw[<-ejv];refine Ae (Q5 m i v e b hv h1 h2 ht hE0.1 fun o1 hX=>?_);have eV1:=hX.keep eV (by omega) hpv;have eM1:=hX.keep eM (by omega) rfl;have hE1:=hE0.trans hX;clear hX hE0 eV eM;generalize Em m i v=R at hk hE1 ⊢;obtain⟨er,id⟩:=R;dsimp only at hk hE1 ⊢;simp only[Aa,simprocAttr,AG,BB];have hol:=hE1.2.1;have hE2:=hE1.app (OB.box 57 [.s id,.nil,.nil]);have eV2:=DK eV1 (OB.box 57 [.s id,.nil,.nil]);have eM2:=DK eM1 (OB.box 57 [.s id,.nil,.nil]);have eN2:(o1++[OB.box 57 [.s id,.nil,.nil]])[o1.length]? = some (OB.box 57 [.s id,.nil,.nil]):=AG _ _;have hq:objs.length+1<o1.length:=(zf.1 eM1).1;generalize o1.length=q at eN2 hq hol ⊢;generalize o1++[OB.box 57 [.s id,.nil,.nil]]=o2 at hE2 eV2 eM2 eN2 ⊢;subst hZ;refine Ac fun Z hZ=>?_;refine Bq (fun o t=>BH objs o b (Bt m i (As (As e er) (El v BO)))/\o[objs.length]? = some (OB.box 30 [.i .i64 v.kind,.s v.text,.row v.keys.length (v.keys.map .s),.row v.items.length (Ak v.items)])/\o[objs.length+1]? = some (OB.box 57 [.s [],.nil,.nil])/\o[q]? = some (OB.box 57 [.s id,.nil,.nil])/\t.length=50/\t[0]? = some (.p b 0)/\t[3]? = some (.p objs.length 0)/\t[4]? = some (.p (objs.length+1) 0)/\t[5]? = some (.p q 0)) ?_ ?_
 ·simp only[Aa,simprocAttr,eV2];rw[<-ejv];refine Ae (KU v BO hv ?_);unfold El;generalize An v BO=R;obtain⟨x,ok⟩:=R;unfold CT;dsimp only;rw[AZ x,ejv];simp only[Aa,simprocAttr,AG,BB];have hE3:=hE2.app (OB.box 30 [.i .i64 x.kind,.s x.text,.row x.keys.length (x.keys.map .s),.row x.items.length (Ak x.items)]);have eV3:=DK eV2 (OB.box 30 [.i .i64 x.kind,.s x.text,.row x.keys.length (x.keys.map .s),.row x.items.length (Ak x.items)]);have eM3:=DK eM2 (OB.box 30 [.i .i64 x.kind,.s x.text,.row x.keys.length (x.keys.map .s),.row x.items.length (Ak x.items)]);have eN3:=DK eN2 (OB.box 30 [.i .i64 x.kind,.s x.text,.row x.keys.length (x.keys.map .s),.row x.items.length (Ak x.items)]);generalize o2++[OB.box 30 [.i .i64 x.kind,.s x.text,.row x.keys.length (x.keys.map .s),.row x.items.length (Ak x.items)]]=o3 at hE3 eV3 eM3 eN3 ⊢
  cases ok with
  | true=>
   simp only[Aa,simprocAttr,Ap];rw[FM];exact⟨hE3,eV3,eM3,eN3⟩
  | false=>
   simp only[Aa,simprocAttr];refine Ae (Ft m i _ 160 b hE3.1 ?_);simp only[Aa,simprocAttr,Ap];exact⟨hE3.set _,DW eV3 (by omega) _,DW eM3 (by omega) _,DW eN3 (by omega) _⟩
 clear hE1 hE2 eV2 eM2 eN2 eV1 eM1;rintro o4 t ⟨hE4,eV4,eM4,eN4,hlen,t0,t3,t4,t5⟩;subst hZ;refine Ac fun Z hZ=>?_;simp only[Aa,simprocAttr,za,hlen,t0,t3,t4,t5,eV4];rw[<-ejv];refine Ae (Jw m i v _ BO true b hv hE4.1 fun o5 hX=>?_);have eV5:=hX.keep eV4 (by omega) hpv;have eM5:=hX.keep eM4 (by omega) rfl;have eN5:=hX.keep eN4 (by omega) rfl;have hE5:=hE4.trans hX;clear hX hE4 eV4 eM4 eN4;generalize Ca v BO true=R at hk hE5 ⊢;obtain⟨e2,l1⟩:=R;dsimp only at hk hE5 ⊢;simp only[Aa,simprocAttr,za,hlen,t0,t3,t4,t5,eN5];have hp1:=Dx l1;have hpN:FC (OB.box 57 [.s id,.row l1.length (l1.map .s),.nil]):=by
  show AE _=true;simp only[AE,AV.plain,hp1,Bool.and_self]
 have hE6:=hE5.own q (OB.box 57 [.s id,.row l1.length (l1.map .s),.nil]) (by omega) hbl;have eV6:=DW eV5 (r:=q) (by omega) (OB.box 57 [.s id,.row l1.length (l1.map .s),.nil]);have eM6:=DW eM5 (r:=q) (by omega) (OB.box 57 [.s id,.row l1.length (l1.map .s),.nil]);have eN6:(o5.set q (OB.box 57 [.s id,.row l1.length (l1.map .s),.nil]))[q]? = some (OB.box 57 [.s id,.row l1.length (l1.map .s),.nil]):=zm (zf.1 eN5).1;generalize o5.set q (OB.box 57 [.s id,.row l1.length (l1.map .s),.nil])=o6 at hE6 eV6 eM6 eN6 ⊢;clear hE5 eV5 eM5 eN5;subst hZ;refine Ac fun Z hZ=>?_;simp only[Aa,simprocAttr,za,hlen,t0,t3,t4,t5,eV6];rw[<-ejv];refine Ae (KU v Cp hv ?_);have hth:El v Cp=if (An v Cp).2=true then 0 else 160:=rfl
 rw[hth] at hk ⊢;clear hth;generalize An v Cp=R at hk ⊢;obtain⟨x,ok⟩:=R;unfold CT;dsimp only at hk ⊢;rw[AZ x,ejv];have hpx:FC (OB.box 30 [.i .i64 x.kind,.s x.text,.row x.keys.length (x.keys.map .s),.row x.items.length (Ak x.items)]):=by
  show AE _=true;rw[<-AZ x];exact Dw x
 simp only[Aa,simprocAttr,za,hlen,t0,t3,t4,t5,AG,BB];have hol6:=hE6.2.1;have hE7:=hE6.app (OB.box 30 [.i .i64 x.kind,.s x.text,.row x.keys.length (x.keys.map .s),.row x.items.length (Ak x.items)]);have eV7:=DK eV6 (OB.box 30 [.i .i64 x.kind,.s x.text,.row x.keys.length (x.keys.map .s),.row x.items.length (Ak x.items)]);have eM7:=DK eM6 (OB.box 30 [.i .i64 x.kind,.s x.text,.row x.keys.length (x.keys.map .s),.row x.items.length (Ak x.items)]);have eN7:=DK eN6 (OB.box 30 [.i .i64 x.kind,.s x.text,.row x.keys.length (x.keys.map .s),.row x.items.length (Ak x.items)]);have eX7:(o6++[OB.box 30 [.i .i64 x.kind,.s x.text,.row x.keys.length (x.keys.map .s),.row x.items.length (Ak x.items)]])[o6.length]? = some (OB.box 30 [.i .i64 x.kind,.s x.text,.row x.keys.length (x.keys.map .s),.row x.items.length (Ak x.items)]):=AG _ _;have hq6:=(zf.1 eN6).1;clear hE6 eV6 eM6 eN6;generalize o6.length=r at eX7 hol6 hq6 ⊢;generalize o6++[OB.box 30 [.i .i64 x.kind,.s x.text,.row x.keys.length (x.keys.map .s),.row x.items.length (Ak x.items)]]=o7 at hE7 eV7 eM7 eN7 eX7 ⊢;subst hZ;refine Ac fun Z hZ=>?_;refine Bq (fun o t=>BH objs o b (Bt m i (As (As (As (As e er) (El v BO)) e2) (if ok=true then 0 else 160)))/\o[objs.length]? = some (OB.box 30 [.i .i64 v.kind,.s v.text,.row v.keys.length (v.keys.map .s),.row v.items.length (Ak v.items)])/\o[objs.length+1]? = some (OB.box 57 [.s [],.nil,.nil])/\o[q]? = some (OB.box 57 [.s id,.row l1.length (l1.map .s),.nil])/\o[r]? = some (OB.box 30 [.i .i64 x.kind,.s x.text,.row x.keys.length (x.keys.map .s),.row x.items.length (Ak x.items)])/\t.length=50/\t[0]? = some (.p b 0)/\t[3]? = some (.p objs.length 0)/\t[4]? = some (.p (objs.length+1) 0)/\t[5]? = some (.p q 0)/\t[8]? = some (.p r 0)) ?_ ?_
 ·cases ok with
  | true=>
   simp only[Aa,simprocAttr,za,hlen,t0,t3,t4,t5,Ap,FM];exact⟨hE7,eV7,eM7,eN7,eX7⟩
  | false=>
   simp only[Aa,simprocAttr,za,hlen,t0,t3,t4,t5];refine Ae (Ft m i _ 160 b hE7.1 ?_);simp only[Aa,simprocAttr,za,hlen,t0,t3,t4,t5,Ap];have g1:=DW eV7 (r:=b) (by omega) (Bt m i (As (As (As (As e er) (El v BO)) e2) 160));have g2:=DW eM7 (r:=b) (by omega) (Bt m i (As (As (As (As e er) (El v BO)) e2) 160));have g3:=DW eN7 (r:=b) (by omega) (Bt m i (As (As (As (As e er) (El v BO)) e2) 160));have g4:=DW eX7 (r:=b) (by omega) (Bt m i (As (As (As (As e er) (El v BO)) e2) 160));simp only[za] at g1 g2 g3 g4;exact⟨hE7.set _,g1,g2,g3,g4⟩
 clear hE7 eV7 eM7 eN7 eX7 hlen t0 t3 t4 t5;rintro o8 t ⟨hE8,eV8,eM8,eN8,eX8,hlen,t0,t3,t4,t5,t8⟩;subst hZ;refine Ac fun Z hZ=>?_
 by_cases c:x.kind=7
 ·rw[if_pos c] at hk ⊢;simp only[Aa,simprocAttr,za,hlen,t0,t3,t4,t5,t8,eX8,c];subst hZ;have hl8:=(zf.1 eM8).1;have hE9:=hE8.own (objs.length+1) (OB.box 57 [.s id,.row l1.length (l1.map .s),.nil]) (by omega) hbl;simp only[Dn] at hE9 hk;have hk2:=hk _ hE9;simp only[Aa,simprocAttr,za,hlen,t0,t3,t4,t5,t8,eM8,eN8,hl8];exact⟨fun G I y h=>Rc (fun z hz=>hz) (fun z hz=>Cs hz) h,hk2⟩
 rw[if_neg c] at hk ⊢;simp only[Aa,simprocAttr,za,hlen,t0,t3,t4,t5,t8,eX8,eV8,c];rw[<-ejv];refine Ae (Jw m i v _ Cp true b hv hE8.1 fun o9 hX=>?_);have eM9:=hX.keep eM8 (by omega) rfl;have eN9:=hX.keep eN8 (by omega) hpN;have hE9:=hE8.trans hX;clear hX hE8 eV8 eM8 eN8 eX8;generalize Ca v Cp true=R at hk hE9 ⊢;obtain⟨e4,l2⟩:=R;dsimp only at hk hE9 ⊢;simp only[Aa,simprocAttr,za,hlen,t0,t3,t4,t5,t8,eN9];have hEa:=hE9.own q (OB.box 57 [.s id,.row l1.length (l1.map .s),.row l2.length (l2.map .s)]) (by omega) hbl;have eMa:=DW eM9 (r:=q) (by omega) (OB.box 57 [.s id,.row l1.length (l1.map .s),.row l2.length (l2.map .s)]);have eNa:(o9.set q (OB.box 57 [.s id,.row l1.length (l1.map .s),.row l2.length (l2.map .s)]))[q]? = some (OB.box 57 [.s id,.row l1.length (l1.map .s),.row l2.length (l2.map .s)]):=zm (zf.1 eN9).1;generalize o9.set q (OB.box 57 [.s id,.row l1.length (l1.map .s),.row l2.length (l2.map .s)])=oa at hEa eMa eNa ⊢;subst hZ;have hla:=(zf.1 eMa).1;have hEb:=hEa.own (objs.length+1) (OB.box 57 [.s id,.row l1.length (l1.map .s),.row l2.length (l2.map .s)]) (by omega) hbl;simp only[Dn] at hEb hk;have hk2:=hk _ hEb;simp only[Aa,simprocAttr,za,hlen,t0,t3,t4,t5,t8,eMa,eNa,hla];exact⟨fun G I y h=>h,hk2⟩
end
end
section
attribute [local irreducible] run
section
variable [Tabs Tryz.prog] {objs:List OB} {K:List OB->AV->Prop}
end
end
theorem RY {x:Nat}:∀{l:List Nat},x∈l->x<=l.sum
 | a::l,h=>by
  rw[List.sum_cons];rcases zv.1 h with rfl|h
  ·omega
  ·have:=RY h;omega
theorem U1 (c:UInt8):∀l:List UInt8,((AC c l).map (fun q=>q.length+1)).sum=l.length+1
 | []=>by simp[AC]
 | x::t=>by
  have ih:=U1 c t;obtain⟨p,ps,e⟩:=Ev c t;rw[e] at ih;rw[Fz]
  by_cases h:x=c
  ·rw[if_pos h,e];simp at ih ⊢;omega
  ·rw[if_neg h,e];simp at ih ⊢;omega
theorem Pz:∀(n:Nat) (l:List UInt8),l.length<=n->l.all CP=true->(Bz l).1=0->(BR (Bz l).2).length<=l.length
 | 0,l,hl,_,_=>by
  obtain rfl:l=[]:=qz (by omega);exact ze _
 | n+1,[],_,_,_=>ze _
 | n+1,c::t,hl,hp,h=>by
  rw[jn,Bool.and_eq_true] at hp
  by_cases hc:c=37
  ·subst hc;rcases he:BF (37::t) with _|_
   ·rw[JB he] at h;cases h
   ·obtain⟨a,b,r,rfl⟩:=Hi he;have d:=IE he;rw[d.1] at h;have hr:=hp.2;rw[jn,jn,Bool.and_eq_true,Bool.and_eq_true] at hr;have:=Pz n r (by simp at hl ⊢;omega) hr.2.2 h;rw[d.2 h,Ib,zg];have h3:(if idB (Bj (37::a::b::r))=true then [Bj (37::a::b::r)] else BX (Bj (37::a::b::r))).length<=3:=by
     split
     ·simp
     ·rw[Mk];exact ze _
    simp only[zp];omega
  ·have d:=H5 (c:=c) (t:=t) hc;rw[d.1] at h;have:=Pz n t (by simp at hl;omega) hp.2 h;have hid:idB c=true:=by
    have:=hp.1;rw[QZ,Bool.or_eq_true] at this;rcases this with e|e
    ·exact absurd (by simpa using e) hc
    ·exact e
   rw[d.2 h,Ib,zg,if_pos hid];simp only[zp,qd];omega
theorem Rk:∀xs:List (List UInt8),(∀q∈xs,(BJ q).length<=q.length)->(F2 xs).length<=(xs.map (fun q=>q.length+1)).sum
 | [],_=>ze _
 | p::ps,h=>by
  have ih:=Rk ps fun q hq=>h q (qp _ hq);have:=h p (by simp);have e:F2 (p::ps)=58::BJ p++F2 ps:=rfl;rw[e,zg,zl,List.sum_cons,zp];omega
theorem eW {d i:List UInt8} (hl:d.length<=16384) (h:DY d=(0,i)):i.length<=d.length:=by
 rw[S7 d hl] at h
 split at h
 ·cases h
 rename_i h1
 split at h
 ·cases h
 rename_i h2
 split at h
 ·cases h
 injection h with _ h
 have h1:∀q∈AC 58 d,(A6 q).1=0:=Decidable.not_not.1 h1;have hs:=U1 58 d;obtain⟨p,ps,e⟩:=Ev 58 d;rw[e] at h h1 h2 hs;have h2:∀q∈p::ps,q.all CP=true:=by simpa only[Bool.not_eq_false,zw (l:=p::ps)] using h2
 have hq:∀q∈p::ps,(BJ q).length<=q.length:=fun q hm=>by
  have hql:q.length+1<=((p::ps).map (fun q=>q.length+1)).sum:=RY (jr.2 ⟨q,hm,rfl⟩);have hd:=JG (l:=q) (by omega);have:=h1 q hm;unfold BJ;rw[hd] at this ⊢;exact Pz _ q (ze _) (h2 q hm) this
 have:=Rk ps fun q hm=>hq q (qp _ hm);have hp:=hq p (by simp);rw[<-h];show (BJ p++F2 ps).length<=_;rw[zg];rw[zl,List.sum_cons] at hs;omega
theorem CanD.of4 {s:List UInt8} {u:DidU} (h:Ea s=(0,u)):CanD u:=by
 have hs:s.length<=4096:=by
  by_cases c:4096<s.length
  ·unfold Ea at h;rw[if_pos c] at h;cases h
  ·omega
 unfold Ea at h
 split at h
 ·cases h
 ·split at h
  ·rename_i g;injection h with h1 _;exact absurd h1 g
  ·rename_i g1
   split at h
   ·rename_i g;injection h with h1 _;exact absurd h1 g
   ·rename_i g2
    split at h
    ·rename_i g;injection h with h1 _;exact absurd h1 g
    ·rename_i g3
     split at h
     ·rename_i g;injection h with h1 _;exact absurd h1 g
     ·rename_i g4;simp only[Decidable.not_not] at g1 g2 g3 g4;injection h with _ h
      have hd:Bl (AD s)=(0,(Bl (AD s)).2.1,(Bl (AD s)).2.2):=by rw[<-g1]
      obtain⟨k1,l,k2,k3,k4⟩:=Rd hd;have e2:Am ((Bg s).drop (AD s).length) Bh=(0,(Am ((Bg s).drop (AD s).length) Bh).2):=by rw[<-g2]
      have e3:Am (Af 63 (Af 35 s).1).2.1 AJ=(0,(Am (Af 63 (Af 35 s).1).2.1 AJ).2):=by rw[<-g3]
      have e4:Am (Af 35 s).2.1 AJ=(0,(Am (Af 35 s).2.1 AJ).2):=by rw[<-g4]
      have j1:=congrArg jd (Hg 35 s);have j2:=congrArg jd (Hg 63 (Af 35 s).1);have c1:=Gm 35 s;have c2:=Gm 63 (Af 35 s).1;have hnb:=(Gs (Bg s)).2;have hnl:(AD s).length<=(Bg s).length:=hnb;have hbl:(Bg s).length<=(Af 35 s).1.length:=LP 63 _;have h35l:=LP 35 s;have kl:(AD s).length=(Bl (AD s)).2.1.length+l.length+5:=by
       have hk2:=congrArg jd k2;simp only[AU,CV,zg,zp,qd] at hk2;omega
      have il:=eW (by omega) k3;have pl:=(E9 _ _ _ e2).2.2;have ql:=(E9 _ _ _ e3).2.2;have fl:=(E9 _ _ _ e4).2.2;rw[zr] at pl;have ia:=Uf (l:=l) (by omega) (by omega) k3;have q0:(Af 63 (Af 35 s).1).2.1.length<=(Af 35 s).1.length:=(EG 63 _).2;have f0:(Af 35 s).2.1.length<=s.length:=(EG 35 _).2;have qs:(Bg s).length+(Af 63 (Af 35 s).1).2.1.length+(if (Af 63 (Af 35 s).1).2.2=true then 1 else 0)<=(Af 35 s).1.length:=by
       show (Af 63 (Af 35 s).1).1.length+_+_<=_;rcases hb:(Af 63 (Af 35 s).1).2.2 with _|_
       ·rw[(c2.2.2 hb).1,(c2.2.2 hb).2];simp
       ·have:=c2.2.1 hb;rw[if_pos rfl];omega
      have fs:(Af 35 s).1.length+(Af 35 s).2.1.length+(if (Af 35 s).2.2=true then 1 else 0)<=s.length:=by
       rcases hb:(Af 35 s).2.2 with _|_
       ·rw[(c1.2.2 hb).1,(c1.2.2 hb).2];simp
       ·have:=c1.2.1 hb;rw[if_pos rfl];omega
      have hslash:(Am ((Bg s).drop (AD s).length) Bh).2=[]\/∃r,(Am ((Bg s).drop (AD s).length) Bh).2=47::r:=by
       have hx:(Bg s).drop (AD s).length=[]\/∃r,(Bg s).drop (AD s).length=47::r:=by
        unfold AD A8;rcases Fs 47 (Bg s) with ⟨_,h3,_⟩|⟨k,_,hk,h3,h4⟩
        ·rw[h3];left;simp
        ·rw[h3];right;have e:((Bg s).take k).length=k:=by rw[zq];omega
         simp only[e];rw[jq hk];rw[zk hk] at h4;injection h4 with h4
         exact⟨_,by rw[h4]⟩
       rcases hx with hx|⟨r,hx⟩
       ·left;rw[hx];decide
       ·right;rw[hx] at e2 ⊢;have hlen:=KE e2;have hr:Ao (Bb Bh) 0 (47::r) []=(0,(Am (47::r) Bh).2):=by
         have e5:=e2;unfold Am C9 at e5;rw[if_neg (by omega)] at e5;rw[e5];unfold Am C9;rw[if_neg (by omega)]
        have hp1:Ao (Bb Bh) 0 (47::r) []=Ao (Bb Bh) 0 r [47]:=by
         rw[Ao,if_neg (by decide),Fx rfl (by decide),if_pos rfl];rfl
        rw[hp1] at hr;obtain⟨y,a,k5,_⟩:=Pg Bh r.length r [47] _ (ze _) hr;exact⟨y,k5⟩
      rw[<-h];refine⟨k1,ia.1,ia.2,(E9 _ _ _ e2).1,hslash,(E9 _ _ _ e3).1,(E9 _ _ _ e4).1,?_,?_,?_⟩
      ·intro hq;show (Am (Af 63 (Af 35 s).1).2.1 AJ).2=[];rw[(c2.2.2 hq).2];rfl
      ·intro hf;show (Am (Af 35 s).2.1 AJ).2=[];rw[(c1.2.2 hf).2];rfl
      ·unfold Du;simp only[zg];have z1:((if (Af 63 (Af 35 s).1).2.2=true then [63]++(Am (Af 63 (Af 35 s).1).2.1 AJ).2 else []):List UInt8).length<=(Am (Af 63 (Af 35 s).1).2.1 AJ).2.length+(if (Af 63 (Af 35 s).1).2.2=true then 1 else 0):=by
        split<;>simp
       have z2:((if (Af 35 s).2.2=true then [35]++(Am (Af 35 s).2.1 AJ).2 else []):List UInt8).length<=(Am (Af 35 s).2.1 AJ).2.length+(if (Af 35 s).2.2=true then 1 else 0):=by
        split<;>simp
       have z3:(AU (Bl (AD s)).2.1 (Bl (AD s)).2.2).length=(Bl (AD s)).2.1.length+(Bl (AD s)).2.2.length+5:=by simp[AU,CV];omega
       omega
section
attribute [local irreducible] run
def Nq (v:JV):Bool:=!decide (v.text=[])||decide (0<v.items.length)
def WT (ks:List (List UInt8)) (key:List UInt8) (v:JV):List (List UInt8):=if Nq v=true then ks++[key] else ks
def WS (its:List JV) (v:JV):List JV:=if Nq v=true then its++[v] else its
def QG (ks:List (List UInt8)) (its:List JV):JV:=.mk 7 [] ks its
section
variable [Tabs Tryz.prog] {objs:List OB} {K:List OB->AV->Prop}
end
section
variable [Tabs Tryz.prog] {objs:List OB} {K:List OB->AV->Prop}
end
end
section
attribute [local irreducible] run
section
variable [Tabs Tryz.prog] {objs:List OB} {K:List OB->AV->Prop}
end
end
section
attribute [local irreducible] run
section
variable [Tabs Tryz.prog] {objs:List OB} {K:List OB->AV->Prop}
end
section
variable [Tabs Tryz.prog] {objs:List OB} {K:List OB->AV->Prop}
end
end
section
attribute [local irreducible] run
end
section
attribute [local irreducible] run
section
variable [Tabs Tryz.prog] {objs:List OB} {K:List OB->AV->Prop}
end
end
section
attribute [local irreducible] run
section
variable [Tabs Tryz.prog] {objs:List OB} {K:List OB->AV->Prop}
end
end
section
attribute [local irreducible] run
section
variable [Tabs Tryz.prog] {objs:List OB} {K:List OB->AV->Prop}
end
end
section
attribute [local irreducible] run
section
variable [Tabs Tryz.prog] {objs:List OB} {K:List OB->AV->Prop}
end
end
section
attribute [local irreducible] run
section
variable [Tabs Tryz.prog] {objs:List OB} {K:List OB->AV->Prop}
end
end
section
attribute [local irreducible] run
section
variable [Tabs Tryz.prog] {objs:List OB} {K:List OB->AV->Prop}
end
end
section
attribute [local irreducible] run
section
variable [Tabs Tryz.prog] {objs:List OB} {K:List OB->AV->Prop}
end
end
section
attribute [local irreducible] run
section
variable [Tabs Tryz.prog] {objs:List OB} {K:List OB->AV->Prop}
end
end
section
attribute [local irreducible] run
section
variable [Tabs Tryz.prog] {objs:List OB} {K:List OB->AV->Prop}
end
end
section
attribute [local irreducible] run
end
section
attribute [local irreducible] run
def WQ (null:Bool) (p:PrP):Prop:=p.nul=true->null=true/\p.val=[]
end
section
attribute [local irreducible] run
theorem FU {s:List UInt8} (hs:s.length<=1048576) (ρ:Rs):(Aj s ρ).1.2.1.length<=1048576:=by
 unfold Aj
 split
 ·exact zd _
 split
 ·exact zd _
 ·rename_i h;have h:(B3 s ρ.pos).2.2=0:=by simpa using h
  by_cases h0:0<=ρ.pos
  ·have:=(Ol h0 h).2.1;show (B3 s ρ.pos).1.2.1.length<=_;omega
  ·exfalso;unfold B3 at h;rw[if_pos (.inl (by omega))] at h;exact absurd h (by decide)
theorem GO {k:Int} {t:List UInt8} (hk:(Lit.int .i64 k).wf=true) (ht:t.length<=1048576):AY (.mk k t [] []):=by
 rw[AY];exact⟨hk,by omega,by simp,by simp,by simp,by rw[B6];trivial⟩
theorem L8:∀{a b:List JV},B6 a->B6 b->B6 (a++b)
 | [],b,_,hb=>hb
 | v::l,b,ha,hb=>by
  rw[B6] at ha;rw[ja,B6];exact⟨ha.1,L8 ha.2 hb⟩
def QL (val:Rs->Tk->JV×Rs):Prop:=∀ρ t,t.2.1.length<=1048576->AY (val ρ t).1
theorem SN {s:List UInt8} (hs:s.length<=1048576) {val:Rs->Tk->JV×Rs} (hv:QL val):∀(n:Nat) (ρ:Rs) (t:Tk) (acc:List JV),t.2.1.length<=1048576->B6 acc->B6 (DG s val n ρ t acc).1
 | 0,ρ,t,acc,_,h=>h
 | n+1,ρ,t,acc,ht,h=>by
  rw[DG]
  split
  ·exact h
  dsimp only;have h1:=hv ρ t ht;generalize val ρ t=a at h1 ⊢;have h2:B6 (acc++[a.1]):=L8 h (by rw[B6,B6];exact⟨h1,trivial⟩)
  split
  ·exact h2
  ·exact SN hs hv n _ _ _ (FU hs _) h2
theorem SS {s:List UInt8} (hs:s.length<=1048576) {val:Rs->Tk->JV×Rs} (hv:QL val):∀(n:Nat) (ρ:Rs) (t:Tk) (ks:List (List UInt8)) (its:List JV),t.2.1.length<=1048576->(∀k∈ks,k.length<=1048576)->B6 its->B6 (CF s val n ρ t ks its).1.2/\∀k∈(CF s val n ρ t ks its).1.1,k.length<=1048576
 | 0,ρ,t,ks,its,_,hk,h=>⟨h,hk⟩
 | n+1,ρ,t,ks,its,ht,hk,h=>by
  rw[CF]
  split
  ·exact⟨h,hk⟩
  dsimp only;generalize Aj s (EZ ρ t ks)=a;have hb:=FU hs (Bx a.2 a.1 58);generalize Aj s (Bx a.2 a.1 58)=b at hb ⊢;have h1:=hv b.2 b.1 hb;generalize val b.2 b.1=v at h1 ⊢;have h2:B6 (its++[v.1]):=L8 h (by rw[B6,B6];exact⟨h1,trivial⟩);have hk2:∀k∈ks++[t.2.1],k.length<=1048576:=by
   intro k hm;rcases qc.1 hm with hm|hm
   ·exact hk k hm
   ·rw[xy] at hm;subst hm;exact ht
  generalize Aj s v.2=c
  split
  ·exact⟨h2,hk2⟩
  ·exact SS hs hv n _ _ _ _ (FU hs _) hk2 h2
theorem Zj (l:List UInt8):(Lit.int .i64 (FP l)).wf=true:=by
 unfold FP
 split
 ·decide
 split
 ·decide
 ·decide
theorem Ti (l:List UInt8):(BI l).2.length<=100:=by
 unfold BI
 split
 ·exact zd _
 ·exact XX _ _
theorem O9 {s:List UInt8} (hs:s.length<=1048576):∀(f d:Nat),QL (fun ρ t=>AW s f ρ t d)
 | 0,d=>fun ρ t _=>GO (by decide) (zd _)
 | f+1,d=>fun ρ t ht=>by
  dsimp only;rw[AW]
  split
  ·exact GO (by decide) (zd _)
  split
  ·exact GO (by decide) (zd _)
  split
  ·exact GO (by decide) (zd _)
  split
  ·exact GO (Zj _) (zd _)
  split
  ·unfold DC;dsimp only
   split
   ·exact GO (by decide) (zd _)
   ·have h1:=SN hs (O9 hs f (d+1)) (s.length+2) (Aj s (B2 ρ t)).2 (Aj s (B2 ρ t)).1 [] (FU hs _) (by rw[B6];trivial);have h2:=(OO (s:=s) (KO hs f (d+1)) (s.length+2) (Aj s (B2 ρ t)).2 (Aj s (B2 ρ t)).1 [] (by rw[BN];trivial)).2;rw[AY];simp only[qd] at h2;exact⟨by decide,by simp,by simp,by simp,by omega,h1⟩
  split
  ·unfold DT;dsimp only
   split
   ·exact GO (by decide) (zd _)
   ·obtain⟨h1,h3⟩:=SS hs (O9 hs f (d+1)) (s.length+2) (Aj s (B2 ρ t)).2 (Aj s (B2 ρ t)).1 [] [] (FU hs _) (by simp) (by rw[B6];trivial);have h2:=(OS (s:=s) (KO hs f (d+1)) (s.length+2) (Aj s (B2 ρ t)).2 (Aj s (B2 ρ t)).1 [] [] (by rw[BN];trivial)).2;rw[AY];simp only[qd] at h2;exact⟨by decide,by simp,by have:=h2.2;omega,fun k hm=>by have:=h3 k hm;omega,by have:=h2.1;omega,h1⟩
  split
  ·exact GO (by decide) (by have:=Ti t.2.1;omega)
  ·exact GO (by decide) ht
theorem O6 {s:List UInt8} (hs:s.length<=1048576):AY (EF s).1:=by
 unfold EF;rw[if_neg (by omega)];dsimp only;generalize hρ:(if (Aj s (AW s 65 (Aj s AQ).2 (Aj s AQ).1 0).2).2.fail=0/\¬(Aj s (AW s 65 (Aj s AQ).2 (Aj s AQ).1 0).2).1.1=1 then Bs (Aj s (AW s 65 (Aj s AQ).2 (Aj s AQ).1 0).2).2 (Aj s (AW s 65 (Aj s AQ).2 (Aj s AQ).1 0).2).1.2.2 140 else (Aj s (AW s 65 (Aj s AQ).2 (Aj s AQ).1 0).2).2)=ρ
 by_cases c:¬ρ.fail=0
 ·rw[if_pos c];exact GO (by decide) (zd _)
 ·rw[if_neg c];exact O9 hs 65 0 _ _ (FU hs _)
end
section
attribute [local irreducible] run
def wD (null:Bool) (p:PrP):Prop:=WQ null p/\p.name.length<=140737488351232/\p.val.length<=140737488351232
def Jc (null:Bool) (l:List PrP):Prop:=l.length<=64/\∀p∈l,wD null p
structure LkF (x:LkP):Prop where
 rel:x.rel.length<=140737488351232
 typ:x.typ.length<=140737488351232
 href:x.href.length<=140737488351232
 tmp:x.tmp.length<=140737488351232
 tit:Jc false x.tit
 pro:Jc true x.pro
structure JrF (subj:List UInt8) (al:List (List UInt8)) (pr:List PrP) (lk:List LkP):Prop where
 sl:subj.length<=140737488351232
 aln:al.length<=64
 alb:∀a∈al,a.length<=140737488351232
 prf:Jc true pr
 lkn:lk.length<=64
 lkf:∀x∈lk,LkF x
theorem Jc.ok {null:Bool} {l:List PrP} (h:Jc null l):∀p∈l,WQ null p:=fun p hp=>(h.2 p hp).1
/-! what a decoder gives is as it should be, if there was no error -/
theorem AY.txt {v:JV} (h:AY v):v.text.length<=140737488351232:=h.lens.2.2.1
/-! the value that was made is a value that may be decoded -/
structure ObF (ks:List (List UInt8)) (its:List JV) (n:Nat):Prop where
 kl:ks.length<=n
 il:its.length<=n
 kb:∀k∈ks,k.length<=140737488351232
 ok:B6 its
 bd:BN its
theorem ObF.nil:ObF [] [] 0:=⟨ze 0,ze 0,by simp,by rw[B6];trivial,by rw[BN];trivial⟩
theorem ObF.snoc {ks:List (List UInt8)} {its:List JV} {n:Nat} {key:List UInt8} {v:JV} (h:ObF ks its n) (hk:key.length<=140737488351232) (hv:AY v/\Bo v):ObF (ks++[key]) (its++[v]) (n+1) :=
 ⟨by have:=h.kl;simp;exact this,by have:=h.il;simp;exact this,fun k hm=>by
  rcases qc.1 hm with hm|hm
  ·exact h.kb k hm
  ·rw[xy] at hm;subst hm;exact hk,L8 h.ok (by rw[B6,B6];exact⟨hv.1,trivial⟩),L7 h.bd (by rw[BN,BN];exact⟨hv.2,trivial⟩)⟩
theorem ObF.add {ks:List (List UInt8)} {its:List JV} {n:Nat} {key:List UInt8} {v:JV} (h:ObF ks its n) (hk:key.length<=140737488351232) (hv:AY v/\Bo v):ObF (WT ks key v) (WS its v) (n+1):=by
 unfold WT WS
 by_cases c:Nq v=true
 ·rw[if_pos c,if_pos c];exact h.snoc hk hv
 ·rw[if_neg c,if_neg c];exact⟨Nat.le_succ_of_le h.kl,Nat.le_succ_of_le h.il,h.kb,h.ok,h.bd⟩
theorem ObF.val {ks:List (List UInt8)} {its:List JV} {n:Nat} (h:ObF ks its n) (hn:n<=1000000):AY (QG ks its)/\Bo (QG ks its):=by
 have h1:=h.kl;have h2:=h.il;unfold QG;rw[AY,Bo];exact⟨⟨by decide,by simp,by omega,h.kb,by omega,h.ok⟩,by omega,by omega,h.bd⟩
def Ni (l:List PrP):Prop:=l.length<=1000000/\∀p∈l,p.name.length<=140737488351232/\p.val.length<=140737488351232
theorem Jc.b {null:Bool} {l:List PrP} (h:Jc null l):Ni l:=⟨qg h.1 (by decide),fun p hp=>(h.2 p hp).2⟩
structure LkB (x:LkP):Prop where
 rel:x.rel.length<=140737488351232
 typ:x.typ.length<=140737488351232
 href:x.href.length<=140737488351232
 tmp:x.tmp.length<=140737488351232
 tit:Ni x.tit
 pro:Ni x.pro
theorem LkF.b {x:LkP} (h:LkF x):LkB x:=⟨h.rel,h.typ,h.href,h.tmp,h.tit.b,h.pro.b⟩
structure JrBd (subj:List UInt8) (al:List (List UInt8)) (pr:List PrP) (lk:List LkP):Prop where
 sl:subj.length<=140737488351232
 aln:al.length<=1000000
 alb:∀a∈al,a.length<=140737488351232
 prf:Ni pr
 lkn:lk.length<=1000000
 lkf:∀x∈lk,LkB x
theorem JrF.b {subj:List UInt8} {al:List (List UInt8)} {pr:List PrP} {lk:List LkP} (h:JrF subj al pr lk):JrBd subj al pr lk :=
 ⟨h.sl,qg h.aln (by decide),h.alb,h.prf.b,qg h.lkn (by decide),fun x hx=>(h.lkf x hx).b⟩
end
section
attribute [local irreducible] run
mutual
def D1:JV->Prop
 | .mk k t ks its=>t.length<=1048576/\Dg its
def Dg:List JV->Prop
 | []=>True
 | v::l=>D1 v/\Dg l
end
theorem RW:∀{l:List JV} (h:Dg l) {i:Nat} (hi:i<l.length),D1 l[i]
 | a::l,h,0,hi=>by rw[Dg] at h;exact h.1
 | a::l,h,i+1,hi=>by rw[Dg] at h;exact RW h.2 (by simpa using hi)
theorem D1.its {v:JV} (h:D1 v) {i:Nat} (hi:i<v.items.length):D1 v.items[i]:=by
 cases v with
 | mk k t ks its=>rw[D1] at h;exact RW h.2 hi
theorem D1.txt {v:JV} (h:D1 v):v.text.length<=1048576:=by
 cases v;rw[D1] at h;exact h.1
theorem GP {k:Int} {t:List UInt8} (ht:t.length<=1048576):D1 (.mk k t [] []):=by
 rw[D1];exact⟨ht,by rw[Dg];trivial⟩
theorem Oj:∀{a b:List JV},Dg a->Dg b->Dg (a++b)
 | [],b,_,hb=>hb
 | v::l,b,ha,hb=>by
  rw[Dg] at ha;rw[ja,Dg];exact⟨ha.1,Oj ha.2 hb⟩
def QK (val:Rs->Tk->JV×Rs):Prop:=∀ρ t,t.2.1.length<=1048576->D1 (val ρ t).1
theorem SP {s:List UInt8} (hs:s.length<=1048576) {val:Rs->Tk->JV×Rs} (hv:QK val):∀(n:Nat) (ρ:Rs) (t:Tk) (acc:List JV),t.2.1.length<=1048576->Dg acc->Dg (DG s val n ρ t acc).1
 | 0,ρ,t,acc,_,h=>h
 | n+1,ρ,t,acc,ht,h=>by
  rw[DG]
  split
  ·exact h
  dsimp only;have h1:=hv ρ t ht;generalize val ρ t=a at h1 ⊢;have h2:Dg (acc++[a.1]):=Oj h (by rw[Dg,Dg];exact⟨h1,trivial⟩)
  split
  ·exact h2
  ·exact SP hs hv n _ _ _ (FU hs _) h2
theorem ST {s:List UInt8} (hs:s.length<=1048576) {val:Rs->Tk->JV×Rs} (hv:QK val):∀(n:Nat) (ρ:Rs) (t:Tk) (ks:List (List UInt8)) (its:List JV),t.2.1.length<=1048576->Dg its->Dg (CF s val n ρ t ks its).1.2
 | 0,ρ,t,ks,its,_,h=>h
 | n+1,ρ,t,ks,its,ht,h=>by
  rw[CF]
  split
  ·exact h
  dsimp only;generalize Aj s (EZ ρ t ks)=a;have hb:=FU hs (Bx a.2 a.1 58);generalize Aj s (Bx a.2 a.1 58)=b at hb ⊢;have h1:=hv b.2 b.1 hb;generalize val b.2 b.1=v at h1 ⊢;have h2:Dg (its++[v.1]):=Oj h (by rw[Dg,Dg];exact⟨h1,trivial⟩);generalize Aj s v.2=c
  split
  ·exact h2
  ·exact ST hs hv n _ _ _ _ (FU hs _) h2
theorem Pa {s:List UInt8} (hs:s.length<=1048576):∀(f d:Nat),QK (fun ρ t=>AW s f ρ t d)
 | 0,d=>fun ρ t _=>GP (zd _)
 | f+1,d=>fun ρ t ht=>by
  dsimp only;rw[AW]
  split
  ·exact GP (zd _)
  split
  ·exact GP (zd _)
  split
  ·exact GP (zd _)
  split
  ·exact GP (zd _)
  split
  ·unfold DC;dsimp only
   split
   ·exact GP (zd _)
   ·have h1:=SP hs (Pa hs f (d+1)) (s.length+2) (Aj s (B2 ρ t)).2 (Aj s (B2 ρ t)).1 [] (FU hs _) (by rw[Dg];trivial);rw[D1];exact⟨by simp,h1⟩
  split
  ·unfold DT;dsimp only
   split
   ·exact GP (zd _)
   ·have h1:=ST hs (Pa hs f (d+1)) (s.length+2) (Aj s (B2 ρ t)).2 (Aj s (B2 ρ t)).1 [] [] (FU hs _) (by rw[Dg];trivial);rw[D1];exact⟨by simp,h1⟩
  split
  ·exact GP (by have:=Ti t.2.1;omega)
  ·exact GP ht
theorem O7 {s:List UInt8} (hs:s.length<=1048576):D1 (EF s).1:=by
 unfold EF;rw[if_neg (by omega)];dsimp only;generalize hρ:(if (Aj s (AW s 65 (Aj s AQ).2 (Aj s AQ).1 0).2).2.fail=0/\¬(Aj s (AW s 65 (Aj s AQ).2 (Aj s AQ).1 0).2).1.1=1 then Bs (Aj s (AW s 65 (Aj s AQ).2 (Aj s AQ).1 0).2).2 (Aj s (AW s 65 (Aj s AQ).2 (Aj s AQ).1 0).2).1.2.2 140 else (Aj s (AW s 65 (Aj s AQ).2 (Aj s AQ).1 0).2).2)=ρ
 by_cases c:¬ρ.fail=0
 ·rw[if_pos c];exact GP (zd _)
 ·rw[if_neg c];exact Pa hs 65 0 _ _ (FU hs _)
theorem Xe:D1 Cm:=by rw[Cm,D1];exact⟨by simp,by rw[Dg];trivial⟩
theorem N7 {v:JV} (hv:D1 v) (key:List UInt8):D1 (An v key).1:=by
 unfold An
 split
 ·split
  ·rename_i x hx;obtain⟨hi,rfl⟩:=zf.1 hx;exact hv.its hi
  ·exact Xe
 ·exact Xe
end
section
attribute [local irreducible] run
def W7 (X Y:AV):OB:=.box 30 [.i .i64 7,.s [],X,Y]
section
variable [Tabs Tryz.prog] {objs:List OB} {K:List OB->AV->Prop} {L:List (Nat×OB)}
theorem fZ {X Y:AV} {R1 R2:List (Nat×OB)} (ks:List (List UInt8)) (its:List JV) (key:List UInt8) (hl:its.length=ks.length) (hlen0:ks.length<=10000000) (hX:Ef 9 1 ks.length (ks.map .s) X R1) (hY:Ef 30 4 its.length (Ak its) Y R2) (hO:Au (R1++(R2++L)) objs)
  (h1:key∈ks->∀o w,Au (R1++(R2++L)) o->K o (.tup [.agg (AP w),.b true])) (h2:¬key∈ks->∀o,Au (R1++(R2++L)) o->K o (.tup [.agg [.i .i64 0,.s [],.nil,.nil],.b false])):Ah Tryz.prog 71 [.agg [.i .i64 7,.s [],X,Y],.s key] objs K:=by
 refine DI Vq fun C _=>?_;rw[PK];have hO2:=(hO.new (W7 X Y)).new AM;unfold W7 AM at hO2;refine Ac fun Z hZ=>?_;have flatX:X.flat=true:=by rcases hX with ⟨_,_,rfl,_⟩|⟨_,_,rfl,_⟩<;>rfl
 have flatY:Y.flat=true:=by rcases hY with ⟨_,_,rfl,_⟩|⟨_,_,rfl,_⟩<;>rfl
 have flatV:(AV.agg [.i .i64 7,.s [],X,Y]).flat=true:=by
  rcases hX with ⟨_,_,rfl,_⟩|⟨_,_,rfl,_⟩<;>rcases hY with ⟨_,_,rfl,_⟩|⟨_,_,rfl,_⟩<;>rfl
 simp only[Aa,simprocAttr,flatV];have elen:(objs++[OB.box 30 [.i .i64 7,.s [],X,Y]]).length=objs.length+1:=by simp
 rw[elen] at hO2;generalize objs.length=qv at hO2 ⊢;generalize objs++[OB.box 30 [.i .i64 7,.s [],X,Y]]++[OB.box 30 [.i .i64 0,.s [],.nil,.nil]]=o at hO2 ⊢;have e0:=hO2.get (i:=qv) (x:=.box 30 [.i .i64 7,.s [],X,Y]) (by simp);have e1:=hO2.get (i:=qv+1) (x:=.box 30 [.i .i64 0,.s [],.nil,.nil]) (by simp);have gs:∀x,(o.set (qv+1) x)[qv+1]? = some x:=fun x=>zm (hO2.lt (i:=qv+1) (x:=.box 30 [.i .i64 0,.s [],.nil,.nil]) (by simp));have fin:∀x,Au (R1++(R2++L)) (o.set (qv+1) x):=fun x=>(Au.set (A:=[]) x hO2).sub ((jp _ _).trans (jp _ _));subst hZ;refine Ac fun Z hZ=>?_;simp only[Aa,simprocAttr,e0,decide_true,Bool.not_true];subst hZ;refine Ac fun Z hZ=>?_;refine Ac fun W hW=>?_;refine Bq (fun o' tm=>o=o'/\tm.length=38/\tm[1]? = some (.s key)/\tm[2]? = some (.p qv 0)/\tm[4]? = some (.p (qv+1) 0)/\tm[13]? = some (.i .i64 (ks.length:Int))/\tm[14]? = some (.i .i64 0)) ?_ ?_
 ·rcases id hX with ⟨z1,z2,rfl,_⟩|⟨b1,g1,rfl,rfl⟩
  ·simp only[Aa,simprocAttr,Ap,e0,z1,Int.cast_ofNat_Int,and_self]
  ·have eb1:=hO2.get (i:=b1) (x:=.orow 9 1 g1 ks.length (ks.map .s)) (by simp);simp only[Aa,simprocAttr,Ap,e0,eb1,and_self]
 rintro _ tm ⟨rfl,hlen,t1,t2,t4,t13,t14⟩;subst hW;rw[DJ];refine B4 (fun n o' tm=>∃i:Nat,i<=ks.length/\n=ks.length - i/\o=o'/\(∀j,j<i->ks[j]?≠some key)/\tm.length=38/\tm[1]? = some (.s key)/\tm[2]? = some (.p qv 0)/\tm[4]? = some (.p (qv+1) 0)/\tm[13]? = some (.i .i64 (ks.length:Int))/\tm[14]? = some (.i .i64 (i:Int))) ks.length ⟨0,zd _,rfl,rfl,fun j h=>by omega,hlen,t1,t2,t4,t13,t14⟩ ?_;clear hlen t1 t2 t4 t13 t14;rintro n _ tm ⟨i,hi,rfl,rfl,hall,hlen,t1,t2,t4,t13,t14⟩;refine Ac fun W hW=>?_
 by_cases hlt:(i:Int)<(ks.length:Int)
 ·have hi':i<ks.length:=by omega
  have hi2:i<its.length:=by omega
  rcases hX with ⟨z1,_⟩|⟨b1,g1,rfl,rfl⟩
  ·omega
  rcases hY with ⟨z1,_⟩|⟨b2,g2,rfl,rfl⟩
  ·omega
  have eb1:=hO2.get (i:=b1) (x:=.orow 9 1 g1 ks.length (ks.map .s)) (by simp);have eb2:=hO2.get (i:=b2) (x:=.orow 30 4 g2 its.length (Ak its)) (by simp);have kv:(ks.map AV.s)[i*1]? = some (.s ks[i]):=by rw[Nat.mul_one,je,zk hi'];rfl
  have kv2:ks[i]? = some ks[i]:=zk hi';have kv3:ks[i]∈ks:=jg hi';generalize ks[i]=x at kv kv2 kv3;simp only[Aa,simprocAttr,za,hlen,t1,t2,t4,t13,t14,hlt];subst hW;refine Ac fun W hW=>?_;simp only[Aa,simprocAttr,za,hlen];subst hW;refine Ac fun V hV=>?_;rw[DJ];refine Ac fun W hW=>?_;simp only[Aa,simprocAttr,za,hlen,t14];subst hW;refine Ac fun W hW=>?_
  by_cases c2:x=key
  ·have hlt2:(i:Int)<(its.length:Int):=by omega
   have jv:=FK hi2;have jvl:=Fy its;have hw:=fun o ho=>h1 (by rw[<-c2];exact kv3) o its[i] ho;have hq:=AZ its[i];rw[hq] at jv;simp only[Aa,simprocAttr,za,hlen,t1,t2,e0,eb1,eb2,kv,qk,c2,hlt2,decide_true];refine⟨⟨by omega,by omega⟩,?_⟩;subst hW;simp only[Aa,simprocAttr,za,hlen,t1,t2,t4,e0,e1,eb2,jv,gs];refine⟨⟨by omega,by omega⟩,by omega,?_⟩;rw[<-hq];exact hw _ (fin _)
  ·simp only[Aa,simprocAttr,za,hlen,t1,t2,e0,eb1,kv,qk,c2,decide_false];refine⟨⟨by omega,by omega⟩,?_⟩;subst hW;simp only[Aa,simprocAttr,za,hlen,t1,t2,t4];subst hV;simp only[Aa,simprocAttr,za,hlen,t1,t2,t4,t13,t14];refine⟨by omega,ks.length - (i+1),by omega,i+1,by omega,rfl,fun j hj=>?_,rfl⟩
   by_cases e:j=i
   ·subst e;rw[kv2];intro h;injection h with h;exact c2 h
   ·exact hall j (by omega)
 simp only[Aa,simprocAttr,za,hlen,t1,t2,t4,t13,t14,hlt];subst hW;subst hZ;simp only[Aa,simprocAttr,za,hlen,t1,t2,t4,t13,t14,hlt,e1,gs];refine h2 (fun h=>?_) _ (fin _);obtain⟨j,hj⟩:=List.mem_iff_getElem?.1 h;exact hall j (by have:=(zf.1 hj).1;omega) hj
end
end
section
attribute [local irreducible] run
theorem jH {i:Nat} {T T':Nat} {cs cs':List AV} {L:List (Nat×OB)} (h:CN ((i,.box T cs)::L)) (hp:AE cs'=true):CN ((i,.box T' cs')::L):=by
 intro y hy b g n xs hb;rcases zv.1 hy with rfl|hy
 ·show OB.box T' _=_;rw[II hp]
 ·exact h y (qp _ hy) b g n xs fun y hy=>by
   rcases zv.1 hy with rfl|hy
   ·exact hb (i,.box T' cs') (by simp)
   ·exact hb y (qp _ hy)
theorem OY {p:Nat} {s:List UInt8} {ρ ρ':Rs} {L:List (Nat×OB)} (h:CN ((p,At s ρ)::L)):CN ((p,At s ρ')::L):=jH h rfl
theorem Uq {E1 s1 n1 E2 s2 n2:Nat} {x1 x2:List AV} {X Y:AV} {R1 R2 L:List (Nat×OB)} {p qt qv qr:Nat} {s:List UInt8} {ρ ρ':Rs} {T:Tk} {k:Int} (h1:Ef E1 s1 n1 x1 X R1) (h2:Ef E2 s2 n2 x2 Y R2) (h:CN ((p,At s ρ)::L)):CN ((p,At s ρ')::(qt,Ax T)::(qv,Br k X Y)::(qr,AM)::(R1++(R2++L))):=by
 intro y hy b g m ys hb;simp only[zv,qc] at hy;rcases hy with rfl|rfl|rfl|rfl|hy|hy|hy
 ·exact congrArg (OB.box _) (II rfl)
 ·exact congrArg (OB.box _) (II rfl)
 ·have q1:=Oe h1 (b:=b) (g:=g) (m:=m) (ys:=ys) fun y hy=>hb y (by simp[hy]);have q2:=Oe h2 (b:=b) (g:=g) (m:=m) (ys:=ys) fun y hy=>hb y (by simp[hy]);show OB.box _ _=_;simp only[zl,List.map_nil,q1,q2]
  rfl
 ·exact congrArg (OB.box _) (II rfl)
 ·rcases h1 with ⟨_,_,_,rfl⟩|⟨b',g',_,rfl⟩
  ·cases hy
  ·simp only[zv,ju,or_false] at hy;subst hy;rfl
 ·rcases h2 with ⟨_,_,_,rfl⟩|⟨b',g',_,rfl⟩
  ·cases hy
  ·simp only[zv,ju,or_false] at hy;subst hy;rfl
 ·refine h y (qp _ hy) b g m ys fun z hz=>?_;rcases zv.1 hz with rfl|hz
  ·exact hb (p,At s ρ') (by simp)
  ·exact hb z (by simp[hz])
section
variable [Tabs Tryz.prog] [Utf Tryz.prog] {objs:List OB} {K:List OB->AV->Prop} {L:List (Nat×OB)} {p:Nat} {s:List UInt8} {ρ:Rs}
def Is (s:List UInt8) (p:Nat) (d:Nat) (val:Rs->Tk->JV×Rs):Prop :=
 ∀{objs:List OB} {K:List OB->AV->Prop} {L:List (Nat×OB)} {ρ:Rs} (t:Tk),GB s ρ->GT ρ t->t.2.1.length<=s.length->CN ((p,At s ρ)::L)->Au ((p,At s ρ)::L) objs->(∀o,Au ((p,At s (val ρ t).2)::L) o->K o (.agg (AP (val ρ t).1)))->Ah Tryz.prog 9 [.p p 0,Er t,.i .i64 (d:Int)] objs K
omit [Tabs Tryz.prog] [Utf Tryz.prog] in
theorem Hk (h:GB s ρ):(Aj s ρ).1.2.1.length<=s.length:=by
 unfold Aj
 split
 ·exact zd _
 split
 ·exact zd _
 ·rename_i h1 h2;have:=Ol (s:=s) h.p0 (by simpa using h2);exact this.2.1
theorem XW {val:Rs->Tk->JV×Rs} {d:Nat} (hv:Is s p d val) (hg:GV s val) (hn:∀ρ t,(val ρ t).2.fail=0->ρ.nodes+1<=(val ρ t).2.nodes) (hs:s.length<=1048576) (hB:GB s ρ) (hC:CN ((p,At s ρ)::L)) (hO:Au ((p,At s ρ)::L) objs)
  (hk:∀o,Au ((p,At s (DC s val ρ).2)::L) o->K o (.agg (AP (DC s val ρ).1))):Ah Tryz.prog 30 [.p p 0,.i .i64 (d:Int)] objs K:=by
 refine St (E1:=9) (s1:=1) (E2:=30) (s2:=4) (DC s val ρ).1 (OY hC) hk ?_;refine DI oJ fun C _=>?_;have fin:∀{o:List OB} {ρ':Rs} {acc:List JV} {X:AV} {R:List (Nat×OB)} {qt qv qr:Nat} {T V W:OB},DC s val ρ=(.mk 6 [] [] acc,ρ')->Ef 30 4 acc.length (Ak acc) X R->Au ((p,At s ρ')::(qt,T)::(qv,V)::(qr,W)::(R++L)) o ->
   ∃X' R1 Y R2,Ef 9 1 (DC s val ρ).1.keys.length ((DC s val ρ).1.keys.map .s) X' R1/\Ef 30 4 (DC s val ρ).1.items.length (Ak (DC s val ρ).1.items) Y R2/\Au ((p,At s (DC s val ρ).2)::(R1++(R2++L))) (o.set qr (Br 6 .nil X))/\AV.agg [.i .i64 6,.s [],.nil,X]=.agg [.i .i64 (DC s val ρ).1.kind,.s (DC s val ρ).1.text,X',Y]:=by
  intro o ρ' acc X R qt qv qr T V W he hS hO;rw[he];refine⟨.nil,[],X,R,.inl ⟨rfl,rfl,rfl,rfl⟩,hS,?_,rfl⟩;exact(Au.set (A:=[(p,At s ρ'),(qt,T),(qv,V)]) (Br 6 .nil X) hO).sub ((((jp _ _).trans (jp _ _)).trans (jp _ _)).cons_cons _)
 rw[Wu];refine Ac fun Y hY=>?_;simp only[Aa,simprocAttr];have hO1:=hO.new AM;unfold AM at hO1;generalize hqr:objs.length=qr at hO1 ⊢;generalize objs++[OB.box 30 [.i .i64 0,.s [],.nil,.nil]]=o1 at hO1 ⊢;subst hY;refine Ac fun Y hY=>?_;simp only[Aa,simprocAttr,AG,BB];have hO2:=hO1.new (Br 6 .nil .nil);unfold Br at hO2;generalize hqv:o1.length=qv at hO2 ⊢;generalize o1++[OB.box 30 [.i .i64 6,.s [],.nil,.nil]]=o2 at hO2 ⊢;subst hY;refine Ac fun Y hY=>?_;simp only[Aa,simprocAttr];have hO2':Au ((p,At s ρ)::(qv,Br 6 .nil .nil)::(qr,AM)::L) o2:=hO2.perm ((jf.cons _ (jf.swap _ _ _)).trans (jf.swap _ _ _));refine Ae (GK (by omega) hO2' fun o3 hO3=>?_);have hB1:=Eu hB;have hT1:=Hk hB;have hrarr:DC s val ρ=if Ch (Aj s ρ).1 93=true then (.mk 6 [] [] [],(Aj s ρ).2) else (.mk 6 [] [] (DG s val (s.length+2) (Aj s ρ).2 (Aj s ρ).1 []).1,(DG s val (s.length+2) (Aj s ρ).2 (Aj s ρ).1 []).2):=rfl
 have hn0:=Ej s ρ;generalize Aj s ρ=N at hO3 hB1 hT1 hrarr hn0 ⊢;obtain⟨T,ρ1⟩:=N;simp only at hO3 hB1 hT1 hrarr hn0 ⊢;unfold Er DM;simp only[Aa,simprocAttr,AG,BB];have f1:∀x y z,OB.box 44 [.i .i64 x,.s y,.i .i64 z]=Ax (x,y,z):=fun _ _ _=>rfl;rw[f1];have hO4:=hO3.new (Ax T);have hO4:Au ((p,At s ρ1)::(o3.length,Ax T)::(qv,Br 6 .nil .nil)::(qr,AM)::([]++L)) (o3++[Ax T]):=hO4.perm (jf.swap _ _ _);generalize o3.length=qt at hO4 ⊢;generalize o3++[Ax (T.1,T.2.1,T.2.2)]=o4 at hO4 ⊢;have st:∀(o:List OB) (ρ':Rs) (T':Tk) (X:AV) (R:List (Nat×OB)),Au ((p,At s ρ')::(qt,Ax T')::(qv,Br 6 .nil X)::(qr,AM)::(R++L)) o->o[p]? = some (.box 41 [.s s,.i .i64 ρ'.pos,.i .i64 (ρ'.nodes:Int),.i .i64 ρ'.fail,.i .i64 ρ'.wh])/\o[qt]? = some (.box 44 [.i .i64 T'.1,.s T'.2.1,.i .i64 T'.2.2])/\o[qv]? = some (.box 30 [.i .i64 6,.s [],.nil,X])/\o[qr]? = some (.box 30 [.i .i64 0,.s [],.nil,.nil])/\(∀x,(o.set qr x)[qr]? = some x)/\(∀x,(o.set qt x)[qt]? = some x)/\(∀x,(o.set qv x)[qv]? = some x) :=
  fun o ρ' T' X R h=>⟨h.get (by simp[At]),h.get (by simp[Ax,DM]),h.get (by simp[Br]),h.get (by simp[AM]),fun x=>zm (h.lt (i:=qr) (x:=AM) (by simp)),fun x=>zm (h.lt (i:=qt) (x:=Ax T') (by simp)),fun x=>zm (h.lt (i:=qv) (x:=Br 6 .nil X) (by simp))⟩
 subst hY;refine Ac fun Y hY=>?_;obtain⟨e1,e2,e3,e4,s1,s2,s3⟩:=st _ _ _ _ _ hO4;simp only[Aa,simprocAttr,e2];refine Ae (Gc T 93 ?_)
 cases hcl:Ch T 93 with
 | true=>
  rw[hcl,if_pos rfl] at hrarr;simp only[Aa,simprocAttr,e3,e4,s1];exact fin hrarr (.inl ⟨rfl,by rw[EH],rfl,rfl⟩) hO4
 | false=>
  rw[hcl,if_neg Bool.false_ne_true] at hrarr;simp only[Aa,simprocAttr];subst hY;refine Ac fun Y hY=>?_;clear e1 e2 e3 e4 s1 s2 s3;have last:∀(o:List OB) (ρ':Rs) (T':Tk) (acc:List JV) (X:AV) (R:List (Nat×OB)) (tm:List AV),DC s val ρ=(.mk 6 [] [] acc,ρ')->Ef 30 4 acc.length (Ak acc) X R->Au ((p,At s ρ')::(qt,Ax T')::(qv,Br 6 .nil X)::(qr,AM)::(R++L)) o->True:=fun _ _ _ _ _ _ _ _ _ _=>trivial;simp only[Aa,simprocAttr];refine B4 (fun n o tm=>∃(i:Nat) (ρ':Rs) (T':Tk) (acc:List JV) (X:AV) (R:List (Nat×OB)),n=s.length+2 - i/\acc.length=i/\DC s val ρ=(.mk 6 [] [] (DG s val n ρ' T' acc).1,(DG s val n ρ' T' acc).2)/\GB s ρ'/\GT ρ' T'/\T'.2.1.length<=s.length/\(ρ'.fail=0->i<=ρ'.nodes)/\Ef 30 4 acc.length (Ak acc) X R/\Au ((p,At s ρ')::(qt,Ax T')::(qv,Br 6 .nil X)::(qr,AM)::(R++L)) o /\
    tm.length=49/\tm[0]? = some (.p p 0)/\tm[1]? = some (.i .i64 (d:Int))/\tm[4]? = some (.p qr 0)/\tm[5]? = some (.p qv 0)/\tm[6]? = some (.p qt 0)) (s.length+2) ⟨0,ρ1,T,[],.nil,[],rfl,rfl,hrarr,hB1.1,hB1.2,hT1,fun _=>zd _,.inl ⟨rfl,by rw[EH],rfl,rfl⟩,hO4,rfl,rfl,rfl,rfl,rfl,rfl⟩ ?_
  clear hO hO1 hO2 hO2' hO3 hO4 hrarr hB1 hT1 hcl hn0;rintro n o tm ⟨i,ρ',T',acc,X,R,rfl,hi,hrarr,hGB,hGT,hTx,hnd,hS,hO,hlen,t0,t1,t4,t5,t6⟩;obtain⟨e1,e2,e3,e4,s1,s2,s3⟩:=st _ _ _ _ _ hO;refine Ac fun Z hZ=>?_
  by_cases c1:ρ'.fail=0
  rotate_left
  ·have he:DG s val (s.length+2 - i) ρ' T' acc=(acc,ρ'):=by
    cases s.length+2 - i with
    | zero=>rw[DG]
    | succ m=>rw[DG,if_pos c1]
   rw[he] at hrarr;simp only[Aa,simprocAttr,za,hlen,t0,e1,c1];subst hZ;subst hY;simp only[Aa,simprocAttr,za,hlen,t4,t5,e3,e4,s1];exact fin hrarr hS hO
  have hil:i<=s.length:=by
   have h1:=hnd c1;have h2:=hGB.n0 c1;have h3:=hGB.p1;omega
  obtain⟨m,hm⟩:∃m,s.length+2 - i=m+1:=⟨s.length+1 - i,by omega⟩;rw[hm,DG,if_neg (fun h=>h c1)] at hrarr;simp only at hrarr;simp only[Aa,simprocAttr,za,hlen,t0,e1,c1];subst hZ;rw[DJ];refine Ac fun Z hZ=>?_;have hvc:=fun {objs:List OB} {K:List OB->AV->Prop} {L:List (Nat×OB)} (h1) (h2) (h3)=>hv (objs:=objs) (K:=K) (L:=L) (ρ:=ρ') T' hGB hGT hTx h1 h2 h3;have hg1:=hg ρ' T' hGB hGT;have hn1:=hn ρ' T';generalize val ρ' T'=a at hvc hg1 hn1 hrarr;obtain⟨v,ρ2⟩:=a;simp only at hvc hg1 hn1 hrarr;obtain⟨c0,c1',c2,c3,hcv⟩:∃c0 c1 c2 c3,AP v=[c0,c1,c2,c3]:=⟨_,_,_,_,AZ v⟩;have hCL:CN ((p,At s ρ')::(qt,Ax T')::(qv,Br 6 .nil X)::(qr,AM)::(R++L)):=Uq (E1:=0) (s1:=0) (R1:=[]) (.inl ⟨rfl,rfl,rfl,rfl⟩) hS hC;refine Bq (fun o tm=>∃X' R',Ef 30 4 (acc++[v]).length (Ak (acc++[v])) X' R'/\Au ((p,At s ρ2)::(qt,Ax T')::(qv,Br 6 .nil X')::(qr,AM)::(R'++L)) o/\tm.length=49/\tm[0]? = some (.p p 0)/\tm[1]? = some (.i .i64 (d:Int))/\tm[4]? = some (.p qr 0)/\tm[5]? = some (.p qv 0)/\tm[6]? = some (.p qt 0)) ?_ ?_
  ·simp only[Aa,simprocAttr,za,hlen,t0,t1,t5,t6,e2,e3];refine Ae (hvc hCL hO fun o2 hO2=>?_);obtain⟨e1',e2',e3',e4',s1',s2',s3'⟩:=st _ _ _ _ _ hO2;rw[hcv];rcases hS with ⟨z1,z2,rfl,rfl⟩|⟨b,g,rfl,rfl⟩
   ·have a0:acc=[]:=qz z1;have hlt:=hO2.lt (i:=qv) (x:=Br 6 .nil .nil) (by simp);have hne:¬o2.length=qv:=by omega
    have gx:∀x,(o2++[x])[qv]? = some (.box 30 [.i .i64 6,.s [],.nil,.nil]):=fun x=>by rw[qh hlt];exact e3'
    simp only[Aa,simprocAttr,za,hlen,t0,t1,t5,t6,e2',e3',AG,BB,gx,hne,Ap,zh,t4,and_self,and_true];have hN:=hO2.new (.orow 30 4 0 1 [c0,c1',c2,c3]);have hR:=hN.set (A:=[(o2.length,OB.orow 30 4 0 1 [c0,c1',c2,c3]),(p,At s ρ2),(qt,Ax T')]) (Br 6 .nil (.orow o2.length 0));refine⟨_,[(o2.length,.orow 30 4 0 1 [c0,c1',c2,c3])],.inr ⟨_,_,rfl,by rw[a0,qo,FX,EH,hcv];rfl⟩,hR.perm ?_⟩;exact List.perm_middle (l₁:=[(p,At s ρ2),(qt,Ax T'),(qv,Br 6 .nil (.orow o2.length 0)),(qr,AM)]).symm
   ·have e5:=hO2.get (i:=b) (x:=.orow 30 4 g acc.length (Ak acc)) (by simp);have hlt:=hO2.lt (i:=qv) (x:=Br 6 .nil (.orow b g)) (by simp);have hlt4:=hO2.lt (i:=b) (x:=.orow 30 4 g acc.length (Ak acc)) (by simp);have hne:¬b=qv:=by
     intro h;have:=hO2.1;simp only[zl,ji,xz] at this;exact this.2.2.1 (by simp[h])
    have gs:∀x,(o2.set b x)[b]? = some x:=fun x=>zm hlt4;have gx:∀x,(o2.set b x)[qv]? = some (.box 30 [.i .i64 6,.s [],.nil,.orow b g]):=fun x=>by rw[zo hne];exact e3'
    have hjl:=Fy acc;simp only[Aa,simprocAttr,za,hlen,t0,t1,t5,t6,e2',e3',e5,gs,gx,hne,Ap,zh,t4,and_self,and_true];refine⟨⟨by omega,by omega⟩,?_⟩;have hN:=hO2.set (A:=[(p,At s ρ2),(qt,Ax T'),(qv,Br 6 .nil (.orow b g)),(qr,AM)]) (.orow 30 4 (g+1) (acc.length+1) (Ak acc++[c0,c1',c2,c3]));have hR:=hN.set (A:=[(p,At s ρ2),(qt,Ax T')]) (Br 6 .nil (.orow b (g+1)));exact⟨_,[(b,.orow 30 4 (g+1) (acc.length+1) (Ak acc++[c0,c1',c2,c3]))],.inr ⟨_,_,rfl,by rw[U8,FX,EH,hcv];rfl⟩,hR⟩
  ·clear hO hS hlen t0 t1 t4 t5 t6 e1 e2 e3 e4 s1 s2 s3 hCL hvc hv hg hn;rintro o5 tm ⟨X',R',hS,hO5,hlen,t0,t1,t4,t5,t6⟩;subst hZ;refine Ac fun Z hZ=>?_;simp only[Aa,simprocAttr,za,hlen,t0];refine Ae (GK (by omega) hO5 fun o6 hO6=>?_);have hB2:=Eu hg1;have hT2:=Hk hg1;have hn2:=Ej s ρ2;have hfz:=JQ s ρ2;generalize Aj s ρ2=N at hO6 hB2 hT2 hn2 hfz hrarr ⊢;obtain⟨T2,ρ3⟩:=N;simp only at hO6 hB2 hT2 hn2 hfz hrarr ⊢;obtain⟨e1,e2,e3,e4,s1,s2,s3⟩:=st _ _ _ _ _ hO6;unfold Er DM;simp only[Aa,simprocAttr,za,hlen,t6,e2,s2];rw[f1];have hO7:=Au.set (A:=[(p,At s ρ3)]) (Ax T2) hO6;have hO7:Au ((p,At s ρ3)::(qt,Ax T2)::(qv,Br 6 .nil X')::(qr,AM)::(R'++L)) (o6.set qt (Ax (T2.1,T2.2.1,T2.2.2))):=hO7;generalize o6.set qt (Ax (T2.1,T2.2.1,T2.2.2))=o7 at hO7 ⊢;refine Gn (fun t=>t.length=49/\t[0]? = some (.p p 0)/\t[1]? = some (.i .i64 (d:Int))/\t[4]? = some (.p qr 0)/\t[5]? = some (.p qv 0)/\t[6]? = some (.p qt 0)) ?_ ?_
   ·simp only[Aa,simprocAttr,zh,za,hlen,t0,t1,t4,t5,t6,and_self]
   clear hO6 hO5 hlen t0 t1 t4 t5 t6 e1 e2 e3 e4 s1 s2 s3;rintro tm ⟨hlen,t0,t1,t4,t5,t6⟩;obtain⟨e1,e2,e3,e4,s1,s2,s3⟩:=st _ _ _ _ _ hO7;subst hZ;refine Ac fun Z hZ=>?_;simp only[Aa,simprocAttr,za,hlen,t6,e2];refine Ae (Gc T2 93 ?_)
   cases hcl:Ch T2 93 with
   | true=>
    rw[hcl,if_pos rfl] at hrarr;simp only[Aa,simprocAttr,za,hlen,t4,t5,e3,e4,s1];exact fin hrarr hS hO7
   | false=>
    rw[hcl,if_neg Bool.false_ne_true] at hrarr;simp only[Aa,simprocAttr,za,hlen];subst hZ;refine Ac fun Z hZ=>?_;refine Bq (fun o tm=>Au ((p,At s (Bx ρ3 T2 44))::(qt,Ax T2)::(qv,Br 6 .nil X')::(qr,AM)::(R'++L)) o/\tm.length=49/\tm[0]? = some (.p p 0)/\tm[1]? = some (.i .i64 (d:Int))/\tm[4]? = some (.p qr 0)/\tm[5]? = some (.p qv 0)/\tm[6]? = some (.p qt 0)) ?_ ?_
    ·refine Ac fun W hW=>?_
     by_cases c3:ρ3.fail=0
     rotate_left
     ·have hw:Bx ρ3 T2 44=ρ3:=by unfold Bx;rw[if_neg (fun h=>c3 h.1)]
      simp only[Aa,simprocAttr,za,hlen,t0,e1,c3];subst hW;simp only[Aa,simprocAttr,Ap,zh,za,hlen,t0,t1,t4,t5,t6,hw,and_self,and_true];exact hO7
     ·simp only[Aa,simprocAttr,za,hlen,t0,t6,e1,e2,c3];refine Ae (Gc T2 44 ?_)
      cases h44:Ch T2 44 with
      | true=>
       have hw:Bx ρ3 T2 44=ρ3:=by unfold Bx;rw[if_neg (fun h=>by rw[h44] at h;cases h.2)]
       simp only[Aa,simprocAttr,za,hlen];subst hW;simp only[Aa,simprocAttr,Ap,zh,za,hlen,t0,t1,t4,t5,t6,hw,and_self,and_true];exact hO7
      | false=>
       have hw:Bx ρ3 T2 44=Bs ρ3 T2.2.2 140:=by unfold Bx;rw[if_pos ⟨c3,h44⟩]
       simp only[Aa,simprocAttr,za,hlen];subst hW;simp only[Aa,simprocAttr,za,hlen,t0,t6,e2];refine Ae (Gl hO7 T2.2.2 140 fun o8 hO8=>?_);simp only[Aa,simprocAttr,Ap,zh,za,hlen,t0,t1,t4,t5,t6,hw,and_self,and_true];exact hO8
    ·clear hO7 hlen t0 t1 t4 t5 t6 e1 e2 e3 e4 s1 s2 s3;rintro o8 tm ⟨hO8,hlen,t0,t1,t4,t5,t6⟩;subst hZ;have hB3:=JC hB2.1 T2 44;have hn3:=Jz ρ3 T2 44;have hfz3:=Pq ρ3 T2 44;generalize Bx ρ3 T2 44=ρ4 at hO8 hB3 hn3 hfz3 hrarr;simp only[Aa,simprocAttr,za,hlen,t0];refine Ae (GK (by omega) hO8 fun o9 hO9=>?_);have hB4:=Eu hB3;have hT4:=Hk hB3;have hn4:=Ej s ρ4;have hfz4:=JQ s ρ4;generalize Aj s ρ4=N at hO9 hB4 hT4 hn4 hfz4 hrarr ⊢;obtain⟨T5,ρ5⟩:=N;simp only at hO9 hB4 hT4 hn4 hfz4 hrarr ⊢;obtain⟨e1,e2,e3,e4,s1,s2,s3⟩:=st _ _ _ _ _ hO9;unfold Er DM;simp only[Aa,simprocAttr,za,hlen,t6,e2,s2];rw[f1];have hO10:Au ((p,At s ρ5)::(qt,Ax T5)::(qv,Br 6 .nil X')::(qr,AM)::(R'++L)) (o9.set qt (Ax (T5.1,T5.2.1,T5.2.2))):=Au.set (A:=[(p,At s ρ5)]) (Ax T5) hO9;generalize o9.set qt (Ax (T5.1,T5.2.1,T5.2.2))=o10 at hO10 ⊢;refine⟨m,by omega,i+1,ρ5,T5,acc++[v],X',R',by omega,by rw[zg,hi];rfl,hrarr,hB4.1,hB4.2,hT4,fun hf=>?_,hS,hO10,?_⟩
     ·have q4:ρ4.fail=0:=by
       by_cases c:ρ4.fail=0
       ·exact c
       ·exact absurd ((hfz4 c).1.symm.trans hf) c
      have q3:ρ3.fail=0:=by
       by_cases c:ρ3.fail=0
       ·exact c
       ·exact absurd ((hfz3 c).1.symm.trans q4) c
      have q2:ρ2.fail=0:=by
       by_cases c:ρ2.fail=0
       ·exact c
       ·exact absurd ((hfz c).1.symm.trans q3) c
      have:=hn1 q2;have:=hnd c1;omega
     ·simp only[Aa,simprocAttr,zh,za,hlen,t0,t1,t4,t5,t6,and_self]
end
end
section
attribute [local irreducible] run
def Ho (ks:List (List UInt8)) (its:List JV) (X:AV) (R1:List (Nat×OB)) (Y:AV) (R2:List (Nat×OB)):Prop :=
 (ks=[]/\its=[]/\X=.nil/\R1=[]/\Y=.nil/\R2=[])\/∃b1 g1 b2 g2,X=.orow b1 g1/\R1=[(b1,.orow 9 1 g1 ks.length (ks.map .s))]/\Y=.orow b2 g2/\R2=[(b2,.orow 30 4 g2 its.length (Ak its))]
theorem Ho.k {ks:List (List UInt8)} {its:List JV} {X Y:AV} {R1 R2:List (Nat×OB)} (h:Ho ks its X R1 Y R2):Ef 9 1 ks.length (ks.map .s) X R1:=by
 rcases h with ⟨rfl,rfl,rfl,rfl,rfl,rfl⟩|⟨b1,g1,b2,g2,rfl,rfl,rfl,rfl⟩
 ·exact .inl ⟨rfl,rfl,rfl,rfl⟩
 ·exact .inr ⟨_,_,rfl,rfl⟩
theorem Ho.i {ks:List (List UInt8)} {its:List JV} {X Y:AV} {R1 R2:List (Nat×OB)} (h:Ho ks its X R1 Y R2):Ef 30 4 its.length (Ak its) Y R2:=by
 rcases h with ⟨rfl,rfl,rfl,rfl,rfl,rfl⟩|⟨b1,g1,b2,g2,rfl,rfl,rfl,rfl⟩
 ·exact .inl ⟨rfl,EH,rfl,rfl⟩
 ·exact .inr ⟨_,_,rfl,rfl⟩
theorem Ho.flat {ks:List (List UInt8)} {its:List JV} {X Y:AV} {R1 R2:List (Nat×OB)} (h:Ho ks its X R1 Y R2):X.flat=true/\Y.flat=true:=by
 rcases h with ⟨rfl,rfl,rfl,rfl,rfl,rfl⟩|⟨b1,g1,b2,g2,rfl,rfl,rfl,rfl⟩<;>exact⟨rfl,rfl⟩
section
variable [Tabs Tryz.prog] [Utf Tryz.prog] {objs:List OB} {K:List OB->AV->Prop} {L:List (Nat×OB)} {p:Nat} {s:List UInt8} {ρ:Rs}
theorem bF {val:Rs->Tk->JV×Rs} {d:Nat} (hv:Is s p d val) (hg:GV s val) (hn:∀ρ t,(val ρ t).2.fail=0->ρ.nodes+1<=(val ρ t).2.nodes) (hvz:Yg val) (hs:s.length<=1048576) (hB:GB s ρ) (hC:CN ((p,At s ρ)::L)) (hO:Au ((p,At s ρ)::L) objs)
  (hk:∀o,Au ((p,At s (DT s val ρ).2)::L) o->K o (.agg (AP (DT s val ρ).1))):Ah Tryz.prog 31 [.p p 0,.i .i64 (d:Int)] objs K:=by
 refine St (E1:=9) (s1:=1) (E2:=30) (s2:=4) (DT s val ρ).1 (OY hC) hk ?_;refine DI oE fun C _=>?_;have fin:∀{o:List OB} {ρ':Rs} {ks:List (List UInt8)} {its:List JV} {X Y:AV} {R1 R2:List (Nat×OB)} {qt qv qr:Nat} {T V W:OB},DT s val ρ=(.mk 7 [] ks its,ρ')->Ho ks its X R1 Y R2->Au ((p,At s ρ')::(qt,T)::(qv,V)::(qr,W)::(R1++(R2++L))) o ->
   ∃X' R1 Y' R2,Ef 9 1 (DT s val ρ).1.keys.length ((DT s val ρ).1.keys.map .s) X' R1/\Ef 30 4 (DT s val ρ).1.items.length (Ak (DT s val ρ).1.items) Y' R2/\Au ((p,At s (DT s val ρ).2)::(R1++(R2++L))) (o.set qr (Br 7 X Y))/\AV.agg [.i .i64 7,.s [],X,Y]=.agg [.i .i64 (DT s val ρ).1.kind,.s (DT s val ρ).1.text,X',Y']:=by
  intro o ρ' ks its X Y R1 R2 qt qv qr T V W he hS hO;rw[he];refine⟨X,R1,Y,R2,hS.k,hS.i,?_,rfl⟩;exact(Au.set (A:=[(p,At s ρ'),(qt,T),(qv,V)]) (Br 7 X Y) hO).sub ((((jp _ _).trans (jp _ _)).trans (jp _ _)).cons_cons _)
 rw[Wy];refine Ac fun Z0 hZ0=>?_;simp only[Aa,simprocAttr];have hO1:=hO.new AM;unfold AM at hO1;generalize hqr:objs.length=qr at hO1 ⊢;generalize objs++[OB.box 30 [.i .i64 0,.s [],.nil,.nil]]=o1 at hO1 ⊢;subst hZ0;refine Ac fun Z0 hZ0=>?_;simp only[Aa,simprocAttr,AG,BB];have hO2:=hO1.new (Br 7 .nil .nil);unfold Br at hO2;generalize hqv:o1.length=qv at hO2 ⊢;generalize o1++[OB.box 30 [.i .i64 7,.s [],.nil,.nil]]=o2 at hO2 ⊢;subst hZ0;refine Ac fun Z0 hZ0=>?_;simp only[Aa,simprocAttr];have hO2':Au ((p,At s ρ)::(qv,Br 7 .nil .nil)::(qr,AM)::L) o2:=hO2.perm ((jf.cons _ (jf.swap _ _ _)).trans (jf.swap _ _ _));refine Ae (GK (by omega) hO2' fun o3 hO3=>?_);have hB1:=Eu hB;have hT1:=Hk hB;have hrobj:DT s val ρ=if Ch (Aj s ρ).1 125=true then (.mk 7 [] [] [],(Aj s ρ).2) else (.mk 7 [] (CF s val (s.length+2) (Aj s ρ).2 (Aj s ρ).1 [] []).1.1 (CF s val (s.length+2) (Aj s ρ).2 (Aj s ρ).1 [] []).1.2,(CF s val (s.length+2) (Aj s ρ).2 (Aj s ρ).1 [] []).2):=rfl
 generalize Aj s ρ=N at hO3 hB1 hT1 hrobj ⊢;obtain⟨T,ρ1⟩:=N;simp only at hO3 hB1 hT1 hrobj ⊢;unfold Er DM;simp only[Aa,simprocAttr,AG,BB];have f1:∀x y z,OB.box 44 [.i .i64 x,.s y,.i .i64 z]=Ax (x,y,z):=fun _ _ _=>rfl;rw[f1];have hO4:=hO3.new (Ax T);have hO4:Au ((p,At s ρ1)::(o3.length,Ax T)::(qv,Br 7 .nil .nil)::(qr,AM)::([]++([]++L))) (o3++[Ax T]):=hO4.perm (jf.swap _ _ _);generalize o3.length=qt at hO4 ⊢;generalize o3++[Ax (T.1,T.2.1,T.2.2)]=o4 at hO4 ⊢;have st:∀(o:List OB) (ρ':Rs) (T':Tk) (X:AV) (R1:List (Nat×OB)) (Y:AV) (R2:List (Nat×OB)),Au ((p,At s ρ')::(qt,Ax T')::(qv,Br 7 X Y)::(qr,AM)::(R1++(R2++L))) o->o[p]? = some (.box 41 [.s s,.i .i64 ρ'.pos,.i .i64 (ρ'.nodes:Int),.i .i64 ρ'.fail,.i .i64 ρ'.wh])/\o[qt]? = some (.box 44 [.i .i64 T'.1,.s T'.2.1,.i .i64 T'.2.2])/\o[qv]? = some (.box 30 [.i .i64 7,.s [],X,Y])/\o[qr]? = some (.box 30 [.i .i64 0,.s [],.nil,.nil])/\(∀x,(o.set qr x)[qr]? = some x)/\(∀x,(o.set qt x)[qt]? = some x)/\(∀x,(o.set qv x)[qv]? = some x) :=
  fun o ρ' T' X R1 Y R2 h=>⟨h.get (by simp[At]),h.get (by simp[Ax,DM]),h.get (by simp[Br]),h.get (by simp[AM]),fun x=>zm (h.lt (i:=qr) (x:=AM) (by simp)),fun x=>zm (h.lt (i:=qt) (x:=Ax T') (by simp)),fun x=>zm (h.lt (i:=qv) (x:=Br 7 X Y) (by simp))⟩
 subst hZ0;refine Ac fun Z0 hZ0=>?_;obtain⟨e1,e2,e3,e4,s1,s2,s3⟩:=st _ _ _ _ _ _ _ hO4;simp only[Aa,simprocAttr,e2];refine Ae (Gc T 125 ?_)
 cases hcl:Ch T 125 with
 | true=>
  rw[hcl,if_pos rfl] at hrobj;simp only[Aa,simprocAttr,e3,e4,s1];exact fin hrobj (.inl ⟨rfl,rfl,rfl,rfl,rfl,rfl⟩) hO4
 | false=>
  rw[hcl,if_neg Bool.false_ne_true] at hrobj;simp only[Aa,simprocAttr];subst hZ0;refine Ac fun Z0 hZ0=>?_;clear e1 e2 e3 e4 s1 s2 s3;simp only[Aa,simprocAttr];refine B4 (fun n o tm=>∃(i:Nat) (ρ':Rs) (T':Tk) (ks:List (List UInt8)) (its:List JV) (X:AV) (R1:List (Nat×OB)) (Y:AV) (R2:List (Nat×OB)),n=s.length+2 - i/\ks.length=i/\its.length=i/\DT s val ρ=(.mk 7 [] (CF s val n ρ' T' ks its).1.1 (CF s val n ρ' T' ks its).1.2,(CF s val n ρ' T' ks its).2)/\GB s ρ'/\T'.2.1.length<=s.length/\(ρ'.fail=0->i<=ρ'.nodes)/\Ho ks its X R1 Y R2/\Au ((p,At s ρ')::(qt,Ax T')::(qv,Br 7 X Y)::(qr,AM)::(R1++(R2++L))) o /\
    tm.length=98/\tm[0]? = some (.p p 0)/\tm[1]? = some (.i .i64 (d:Int))/\tm[4]? = some (.p qr 0)/\tm[5]? = some (.p qv 0)/\tm[6]? = some (.p qt 0)) (s.length+2) ⟨0,ρ1,T,[],[],.nil,[],.nil,[],rfl,rfl,rfl,hrobj,hB1.1,hT1,fun _=>zd _,.inl ⟨rfl,rfl,rfl,rfl,rfl,rfl⟩,hO4,rfl,rfl,rfl,rfl,rfl,rfl⟩ ?_
  clear hO hO1 hO2 hO2' hO3 hO4 hrobj hB1 hT1 hcl;rintro n o tm ⟨i,ρ',T',ks,its,X,R1,Y,R2,rfl,hi,hi2,hrobj,hGB,hTx,hnd,hS,hO,hlen,t0,t1,t4,t5,t6⟩;obtain⟨e1,e2,e3,e4,s1,s2,s3⟩:=st _ _ _ _ _ _ _ hO;refine Ac fun Z hZ=>?_
  by_cases c1:ρ'.fail=0
  rotate_left
  ·have he:CF s val (s.length+2 - i) ρ' T' ks its=((ks,its),ρ'):=by
    cases s.length+2 - i with
    | zero=>rw[CF]
    | succ m=>rw[CF,if_pos c1]
   rw[he] at hrobj;simp only[Aa,simprocAttr,za,hlen,t0,e1,c1];subst hZ;subst hZ0;simp only[Aa,simprocAttr,za,hlen,t4,t5,e3,e4,s1,hS.flat.1,hS.flat.2];exact fin hrobj hS hO
  have hil:i<=s.length:=by
   have h1:=hnd c1;have h2:=hGB.n0 c1;have h3:=hGB.p1;omega
  obtain⟨m,hm⟩:∃m,s.length+2 - i=m+1:=⟨s.length+1 - i,by omega⟩;rw[hm,CF,if_neg (fun h=>h c1)] at hrobj;simp only at hrobj;simp only[Aa,simprocAttr,za,hlen,t0,e1,c1];subst hZ;rw[DJ];clear s1 s2 s3 e1 e4;refine Ac fun Z hZ=>?_;have hk1:∀t,t=ks->EZ ρ' T' t=(if T'.2.1∈ks then Bs (if ¬T'.1=3 then Bs ρ' T'.2.2 140 else ρ') T'.2.2 143 else if ¬T'.1=3 then Bs ρ' T'.2.2 140 else ρ'):=fun t h=>by rw[h];rfl
  have hk1:=hk1 ks rfl;have hGk:=Ri hGB T' ks;have hnk:=Q2 ρ' T' ks;generalize hρa:(if ¬T'.1=3 then Bs ρ' T'.2.2 140 else ρ')=ρa at hk1;refine Bq (fun o tm=>Au ((p,At s ρa)::(qt,Ax T')::(qv,Br 7 X Y)::(qr,AM)::(R1++(R2++L))) o/\tm.length=98/\tm[0]? = some (.p p 0)/\tm[1]? = some (.i .i64 (d:Int))/\tm[4]? = some (.p qr 0)/\tm[5]? = some (.p qv 0)/\tm[6]? = some (.p qt 0)) ?_ ?_
  ·refine Ac fun W hW=>?_
   by_cases c3:T'.1=3
   ·rw[if_neg (fun h=>h c3)] at hρa;subst hρa;simp only[Aa,simprocAttr,za,hlen,t6,e2,c3];subst hW;simp only[Aa,simprocAttr,Ap,zh,za,hlen,t0,t1,t4,t5,t6,and_self,and_true];exact hO
   ·rw[if_pos c3] at hρa;simp only[Aa,simprocAttr,za,hlen,t6,e2,c3];subst hW;simp only[Aa,simprocAttr,za,hlen,t0,t6,e2];refine Ae (Gl hO T'.2.2 140 fun o8 hO8=>?_);rw[hρa] at hO8;simp only[Aa,simprocAttr,Ap,zh,za,hlen,t0,t1,t4,t5,t6,and_self,and_true];exact hO8
  clear hO hlen t0 t1 t4 t5 t6 e2 e3;rintro oa tm ⟨hO,hlen,t0,t1,t4,t5,t6⟩;subst hZ;refine Ac fun Z hZ=>?_;refine Bq (fun o tm=>Au ((p,At s (EZ ρ' T' ks))::(qt,Ax T')::(qv,Br 7 X Y)::(qr,AM)::(R1++(R2++L))) o/\tm.length=98/\tm[0]? = some (.p p 0)/\tm[1]? = some (.i .i64 (d:Int))/\tm[4]? = some (.p qr 0)/\tm[5]? = some (.p qv 0)/\tm[6]? = some (.p qt 0)) ?_ ?_
  ·obtain⟨e1,e2,e3,e4,s1,s2,s3⟩:=st _ _ _ _ _ _ _ hO;refine Ac fun W hW=>?_;have hPerm:((p,At s ρa)::(qt,Ax T')::(qv,Br 7 X Y)::(qr,AM)::(R1++(R2++L))).Perm (R1++(R2++((p,At s ρa)::(qt,Ax T')::(qv,Br 7 X Y)::(qr,AM)::L))):=by
    have h0:∀(A B C:List (Nat×OB)),(A++(B++C)).Perm (B++(A++C)):=fun A B C=>by
     rw[<-zu,<-zu];exact jf.append_right C List.perm_append_comm
    refine(h0 [(p,At s ρa),(qt,Ax T'),(qv,Br 7 X Y),(qr,AM)] R1 (R2++L)).trans ?_;exact jf.append_left R1 (h0 [(p,At s ρa),(qt,Ax T'),(qv,Br 7 X Y),(qr,AM)] R2 L)
   simp only[Aa,simprocAttr,za,hlen,t5,t6,e2,e3];refine Ae (fZ ks its T'.2.1 (by omega) (by omega) hS.k hS.i (hO.perm hPerm) (fun hm o w ho=>?_) (fun hm o ho=>?_))
   ·have ho:=ho.perm hPerm.symm;rw[if_pos hm] at hk1;rw[AZ];simp only[Aa,simprocAttr,za,hlen,AG,BB];have ho2:=ho.app [OB.box 30 [.i .i64 w.kind,.s w.text,.row w.keys.length (w.keys.map .s),.row w.items.length (Ak w.items)]];obtain⟨e1',e2',e3',_,_,_,_⟩:=st _ _ _ _ _ _ _ ho2;subst hW;simp only[Aa,simprocAttr,za,hlen,t0,t6,e2'];refine Ae (Gl ho2 T'.2.2 143 fun o8 hO8=>?_);rw[<-hk1] at hO8;simp only[Aa,simprocAttr,Ap,zh,za,hlen,t0,t1,t4,t5,t6,and_self,and_true];exact hO8
   ·have ho:=ho.perm hPerm.symm;rw[if_neg hm] at hk1;simp only[Aa,simprocAttr,za,hlen,AG,BB];have ho2:=ho.app [OB.box 30 [.i .i64 0,.s [],.nil,.nil]];subst hW;rw[<-hk1] at ho2;simp only[Aa,simprocAttr,Ap,zh,za,hlen,t0,t1,t4,t5,t6,and_self,and_true];exact ho2
  clear hO hlen t0 t1 t4 t5 t6 hk1 hρa;generalize EZ ρ' T' ks=ρk at hrobj hGk hnk;rintro ob tm ⟨hO,hlen,t0,t1,t4,t5,t6⟩;subst hZ;refine Ac fun Z hZ=>?_;obtain⟨e1,e2,e3,e4,s1,s2,s3⟩:=st _ _ _ _ _ _ _ hO;simp only[Aa,simprocAttr,za,hlen,t6,e2];refine Gn (fun tm=>tm.length=98/\tm[0]? = some (.p p 0)/\tm[1]? = some (.i .i64 (d:Int))/\tm[4]? = some (.p qr 0)/\tm[5]? = some (.p qv 0)/\tm[6]? = some (.p qt 0)/\tm[9]? = some (.s T'.2.1)) ?_ ?_
  ·simp only[Aa,simprocAttr,zh,za,hlen,t0,t1,t4,t5,t6,and_self]
  clear hlen t0 t1 t4 t5 t6;rintro tm ⟨hlen,t0,t1,t4,t5,t6,t9⟩;subst hZ;refine Ac fun Z hZ=>?_;refine Ac fun W0 hW0=>?_;simp only[Aa,simprocAttr,za,hlen,t0];refine Ae (GK (by omega) hO fun o6 hO6=>?_);have hB_ρ2:=Eu hGk;have hT_ρ2:=Hk hGk;have hn_ρ2:=Ej s ρk;have hz_ρ2:=JQ s ρk;generalize Aj s ρk=N at hO6 hB_ρ2 hT_ρ2 hn_ρ2 hz_ρ2 hrobj ⊢;obtain⟨T2,ρ2⟩:=N;simp only at hO6 hB_ρ2 hT_ρ2 hn_ρ2 hz_ρ2 hrobj ⊢;obtain⟨e1,e2,e3,e4,s1,s2,s3⟩:=st _ _ _ _ _ _ _ hO6;unfold Er DM;simp only[Aa,simprocAttr,za,hlen,t6,e2,s2];rw[f1];have hO7:Au ((p,At s ρ2)::(qt,Ax T2)::(qv,Br 7 X Y)::(qr,AM)::(R1++(R2++L))) (o6.set qt (Ax (T2.1,T2.2.1,T2.2.2))):=Au.set (A:=[(p,At s ρ2)]) (Ax T2) hO6;generalize o6.set qt (Ax (T2.1,T2.2.1,T2.2.2))=o7 at hO7 ⊢;refine Gn (fun tm=>tm.length=98/\tm[0]? = some (.p p 0)/\tm[1]? = some (.i .i64 (d:Int))/\tm[4]? = some (.p qr 0)/\tm[5]? = some (.p qv 0)/\tm[6]? = some (.p qt 0)/\tm[9]? = some (.s T'.2.1)) ?_ ?_
  ·simp only[Aa,simprocAttr,zh,za,hlen,t0,t1,t4,t5,t6,t9,and_self]
  clear hO6 hO hlen t0 t1 t4 t5 t6 t9 e1 e2 e3 e4 s1 s2 s3;rintro tm ⟨hlen,t0,t1,t4,t5,t6,t9⟩;have hO:=hO7;clear hO7;subst hW0;refine Bq (fun o tm=>Au ((p,At s (Bx ρ2 T2 58))::(qt,Ax T2)::(qv,Br 7 X Y)::(qr,AM)::(R1++(R2++L))) o/\tm.length=98/\tm[0]? = some (.p p 0)/\tm[1]? = some (.i .i64 (d:Int))/\tm[4]? = some (.p qr 0)/\tm[5]? = some (.p qv 0)/\tm[6]? = some (.p qt 0)/\tm[9]? = some (.s T'.2.1)) ?_ ?_
  ·obtain⟨e1,e2,e3,e4,s1,s2,s3⟩:=st _ _ _ _ _ _ _ hO;refine Ac fun W hW=>?_
   by_cases c3:ρ2.fail=0
   rotate_left
   ·have hw:Bx ρ2 T2 58=ρ2:=by unfold Bx;rw[if_neg (fun h=>c3 h.1)]
    simp only[Aa,simprocAttr,za,hlen,t0,e1,c3];subst hW;simp only[Aa,simprocAttr,Ap,zh,za,hlen,t0,t1,t4,t5,t6,t9,hw,and_self,and_true];exact hO
   ·simp only[Aa,simprocAttr,za,hlen,t0,t6,e1,e2,c3];refine Ae (Gc T2 58 ?_)
    cases h44:Ch T2 58 with
    | true=>
     have hw:Bx ρ2 T2 58=ρ2:=by unfold Bx;rw[if_neg (fun h=>by rw[h44] at h;cases h.2)]
     simp only[Aa,simprocAttr,za,hlen];subst hW;simp only[Aa,simprocAttr,Ap,zh,za,hlen,t0,t1,t4,t5,t6,t9,hw,and_self,and_true];exact hO
    | false=>
     have hw:Bx ρ2 T2 58=Bs ρ2 T2.2.2 140:=by unfold Bx;rw[if_pos ⟨c3,h44⟩]
     simp only[Aa,simprocAttr,za,hlen];subst hW;simp only[Aa,simprocAttr,za,hlen,t0,t6,e2];refine Ae (Gl hO T2.2.2 140 fun o8 hO8=>?_);simp only[Aa,simprocAttr,Ap,zh,za,hlen,t0,t1,t4,t5,t6,t9,hw,and_self,and_true];exact hO8
  clear hO hlen t0 t1 t4 t5 t6 t9;rintro oc tm ⟨hO,hlen,t0,t1,t4,t5,t6,t9⟩;have hG3:=JC hB_ρ2.1 T2 58;have hn3:=Jz ρ2 T2 58;have hz3:=Pq ρ2 T2 58;generalize Bx ρ2 T2 58=ρ3 at hO hG3 hn3 hz3 hrobj;subst hZ;refine Ac fun Z hZ=>?_;simp only[Aa,simprocAttr,za,hlen,t0];refine Ae (GK (by omega) hO fun o6 hO6=>?_);have hB4:=Eu hG3;have hT4:=Hk hG3;have hn4:=Ej s ρ3;have hz4:=JQ s ρ3;generalize Aj s ρ3=N at hO6 hB4 hT4 hn4 hz4 hrobj ⊢;obtain⟨T4,ρ4⟩:=N;simp only at hO6 hB4 hT4 hn4 hz4 hrobj ⊢;have hvc:=fun {objs:List OB} {K:List OB->AV->Prop} {L:List (Nat×OB)} (h1) (h2) (h3)=>hv (objs:=objs) (K:=K) (L:=L) (ρ:=ρ4) T4 hB4.1 hB4.2 hT4 h1 h2 h3;have hg5:=hg ρ4 T4 hB4.1 hB4.2;have hn5:=hn ρ4 T4;have hz5:=hvz ρ4 T4;generalize val ρ4 T4=a at hvc hg5 hn5 hz5 hrobj;obtain⟨v,ρ5⟩:=a;simp only at hvc hg5 hn5 hz5 hrobj;obtain⟨c0,c1',c2,c3,hcv⟩:∃c0 c1 c2 c3,AP v=[c0,c1,c2,c3]:=⟨_,_,_,_,AZ v⟩;have hcf:(AV.agg [c0,c1',c2,c3]).flat=true:=by
   have:=AZ v;rw[hcv] at this;injection this with q0 this
   injection this with q1 this
   injection this with q2 this
   injection this with q3 _
   subst q0 q1 q2 q3
   rfl
  have hCL:CN ((p,At s ρ4)::(qt,Ax T2)::(qv,Br 7 X Y)::(qr,AM)::(R1++(R2++L))):=Uq hS.k hS.i hC;unfold Er DM;simp only[Aa,simprocAttr,za,hlen,t0,t1];refine Ae (hvc hCL hO6 fun o7 hO7=>?_);rw[hcv];simp only[Aa,simprocAttr,za,hlen,AG,BB,hcf];have hO8:=hO7.new (.box 30 [c0,c1',c2,c3]);generalize o7.length=qi at hO8 ⊢;generalize o7++[OB.box 30 [c0,c1',c2,c3]]=o8 at hO8 ⊢;refine Gn (fun tm=>tm.length=98/\tm[0]? = some (.p p 0)/\tm[1]? = some (.i .i64 (d:Int))/\tm[4]? = some (.p qr 0)/\tm[5]? = some (.p qv 0)/\tm[6]? = some (.p qt 0)/\tm[9]? = some (.s T'.2.1)/\tm[10]? = some (.p qi 0)) ?_ ?_
  ·simp only[Aa,simprocAttr,zh,za,hlen,t0,t1,t4,t5,t6,t9,and_self]
  clear hO hO6 hO7 hlen t0 t1 t4 t5 t6 t9;rintro tm ⟨hlen,t0,t1,t4,t5,t6,t9,t10⟩;subst hZ;refine Ac fun Z hZ=>?_;have hO8p:Au ((p,At s ρ5)::(qt,Ax T2)::(qv,Br 7 X Y)::(qr,AM)::(R1++(R2++L))) o8:=hO8.sub (jp _ _);obtain⟨e1,e2,e3,e4,s1,s2,s3⟩:=st _ _ _ _ _ _ _ hO8p;have ei:=hO8.get (i:=qi) (x:=.box 30 [c0,c1',c2,c3]) (by simp);refine Bq (fun o tm=>∃X' R1' Y' R2',Ho (ks++[T'.2.1]) (its++[v]) X' R1' Y' R2'/\Au ((p,At s ρ5)::(qt,Ax T2)::(qv,Br 7 X' Y')::(qr,AM)::(R1'++(R2'++L))) o/\tm.length=98/\tm[0]? = some (.p p 0)/\tm[1]? = some (.i .i64 (d:Int))/\tm[4]? = some (.p qr 0)/\tm[5]? = some (.p qv 0)/\tm[6]? = some (.p qt 0)) ?_ ?_
  ·rcases hS with ⟨z1,z2,rfl,rfl,rfl,rfl⟩|⟨b1,g1,b2,g2,rfl,rfl,rfl,rfl⟩
   ·have hlq:=(zf.1 e3).1;have hli:=(zf.1 ei).1;have n1:¬qv=o8.length:=by omega
    have n2:¬qi=o8.length:=by omega
    have h1:∀x,(o8++[x])[qv]? = some (.box 30 [.i .i64 7,.s [],.nil,.nil]):=fun x=>by rw[qh hlq];exact e3
    have h2:∀x,(o8++[x])[qi]? = some (.box 30 [c0,c1',c2,c3]):=fun x=>by rw[qh hli];exact ei
    have h3:∀x y,(o8++[x]++[y])[qv]? = some (.box 30 [.i .i64 7,.s [],.nil,.nil]):=fun x y=>by rw[qh (by simp;omega)];exact h1 x
    have h4:∀x y z,((o8++[x]++[y]).set qv z)[qv]? = some z:=fun x y z=>zm (by simp;omega);subst z1 z2;simp only[Aa,simprocAttr,za,hlen,t5,t9,t10,e3,ei,AG,BB,h1,h2,h3,h4,n1,n2,Ap,zh,List.set_set,t0,t1,t4,t6,and_self,and_true,not_false_eq_true,true_and];have hN:=(hO8p.new (.orow 9 1 0 1 [AV.s T'.2.1])).new (.orow 30 4 0 1 [c0,c1',c2,c3]);have elen:(o8++[OB.orow 9 1 0 1 [AV.s T'.2.1]]).length=o8.length+1:=by simp
    rw[elen] at hN;have hR:=hN.set (A:=[(o8.length+1,OB.orow 30 4 0 1 [c0,c1',c2,c3]),(o8.length,OB.orow 9 1 0 1 [AV.s T'.2.1]),(p,At s ρ5),(qt,Ax T2)]) (Br 7 (.orow o8.length 0) (.orow (o8.length+1) 0));refine⟨_,[(o8.length,OB.orow 9 1 0 1 [AV.s T'.2.1])],_,[(o8.length+1,OB.orow 30 4 0 1 [c0,c1',c2,c3])],.inr ⟨_,_,_,_,rfl,rfl,rfl,by rw[FX,EH,hcv];rfl⟩,hR.perm ?_⟩;refine(List.perm_append_comm (l₁:=[(o8.length+1,OB.orow 30 4 0 1 [c0,c1',c2,c3]),(o8.length,OB.orow 9 1 0 1 [AV.s T'.2.1])]) (l₂:=[(p,At s ρ5),(qt,Ax T2),(qv,Br 7 (.orow o8.length 0) (.orow (o8.length+1) 0)),(qr,AM)])).append_right L |>.trans ?_;exact jf.cons _ (jf.cons _ (jf.cons _ (jf.cons _ (jf.swap _ _ _))))
   ·have eb1:=hO8.get (i:=b1) (x:=.orow 9 1 g1 ks.length (ks.map .s)) (by simp);have eb2:=hO8.get (i:=b2) (x:=.orow 30 4 g2 its.length (Ak its)) (by simp);have hlq:=(zf.1 e3).1;have hl1:=(zf.1 eb1).1;have hl2:=(zf.1 eb2).1;have hnd8:=hO8.1;simp only[zl,ji,List.map_nil,xz,ja,qo,zv,qc,ju,or_false,not_or] at hnd8;have n1:¬qv=b1:=hnd8.2.2.2.1.2.1;have n2:¬qi=b1:=hnd8.1.2.2.2.2.1;have n3:¬b1=b2:=hnd8.2.2.2.2.2.1.1;have n4:¬qv=b2:=hnd8.2.2.2.1.2.2.1;have n1':¬b1=qv:=fun h=>n1 h.symm;have n2':¬b1=qi:=fun h=>n2 h.symm;have n4':¬b2=qv:=fun h=>n4 h.symm;have h0:∀x,(o8.set b1 x)[b1]? = some x:=fun x=>zm hl1;have h1:∀x,(o8.set b1 x)[qv]? = some (.box 30 [.i .i64 7,.s [],.orow b1 g1,.orow b2 g2]):=fun x=>by rw[zo n1'];exact e3
    have h2:∀x,(o8.set b1 x)[qi]? = some (.box 30 [c0,c1',c2,c3]):=fun x=>by rw[zo n2'];exact ei
    have h5:∀x,(o8.set b1 x)[b2]? = some (.orow 30 4 g2 its.length (Ak its)):=fun x=>by rw[zo n3];exact eb2
    have h3:∀x y,((o8.set b1 x).set b2 y)[qv]? = some (.box 30 [.i .i64 7,.s [],.orow b1 g1,.orow b2 g2]):=fun x y=>by rw[zo n4'];exact h1 x
    have h4:∀x y z,(((o8.set b1 x).set b2 y).set qv z)[qv]? = some z:=fun x y z=>zm (by simp;omega);have hjl:=Fy its;simp only[Aa,simprocAttr,za,hlen,t5,t9,t10,e3,ei,eb1,h0,h1,h2,h3,h4,h5,n1,n2,Ap,zh,List.set_set,t0,t1,t4,t6,and_self,and_true,not_false_eq_true,true_and];refine⟨⟨by omega,by omega⟩,⟨by omega,by omega⟩,?_⟩;have hN:=hO8p.set (A:=[(p,At s ρ5),(qt,Ax T2),(qv,Br 7 (.orow b1 g1) (.orow b2 g2)),(qr,AM)]) (.orow 9 1 (g1+1) (ks.length+1) (ks.map AV.s++[AV.s T'.2.1]));have hN:=hN.set (A:=[(p,At s ρ5),(qt,Ax T2),(qv,Br 7 (.orow b1 g1) (.orow b2 g2)),(qr,AM),(b1,OB.orow 9 1 (g1+1) (ks.length+1) (ks.map AV.s++[AV.s T'.2.1]))]) (.orow 30 4 (g2+1) (its.length+1) (Ak its++[c0,c1',c2,c3]));have hR:=hN.set (A:=[(p,At s ρ5),(qt,Ax T2)]) (Br 7 (.orow b1 (g1+1)) (.orow b2 (g2+1)));exact⟨_,[(b1,OB.orow 9 1 (g1+1) (ks.length+1) (ks.map AV.s++[AV.s T'.2.1]))],_,[(b2,OB.orow 30 4 (g2+1) (its.length+1) (Ak its++[c0,c1',c2,c3]))],.inr ⟨_,_,_,_,rfl,by rw[ji,zg];rfl,rfl,by rw[U8,FX,EH,hcv,zg];rfl⟩,hR⟩
  clear hO8 hO8p hS hlen t0 t1 t4 t5 t6 t9 t10 e1 e2 e3 e4 s1 s2 s3 ei hCL hvc hv hg hn hcf hB hGB hTx;rintro oc tm ⟨X',R1',Y',R2',hS,hO,hlen,t0,t1,t4,t5,t6⟩;subst hZ;refine Ac fun Z hZ=>?_;simp only[Aa,simprocAttr,za,hlen,t0];refine Ae (GK (by omega) hO fun o6 hO6=>?_);have hB_ρ6:=Eu hg5;have hT_ρ6:=Hk hg5;have hn_ρ6:=Ej s ρ5;have hz_ρ6:=JQ s ρ5;generalize Aj s ρ5=N at hO6 hB_ρ6 hT_ρ6 hn_ρ6 hz_ρ6 hrobj ⊢;obtain⟨T6,ρ6⟩:=N;simp only at hO6 hB_ρ6 hT_ρ6 hn_ρ6 hz_ρ6 hrobj ⊢;obtain⟨e1,e2,e3,e4,s1,s2,s3⟩:=st _ _ _ _ _ _ _ hO6;unfold Er DM;simp only[Aa,simprocAttr,za,hlen,t6,e2,s2];rw[f1];have hO7:Au ((p,At s ρ6)::(qt,Ax T6)::(qv,Br 7 X' Y')::(qr,AM)::(R1'++(R2'++L))) (o6.set qt (Ax (T6.1,T6.2.1,T6.2.2))):=Au.set (A:=[(p,At s ρ6)]) (Ax T6) hO6;generalize o6.set qt (Ax (T6.1,T6.2.1,T6.2.2))=o7 at hO7 ⊢;refine Gn (fun tm=>tm.length=98/\tm[0]? = some (.p p 0)/\tm[1]? = some (.i .i64 (d:Int))/\tm[4]? = some (.p qr 0)/\tm[5]? = some (.p qv 0)/\tm[6]? = some (.p qt 0)) ?_ ?_
  ·simp only[Aa,simprocAttr,zh,za,hlen,t0,t1,t4,t5,t6,and_self]
  clear hO6 hO hlen t0 t1 t4 t5 t6 e1 e2 e3 e4 s1 s2 s3;rintro tm ⟨hlen,t0,t1,t4,t5,t6⟩;have hO:=hO7;clear hO7;subst hZ;refine Ac fun Z hZ=>?_;obtain⟨e1,e2,e3,e4,s1,s2,s3⟩:=st _ _ _ _ _ _ _ hO;simp only[Aa,simprocAttr,za,hlen,t6,e2];refine Ae (Gc T6 125 ?_)
  cases hcl:Ch T6 125 with
  | true=>
   rw[hcl,if_pos rfl] at hrobj;simp only[Aa,simprocAttr,za,hlen,t4,t5,e3,e4,s1,hS.flat.1,hS.flat.2];exact fin hrobj hS hO
  | false=>
  rw[hcl,if_neg Bool.false_ne_true] at hrobj;simp only[Aa,simprocAttr,za,hlen];refine Gn (fun tm=>tm.length=98/\tm[0]? = some (.p p 0)/\tm[1]? = some (.i .i64 (d:Int))/\tm[4]? = some (.p qr 0)/\tm[5]? = some (.p qv 0)/\tm[6]? = some (.p qt 0)) ?_ ?_
  ·simp only[Aa,simprocAttr,zh,za,hlen,t0,t1,t4,t5,t6,and_self]
  clear hlen t0 t1 t4 t5 t6 e1 e2 e3 e4 s1 s2 s3;rintro tm ⟨hlen,t0,t1,t4,t5,t6⟩;subst hZ;refine Ac fun Z hZ=>?_;refine Bq (fun o tm=>Au ((p,At s (Bx ρ6 T6 44))::(qt,Ax T6)::(qv,Br 7 X' Y')::(qr,AM)::(R1'++(R2'++L))) o/\tm.length=98/\tm[0]? = some (.p p 0)/\tm[1]? = some (.i .i64 (d:Int))/\tm[4]? = some (.p qr 0)/\tm[5]? = some (.p qv 0)/\tm[6]? = some (.p qt 0)) ?_ ?_
  ·obtain⟨e1,e2,e3,e4,s1,s2,s3⟩:=st _ _ _ _ _ _ _ hO;refine Ac fun W hW=>?_
   by_cases c3:ρ6.fail=0
   rotate_left
   ·have hw:Bx ρ6 T6 44=ρ6:=by unfold Bx;rw[if_neg (fun h=>c3 h.1)]
    simp only[Aa,simprocAttr,za,hlen,t0,e1,c3];subst hW;simp only[Aa,simprocAttr,Ap,zh,za,hlen,t0,t1,t4,t5,t6,hw,and_self,and_true];exact hO
   ·simp only[Aa,simprocAttr,za,hlen,t0,t6,e1,e2,c3];refine Ae (Gc T6 44 ?_)
    cases h44:Ch T6 44 with
    | true=>
     have hw:Bx ρ6 T6 44=ρ6:=by unfold Bx;rw[if_neg (fun h=>by rw[h44] at h;cases h.2)]
     simp only[Aa,simprocAttr,za,hlen];subst hW;simp only[Aa,simprocAttr,Ap,zh,za,hlen,t0,t1,t4,t5,t6,hw,and_self,and_true];exact hO
    | false=>
     have hw:Bx ρ6 T6 44=Bs ρ6 T6.2.2 140:=by unfold Bx;rw[if_pos ⟨c3,h44⟩]
     simp only[Aa,simprocAttr,za,hlen];subst hW;simp only[Aa,simprocAttr,za,hlen,t0,t6,e2];refine Ae (Gl hO T6.2.2 140 fun o8 hO8=>?_);simp only[Aa,simprocAttr,Ap,zh,za,hlen,t0,t1,t4,t5,t6,hw,and_self,and_true];exact hO8
  clear hO hlen t0 t1 t4 t5 t6;rintro oc tm ⟨hO,hlen,t0,t1,t4,t5,t6⟩;have hG7:=JC hB_ρ6.1 T6 44;have hn7:=Jz ρ6 T6 44;have hz7:=Pq ρ6 T6 44;generalize Bx ρ6 T6 44=ρ7 at hO hG7 hn7 hz7 hrobj;subst hZ;simp only[Aa,simprocAttr,za,hlen,t0];refine Ae (GK (by omega) hO fun o9 hO9=>?_);have hB8:=Eu hG7;have hT8:=Hk hG7;have hn8:=Ej s ρ7;have hz8:=JQ s ρ7;generalize Aj s ρ7=N at hO9 hB8 hT8 hn8 hz8 hrobj ⊢;obtain⟨T8,ρ8⟩:=N;simp only at hO9 hB8 hT8 hn8 hz8 hrobj ⊢;obtain⟨e1,e2,e3,e4,s1,s2,s3⟩:=st _ _ _ _ _ _ _ hO9;unfold Er DM;simp only[Aa,simprocAttr,za,hlen,t6,e2,s2];rw[f1];have hO10:Au ((p,At s ρ8)::(qt,Ax T8)::(qv,Br 7 X' Y')::(qr,AM)::(R1'++(R2'++L))) (o9.set qt (Ax (T8.1,T8.2.1,T8.2.2))):=Au.set (A:=[(p,At s ρ8)]) (Ax T8) hO9;generalize o9.set qt (Ax (T8.1,T8.2.1,T8.2.2))=o10 at hO10 ⊢;have zz:∀{a b:Rs},Ff a b->b.fail=0->a.fail=0:=fun {a b} h hb=>by
   by_cases c:a.fail=0
   ·exact c
   ·exact absurd ((h c).1.symm.trans hb) c
  refine⟨m,by omega,i+1,ρ8,T8,ks++[T'.2.1],its++[v],X',R1',Y',R2',by omega,by rw[zg,hi];rfl,by rw[zg,hi2];rfl,hrobj,hB8.1,hT8,fun hf=>?_,hS,hO10,?_⟩
  ·have q7:=zz hz8 hf;have q6:=zz hz7 q7;have q5:=zz hz_ρ6 q6;have q4:=zz hz5 q5;have:=hn5 q5;have:=hnd c1;omega
  ·simp only[Aa,simprocAttr,zh,za,hlen,t0,t1,t4,t5,t6,and_self]
end
end
section
attribute [local irreducible] run
theorem iM {L L':List (Nat×OB)} (h:CN L) (hm:∀y,y∈L'↔y∈L):CN L':=fun y hy b g n xs hb=>h y ((hm y).1 hy) b g n xs fun z hz=>hb z ((hm z).2 hz)
theorem Px {x:Nat×OB} {i T:Nat} {cs:List AV} {L:List (Nat×OB)} (h:CN (x::L)) (hp:AE cs=true):CN (x::(i,.box T cs)::L) :=
 iM (Qa (i:=i) (T:=T) h hp) fun y=>by simp only[zv];exact⟨fun h=>by rcases h with h|h|h<;>simp[h],fun h=>by rcases h with h|h|h<;>simp[h]⟩
theorem aC {k:Int} {x:List UInt8} {G:Gh} {I:Al} {y:Value} (h:Ab G I (.agg [.i .i64 k,.s x,.nil,.nil]) y):Ab G I (.agg (AP (.mk k x [] []))) y:=by
 rw[AP,EH];simp only[Ad,Ab] at h ⊢;obtain⟨zs,rfl,⟨z0,m0,rfl,q0,z1,m1,rfl,q1,z2,m2,rfl,q2,z3,m3,rfl,q3,q4⟩,hz⟩:=h;refine⟨_,rfl,⟨_,_,rfl,q0,_,_,rfl,q1,_,_,rfl,?_,_,_,rfl,?_,q4⟩,hz⟩
 ·exact⟨none,0,[],q2,⟨ze _,fun ad h=>by cases h⟩,rfl,by simp,by simp⟩
 ·exact⟨none,0,[],q3,⟨ze _,fun ad h=>by cases h⟩,rfl,by simp,by simp⟩
def Xx (K:List OB->AV->Prop) (v:JV) (o:List OB) (r:AV):Prop:=(∀G I y,Ab G I r y->Ab G I (.agg (AP v)) y)/\K o (.agg (AP v))
theorem KI {K:List OB->AV->Prop} {k:Int} {x:List UInt8} {o:List OB} (h:K o (.agg (AP (.mk k x [] [])))):Xx K (.mk k x [] []) o (.agg [.i .i64 k,.s x,.nil,.nil]):=⟨fun _ _ _ hy=>aC hy,h⟩
section
variable [Tabs Tryz.prog] [Utf Tryz.prog] {p:Nat} {s:List UInt8}
theorem Zd (hs:s.length<=1048576):∀f d,f+d=65->d<=64->Is s p d (fun ρ t=>AW s f ρ t d):=by
 intro f
 induction f with
 | zero=>intro d hd hd2;omega
 | succ f ih=>
  intro d hd hd2;unfold Is;intro objs K L ρ t hB hT hTx hC hO hk;dsimp only at hk;refine Qt (.agg (AP (AW s (f+1) ρ t d).1)) ?_;show Ah _ _ _ _ (Xx K (AW s (f+1) ρ t d).1);refine DI oK fun C _=>?_;obtain⟨k5,k4,kw,k6,k7,kw2⟩:=Ze (t:=t);rw[Wv];refine Ac fun Z hZ=>?_;unfold Er DM;simp only[Aa,simprocAttr];have hO1:=(hO.new (Ax t)).new AM;have elen:(objs++[Ax t]).length=objs.length+1:=by simp
  rw[elen] at hO1;unfold Ax DM AM at hO1;generalize objs.length=qt at hO1 ⊢;generalize objs++[OB.box 44 [.i .i64 t.1,.s t.2.1,.i .i64 t.2.2]]++[OB.box 30 [.i .i64 0,.s [],.nil,.nil]]=o at hO1 ⊢;have hO1:Au ((p,At s ρ)::(qt,Ax t)::(qt+1,AM)::L) o:=hO1.perm ((List.reverse_perm [(p,At s ρ),(qt,Ax t),(qt+1,AM)]).append_right L);generalize qt+1=qr at hO1 ⊢;have fin:∀(o:List OB) (ρ':Rs) (x:OB) (M:List (Nat×OB)),Au ((p,At s ρ')::(qt,Ax t)::(qr,AM)::(M++L)) o->Au ((p,At s ρ')::L) (o.set qr x):=fun o ρ' x M h=>(Au.set (A:=[(p,At s ρ'),(qt,Ax t)]) x h).sub ((((List.sublist_append_right M L).trans (jp _ _)).trans (jp _ _)).cons_cons _);have st:∀(o:List OB) (ρ':Rs) (M:List (Nat×OB)),Au ((p,At s ρ')::(qt,Ax t)::(qr,AM)::(M++L)) o->o[p]? = some (.box 41 [.s s,.i .i64 ρ'.pos,.i .i64 (ρ'.nodes:Int),.i .i64 ρ'.fail,.i .i64 ρ'.wh])/\o[qt]? = some (.box 44 [.i .i64 t.1,.s t.2.1,.i .i64 t.2.2])/\o[qr]? = some (.box 30 [.i .i64 0,.s [],.nil,.nil])/\(∀x,(o.set qr x)[qr]? = some x) :=
   fun o ρ' M h=>⟨h.get (by simp[At]),h.get (by simp[Ax,DM]),h.get (by simp[AM]),fun x=>zm (h.lt (i:=qr) (x:=AM) (by simp))⟩
  have hO1:Au ((p,At s ρ)::(qt,Ax t)::(qr,AM)::([]++L)) o:=hO1;obtain⟨e1,e2,e3,s1⟩:=st _ _ _ hO1;subst hZ;refine Ac fun Z hZ=>?_;refine Bq (fun o' tm=>o=o'/\tm.length=117/\tm[0]? = some (.p p 0)/\tm[2]? = some (.i .i64 (d:Int))/\tm[4]? = some (.p qt 0)/\tm[6]? = some (.p qr 0)/\tm[7]? = some (.b (!decide (BZ t=0)))) ?_ ?_
  ·by_cases a3:t.1=3
   ·have hv:¬BZ t=0:=by have:=k5.2 a3;omega
    simp only[Aa,simprocAttr,e2,a3,Ap,hv,decide_false,Bool.not_false,and_self]
   by_cases a4:t.1=4
   ·have hv:¬BZ t=0:=by have:=k4.2 a4;omega
    simp only[Aa,simprocAttr,e2,a3,a4,Ap,hv,decide_false,Bool.not_false,and_self]
   by_cases a5:t.1=5
   ·have hv:¬BZ t=0:=by have:=kw.2 a5;omega
    simp only[Aa,simprocAttr,e2,a3,a4,a5,Ap,hv,decide_false,Bool.not_false,and_self]
   simp only[Aa,simprocAttr,e2,a3,a4,a5];refine Ae (Gc t 91 ?_)
   cases h91:Ch t 91 with
   | true=>
    have hv:¬BZ t=0:=by have:=k6.2 h91;omega
    simp only[Aa,simprocAttr,Ap,hv,decide_false,Bool.not_false,and_self]
   | false=>
    simp only[Aa,simprocAttr,e2];refine Ae (Gc t 123 ?_)
    cases h123:Ch t 123 with
    | true=>
     have hv:¬BZ t=0:=by have:=k7.2 h123;omega
     simp only[Aa,simprocAttr,Ap,hv,decide_false,Bool.not_false,and_self]
    | false=>
     have hv:BZ t=0:=by
      have n5:¬BZ t=5:=fun h=>a3 (k5.1 h);have n4:¬BZ t=4:=fun h=>a4 (k4.1 h);have nw:¬(BZ t=1\/BZ t=2\/BZ t=3):=fun h=>a5 (kw.1 h);have n6:¬BZ t=6:=fun h=>by rw[k6.1 h] at h91;cases h91
      have n7:¬BZ t=7:=fun h=>by rw[k7.1 h] at h123;cases h123
      have:=uI t;omega
     simp only[Aa,simprocAttr,Ap,hv,decide_true,Bool.not_true,and_self]
  rintro o' tm ⟨rfl,hlen,t0,t2,t4,t6,t7⟩;subst hZ;refine Ac fun Z hZ=>?_
  by_cases c0:ρ.fail=0
  rotate_left
  ·rw[AW,if_pos c0] at hk ⊢;simp only[Aa,simprocAttr,za,hlen,t0,t6,e1,e3,c0,s1];exact KI (hk _ (fin _ _ _ _ hO1))
  rw[AW,if_neg (fun h=>h c0)] at hk ⊢;simp only[Aa,simprocAttr,za,hlen,t0,e1,c0];subst hZ;refine Ac fun Z hZ=>?_
  by_cases cv:BZ t=0
  ·rw[if_pos cv] at hk ⊢;simp only[cv,decide_true,Bool.not_true] at t7;simp only[Aa,simprocAttr,za,hlen,t0,t4,t7,e2];refine Ae (Gl hO1 t.2.2 140 fun o2 hO2=>?_);obtain⟨e1,e2,e3,s1⟩:=st _ _ _ hO2;simp only[Aa,simprocAttr,za,hlen,t6,e3,s1];exact KI (hk _ (fin _ _ _ _ hO2))
  rw[if_neg cv] at hk ⊢;simp only[cv,decide_false,Bool.not_false] at t7;simp only[Aa,simprocAttr,za,hlen,t7];subst hZ;refine Ac fun Z hZ=>?_
  by_cases c2:t.1=2/\d=64
  ·rw[if_pos c2] at hk ⊢;have c2b:(d:Int)=64:=by omega
   have c2a:=c2.1;simp only[Aa,simprocAttr,za,hlen,t0,t2,t4,e2,c2a,c2b];refine Ae (Gl hO1 t.2.2 141 fun o2 hO2=>?_);obtain⟨e1,e2,e3,s1⟩:=st _ _ _ hO2;simp only[Aa,simprocAttr,za,hlen,t6,e3,s1];exact KI (hk _ (fin _ _ _ _ hO2))
  rw[if_neg c2] at hk ⊢;refine Bq (fun o' tm=>o=o'/\tm.length=117/\tm[0]? = some (.p p 0)/\tm[2]? = some (.i .i64 (d:Int))/\tm[4]? = some (.p qt 0)/\tm[6]? = some (.p qr 0)) ?_ ?_
  ·by_cases c2a:t.1=2
   ·have c2b:¬(d:Int)=64:=fun h=>c2 ⟨c2a,by omega⟩;simp only[Aa,simprocAttr,za,hlen,t0,t2,t4,t6,e2,c2a,c2b,Ap,zh,and_self]
   ·simp only[Aa,simprocAttr,za,hlen,t0,t2,t4,t6,e2,c2a,Ap,zh,and_self]
  clear hlen t0 t2 t4 t6 t7;rintro o' tm ⟨rfl,hlen,t0,t2,t4,t6⟩;subst hZ;refine Ac fun Z hZ=>?_;have hO2:=hO1.new (.box 30 [.i .i64 5,.s t.2.1,.nil,.nil]);have hO2:Au ((p,At s ρ)::(qt,Ax t)::(qr,AM)::([(o.length,.box 30 [.i .i64 5,.s t.2.1,.nil,.nil])]++L)) (o++[.box 30 [.i .i64 5,.s t.2.1,.nil,.nil]]):=hO2.perm (List.perm_middle (l₁:=[(p,At s ρ),(qt,Ax t),(qr,AM)])).symm;simp only[Aa,simprocAttr,za,hlen,t4,e2,AG,BB];have hqv:¬o.length=qt/\¬o.length=p:=by
   have h1:=hO1.lt (i:=qt) (x:=Ax t) (by simp);have h2:=hO1.lt (i:=p) (x:=At s ρ) (by simp);omega
  generalize o.length=qv at hO2 hqv ⊢;generalize o++[OB.box 30 [.i .i64 5,.s t.2.1,.nil,.nil]]=o2 at hO2 ⊢;refine Gn (fun tm=>tm.length=117/\tm[0]? = some (.p p 0)/\tm[2]? = some (.i .i64 (d:Int))/\tm[4]? = some (.p qt 0)/\tm[6]? = some (.p qr 0)/\tm[8]? = some (.p qv 0)) ?_ ?_
  ·simp only[Aa,simprocAttr,zh,za,hlen,t0,t2,t4,t6,and_self]
  clear hlen t0 t2 t4 t6 e1 e2 e3 s1 hO1;rintro tm ⟨hlen,t0,t2,t4,t6,t8⟩;subst hZ;refine Ac fun Z hZ=>?_;have hcnt:B2 ρ t=(if 20000<(if t.1=4/\¬(BI t.2.1).1=0 then Bs ρ t.2.2 (BI t.2.1).1 else ρ).nodes+1 then Bs ⟨(if t.1=4/\¬(BI t.2.1).1=0 then Bs ρ t.2.2 (BI t.2.1).1 else ρ).pos,(if t.1=4/\¬(BI t.2.1).1=0 then Bs ρ t.2.2 (BI t.2.1).1 else ρ).nodes+1,(if t.1=4/\¬(BI t.2.1).1=0 then Bs ρ t.2.2 (BI t.2.1).1 else ρ).fail,(if t.1=4/\¬(BI t.2.1).1=0 then Bs ρ t.2.2 (BI t.2.1).1 else ρ).wh⟩ t.2.2 142 else ⟨(if t.1=4/\¬(BI t.2.1).1=0 then Bs ρ t.2.2 (BI t.2.1).1 else ρ).pos,(if t.1=4/\¬(BI t.2.1).1=0 then Bs ρ t.2.2 (BI t.2.1).1 else ρ).nodes+1,(if t.1=4/\¬(BI t.2.1).1=0 then Bs ρ t.2.2 (BI t.2.1).1 else ρ).fail,(if t.1=4/\¬(BI t.2.1).1=0 then Bs ρ t.2.2 (BI t.2.1).1 else ρ).wh⟩):=rfl;have hxn:(if t.1=4/\¬(BI t.2.1).1=0 then Bs ρ t.2.2 (BI t.2.1).1 else ρ).nodes=ρ.nodes:=by
   split
   ·exact IS _ _ _
   ·rfl
  generalize hx:(if t.1=4/\¬(BI t.2.1).1=0 then Bs ρ t.2.2 (BI t.2.1).1 else ρ)=x at hcnt hxn;refine Bq (fun o tm=>Au ((p,At s x)::(qt,Ax t)::(qr,AM)::([(qv,.box 30 [.i .i64 (if t.1=4 then 4 else 5),.s (if t.1=4 then (BI t.2.1).2 else t.2.1),.nil,.nil])]++L)) o/\tm.length=117/\tm[0]? = some (.p p 0)/\tm[2]? = some (.i .i64 (d:Int))/\tm[4]? = some (.p qt 0)/\tm[6]? = some (.p qr 0)/\tm[8]? = some (.p qv 0)) ?_ ?_
  ·obtain⟨e1,e2,e3,s1⟩:=st _ _ _ hO2
   by_cases a4:t.1=4
   rotate_left
   ·rw[if_neg (fun h=>a4 h.1)] at hx;subst hx;simp only[Aa,simprocAttr,za,hlen,t0,t2,t4,t6,t8,e2,a4,Ap,zh,and_self,and_true,if_false];exact hO2
   have eqv:=hO2.get (i:=qv) (x:=.box 30 [.i .i64 5,.s t.2.1,.nil,.nil]) (by simp);simp only[Aa,simprocAttr,za,hlen,t4,e2,a4];refine Ae (fJ t.2.1 (by omega) ?_)
   by_cases cn:(BI t.2.1).1=0
   ·rw[if_neg (fun h=>h.2 cn)] at hx;subst hx;simp only[Aa,simprocAttr,za,hlen,t0,t2,t4,t6,t8,cn,eqv,Ap,zh,and_self,and_true,if_pos];exact Au.set (A:=[(p,At s ρ),(qt,Ax t),(qr,AM)]) (.box 30 [.i .i64 4,.s (BI t.2.1).2,.nil,.nil]) hO2
   ·rw[if_pos ⟨a4,cn⟩] at hx;simp only[Aa,simprocAttr,za,hlen,t0,t4,e2,cn];refine Ae (Gl hO2 t.2.2 (BI t.2.1).1 fun o3 hO3=>?_);rw[hx] at hO3;have eqv:=hO3.get (i:=qv) (x:=.box 30 [.i .i64 5,.s t.2.1,.nil,.nil]) (by simp);simp only[Aa,simprocAttr,za,hlen,t0,t2,t4,t6,t8,eqv,Ap,zh,and_self,and_true,if_pos];exact Au.set (A:=[(p,At s x),(qt,Ax t),(qr,AM)]) (.box 30 [.i .i64 4,.s (BI t.2.1).2,.nil,.nil]) hO3
  clear hlen t0 t2 t4 t6 t8 hO2 hx;generalize hkk:(if t.1=4 then (4:Int) else 5)=kk;generalize hxx:(if t.1=4 then (BI t.2.1).2 else t.2.1)=xx;rintro o3 tm ⟨hO3,hlen,t0,t2,t4,t6,t8⟩;subst hZ;refine Ac fun Z hZ=>?_;have f2:∀b:Rs,OB.box 41 [.s s,.i .i64 b.pos,.i .i64 ((b.nodes:Int)+1),.i .i64 b.fail,.i .i64 b.wh]=At s ⟨b.pos,b.nodes+1,b.fail,b.wh⟩:=fun _=>rfl;have hnb:=hB.n1;refine Bq (fun o tm=>Au ((p,At s (B2 ρ t))::(qt,Ax t)::(qr,AM)::([(qv,.box 30 [.i .i64 kk,.s xx,.nil,.nil])]++L)) o/\tm.length=117/\tm[0]? = some (.p p 0)/\tm[2]? = some (.i .i64 (d:Int))/\tm[4]? = some (.p qt 0)/\tm[6]? = some (.p qr 0)/\tm[8]? = some (.p qv 0)) ?_ ?_
  ·obtain⟨e1,e2,e3,s1⟩:=st _ _ _ hO3;refine Ac fun W hW=>?_;simp only[Aa,simprocAttr,za,hlen,t0,e1];refine⟨⟨by omega,by omega⟩,?_⟩;rw[f2];have hO4:=Au.set (A:=[]) (At s ⟨x.pos,x.nodes+1,x.fail,x.wh⟩) hO3;have hO4:Au ((p,At s ⟨x.pos,x.nodes+1,x.fail,x.wh⟩)::(qt,Ax t)::(qr,AM)::([(qv,.box 30 [.i .i64 kk,.s xx,.nil,.nil])]++L)) (o3.set p (At s ⟨x.pos,x.nodes+1,x.fail,x.wh⟩)):=hO4;generalize o3.set p (At s ⟨x.pos,x.nodes+1,x.fail,x.wh⟩)=o4 at hO4 ⊢;obtain⟨e1,e2,e3,s1⟩:=st _ _ _ hO4;subst hW
   by_cases c7:20000<x.nodes+1
   ·rw[if_pos c7] at hcnt;have c7':(20000:Int)<((x.nodes+1:Nat):Int):=by omega
    simp only[Aa,simprocAttr,za,hlen,t0,t2,t4,t6,e1,e2,c7'];refine Ae (Gl hO4 t.2.2 142 fun o5 hO5=>?_);rw[<-hcnt] at hO5;simp only[Aa,simprocAttr,za,hlen,t0,t2,t4,t6,t8,Ap,zh,and_self,and_true];exact hO5
   ·rw[if_neg c7] at hcnt;have c7':¬(20000:Int)<((x.nodes+1:Nat):Int):=by omega
    rw[<-hcnt] at hO4;simp only[Aa,simprocAttr,za,hlen,t0,t2,t4,t6,t8,e1,c7',Ap,zh,and_self,and_true];exact hO4
  clear hO3 hlen t0 t2 t4 t6 t8 hcnt hxn x;rintro o4 tm ⟨hO4,hlen,t0,t2,t4,t6,t8⟩;have hGc:=S6 hB hT (Rr cv) c0;have hGv:GV s (fun ρ t=>AW s f ρ t (d+1)):=L0 s f (d+1);generalize B2 ρ t=ρc at hO4 hGc hk ⊢;obtain⟨e1,e2,e3,s1⟩:=st _ _ _ hO4;subst hZ;refine Ac fun Z hZ=>?_;rw[DJ];have hCa:CN ((p,At s ρc)::(qt,Ax t)::(qr,AM)::([(qv,.box 30 [.i .i64 kk,.s xx,.nil,.nil])]++L)):=Px (Px (Px (OY hC) rfl) rfl) rfl
  by_cases a5:t.1=5
  ·rw[if_pos a5] at hk ⊢;simp only[Aa,simprocAttr,za,hlen,t4,e2,a5];refine Ae (YB t.2.1 ?_);simp only[Aa,simprocAttr,za,hlen,t6,e3,s1];exact KI (hk _ (fin _ _ _ _ hO4))
  rw[if_neg a5] at hk ⊢;simp only[Aa,simprocAttr,za,hlen,t4,e2,a5];refine Ae (Gc t 91 ?_)
  cases h91:Ch t 91 with
  | true=>
   have h2:=(S8 h91).1;have hd3:d<64:=by
    rcases zx d 64 with h|h
    ·exact h
    ·exact absurd ⟨h2,by omega⟩ c2
   have hval:Is s p (d+1) (fun ρ t=>AW s f ρ t (d+1)):=ih (d+1) (by omega) (by omega);have hn1:=fun ρ t=>(OU s f (d+1)).2 ρ t (by omega);rw[h91] at hk;rw[if_pos rfl] at hk ⊢;simp only[Aa,simprocAttr,za,hlen,t0,t2];refine⟨⟨by omega,by omega⟩,?_⟩;rw[show ((d:Int)+1)=((d+1:Nat):Int) from rfl];refine Ae (XW hval hGv hn1 hs hGc hCa hO4 fun o9 hO9=>?_);obtain⟨e1,e2,e3,s1⟩:=st _ _ _ hO9;generalize (DC s (fun ρ t=>AW s f ρ t (d+1)) ρc).1=v at hk ⊢;have hk2:=hk _ (fin _ _ (.box 30 (AP v)) _ hO9);have hjc:=AZ v;rw[hjc] at hk2 ⊢;simp only[Aa,simprocAttr,za,hlen,t6,e3,s1];exact⟨fun G I y hy=>by rw[hjc];exact hy,by rw[hjc];exact hk2⟩
  | false=>
  rw[h91] at hk;rw[if_neg Bool.false_ne_true] at hk ⊢;simp only[Aa,simprocAttr,za,hlen,t4,e2];refine Ae (Gc t 123 ?_)
  cases h123:Ch t 123 with
  | true=>
   have h2:=(S8 h123).1;have hd3:d<64:=by
    rcases zx d 64 with h|h
    ·exact h
    ·exact absurd ⟨h2,by omega⟩ c2
   have hval:Is s p (d+1) (fun ρ t=>AW s f ρ t (d+1)):=ih (d+1) (by omega) (by omega);have hn1:=fun ρ t=>(OU s f (d+1)).2 ρ t (by omega);rw[h123] at hk;rw[if_pos rfl] at hk ⊢;simp only[Aa,simprocAttr,za,hlen,t0,t2];refine⟨⟨by omega,by omega⟩,?_⟩;rw[show ((d:Int)+1)=((d+1:Nat):Int) from rfl];refine Ae (bF hval hGv hn1 (fun ρ t=>jF s f ρ t (d+1)) hs hGc hCa hO4 fun o9 hO9=>?_);obtain⟨e1,e2,e3,s1⟩:=st _ _ _ hO9;generalize (DT s (fun ρ t=>AW s f ρ t (d+1)) ρc).1=v at hk ⊢;have hk2:=hk _ (fin _ _ (.box 30 (AP v)) _ hO9);have hjc:=AZ v;rw[hjc] at hk2 ⊢;simp only[Aa,simprocAttr,za,hlen,t6,e3,s1];exact⟨fun G I y hy=>by rw[hjc];exact hy,by rw[hjc];exact hk2⟩
  | false=>
  rw[h123] at hk;rw[if_neg Bool.false_ne_true] at hk ⊢;have eqv:=hO4.get (i:=qv) (x:=.box 30 [.i .i64 kk,.s xx,.nil,.nil]) (by simp);simp only[Aa,simprocAttr,za,hlen];subst hZ;simp only[Aa,simprocAttr,za,hlen,t6,t8,eqv,e3,s1];have hkv:(if t.1=4 then (JV.mk 4 (BI t.2.1).2 [] [],ρc) else (JV.mk 5 t.2.1 [] [],ρc))=(JV.mk kk xx [] [],ρc):=by
   rw[<-hkk,<-hxx]
   split<;>rfl
  rw[hkv] at hk ⊢;exact KI (hk _ (fin _ _ _ _ hO4))
end
end
section
attribute [local irreducible] run
section
variable [Tabs Tryz.prog] [Utf Tryz.prog] {objs:List OB} {K:List OB->AV->Prop}
theorem Oq (s:List UInt8) (hs:s.length<=1048576) (hk:K objs (GF (EF s))):Ah Tryz.prog 5 [.s s] objs K:=by
 refine Qt (GF (EF s)) ?_;refine AF lT rfl fun C _=>?_;have hr:EF s=(if 1048576<s.length then (Cm,0,142) else
   if ¬(if (Aj s (AW s 65 (Aj s AQ).2 (Aj s AQ).1 0).2).2.fail=0/\¬(Aj s (AW s 65 (Aj s AQ).2 (Aj s AQ).1 0).2).1.1=1 then Bs (Aj s (AW s 65 (Aj s AQ).2 (Aj s AQ).1 0).2).2 (Aj s (AW s 65 (Aj s AQ).2 (Aj s AQ).1 0).2).1.2.2 140 else (Aj s (AW s 65 (Aj s AQ).2 (Aj s AQ).1 0).2).2).fail=0 then (Cm,(if (Aj s (AW s 65 (Aj s AQ).2 (Aj s AQ).1 0).2).2.fail=0/\¬(Aj s (AW s 65 (Aj s AQ).2 (Aj s AQ).1 0).2).1.1=1 then Bs (Aj s (AW s 65 (Aj s AQ).2 (Aj s AQ).1 0).2).2 (Aj s (AW s 65 (Aj s AQ).2 (Aj s AQ).1 0).2).1.2.2 140 else (Aj s (AW s 65 (Aj s AQ).2 (Aj s AQ).1 0).2).2).wh,(if (Aj s (AW s 65 (Aj s AQ).2 (Aj s AQ).1 0).2).2.fail=0/\¬(Aj s (AW s 65 (Aj s AQ).2 (Aj s AQ).1 0).2).1.1=1 then Bs (Aj s (AW s 65 (Aj s AQ).2 (Aj s AQ).1 0).2).2 (Aj s (AW s 65 (Aj s AQ).2 (Aj s AQ).1 0).2).1.2.2 140 else (Aj s (AW s 65 (Aj s AQ).2 (Aj s AQ).1 0).2).2).fail) else ((AW s 65 (Aj s AQ).2 (Aj s AQ).1 0).1,(s.length:Int),0)):=rfl
 rw[if_neg (by omega)] at hr;have finE:∀{a e:Int},EF s=(Cm,a,e)->((∀G I y,Ab G I (.tup [.agg Nx,.i .i64 a,.i .i64 e]) y->Ab G I (GF (EF s)) y)/\K objs (GF (EF s))):=fun {a e} h=>⟨fun G I y hy=>by rw[h];exact tW hy,hk⟩;have c1:¬(1048576:Int)<s.length:=by omega
 rw[VI];refine Ac fun Z hZ=>?_;simp only[Aa,simprocAttr];subst hZ;refine Ac fun Z hZ=>?_;simp only[Aa,simprocAttr,c1];subst hZ;refine Ac fun Z hZ=>?_;simp only[Aa,simprocAttr];have hO:Au ((1,At s AQ)::[(0,AM)]) [AM,At s AQ]:=⟨by simp,fun x hx=>by
  simp only[zv,ju,or_false] at hx;rcases hx with rfl|rfl<;>rfl⟩
 have hCn:CN []:=fun y hy=>by cases hy
 have hC:∀ρ,CN ((1,At s ρ)::[(0,AM)]):=fun ρ=>Qa (Qa hCn rfl) rfl;have hB:GB s AQ:=⟨by decide,by show (0:Int)<=_;omega,fun _=>by decide,by show (0:Int)<=_;omega⟩;have f0:[OB.box 30 [.i .i64 0,.s [],.nil,.nil],OB.box 41 [.s s,.i .i64 0,.i .i64 0,.i .i64 0,.i .i64 0]]=[AM,At s AQ]:=rfl;rw[f0];generalize [AM,At s AQ]=o0 at hO ⊢;subst hZ;refine Ac fun Z hZ=>?_;simp only[Aa,simprocAttr];refine Ae (GK (by omega) hO fun o1 hO1=>?_);have hB1:=Eu hB;have hT1:=Hk hB;generalize Aj s AQ=N at hO1 hB1 hT1 hr ⊢;obtain⟨T1,ρ1⟩:=N;simp only at hO1 hB1 hT1 hr ⊢;have hval:Is s 1 0 (fun ρ t=>AW s 65 ρ t 0):=Zd hs 65 0 rfl (by decide);have hvc:=fun {objs:List OB} {K:List OB->AV->Prop} {L:List (Nat×OB)} (h1) (h2) (h3)=>hval (objs:=objs) (K:=K) (L:=L) (ρ:=ρ1) T1 hB1.1 hB1.2 hT1 h1 h2 h3;have hg2:=L0 s 65 0 ρ1 T1 hB1.1 hB1.2;simp only at hvc hg2;generalize AW s 65 ρ1 T1 0=R at hvc hg2 hr;obtain⟨v,ρ2⟩:=R;simp only at hvc hg2 hr;unfold Er DM;simp only[Aa,simprocAttr];refine Ae (hvc (hC _) hO1 fun o2 hO2=>?_);have hjc:=AZ v;rw[hjc];simp only[Aa,simprocAttr,AG,BB];have hO3:=hO2.new (.box 30 (AP v));rw[hjc] at hO3;have hO3:Au ((1,At s ρ2)::(o2.length,.box 30 [.i .i64 v.kind,.s v.text,.row v.keys.length (v.keys.map .s),.row v.items.length (Ak v.items)])::[(0,AM)]) (o2++[.box 30 [.i .i64 v.kind,.s v.text,.row v.keys.length (v.keys.map .s),.row v.items.length (Ak v.items)]]):=hO3.perm (jf.swap _ _ _);generalize o2.length=qv at hO3 ⊢;generalize o2++[OB.box 30 [.i .i64 v.kind,.s v.text,.row v.keys.length (v.keys.map .s),.row v.items.length (Ak v.items)]]=o3 at hO3 ⊢;subst hZ;refine Ac fun Z hZ=>?_;refine Ac fun W hW=>?_;simp only[Aa,simprocAttr];refine Ae (GK (by omega) hO3 fun o4 hO4=>?_);generalize Aj s ρ2=N at hO4 hr ⊢;obtain⟨T3,ρ3⟩:=N;simp only at hO4 hr ⊢;unfold Er DM;simp only[Aa,simprocAttr,AG,BB];have f1:∀x y z,OB.box 44 [.i .i64 x,.s y,.i .i64 z]=Ax (x,y,z):=fun _ _ _=>rfl;rw[f1];have hO5:=hO4.new (Ax T3);have hO5:Au ((1,At s ρ3)::(o4.length,Ax T3)::(qv,.box 30 [.i .i64 v.kind,.s v.text,.row v.keys.length (v.keys.map .s),.row v.items.length (Ak v.items)])::[(0,AM)]) (o4++[Ax (T3.1,T3.2.1,T3.2.2)]):=hO5.perm (jf.swap _ _ _);generalize o4.length=qt at hO5 ⊢;generalize o4++[Ax (T3.1,T3.2.1,T3.2.2)]=o5 at hO5 ⊢;subst hW;have e1:=hO5.get (i:=1) (x:=At s ρ3) (by simp);have e2:=hO5.get (i:=qt) (x:=Ax T3) (by simp);unfold At at e1;unfold Ax DM at e2;generalize hρ:(if ρ3.fail=0/\¬T3.1=1 then Bs ρ3 T3.2.2 140 else ρ3)=ρ4 at hr;refine Bq (fun o tm=>Au ((1,At s ρ4)::(qt,Ax T3)::(qv,.box 30 [.i .i64 v.kind,.s v.text,.row v.keys.length (v.keys.map .s),.row v.items.length (Ak v.items)])::[(0,AM)]) o/\tm.length=52/\tm[0]? = some (.s s)/\tm[2]? = some (.p 0 0)/\tm[5]? = some (.p 1 0)/\tm[6]? = some (.p qv 0)) ?_ ?_
 ·by_cases c3:ρ3.fail=0
  ·by_cases c4:T3.1=1
   ·rw[if_neg (fun h=>h.2 c4)] at hρ;subst hρ;simp only[Aa,simprocAttr,e1,e2,c3,c4,Ap,and_self,and_true];exact hO5
   ·rw[if_pos ⟨c3,c4⟩] at hρ;simp only[Aa,simprocAttr,e1,e2,c3,c4];refine Ae (Gl hO5 T3.2.2 140 fun o6 hO6=>?_);rw[hρ] at hO6;simp only[Aa,simprocAttr,Ap,and_self,and_true];exact hO6
  ·rw[if_neg (fun h=>c3 h.1)] at hρ;subst hρ;simp only[Aa,simprocAttr,e1,e2,c3,Ap,and_self,and_true];exact hO5
 clear hO5 e1 e2;rintro o6 tm ⟨hO6,hlen,t0,t2,t5,t6⟩;have e1:=hO6.get (i:=1) (x:=At s ρ4) (by simp);have e0:=hO6.get (i:=0) (x:=AM) (by simp);have ev:=hO6.get (i:=qv) (x:=.box 30 [.i .i64 v.kind,.s v.text,.row v.keys.length (v.keys.map .s),.row v.items.length (Ak v.items)]) (by simp);have hlt:=(zf.1 e0).1;have gs:∀x,(o6.set 0 x)[0]? = some x:=fun x=>zm hlt;unfold At at e1;unfold AM at e0;subst hZ;refine Ac fun Z hZ=>?_
 by_cases c5:ρ4.fail=0
 ·rw[if_neg (fun h=>h c5)] at hr;simp only[Aa,simprocAttr,za,hlen,t5,e1,c5];subst hZ;simp only[Aa,simprocAttr,za,hlen,t0,t2,t6,e0,ev,gs];simp only[pub,AV.plain,Hl,I0,Aa,simprocAttr];exact⟨fun G I y hy=>by rw[hr,GF,hjc];exact hy,hk⟩
 ·rw[if_pos c5] at hr;simp only[Aa,simprocAttr,za,hlen,t2,t5,e0,e1,c5,gs];exact finE hr
end
section
variable [Tabs Tryz.prog] [Pow Tryz.prog] [Utf Tryz.prog]
end
end
section
attribute [local irreducible] run
theorem D1.idB {v:JV} (hv:D1 v):Il v:=by
 refine⟨qg (N7 hv AK).txt (by decide),fun key y hy=>?_⟩;obtain⟨i,hi,rfl⟩:=y5.1 hy;exact qg (N7 ((N7 hv key).its hi) AK).txt (by decide)
section
variable [Tabs Tryz.prog] [Utf Tryz.prog] {objs:List OB} {K:List OB->AV->Prop}
end
end
section
attribute [local irreducible] run
def Lh (m i id:List UInt8):Prop:=B1 m i id=(0,(B1 m i id).2)/\Du (B1 m i id).2=id
theorem aI {m i r:List UInt8} (h:(B1 m i r).1=0):CanD (B1 m i r).2:=by
 have hz:∀s,(Ea s).1=0->CanD (Ea s).2:=fun s hs=>CanD.of4 (s:=s) (by rw[<-hs]);unfold B1 at h ⊢
 split
 ·rename_i c;rw[if_pos c] at h;exact hz _ h
 ·rename_i c;rw[if_neg c] at h
  split
  ·rename_i c2;rw[if_pos c2] at h;exact hz _ h
  ·rename_i c2;rw[if_neg c2] at h;cases h
theorem Yp {m i:List UInt8} {u:DidU} (h:CanD u):B1 m i (Du u)=(0,u):=by
 unfold B1;have hp:zj (Du u) CV=true:=by
  unfold Du AU;simp only[zu];exact yb.2 (List.prefix_append _ _)
 rw[if_pos hp];exact h.back
theorem R6 {m i:List UInt8} {y:JV} (h:(B7 m i y).1=0):Lh m i (B7 m i y).2:=by
 unfold B7 at h ⊢
 split
 ·rename_i c;rw[if_pos c] at h;cases h
 ·rename_i c;rw[if_neg c] at h
  split
  ·rename_i c2;rw[if_pos c2] at h;cases h
  ·rename_i c2;have hc:=aI (Decidable.not_not.1 c2);show Lh m i (Du _);unfold Lh;rw[Yp hc];exact⟨rfl,rfl⟩
theorem T9 {α:Type} (f:JV->Int×α):∀l:List JV,(C0 f l).1=0->∀x∈(C0 f l).2,∃y∈l,x=(f y).2/\(f y).1=0
 | [],_,x,hx=>by cases hx
 | y::l,h,x,hx=>by
  rw[C0] at h hx
  by_cases c:(f y).1=0
  ·rw[if_neg (show ¬(f y).1≠0 from fun e=>e c)] at h hx
   by_cases c2:(C0 f l).1=0
   ·rw[if_neg (show ¬(C0 f l).1≠0 from fun e=>e c2)] at h hx;rcases zv.1 hx with rfl|hx
    ·exact⟨y,by simp,rfl,c⟩
    ·obtain⟨z,hz,e⟩:=T9 f l c2 x hx;exact⟨z,qp _ hz,e⟩
   ·rw[if_pos c2] at h;exact absurd h c2
  ·rw[if_pos c] at h;exact absurd h c
theorem To {α:Type} {v:JV} {key:List UInt8} {f:JV->Int×α} (h:(Bd v key (Bf f)).1=0):∀x∈(Bd v key (Bf f)).2,∃y∈(An v key).1.items,x=(f y).2/\(f y).1=0:=by
 unfold Bd at h ⊢
 split
 ·rename_i c;rw[if_pos c] at h;unfold Bf at h ⊢
  split
  ·rename_i c2;rw[if_pos c2] at h
   split
   ·intro x hx;cases hx
   ·rename_i c3;rw[if_neg c3] at h;exact T9 f _ h
  ·intro x hx;cases hx
 ·intro x hx;cases hx
theorem rT {m i:List UInt8} {y:JV} (h:(Bv m i y).1=0):(B7 m i y).1=0/\(Bv m i y).2.id=(B7 m i y).2:=by
 unfold Bv at h ⊢
 by_cases c:(B7 m i y).1=0
 ·rw[if_neg (show ¬(B7 m i y).1≠0 from fun e=>e c)] at h ⊢;refine⟨c,?_⟩
  split
  ·rfl
  ·rename_i c2;rw[if_neg c2] at h;cases h
 ·rw[if_pos c] at h;exact absurd h c
theorem rN {m i:List UInt8} {y:JV} (h:(Bc m i y).1=0):(B7 m i y).1=0/\(Bc m i y).2.id=(B7 m i y).2:=by
 unfold Bc at h ⊢
 by_cases c:(B7 m i y).1=0
 ·rw[if_neg (show ¬(B7 m i y).1≠0 from fun e=>e c)] at h ⊢;refine⟨c,?_⟩
  by_cases c2:(BQ (An y BO).1).1=0
  ·rw[if_neg (show ¬(BQ (An y BO).1).1≠0 from fun e=>e c2)] at h ⊢
   split
   ·rfl
   ·rename_i c3;rw[if_neg c3] at h
    by_cases c4:(BQ (An y Cp).1).1=0
    ·rw[if_neg (show ¬(BQ (An y Cp).1).1≠0 from fun e=>e c4)]
    ·rw[if_pos c4] at h;exact absurd h c4
  ·rw[if_pos c2] at h;exact absurd h c2
 ·rw[if_pos c] at h;exact absurd h c
theorem Z9 {v:JV} (h:(Ci v).1=0):(BC v).1=0/\(Bd v CK DX).1=0/\(Bd v B9 BQ).1=0/\(Bd v CL (Bf (Bv (BC v).2.1 (BC v).2.2))).1=0/\(Bd v BT (Bf (Bc (BC v).2.1 (BC v).2.2))).1=0/\(Ci v).2=⟨AU (BC v).2.1 (BC v).2.2,(Bd v CK DX).2,(Bd v B9 BQ).2,(Bd v CL (Bf (Bv (BC v).2.1 (BC v).2.2))).2,(Bd v BT (Bf (Bc (BC v).2.1 (BC v).2.2))).2⟩:=by
 unfold Ci at h ⊢
 by_cases c1:(BC v).1=0
 rotate_left
 ·rw[if_pos c1] at h;exact absurd h c1
 by_cases c2:(Bd v CK DX).1=0
 rotate_left
 ·rw[if_neg (fun e=>e c1),if_pos c2] at h;exact absurd h c2
 by_cases c3:(Bd v B9 BQ).1=0
 rotate_left
 ·rw[if_neg (fun e=>e c1),if_neg (fun e=>e c2),if_pos c3] at h;exact absurd h c3
 by_cases c4:(Bd v CL (Bf (Bv (BC v).2.1 (BC v).2.2))).1=0
 rotate_left
 ·rw[if_neg (fun e=>e c1),if_neg (fun e=>e c2),if_neg (fun e=>e c3),if_pos c4] at h;exact absurd h c4
 by_cases c5:(Bd v BT (Bf (Bc (BC v).2.1 (BC v).2.2))).1=0
 rotate_left
 ·rw[if_neg (fun e=>e c1),if_neg (fun e=>e c2),if_neg (fun e=>e c3),if_neg (fun e=>e c4),if_pos c5] at h;exact absurd h c5
 refine⟨c1,c2,c3,c4,c5,?_⟩;rw[if_neg (fun e=>e c1),if_neg (fun e=>e c2),if_neg (fun e=>e c3),if_neg (fun e=>e c4),if_neg (fun e=>e c5)]
end
section
attribute [local irreducible] run
def GZ (l:List (List UInt8)):Prop:=l.length<=1048576/\∀a∈l,a.length<=140737488351232
structure MtB (x:MtP):Prop where
 id:x.id.length<=140737488351232
 typ:x.typ.length<=140737488351232
 ctl:x.ctl.length<=140737488351232
structure SvB (x:SvP):Prop where
 id:x.id.length<=140737488351232
 typ:GZ x.typ
 eps:GZ x.eps
structure DocB (d:DoP):Prop where
 id:d.id.length<=140737488351232
 also:GZ d.also
 ctl:GZ d.ctl
 mtn:d.mts.length<=1000000
 mtb:∀x∈d.mts,MtB x
 svn:d.svs.length<=1000000
 svb:∀x∈d.svs,SvB x
/-! bounds of what was read -/
theorem Rp {v:JV} (hv:AY v) (key:List UInt8):(B5 v key).1.length<=140737488351232:=by
 unfold B5
 split
 ·exact(IY hv key).txt
 ·exact zd _
theorem Nw {l:List JV} (h:∀y∈l,AY y):GZ (Dy l).2:=by
 refine⟨qg (Og l) (by decide),?_⟩;unfold Dy
 split
 ·intro a ha;cases ha
 split
 ·intro a ha;obtain⟨y,hy,rfl⟩:=jr.1 ha;exact(h y hy).txt
 ·intro a ha;cases ha
theorem LI {v:JV} (hv:AY v):∀y∈v.items,AY y:=fun y hy=>by
 obtain⟨i,hi,rfl⟩:=y5.1 hy;exact hv.its hi
theorem LU:GZ []:=⟨zd _,fun a ha=>by cases ha⟩
theorem pW {v:JV} (hv:AY v):GZ (DX v).2:=by
 unfold DX;split
 ·exact Nw (LI hv)
 ·exact LU
theorem Ns {v:JV} (hv:AY v):GZ (BQ v).2:=by
 unfold BQ;split
 ·exact Nw (LI hv)
 ·exact Nw fun y hy=>by rw[xy] at hy;subst hy;exact hv
theorem W9 {v:JV} (hv:AY v) (key:List UInt8) {f:JV->Int×List (List UInt8)} (h:∀{x},AY x->GZ (f x).2):GZ (Bd v key f).2:=by
 unfold Bd;split
 ·exact h (IY hv key)
 ·exact LU
theorem cR {u:DidU} (h:Nh u):(Du u).length<=200000:=by
 obtain⟨h1,h2,h3,h4,h5⟩:=h;unfold Du;rw[zg,zg,zg,Hh];have z1:((if u.hq=true then [63]++u.query else []):List UInt8).length<=u.query.length+1:=by
  split<;>simp
 have z2:((if u.hf=true then [35]++u.frag else []):List UInt8).length<=u.frag.length+1:=by
  split<;>simp
 omega
theorem Lh.len {m i id:List UInt8} (h:Lh m i id):id.length<=200000:=by
 have:=cR (Pl m i id);rw[h.2] at this;exact this
theorem qH {m i:List UInt8} {y:JV} (hy:AY y) (h:(Bv m i y).1=0):MtB (Bv m i y).2:=by
 obtain⟨h1,h2⟩:=rT h;have hl:=(R6 h1).len;refine⟨by rw[h2];omega,?_,?_⟩
 ·unfold Bv
  split
  ·exact zd _
  ·split
   ·exact Rp hy _
   ·exact zd _
 ·unfold Bv
  split
  ·exact zd _
  ·split
   ·exact Rp hy _
   ·exact zd _
theorem qM {m i:List UInt8} {y:JV} (hy:AY y) (h:(Bc m i y).1=0):SvB (Bc m i y).2:=by
 obtain⟨h1,h2⟩:=rN h;have hl:=(R6 h1).len;refine⟨by rw[h2];omega,?_,?_⟩
 ·unfold Bc
  repeat' split
  all_goals first
   | exact LU
   | exact Ns (IY hy _)
 ·unfold Bc
  repeat' split
  all_goals first
   | exact LU
   | exact Ns (IY hy _)
theorem WV {v:JV} (hv:AY v) (h:(Ci v).1=0):DocB (Ci v).2:=by
 obtain⟨c1,c2,c3,c4,c5,e⟩:=Z9 h;have hs:=NG v;have hl:=S0 v;rw[e] at hs ⊢;refine⟨by rw[Hh];omega,W9 hv _ pW,W9 hv _ Ns,qg hs.2.2.1 (by decide),fun x hx=>?_,qg hs.2.2.2.1 (by decide),fun x hx=>?_⟩
 ·obtain⟨y,hm,rfl,hy⟩:=To c4 x hx;exact qH (LI (IY hv _) y hm) hy
 ·obtain⟨y,hm,rfl,hy⟩:=To c5 x hx;exact qM (LI (IY hv _) y hm) hy
end
section
variable [Tabs Tryz.prog] {objs:List OB} {K:List OB->AV->Prop}
set_option maxHeartbeats 4000000 in
theorem Pb (s:List UInt8) (hs:s.length<=140737488351232) (hk:K objs (.tup [Ba (Df s).2,.i .i64 (Df s).1])):Ah Tryz.prog 59 [.s s] objs K:=by
 have hm:maxLen=2 ^ 63 - 1:=rfl;refine AF lO rfl fun C _=>?_;unfold Df K9 at hk
 by_cases c0:(4096:Int)<↑s.length
 ·have c0':4096<s.length:=by omega
  simp only[c0',if_true,Sc] at hk;simp only[c0,P4,Aa,simprocAttr];exact hk
 ·have c0':¬4096<s.length:=by omega
  simp only[c0',if_false] at hk;simp only[c0,P4,Aa,simprocAttr];refine Ae (O8 _ hs ?_);have sl:=JT s;have op:=PX (AB s).2;have ol:=PG (AB s).2;have rl:=Pn (AB s).2;generalize hp:(AB s).2=p at *
  by_cases c1:(AB s).1=0
  ·simp only[c1,AR,Aa,simprocAttr] at hk ⊢;have ho:BA p=if p.hs=false then (60,[],0) else if En p.scheme EE=false then (60,[],0) else if p.ha=false then (71,[],0) else if (Af 64 p.auth).2.2=true then (70,[],0) else DZ p.auth:=rfl
   by_cases d1:p.hs=true
   ·simp only[d1,Aa,simprocAttr] at ho ⊢;refine Ae (TN p.scheme EE (by omega) (by decide) ?_)
    by_cases d2:En p.scheme EE=true
    ·simp only[d2,Aa,simprocAttr] at ho ⊢
     by_cases d3:p.ha=true
     ·simp only[d3,Aa,simprocAttr] at ho ⊢;refine Dl (ES p.auth [64] (by omega) (by decide) ⟨rfl,rfl⟩) ?_;simp only[Aa,simprocAttr];have hix:=ZK p.auth 64
      by_cases d4:(Af 64 p.auth).2.2=true
      ·have d4':=hix.2 d4;simp only[d4,Aa,simprocAttr] at ho;simp only[d4',Aa,simprocAttr];rw[ho] at hk;simp only[Ba,BD,Aa,simprocAttr] at hk;exact hk
      ·have d4':¬((Aq p.auth [64]:Nat):Int)<((p.auth.length:Nat):Int):=fun h=>d4 (hix.1 h);simp only[d4,Aa,simprocAttr] at ho;simp only[d4',Aa,simprocAttr];refine Ae (gB p.auth (by omega) ?_);rw[<-ho]
       by_cases c2:(BA p).1=0
       ·simp only[c2,C8,Aa,simprocAttr] at hk ⊢;refine Ae (EU p.path Bh (by decide) ?_);have hr:CE p=if (Am p.path Bh).1≠0 then ((Am p.path Bh).1,BD) else if (Am p.query AJ).1≠0 then ((Am p.query AJ).1,BD) else if (Am p.frag AJ).1≠0 then ((Am p.frag AJ).1,BD) else (0,⟨[],0,IH (Am p.path Bh).2,(Am p.query AJ).2,(Am p.frag AJ).2,p.hq,p.hf⟩):=rfl
        by_cases c3:(Am p.path Bh).1=0
        ·simp only[c3,Aa,simprocAttr] at hr ⊢;refine Ae (EU p.query AJ (by decide) ?_)
         by_cases c4:(Am p.query AJ).1=0
         ·simp only[c4,Aa,simprocAttr] at hr ⊢;refine Ae (EU p.frag AJ (by decide) ?_)
          by_cases c5:(Am p.frag AJ).1=0
          ·simp only[c5,Aa,simprocAttr] at hr ⊢;have n1:=Gk p.path Bh;refine Ae (KJ _ (by omega) ?_);have hsh:DH (Hb (BA p).2.1 (BA p).2.2 (CE p).2):=⟨by show (BA p).2.1.length<=_;omega,by show _<=(((BA p).2.2:Nat):Int);omega,by show (((BA p).2.2:Nat):Int)<=_;omega,by show (CE p).2.path.length<=_;omega,by show (CE p).2.query.length<=_;omega,by show (CE p).2.frag.length<=_;omega⟩;have hsl:IH (Am p.path Bh).2=if Cr (Am p.path Bh).2=[] then [47] else Cr (Am p.path Bh).2:=rfl
           have hr1:(CE p).1=0:=by rw[hr]
           simp only[hr1,Aa,simprocAttr] at hk;rw[hr] at hk hsh;have fin:∀pa:List UInt8,IH (Am p.path Bh).2=pa->DH ⟨(BA p).2.1,(BA p).2.2,pa,(Am p.query AJ).2,(Am p.frag AJ).2,p.hq,p.hf⟩ /\
             ((((4096:Int)<((Bu ⟨(BA p).2.1,(BA p).2.2,pa,(Am p.query AJ).2,(Am p.frag AJ).2,p.hq,p.hf⟩).length:Nat))/\K objs (.tup [Ba BD,.i .i64 5])) \/
             (¬((4096:Int)<((Bu ⟨(BA p).2.1,(BA p).2.2,pa,(Am p.query AJ).2,(Am p.frag AJ).2,p.hq,p.hf⟩).length:Nat))/\K objs (.tup [Ba ⟨(BA p).2.1,(BA p).2.2,pa,(Am p.query AJ).2,(Am p.frag AJ).2,p.hq,p.hf⟩,.i .i64 0]))):=by
            intro pa hpa;rw[hpa] at hk hsh;simp only[Hb] at hk hsh;refine⟨hsh,?_⟩
            by_cases c7:4096<(Bu ⟨(BA p).2.1,(BA p).2.2,pa,(Am p.query AJ).2,(Am p.frag AJ).2,p.hq,p.hf⟩).length
            ·rw[Jj,if_pos c7] at hk;exact .inl ⟨by omega,hk⟩
            ·rw[Jj,if_neg c7] at hk;exact .inr ⟨by omega,hk⟩
           clear hk hsh
           by_cases c6:Cr (Am p.path Bh).2=[]
           ·rw[if_pos c6] at hsl;obtain⟨f1,f2⟩:=fin _ hsl;simp only[c6,Aa,simprocAttr];refine Ae (KW _ f1 ?_);rcases f2 with ⟨f2,f3⟩|⟨f2,f3⟩
            ·simp only[f2,Aa,simprocAttr];exact f3
            ·simp only[f2,Aa,simprocAttr];exact f3
           ·rw[if_neg c6] at hsl;obtain⟨f1,f2⟩:=fin _ hsl;simp only[c6,Aa,simprocAttr];refine Ae (KW _ f1 ?_);rcases f2 with ⟨f2,f3⟩|⟨f2,f3⟩
            ·simp only[f2,Aa,simprocAttr];exact f3
            ·simp only[f2,Aa,simprocAttr];exact f3
          ·simp only[c5,Aa,simprocAttr] at hr ⊢;rw[hr] at hk;simp only[c5,Ba,BD,Aa,simprocAttr] at hk;exact hk
         ·simp only[c4,Aa,simprocAttr] at hr ⊢;rw[hr] at hk;simp only[c4,Ba,BD,Aa,simprocAttr] at hk;exact hk
        ·simp only[c3,Aa,simprocAttr] at hr ⊢;rw[hr] at hk;simp only[c3,Ba,BD,Aa,simprocAttr] at hk;exact hk
       ·simp only[c2,C8,Ba,BD,Aa,simprocAttr] at hk ⊢;exact hk
     ·simp only[d3,Aa,simprocAttr] at ho ⊢;rw[ho] at hk;simp only[Ba,BD,Aa,simprocAttr] at hk;exact hk
    ·simp only[d2,Aa,simprocAttr] at ho ⊢;rw[ho] at hk;simp only[Ba,BD,Aa,simprocAttr] at hk;exact hk
   ·simp only[d1,Aa,simprocAttr] at ho ⊢;rw[ho] at hk;simp only[Ba,BD,Aa,simprocAttr] at hk;exact hk
  ·simp only[c1,AR,Ba,BD,Aa,simprocAttr] at hk ⊢;exact hk
end
theorem fF (p:UriP):DH (K9 p).2:=by
 have op:=PX p;have ol:=PG p;have rl:=Pn p;have hz:DH BD:=⟨by decide,by decide,by decide,by decide,by decide,by decide⟩;unfold K9 Jj
 repeat' split
 all_goals first
  | exact hz
  | exact⟨by show (BA p).2.1.length<=_;omega,by show _<=(((BA p).2.2:Nat):Int);omega,by show (((BA p).2.2:Nat):Int)<=_;omega,by show (CE p).2.path.length<=_;omega,by show (CE p).2.query.length<=_;omega,by show (CE p).2.frag.length<=_;omega⟩
theorem OL (s:List UInt8):DH (Df s).2:=by
 have hz:DH BD:=⟨by decide,by decide,by decide,by decide,by decide,by decide⟩;unfold Df
 repeat' split
 ·exact hz
 ·exact hz
 ·exact fF _
theorem MA {u:UrlP} (h:DH u):(Bu u).length<=5000000:=by
 obtain⟨h1,h2,h3,h4,h5,h6⟩:=h;have:=ZF u h2 h3;omega
theorem Vl {b:UrlP} (h:Fp b=true):(AB (Bu b)).1=0:=by
 unfold Fp at h;simp only[Bool.and_eq_true,decide_eq_true_eq] at h;have h1:=h.1;unfold Df at h1
 split at h1
 ·cases h1
 ·split at h1
  ·rename_i h2;exact absurd h1 h2
  ·rename_i h2;simpa using h2
theorem Uk {b:UrlP} (h:Fp b=true):(Bu b).length<=4096:=by
 unfold Fp at h;simp only[Bool.and_eq_true,decide_eq_true_eq] at h;have h1:=h.1;unfold Df at h1
 split at h1
 ·cases h1
 ·omega
theorem Vs (b r:UriP):(Cf b r).scheme.length<=b.scheme.length+r.scheme.length/\(Cf b r).auth.length<=b.auth.length+r.auth.length/\(Cf b r).path.length<=b.path.length+r.path.length+1/\(Cf b r).query.length<=b.query.length+r.query.length/\(Cf b r).frag.length<=r.frag.length:=by
 have h1:=Pk r.path;have h2:=Pk (GG b r.path);have h3:=PC b r.path;unfold Cf
 split
 ·simp only;omega
 ·split
  ·simp only;omega
  ·split
   ·rename_i h;rw[h];simp only[qd]
    split<;>omega
   ·simp only
    split<;>omega
theorem S9 (u:UriP):(E7 u).length<=u.scheme.length+u.auth.length+u.path.length+u.query.length+u.frag.length+5:=by
 unfold E7;simp only[zg];have e1:(if u.hs=true then u.scheme++[58] else []).length<=u.scheme.length+1:=by split<;>simp
 have e2:(if u.ha=true then [47,47]++u.auth else []).length<=u.auth.length+2:=by split<;>simp
 have e3:(if u.hq=true then [63]++u.query else []).length<=u.query.length+1:=by split<;>simp
 have e4:(if u.hf=true then [35]++u.frag else []).length<=u.frag.length+1:=by split<;>simp
 omega
def QI (a b:UrlP):Bool:=decide (a.host=b.host)&&(decide (a.port=b.port)&&(decide (a.path=b.path)&&(decide (a.query=b.query)&&(decide (a.frag=b.frag)&&(a.hq==b.hq&&a.hf==b.hf)))))
theorem Re (a b:UrlP):QI a b=decide (a=b):=by
 obtain⟨a1,a2,a3,a4,a5,a6,a7⟩:=a;obtain⟨b1,b2,b3,b4,b5,b6,b7⟩:=b;rw[Bool.eq_iff_iff];simp[QI]
theorem ZB (a b:UrlP):QI a b=decide (b=a):=by
 rw[Re];exact decide_eq_decide.2 ⟨fun h=>h.symm,fun h=>h.symm⟩
section
variable [Tabs Tryz.prog] {objs:List OB} {K:List OB->AV->Prop}
theorem aY [Pow Tryz.prog] (u:UrlP) (hu:DH u) (hk:K objs (.b (Fp u))):Ah Tryz.prog 45 [Ba u] objs K:=by
 have hm:maxLen=2 ^ 63 - 1:=rfl;have hl:=MA hu;refine AF mF rfl fun C _=>?_;simp only[VW,Ba,Aa,simprocAttr];refine Ae (Mq u hu ?_);simp only[Aa,simprocAttr];refine Ae (OK _ (by omega) ?_);unfold Fp at hk;generalize (Df (Bu u)).2=v at hk ⊢
 by_cases h:(Df (Bu u)).1=0
 ·simp only[h,Ba,Aa,simprocAttr] at hk ⊢;rw[<-Re] at hk;exact hk
 ·simp only[h,Ba,Aa,simprocAttr] at hk ⊢;exact hk
theorem fO (u:UrlP) (hu:DH u) (hk:K objs (.b (Fp u))):Ah Tryz.prog 112 [Ba u] objs K:=by
 have hm:maxLen=2 ^ 63 - 1:=rfl;have hl:=MA hu;refine AF lP rfl fun C _=>?_;simp only[VF,Ba,Aa,simprocAttr];refine Ae (KW u hu ?_);simp only[Aa,simprocAttr];refine Ae (Pb _ (by omega) ?_);unfold Fp at hk;generalize (Df (Bu u)).2=v at hk ⊢
 by_cases h:(Df (Bu u)).1=0
 ·simp only[h,Ba,Aa,simprocAttr] at hk ⊢;rw[<-ZB] at hk;exact hk
 ·simp only[h,Ba,Aa,simprocAttr] at hk ⊢;exact hk
theorem uK [Pow Tryz.prog] (b:UrlP) (r:List UInt8) (hb:DH b) (hr:r.length<=100000) (hk:K objs (.tup [Ba (Ga b r).2,.i .i64 (Ga b r).1])):Ah Tryz.prog 17 [Ba b,.s r] objs K:=by
 have hm:maxLen=2 ^ 63 - 1:=rfl;have hl:=MA hb;refine AF nU rfl fun C _=>?_;have hrel:Ga b r=if Fp b=false then (8,BD) else if (AB r).1≠0 then ((AB r).1,BD) else if En (Cf (AB (Bu b)).2 (AB r).2).scheme EE=false then (253,BD) else Df (E7 (Cf (AB (Bu b)).2 (AB r).2)):=rfl
 simp only[Wp,Ba,Aa,simprocAttr];refine Ae (aY b hb ?_)
 by_cases h1:Fp b=true
 ·have hs0:(AB (Bu b)).1=0:=Vl h1;simp only[h1,Aa,simprocAttr] at hrel ⊢;refine Ae (Mq b hb ?_);simp only[Aa,simprocAttr];refine Ae (OJ _ ?_);simp only[hs0,AR,Aa,simprocAttr];refine Ae (OJ _ ?_)
  by_cases h2:(AB r).1=0
  ·have l1:=JT (Bu b);have l2:=JT r;have l3:=Vs (AB (Bu b)).2 (AB r).2;have l4:=S9 (Cf (AB (Bu b)).2 (AB r).2);simp only[h2,AR,Aa,simprocAttr] at hrel ⊢;refine Ae (gM (AB (Bu b)).2 (AB r).2 (by have:=Uk h1;omega) (by omega) ?_);simp only[AR,Aa,simprocAttr];refine Ae (Kz _ EE (by omega) (by decide) ?_)
   by_cases h3:En (Cf (AB (Bu b)).2 (AB r).2).scheme EE=true
   ·simp only[h3,Aa,simprocAttr] at hrel ⊢;refine Ae (Zx (Cf (AB (Bu b)).2 (AB r).2) (by omega) ?_);simp only[Aa,simprocAttr];refine Ae (OK _ (by omega) ?_);rw[hrel] at hk;simp only[Ba,Aa,simprocAttr] at hk ⊢;exact hk
   ·simp only[h3,Aa,simprocAttr] at hrel ⊢;rw[hrel] at hk;simp only[Ba,BD,Aa,simprocAttr] at hk;exact hk
  ·simp only[h2,AR,Aa,simprocAttr] at hrel ⊢;rw[hrel] at hk;simp only[Ba,BD,Aa,simprocAttr] at hk;exact hk
 ·simp only[h1,Aa,simprocAttr] at hrel ⊢;rw[hrel] at hk;simp only[Ba,BD,Aa,simprocAttr] at hk;exact hk
theorem YA (b:UrlP) (r:List UInt8) (hb:DH b) (hr:r.length<=100000) (hk:K objs (.tup [Ba (Ga b r).2,.i .i64 (Ga b r).1])):Ah Tryz.prog 60 [Ba b,.s r] objs K:=by
 have hm:maxLen=2 ^ 63 - 1:=rfl;have hl:=MA hb;refine AF nJ rfl fun C _=>?_;have hrel:Ga b r=if Fp b=false then (8,BD) else if (AB r).1≠0 then ((AB r).1,BD) else if En (Cf (AB (Bu b)).2 (AB r).2).scheme EE=false then (253,BD) else Df (E7 (Cf (AB (Bu b)).2 (AB r).2)):=rfl
 simp only[VZ,Ba,Aa,simprocAttr];refine Ae (fO b hb ?_)
 by_cases h1:Fp b=true
 ·have hs0:(AB (Bu b)).1=0:=Vl h1;simp only[h1,Aa,simprocAttr] at hrel ⊢;refine Ae (KW b hb ?_);simp only[Aa,simprocAttr];refine Ae (O8 _ (by omega) ?_);simp only[hs0,AR,Aa,simprocAttr];refine Ae (O8 _ (by omega) ?_)
  by_cases h2:(AB r).1=0
  ·have l1:=JT (Bu b);have l2:=JT r;have l3:=Vs (AB (Bu b)).2 (AB r).2;have l4:=S9 (Cf (AB (Bu b)).2 (AB r).2);simp only[h2,AR,Aa,simprocAttr] at hrel ⊢;refine Ae (jE (AB (Bu b)).2 (AB r).2 (by have:=Uk h1;omega) (by omega) ?_);simp only[AR,Aa,simprocAttr];refine Ae (TN _ EE (by omega) (by decide) ?_)
   by_cases h3:En (Cf (AB (Bu b)).2 (AB r).2).scheme EE=true
   ·simp only[h3,Aa,simprocAttr] at hrel ⊢;refine Ae (aP (Cf (AB (Bu b)).2 (AB r).2) (by omega) ?_);simp only[Aa,simprocAttr];refine Ae (Pb _ (by omega) ?_);rw[hrel] at hk;simp only[Ba,Aa,simprocAttr] at hk ⊢;exact hk
   ·simp only[h3,Aa,simprocAttr] at hrel ⊢;rw[hrel] at hk;simp only[Ba,BD,Aa,simprocAttr] at hk;exact hk
  ·simp only[h2,AR,Aa,simprocAttr] at hrel ⊢;rw[hrel] at hk;simp only[Ba,BD,Aa,simprocAttr] at hk;exact hk
 ·simp only[h1,Aa,simprocAttr] at hrel ⊢;rw[hrel] at hk;simp only[Ba,BD,Aa,simprocAttr] at hk;exact hk
end
section
variable [Tabs Tryz.prog] {objs:List OB} {K:List OB->AV->Prop}
end
end Go.Proofs.YtbgaknpnkcdbfaaGreatDoor
namespace Go.Proofs.YtbgaknpnkcdbfaaGreatDoor
open Go.RowKit
open Int renaming toNat_natCast->zt
open List renaming getElem?_eq_some_iff->zf, getElem?_set->za, getElem?_set_self->zm, length_set->zh, mem_cons_of_mem->qp, mem_cons_self->xh
open Nat renaming le_trans->qg
theorem OV:∀(l:List UInt8) (n:Nat) (out:List UInt8),(Ao A5 n l out).2.length<=out.length+l.length
 | [],n,out=>by cases n<;>simp[Ao]
 | c::t,0,out=>by
  rw[Ao];have i1:=OV t
  split
  ·split
   ·rw[if_pos (show (A5 out (Bj (c::t)) true).1=0 from rfl)];exact qg (i1 2 _) (by simp[A5];omega)
   ·simp
  ·rw[if_pos (show (A5 out c false).1=0 from rfl)];exact qg (i1 0 _) (by simp[A5];omega)
 | c::t,n+1,out=>by
  rw[Ao];have:=OV t n out;simp at this ⊢;omega
theorem aA (l:List UInt8):(A6 l).2.length<=l.length:=by
 unfold A6 C9
 split
 ·simp
 ·have:=OV l 0 [];simpa using this
open Sx
section
attribute [local irreducible] run
def H0:List UInt8:=[114,101,108,97,116,105,118,101,82,101,102]
def DE (x:UrlP) (u:DidU):UrlP:=if u.hf=true/\x.hf=false then ⟨x.host,x.port,x.path,x.query,u.frag,x.hq,true⟩ else x
def Io (x:UrlP) (u:DidU):List UInt8×Int:=if 4096<(Bu (DE x u)).length then ([],292) else (Bu (DE x u),0)
def Jf (x:UrlP) (u:DidU):Int×UrlP:=if (CH H0 (CW u)).2=true then Ga x (CH H0 (CW u)).1 else (0,x)
def Le (s:SvP) (u:DidU):List UInt8×Int:=match s.eps with
 | []=>([],292)
 | a::_=>if (Df a).1≠0 then ([],292) else if (Jf (Df a).2 u).1≠0 then ([],292) else Io (Jf (Df a).2 u).2 u
def F8 (R:Int×DoP) (u:DidU):List UInt8×Int :=
 if R.1≠0 then ([],R.1) else if (CH BT (CW u)).2=false then ([],290)
 else if (D8 (AU u.meth u.id++[35]++(CH BT (CW u)).1) R.2.svs).2=false then ([],290) else Le (D8 (AU u.meth u.id++[35]++(CH BT (CW u)).1) R.2.svs).1 u
theorem R3 {n:List UInt8} {B:Nat}:∀{l:List (List UInt8×List UInt8)},(∀p∈l,p.2.length<=B)->(CH n l).1.length<=B
 | [],_=>Nat.zero_le _
 | p::l,h=>by
  rw[CH]
  split
  ·exact h p (xh ..)
  ·exact R3 fun q hq=>h q (qp _ hq)
theorem Lv (u:DidU) (n:List UInt8):(CH n (CW u)).1.length<=u.query.length:=by
 refine R3 fun p hp=>?_;unfold CW at hp
 split at hp
 ·unfold DB B8 at hp;obtain⟨x,hx,hp⟩:=List.mem_flatMap.1 hp;have h1:=GQ 38 u.query x (List.mem_filter.1 hx).1;unfold Ep at hp
  split at hp
  ·rw[List.mem_singleton.1 hp];exact qg (aA _) (qg (EG 61 x).2 h1)
  ·cases hp
 ·cases hp
theorem gA (b:UrlP) (r:List UInt8):DH (Ga b r).2:=by
 have hz:DH BD:=⟨by decide,by decide,by decide,by decide,by decide,by decide⟩;unfold Ga
 repeat' split
 all_goals first
  | exact hz
  | exact OL _
theorem TR {x:UrlP} (hx:DH x) (u:DidU):DH (Jf x u).2:=by
 unfold Jf
 split
 ·exact gA _ _
 ·exact hx
theorem Uc {x:UrlP} (hx:DH x) {u:DidU} (hu:u.frag.length<=1000000):DH (DE x u):=by
 obtain⟨h1,h2,h3,h4,h5,h6⟩:=hx;unfold DE
 split
 ·exact⟨h1,h2,h3,h4,h5,hu⟩
 ·exact⟨h1,h2,h3,h4,h5,h6⟩
theorem RC {id:List UInt8}:∀{l:List SvP},(D8 id l).2=true->(D8 id l).1∈l
 | [],h=>by cases h
 | s::l,h=>by
  rw[D8] at h ⊢
  split
  ·exact xh ..
  ·rename_i e;rw[if_neg e] at h;exact qp _ (RC h)
def Lg (u:DidU):Prop:=u.meth.length<=100000/\u.id.length<=100000/\u.query.length<=100000/\u.frag.length<=100000
section
variable [Tabs Tryz.prog] {objs:List OB} {K:List OB->AV->Prop}
theorem Yf (d:DoP) (n:List UInt8) (hd:d.svs.length<=1000) (hk:K objs (.tup [.agg (Cg (D8 n d.svs).1),.b (D8 n d.svs).2])):Ah Tryz.prog 14 [.agg (Gx d),.s n] objs K:=by
 have hfl:=Me d.svs;refine Gf (.tup [.agg (Cg (D8 n d.svs).1),.b (D8 n d.svs).2]) ?_;refine AF nV (by unfold Gx;simp only[AE,AV.plain,Dx,IQ,IJ,Bool.and_self]) fun C _=>?_;rw[WB];refine Ac fun Y hY=>?_;simp only[Gx,Aa,simprocAttr];subst hY;refine Ac fun Y hY=>?_;simp only[Aa,simprocAttr];refine B4 (fun m o tm=>∃(i:Nat) (M:List OB),m=d.svs.length - i/\i<=d.svs.length/\D8 n d.svs=D8 n (d.svs.drop i)/\o=.box 50 (Gx d)::.box 57 [.s [],.nil,.nil]::M/\tm.length=22/\tm[1]? = some (.s n)/\tm[2]? = some (.p 0 0)/\tm[4]? = some (.p 1 0)/\tm[9]? = some (.row d.svs.length (De d.svs))/\tm[10]? = some (.i .i64 d.svs.length)/\tm[11]? = some (.i .i64 i)) d.svs.length ⟨0,[],rfl,Nat.zero_le _,rfl,rfl,rfl,rfl,rfl,rfl,rfl,rfl,rfl⟩ ?_;rintro m _ tm ⟨i,M,rfl,hi,hd2,rfl,hlen,t1,t2,t4,t9,t10,t11⟩
 by_cases hlt:i<d.svs.length
 ·have hlt':(i:Int)<(d.svs.length:Int):=by omega
  have a0:=Sp hlt;rw[Rf hlt] at hd2;unfold Cg at a0
  by_cases hn:d.svs[i].id=n
  ·rw[hd2,if_pos hn] at hk ⊢;have g1:=AG M (.box 57 [.s [],.nil,.nil]);have g2:=AG M (.box 57 (Cg d.svs[i]));unfold Cg at g2 hk ⊢;rw[hn] at g2 a0 hk ⊢;simp only[Aa,simprocAttr,za,hlen,t1,t2,t4,t9,t10,t11,hlt',zt,a0,g1,BB,g2,Dx];exact⟨⟨by omega,by omega⟩,by omega,fun _ _ _ h=>h,hk⟩
  ·rw[if_neg hn] at hd2;have g1:=AG M (.box 57 [.s [],.nil,.nil]);have g2:=AG M (.box 57 (Cg d.svs[i]));unfold Cg at g2;simp only[Aa,simprocAttr,za,hlen,t1,t2,t4,t9,t10,t11,hlt',zt,a0,g1,BB,g2,hn];exact⟨⟨by omega,by omega⟩,by omega,by omega,d.svs.length - (i+1),by omega,i+1,_,rfl,by omega,hd2,rfl,rfl⟩
 ·have hlt':¬(i:Int)<(d.svs.length:Int):=by omega
  rw[hd2,RB hlt] at hk ⊢;simp only[Aa,simprocAttr,za,hlen,t4,t10,t11,hlt'];subst hY;simp only[Aa,simprocAttr,za,hlen,t4,t10,t11,hlt'];exact⟨fun G I y h=>Ny (fun z hz=>Cs hz) (fun z hz=>Cs hz) h,hk⟩
theorem Pc [Shp Tryz.prog] [Pow Tryz.prog] (v:JV) (hv:AY v) (hj:Bo v) (hb:Il v) (u:DidU) (hu:Lg u) (hk:K objs (.tup [.s (F8 (Ci v) u).1,.i .i64 (F8 (Ci v) u).2])):Ah Tryz.prog 6 [.agg (AP v),A7 u] objs K:=by
 obtain⟨u1,u2,u3,u4⟩:=hu;have hsh:=NG v;have hdb:=fun h=>WV hv (h:(Ci v).1=0);have hql:=NV u (by omega);have PD:=fun {objs:List OB} {K:List OB->AV->Prop} (h:K objs (FH (Ci v)))=>oX v hv hj hb (objs:=objs) (K:=K) h;refine AF nC (by simp only[AE,AV.plain,A7,Dw,Bool.and_self]) fun C _=>?_;rw[V9];have ejv:=AZ v;rw[ejv] at PD ⊢;refine Ac fun Z hZ=>?_;simp only[A7,Aa,simprocAttr];subst hZ;refine Ac fun Z hZ=>?_;simp only[Aa,simprocAttr];refine Ae (PD ?_);clear PD;generalize Ci v=R at hk hsh hdb ⊢;obtain⟨e,d⟩:=R;dsimp only at hsh hdb;unfold FH
 by_cases he:e=0
 rotate_left
 ·unfold F8 at hk;rw[if_pos he] at hk;simp only[Gx,Aa,simprocAttr];subst hZ;simp only[Aa,simprocAttr,he];exact hk
 subst he;have hdb:=hdb rfl;simp only[Gx,Aa,simprocAttr];subst hZ;refine Ac fun Z hZ=>?_;simp only[Aa,simprocAttr];subst hZ;refine Ac fun Z hZ=>?_;simp only[Aa,simprocAttr];refine Ae (kD u (by omega) fun M b T X hb2 hX=>?_);generalize hO:_++M=O at hb2 ⊢;have h1:O[1]? = some (.box 25 [.s u.meth,.s u.id,.s u.path,.s u.query,.s u.frag,.b u.hq,.b u.hf]):=by rw[<-hO];rfl
 have h2:O[2]? = some (.box 50 (Gx d)):=by rw[<-hO];rfl
 have hl:3<=O.length:=by rw[<-hO];simp
 clear hO M;simp only[Aa,simprocAttr];subst hZ;refine Ac fun Z hZ=>?_;simp only[Aa,simprocAttr];have F:=fun (n:List UInt8) (O':List OB) (h:O'[b]? = some (.box T [X])) {K:List OB->AV->Prop} (hk:∀M,K (O'++M) (.tup [.s (CH n (CW u)).1,.b (CH n (CW u)).2]))=>Xy (objs:=O') (K:=K) (CW u) n (by omega) h hX hk;refine Fq Uv (F BT O hb2 fun M=>?_);have CJ:∀{O M:List OB} {j:Nat} {Y:OB},O[j]? = some Y->(O++M)[j]? = some Y:=fun {O M j Y} h=>by rw[List.getElem?_append_left (zf.1 h).1];exact h
 have h1:=CJ (M:=M) h1;have h2:=CJ (M:=M) h2;have hb2:=CJ (M:=M) hb2;have hl:3<=(O++M).length:=by rw[List.length_append];omega
 generalize O++M=O at h1 h2 hb2 hl ⊢;clear hX;have hnl:=Lv u BT;unfold F8 at hk;rw[if_neg (show ¬((0,d):Int×DoP).1≠0 from fun h=>h rfl)] at hk;generalize CH BT (CW u)=R at hk hnl ⊢;obtain⟨nm,ok⟩:=R;dsimp only at hk hnl ⊢;simp only[Aa,simprocAttr];subst hZ;refine Ac fun Z hZ=>?_
 cases ok with
 | false=>
  rw[if_pos rfl] at hk;simp only[Aa,simprocAttr];exact hk
 | true=>
 rw[if_neg (fun h=>by cases h)] at hk;simp only[Aa,simprocAttr];subst hZ;refine Ac fun Z hZ=>?_;unfold Gx at h2;simp only[Aa,simprocAttr,h1,h2];refine NK (KY u.meth u.id (by omega) (by omega) rfl) rfl rfl ?_;have hfl:=Hh u.meth u.id;simp only[Aa,simprocAttr,h1,h2];refine⟨by omega,by omega,NK (Yf d (AU u.meth u.id++[35]++nm) (by have:=hsh.2.2.2.1;omega) rfl) (by simp only[AE,AV.plain,Dx,IQ,IJ,Bool.and_self]) (by unfold Cg;simp only[AE,AV.plain,Dx,Bool.and_self]) ?_⟩;have n2l:¬2=O.length:=by omega
 have n1l:¬1=O.length:=by omega
 have hmem:=fun h=>RC (id:=AU u.meth u.id++[35]++nm) (l:=d.svs) h;generalize D8 (AU u.meth u.id++[35]++nm) d.svs=R at hk hmem ⊢;obtain⟨⟨sid,styp,seps⟩,ok⟩:=R;dsimp only at hk hmem ⊢;simp only[Cg,Aa,simprocAttr,h1,h2,AG,BB,n2l,n1l];have q1:(O++[OB.box 57 [.s sid,.row styp.length (styp.map .s),.row seps.length (seps.map .s)]])[O.length]? = some (.box 57 [.s sid,.row styp.length (styp.map .s),.row seps.length (seps.map .s)]):=AG _ _;have h1:=CJ (M:=[OB.box 57 [.s sid,.row styp.length (styp.map .s),.row seps.length (seps.map .s)]]) h1;have hb2:=CJ (M:=[OB.box 57 [.s sid,.row styp.length (styp.map .s),.row seps.length (seps.map .s)]]) hb2;generalize hqq:O.length=q at q1 hl ⊢;generalize O++[OB.box 57 [.s sid,.row styp.length (styp.map .s),.row seps.length (seps.map .s)]]=O at h1 hb2 q1 ⊢;subst hZ;refine Ac fun Z hZ=>?_
 cases ok with
 | false=>
  rw[if_pos rfl] at hk;simp only[Aa,simprocAttr];exact hk
 | true=>
 rw[if_neg (fun h=>by cases h)] at hk;have hsv:=hdb.svb _ (hmem rfl);simp only[Aa,simprocAttr];subst hZ;refine Ac fun Z hZ=>?_;unfold Le at hk
 cases seps with
 | nil=>
  have n00:(((0:Nat):Int)=0)=True:=by simp
  simp only[Aa,simprocAttr,q1,n00,decide_true];exact hk
 | cons a seps=>
 dsimp only at hk;have ha:a.length<=140737488351232:=hsv.eps.2 a (xh ..);have n0:¬((seps.length+1:Nat):Int)=0:=by omega
 simp only[Aa,simprocAttr,q1,n0];subst hZ;refine Ac fun Z hZ=>?_;simp only[Aa,simprocAttr,q1];refine⟨⟨by omega,by simp⟩,?_⟩;refine Ae (OK a (by unfold maxLen;omega) ?_);have hx:=OL a;generalize Df a=R at hk hx ⊢;obtain⟨e1,x⟩:=R;dsimp only at hk hx ⊢;simp only[Ba,Aa,simprocAttr,AG,BB];have h1:=CJ (M:=[OB.box 62 [.s x.host,.i .i64 x.port,.s x.path,.s x.query,.s x.frag,.b x.hq,.b x.hf]]) h1;have hb2:=CJ (M:=[OB.box 62 [.s x.host,.i .i64 x.port,.s x.path,.s x.query,.s x.frag,.b x.hq,.b x.hf]]) hb2;have p1:=AG O (OB.box 62 [.s x.host,.i .i64 x.port,.s x.path,.s x.query,.s x.frag,.b x.hq,.b x.hf]);have hll:2<=O.length:=by have:=(zf.1 q1).1;omega
 generalize O++[OB.box 62 [.s x.host,.i .i64 x.port,.s x.path,.s x.query,.s x.frag,.b x.hq,.b x.hf]]=O2 at h1 hb2 p1 ⊢;generalize O.length=q2 at p1 hll ⊢;clear q1;subst hZ;refine Ac fun Z hZ=>?_
 by_cases he1:e1=0
 rotate_left
 ·rw[if_pos he1] at hk;simp only[Aa,simprocAttr,he1];exact hk
 subst he1;rw[if_neg (fun h=>h rfl)] at hk;simp only[Aa,simprocAttr];subst hZ;refine Ac fun Z hZ=>?_;have rest:∀(y:UrlP) (O:List OB) (tm:List AV),DH y->O[1]? = some (.box 25 [.s u.meth,.s u.id,.s u.path,.s u.query,.s u.frag,.b u.hq,.b u.hf])->O[q2]? = some (OB.box 62 [.s y.host,.i .i64 y.port,.s y.path,.s y.query,.s y.frag,.b y.hq,.b y.hf]) ->
   K objs (.tup [.s (Io y u).1,.i .i64 (Io y u).2])->tm.length=91->tm[3]? = some (.p 1 0)->tm[12]? = some (.p q2 0)->run Tryz.prog C [.code Z] O tm (Ip [.tmp 4,.tmp 5] fun r=>K objs r):=by
  intro y O tm hy h1 p1 hk hlen t3 t12;have hy2:=Uc hy (u:=u) (by omega);have hO:q2<O.length:=(zf.1 p1).1;have gs:∀X:OB,(O.set q2 X)[q2]? = some X:=fun X=>zm hO;subst hZ;refine Ac fun Z hZ=>?_;refine Bq (fun o t=>o[q2]? = some (OB.box 62 [.s (DE y u).host,.i .i64 (DE y u).port,.s (DE y u).path,.s (DE y u).query,.s (DE y u).frag,.b (DE y u).hq,.b (DE y u).hf])/\t.length=91/\t[12]? = some (.p q2 0)) ?_ ?_
  ·unfold DE
   cases hf:u.hf with
   | false=>
    rw[if_neg (fun h=>by cases h.1)];simp only[Aa,simprocAttr,za,hlen,t3,t12,h1,hf,Ap,zh];exact p1
   | true=>
    cases hfy:y.hf with
    | true=>
     rw[if_neg (fun h=>by cases h.2)];simp only[Aa,simprocAttr,za,hlen,t3,t12,h1,p1,hf,hfy,Ap,zh]
    | false=>
     rw[if_pos ⟨rfl,rfl⟩];simp only[Aa,simprocAttr,za,hlen,t3,t12,h1,p1,hf,hfy,hO,gs,List.set_set,Ap,zh]
  ·clear hlen t3 t12 h1 p1 hO gs;rintro o tm ⟨p1,hlen,t12⟩;unfold Io at hk;generalize DE y u=z at hk hy2 p1;subst hZ;refine Ac fun Z hZ=>?_;simp only[Aa,simprocAttr,za,hlen,t12,p1];refine Ae (Mq z hy2 ?_);simp only[Aa,simprocAttr,za,hlen,t12];subst hZ;refine Ac fun Z hZ=>?_
   by_cases c:4096<(Bu z).length
   ·rw[if_pos c] at hk;have c':(4096:Int)<((Bu z).length:Int):=by omega
    simp only[Aa,simprocAttr,za,hlen,c'];exact hk
   ·rw[if_neg c] at hk;have c':¬(4096:Int)<((Bu z).length:Int):=by omega
    simp only[Aa,simprocAttr,za,hlen,c'];subst hZ;simp only[Aa,simprocAttr,za,hlen];exact hk
 refine Ac fun Y hY=>?_;simp only[Aa,simprocAttr];refine Fq Uv (F H0 O2 hb2 fun M=>?_);have h1:=CJ (M:=M) h1;have p1:=CJ (M:=M) p1;generalize O2++M=O at h1 p1 ⊢;have hrl:=Lv u H0;have hre:=TR hx u;unfold Jf at hk hre;generalize CH H0 (CW u)=R at hk hrl hre ⊢;obtain⟨rf,ok⟩:=R;dsimp only at hk hrl hre ⊢;simp only[Aa,simprocAttr];subst hY
 cases ok with
 | false=>
  rw[if_neg Bool.false_ne_true,if_neg (fun h=>h rfl)] at hk;simp only[Aa,simprocAttr];exact rest x O _ hx h1 p1 hk rfl rfl rfl
 | true=>
  rw[if_pos rfl] at hk hre;simp only[Aa,simprocAttr,p1];refine Ae (uK x rf hx (by omega) ?_);generalize Ga x rf=R at hk hre ⊢;obtain⟨e2,y⟩:=R;dsimp only at hk hre ⊢;have hO:q2<O.length:=(zf.1 p1).1
  by_cases he2:e2=0
  ·subst he2;rw[if_neg (fun h=>h rfl)] at hk;simp only[Ba,Aa,simprocAttr,p1];exact rest y _ _ hre (by rw[List.getElem?_set_ne (by omega)];exact h1) (zm hO) hk rfl rfl rfl
  ·rw[if_pos he2] at hk;simp only[Ba,Aa,simprocAttr,p1,he2];exact hk
end
end
section
attribute [local irreducible] run
def Ii (m i:List UInt8) (v:JV):Int:=As (As (As (As (As (As (Cu v AK) (Ca v CK false).1) (Ca v B9 true).1) (Cl v CL).1) (DA (C5 m i) (Cl v CL).2)) (Cl v BT).1) (DA (Dp m i) (Cl v BT).2)
def Nc (m i:List UInt8) (v:JV):DoP:=⟨AU m i,(Ca v CK false).2,(Ca v B9 true).2,(Cl v CL).2.map (fun y=>(C5 m i y).2),(Cl v BT).2.map (fun y=>(Dp m i y).2)⟩
def Ij (v:JV):Int×DoP :=
 if v.kind≠7 then (160,F4)
 else if (Bl (An v AK).1.text).1≠0 then (160,F4)
 else if Ii (Bl (An v AK).1.text).2.1 (Bl (An v AK).1.text).2.2 v≠0 then (Ii (Bl (An v AK).1.text).2.1 (Bl (An v AK).1.text).2.2 v,F4)
 else (0,Nc (Bl (An v AK).1.text).2.1 (Bl (An v AK).1.text).2.2 v)
theorem Q0 (m i:List UInt8) (v:JV):Ii m i v=As (Cu v AK) (As (Bd v CK DX).1 (As (Bd v B9 BQ).1 (As (Bd v CL (Bf (Bv m i))).1 (Bd v BT (Bf (Bc m i))).1))):=by
 unfold Ii;rw[(Ju v CK false).1,(Ju v B9 true).1];rw[if_pos rfl,if_neg (show ¬(false=true) by decide)];rw[Dn _ (Cl v BT).1,(Lm (Xl m i) v BT).1,Dn _ (Cl v CL).1,(Lm (Xi m i) v CL).1];simp only[Dn]
theorem rB (v:JV):Ij v=Ci v:=by
 unfold Ij
 by_cases h7:v.kind=7
 rotate_left
 ·have hs:BC v=(160,[],[]):=by unfold BC;rw[if_pos (OH h7 AK)]
  rw[if_pos h7];unfold Ci;rw[hs]
  rfl
 rw[if_neg (show ¬v.kind≠7 from fun e=>e h7)];obtain⟨t1,t2⟩:=Ln v AK
 by_cases ht:Cu v AK=0
 ·have hs:BC v=if (Bl (An v AK).1.text).1≠0 then (160,[],[]) else (0,(Bl (An v AK).1.text).2):=by
   unfold BC;rw[if_neg (show ¬(B5 v AK).2=false by rw[t1.2 ht];decide),t2 ht]
  by_cases hd:(Bl (An v AK).1.text).1=0
  rotate_left
  ·rw[if_pos hd] at hs ⊢;unfold Ci;rw[hs];rfl
  rw[if_neg (fun e=>e hd)] at hs;rw[if_neg (show ¬(Bl (An v AK).1.text).1≠0 from fun e=>e hd)];generalize (Bl (An v AK).1.text).2=mi at hs;obtain⟨m,i⟩:=mi;dsimp only;have hF:=Q0 m i v;have a2:=(Ju v CK false).2;have c2:=(Ju v B9 true).2;have a1:=(Ju v CK false).1;have c1:=(Ju v B9 true).1;rw[if_pos rfl] at c2 c1;rw[if_neg (show ¬(false=true) by decide)] at a2 a1;rw[a1] at a2;rw[c1] at c2;have m2:=(Lm (Xi m i) v CL).2;have s2:=(Lm (Xl m i) v BT).2;rw[ht,EC] at hF;unfold Ci Nc;rw[hs];dsimp only;rw[if_neg (show ¬((0:Int)≠0) by decide)];generalize Ii m i v=F at hF
  by_cases ha:(Bd v CK DX).1=0
  rotate_left
  ·rw[E8 ha] at hF;rw[if_pos ha,hF,if_pos ha]
  rw[if_neg (show ¬(Bd v CK DX).1≠0 from fun e=>e ha)];rw[ha,EC] at hF
  by_cases hc:(Bd v B9 BQ).1=0
  rotate_left
  ·rw[E8 hc] at hF;rw[if_pos hc,hF,if_pos hc]
  rw[if_neg (show ¬(Bd v B9 BQ).1≠0 from fun e=>e hc)];rw[hc,EC] at hF
  by_cases hm:(Bd v CL (Bf (Bv m i))).1=0
  rotate_left
  ·rw[E8 hm] at hF;rw[if_pos hm,hF,if_pos hm]
  rw[if_neg (show ¬(Bd v CL (Bf (Bv m i))).1≠0 from fun e=>e hm)];rw[hm,EC] at hF
  by_cases hv:(Bd v BT (Bf (Bc m i))).1=0
  rotate_left
  ·rw[if_pos hv,hF,if_pos hv]
  rw[if_neg (show ¬(Bd v BT (Bf (Bc m i))).1≠0 from fun e=>e hv),hF,if_neg (fun e=>e hv)];rw[a2 ha,c2 hc,m2 hm,s2 hv]
 ·have hf:(B5 v AK).2=false:=by
   cases e:(B5 v AK).2 with
   | true=>exact absurd (t1.1 e) ht
   | false=>rfl
  have hs:BC v=(160,[],[]):=by unfold BC;rw[if_pos hf]
  have h160:=(Mc v AK).resolve_left ht;have hd:Ci v=(160,F4):=by unfold Ci;rw[hs];rfl
  rw[hd]
  by_cases h:(Bl (An v AK).1.text).1=0
  ·rw[if_neg (fun e=>e h),Q0,E8 ht,if_pos ht,h160]
  ·rw[if_pos h]
end
end Go.Proofs.YtbgaknpnkcdbfaaGreatDoor
