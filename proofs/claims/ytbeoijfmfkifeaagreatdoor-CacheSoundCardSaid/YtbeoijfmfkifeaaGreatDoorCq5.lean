/- The texts that the proofs of these statements reach, in their order, as few files. -/
import Derived.Lib.Builder
import Derived.Lib.UnsafeStr
import Derived.Shelf.RegionOpenPlain
import Derived.Laws.Externs
import Derived.Lib.Split
import Derived.Deep.RegionHeld3
import Derived.WideMake
import Derived.Test.YtbeoijfmfkifeaaGreatDoorCq4
set_option linter.unusedVariables false
set_option linter.unusedSimpArgs false
set_option maxRecDepth 100000
namespace Go.Proofs.YtbeoijfmfkifeaaGreatDoor
open Go.RowKit Sx
open List renaming all_eq_true->zl
structure CanW (u:UrlP):Prop where
 host:AH u.host=(0,u.host)
 port:∃n:Nat,u.port=n/\n<=65535/\n≠443
 path:E9 u.path
 query:Aj u.query AO=(0,u.query)
 frag:Aj u.frag AO=(0,u.frag)
 noq:u.hq=false->u.query=[]
 nof:u.hf=false->u.frag=[]
 len:(Bi u).length<=4096
def Eg (u:UrlP):UriP:=⟨C7,Ds u.host u.port,u.path,u.query,u.frag,true,true,u.hq,u.hf⟩
theorem NF (u:UrlP):Ec (Eg u)=Bi u:=by
 obtain⟨h,p,pa,q,f,hq,hf⟩:=u;unfold Ec Eg Bi FZ C7
 cases hq<;>cases hf<;>simp
theorem lF:∀n:Fin 256,(Em AX (UInt8.ofNat n.val)=true->Aw (UInt8.ofNat n.val) [63,35]=false)/\(Em AO (UInt8.ofNat n.val)=true->UInt8.ofNat n.val≠35):=by decide +kernel
theorem QR (c:UInt8):(Em AX c=true->Aw c [63,35]=false)/\(Em AO c=true->c≠35):=by
 have:=lF ⟨c.toNat,UInt8.toNat_lt c⟩;simpa using this
theorem lV:∀n:Fin 256,AD (UInt8.ofNat n.val)=true->Aw (UInt8.ofNat n.val) [47,63,35,64]=false:=by decide +kernel
theorem Yx (c:UInt8) (h:AD c=true):Aw c [47,63,35,64]=false:=by
 have:=lV ⟨c.toNat,UInt8.toNat_lt c⟩;simp only[UInt8.ofNat_toNat] at this;exact this h
theorem R5 {h:List UInt8} {n:Nat} (hh:AH h=(0,h)):∀c∈Ds h n,Aw c [47,63,35,64]=false:=by
 intro c hc;have hb:∀c∈h,Aw c [47,63,35,64]=false:=by
  intro c hc;have:=QA c (ND (by rw[hh]) c hc);unfold Aw at this ⊢;simp only[List.contains_cons,List.contains_nil,Bool.or_false,Bool.or_eq_false_iff] at this ⊢;exact⟨this.2.2.1,this.2.2.2.1,this.2.2.2.2,this.2.1⟩
 unfold Ds at hc
 split at hc
 ·exact hb c hc
 ·rw[M4] at hc;simp only[List.mem_append,List.mem_cons,List.not_mem_nil,or_false] at hc;rcases hc with (hc|hc)|hc
  ·exact hb c hc
  ·subst hc;decide
  ·exact Yx c (zl.1 (Mr n n (Nat.le_refl _)).1 c hc)
theorem PE {c:UInt8} (h:Aw c [47,63,35,64]=false):Aw c [47,63,35]=false/\c≠64:=by
 unfold Aw at h ⊢;simp only[List.contains_cons,List.contains_nil,Bool.or_false,Bool.or_eq_false_iff] at h ⊢;refine⟨⟨h.1,h.2.1,h.2.2.1⟩,?_⟩;have:=h.2.2.2;simpa using this
theorem IG (u:UrlP):u.path.length<=(Bi u).length:=by
 unfold Bi FZ
 split<;>simp only[List.length_append]<;>omega
theorem CanW.split {u:UrlP} (h:CanW u):AP (Bi u)=(0,Eg u):=by
 obtain⟨n,hn,_,_⟩:=h.port;rw[<-NF];have hl:=h.len;refine fO (Eg u) rfl (by show D3 C7=true;decide) (by show ∀c∈C7,_;decide) rfl ?_ ?_ ?_ ?_ h.noq h.nof (by rw[NF];omega)
 ·intro c hc;have hc':c∈Ds u.host u.port:=hc;rw[hn] at hc';exact(PE (R5 h.host c hc')).1
 ·exact .inr h.path.form
 ·intro c hc;have h3:=IG u;have:=zl.1 (LG (h.path.norm (by omega))) c hc;exact(QR c).1 this
 ·intro hm;have:=zl.1 (LG h.query) 35 hm;exact(QR 35).2 this rfl
theorem CanW.back {u:UrlP} (h:CanW u):BY (Bi u)=(0,u):=by
 obtain⟨n,hn,hn1,hn2⟩:=h.port;have hl:=h.len;have hpl:=IG u;have ho:A7 (Eg u)=(0,u.host,n):=by
  have e1:AM C7 C7=true:=by decide
  have h64:(64:UInt8)∉Ds u.host n:=fun hm=>(PE (R5 h.host 64 hm)).2 rfl;unfold A7 Eg;simp only[e1];rw[hn,Fk 64 _ h64];simp only;rw[Pt h.host hn1 hn2];simp
 have hr:BN (Eg u)=(0,⟨[],0,u.path,u.query,u.frag,u.hq,u.hf⟩):=by
  unfold BN Eg;simp only;rw[h.path.norm (by omega),h.query,h.frag];simp only;rw[h.path.slash];simp
 unfold BY;rw[if_neg (by omega),h.split];simp only;unfold G2;rw[ho,hr];simp only;have hu:Fu u.host n ⟨[],0,u.path,u.query,u.frag,u.hq,u.hf⟩=u:=by
  obtain⟨a,b,c,d,e,f,g⟩:=u;simp only at hn;subst hn;rfl
 rw[hu];unfold Gk;rw[if_neg (by omega)];simp;omega
theorem CanW.valid {u:UrlP} (h:CanW u):DO u=true:=by
 unfold DO;rw[h.back];simp
theorem iF (s:List UInt8) (h:(AP s).2.ha=true):(AP s).2.path=[]\/∃r,(AP s).2.path=47::r:=by
 unfold AP at h ⊢
 split at h
 ·cases h
 ·rename_i h1
  split at h
  ·cases h
  ·rename_i h2;rw[if_neg h1,if_neg h2];simp only at h ⊢;unfold DZ;rw[if_pos h];have ea:CY (EM s)=A6 ((EM s).drop 2):=by unfold CY;rw[if_pos h]
   rw[ea];generalize (EM s).drop 2=l;unfold A6;rcases Dk 47 l with ⟨_,h3,_⟩|⟨k,_,hk,h3,h4⟩
   ·rw[h3];left;simp
   ·rw[h3];right;have e:(l.take k).length=k:=by rw[List.length_take];omega
    simp only[e];rw[List.drop_eq_getElem_cons hk];rw[List.getElem?_eq_getElem hk] at h4;injection h4 with h4
    exact⟨_,by rw[h4]⟩
theorem CanW.of {s:List UInt8} {u:UrlP} (h:BY s=(0,u)):CanW u:=by
 unfold BY at h
 split at h
 ·injection h with h1 _;cases h1
 ·split at h
  ·rename_i h1;injection h with h2 _;exact absurd h2 h1
  ·rename_i h0 h1;simp only[Decidable.not_not] at h1;have hj:=R9 s h1;have hpf:=iF s;have hqq:(AP s).2.hq=false->(AP s).2.query=[]:=by
    unfold AP
    split
    ·intro _;rfl
    ·split
     ·intro _;rfl
     ·intro h1;simp only at h1 ⊢;exact((EP 63 _).2.2 h1).2
   have hff:(AP s).2.hf=false->(AP s).2.frag=[]:=by
    unfold AP
    split
    ·intro _;rfl
    ·split
     ·intro _;rfl
     ·intro h1;simp only at h1 ⊢;exact((EP 35 _).2.2 h1).2
   generalize (AP s).2=p at *;unfold G2 at h
   split at h
   ·rename_i h2;injection h with h3 _;exact absurd h3 h2
   ·rename_i h2;simp only[Decidable.not_not] at h2
    split at h
    ·rename_i h3;injection h with h4 _;exact absurd h4 h3
    ·rename_i h3;simp only[Decidable.not_not] at h3;unfold Gk at h
     split at h
     ·injection h with h4 _;cases h4
     ·rename_i h4;injection h with _ h
      subst h;have ho:p.ha=true/\BL p.auth=(0,(A7 p).2.1,(A7 p).2.2):=by
       unfold A7 at h2 ⊢
       split at h2
       ·cases h2
       ·rename_i g1;rw[if_neg g1]
        split at h2
        ·cases h2
        ·rename_i g2;rw[if_neg g2]
         split at h2
         ·cases h2
         ·rename_i g3;rw[if_neg g3]
          split at h2
          ·cases h2
          ·rename_i g4;rw[if_neg g4];exact⟨by simpa using g3,by rw[<-h2]⟩
      obtain⟨k1,k2,k3,_,_⟩:=M3 ho.2;have hr:(Aj p.path AX).1=0/\(Aj p.query AO).1=0/\(Aj p.frag AO).1=0/\(BN p).2=⟨[],0,Ez (Aj p.path AX).2,(Aj p.query AO).2,(Aj p.frag AO).2,p.hq,p.hf⟩:=by
       unfold BN at h3 ⊢
       split at h3
       ·rename_i g;exact absurd h3 g
       ·rename_i g1;rw[if_neg g1]
        split at h3
        ·rename_i g;exact absurd h3 g
        ·rename_i g2;rw[if_neg g2]
         split at h3
         ·rename_i g;exact absurd h3 g
         ·rename_i g3;rw[if_neg g3];exact⟨by simpa using g1,by simpa using g2,by simpa using g3,rfl⟩
      obtain⟨r1,r2,r3,r4⟩:=hr;rw[r4] at h4 ⊢;have e2:Aj p.query AO=(0,(Aj p.query AO).2):=by rw[<-r2]
      have e3:Aj p.frag AO=(0,(Aj p.frag AO).2):=by rw[<-r3]
      refine⟨k1,⟨(A7 p).2.2,rfl,k2,k3⟩,bM p.path (hpf ho.1) r1,(EC _ _ _ e2).1,(EC _ _ _ e3).1,?_,?_,by omega⟩
      ·intro hq;show (Aj p.query AO).2=[];rw[hqq hq];rfl
      ·intro hf;show (Aj p.frag AO).2=[];rw[hff hf];rfl
theorem CanW.rel {b u:UrlP} (hb:CanW b) (hu:CanW u):UZ b (Bi u)=(0,u):=by
 unfold UZ;rw[hb.valid,hu.split];have hres:K1 (AP (Bi b)).2 (Eg u)=Eg u:=by
  unfold K1;rw[if_pos (show (Eg u).hs=true from rfl)];show ({ Eg u with path:=BD u.path }:UriP)=Eg u;rw[hu.path.dots];rfl
 simp only;rw[hres,NF,hu.back];have e1:AM (Eg u).scheme C7=true:=by show AM C7 C7=true;decide
 rw[e1];simp
end Go.Proofs.YtbeoijfmfkifeaaGreatDoor
namespace Go.Proofs.YtbeoijfmfkifeaaGreatDoor
open Int renaming toNat_natCast->zm
open List renaming all_append->xo, all_cons->je, all_eq_true->zl, append_nil->qf, eq_nil_of_length_eq_zero->qd, flatMap_append->xi, flatMap_cons->qp, getElem?_append_left->qq, getElem?_append_right->jw, getElem?_set->zb, getElem?_set_ne->zp, getElem?_set_self->qc, getElem_mem->zy, getLastD_eq_getLast?->xy, length->qx, length_append->zf, length_cons->zj, length_drop->zx, length_map->qn, length_nil->qo, length_set->zh, length_take->zg, map_congr_left->xp, map_cons->zu, mem_append->zq, mem_append_left->xf, mem_cons->zt, mem_map->jd, nil_append->qm, not_mem_nil->jk, take_length->qe, take_succ_eq_append_getElem->qz, take_zero->xg
open Nat renaming le_refl->zd, lt_of_lt_of_le->xj, lt_or_ge->zo, mul_one->qv, zero_le->ze
open Option renaming map_eq_some_iff->jz, some->zw
def BR:List UInt8:=[119,101,98]
def CE:List UInt8:=[100,105,100,46,106,115,111,110]
def GN:List UInt8:=[46,119,101,108,108,45,107,110,111,119,110]
def Cb:List UInt8:=47::(GN++47::CE)
def AS (m i:List UInt8):Int×List UInt8×Nat :=
 if m≠BR then (100,[],0)
 else if (AY (AB m i)).1≠0 then ((AY (AB m i)).1,[],0)
 else BL (An (Ae 58 i).1).2
def Do (x:List UInt8):Bool:=!(decide ((An x).2=[])||decide ((An x).2=[46])||decide ((An x).2=[46,46]))
def FP (x:List UInt8):List UInt8:=47::AI (An x).2 []
def B8 (l:List (List UInt8)):List UInt8:=l.flatMap FP
def Ee (l:List (List UInt8)):List UInt8:=if l=[] then Cb else B8 l++47::CE
def GO (m i:List UInt8):UrlP:=⟨(AS m i).2.1,(AS m i).2.2,Ee (Ap 58 i).tail,[],[],false,false⟩
def BF (m i:List UInt8):Int×UrlP :=
 if (AS m i).1≠0 then ((AS m i).1,BB)
 else if (Ap 58 i).tail.all Do=false then (110,BB)
 else if 4096<(Bi (GO m i)).length then (5,BB)
 else (0,GO m i)
def BC (x:List UInt8):Bool:=decide ((Aj x []).1=0)&&!decide (x=[])
def DK (x:List UInt8):List UInt8:=58::Dw (Aj x []).2
def Cv (l:List (List UInt8)):List UInt8:=l.flatMap DK
def BP (h:List UInt8) (p:Int):List UInt8:=if p=0 then h else h++([37,51,65]++Lib.itoa p)
def EN (u:UrlP):List (List UInt8):=(Ap 47 u.path).tail
def Cp (u:UrlP):List UInt8:=BP u.host u.port++(if u.path=Cb then [] else Cv (EN u).dropLast)
def CZ (u:UrlP):Int×List UInt8×List UInt8 :=
 if DO u=false then (8,[],[])
 else if u.hq=true\/u.hf=true\/¬(EN u).getLastD []=CE then (6,[],[])
 else if ¬u.path=Cb/\((EN u).dropLast=[]\/(EN u).dropLast.all BC=false) then (110,[],[])
 else if 4096<(AB BR (Cp u)).length then (5,[],[])
 else (0,BR,Cp u)
def BX (m i:List UInt8):Int×List UInt8×List UInt8:=if (BF m i).1≠0 then ((BF m i).1,[],[]) else CZ (BF m i).2
def Dn (c:UInt8):Bool:=A4 c||c==37
theorem Hr (c:UInt8) (d k:List UInt8):AI (c::d) k=(if Bo c k=true then [c] else Bd c)++AI d k:=by simp[AI]
theorem lO:∀n:Fin 256,(Bj (UInt8.ofNat n.val)=true->A4 (UInt8.ofNat n.val)=true)/\(A4 (UInt8.ofNat n.val)=true->UInt8.ofNat n.val≠37/\UInt8.ofNat n.val≠47):=by decide +kernel
theorem MW (c:UInt8):(Bj c=true->A4 c=true)/\(A4 c=true->c≠37/\c≠47):=by
 have:=lO ⟨c.toNat,UInt8.toNat_lt c⟩;simpa using this
theorem MH (also:List UInt8):∀(n:Nat) (l out:List UInt8),l.length<=n->l.all Dn=true->(A1 l).1=0->Al (AQ also) 0 l out=(0,out++AI (A1 l).2 []):=by
 intro n
 induction n with
 | zero=>
  intro l out hl _ _;obtain rfl:l=[]:=qd (by omega);simp[Al,A1,AI]
 | succ n ih=>
  intro l out hl hb hd
  cases l with
  | nil=>simp[Al,A1,AI]
  | cons c t=>
   simp only[zj] at hl
   by_cases hc:c=37
   ·subst hc;rcases he:Bm (37::t) with _|_
    ·rw[Ie he] at hd;exact absurd hd (by decide)
    ·obtain⟨a,b,r,rfl⟩:=Fj he;have hd':(A1 r).1=0:=by rw[<-(F0 he).1];exact hd
     have hb':r.all Dn=true:=by
      simp only[je,Bool.and_eq_true] at hb;exact hb.2.2.2
     rw[(F0 he).2 hd',Hr,Hw];rcases hu:A4 (AZ (37::a::b::r)) with _|_
     ·rw[Al,if_pos rfl,if_pos he,Fz hu,if_pos rfl,DP];have:=ih r (out++Bd (AZ (37::a::b::r))) (by simp at hl;omega) hb' hd';show Al (AQ also) 0 r _=_;rw[this];simp
     ·rw[Al,if_pos rfl,if_pos he,DD (by rw[hu];rfl) (EW hu),if_pos rfl,DP];have:=ih r (out++[AZ (37::a::b::r)]) (by simp at hl;omega) hb' hd';show Al (AQ also) 0 r _=_;rw[this];simp
   ·simp only[je,Bool.and_eq_true] at hb;have hu:A4 c=true:=by
     have:=hb.1;unfold Dn at this;rw[Bool.or_eq_true] at this;rcases this with h|h
     ·exact h
     ·exact absurd (by simpa using h) hc
    have hd':(A1 t).1=0:=by rw[<-(Fw hc).1];exact hd
    rw[(Fw hc).2 hd',Hr,Hw,hu,if_pos rfl];rw[Al,if_neg hc,DD rfl (EW hu),if_pos rfl];have:=ih t (out++[c]) (by omega) hb.2 hd';show Al (AQ also) 0 t _=_;rw[this];simp
theorem JP {l:List UInt8} (hl:l.length<=16384):(Aj l []).1=0↔(An l).1=0/\l.all Dn=true:=by
 constructor
 ·intro h;have e:Aj l []=(0,(Aj l []).2):=by rw[<-h]
  obtain⟨a,h1,_⟩:=(EC _ _ _ e).2.1;refine⟨by rw[h1],?_⟩;rw[zl];intro c hc;have:=zl.1 (Sk e) c hc;unfold Em at this;rw[Hw] at this;unfold Dn;simp only[Bool.or_eq_true] at this ⊢;rcases this with (h|h)|h
  ·exact .inr h
  ·exact .inl ((MW c).1 h)
  ·exact .inl h
 ·rintro⟨h1,h2⟩;rw[Ej hl] at h1;have:=MH [] l.length l [] (zd _) h2 h1;unfold Aj BU;rw[if_neg (by omega),this]
theorem S9 {l:List UInt8} (h:(Aj l []).1=0):(Aj l []).2=AI (An l).2 []:=by
 have e:Aj l []=(0,(Aj l []).2):=by rw[<-h]
 have hl:=Iq e;obtain⟨h1,h2⟩:=(JP hl).1 h;have:=MH [] l.length l [] (zd _) h2 (by rw[<-Ej hl];exact h1);unfold Aj BU;rw[if_neg (by omega),this,Ej hl];rfl
theorem NL:∀d:List UInt8,Dw (AI d [])=Ax d
 | []=>rfl
 | c::d=>by
  rw[Hr,LB,NL d,Hw,SE,F6]
theorem M6:∀d:List UInt8,A1 (AI d [])=(0,d)
 | []=>rfl
 | c::d=>by
  have ih:=M6 d;rw[Hr,Hw]
  by_cases h:A4 c=true
  ·rw[if_pos h];have d1:=Fw (c:=c) (t:=AI d []) ((MW c).2 h).1;rw[ih] at d1;have e2:=d1.2 rfl;show A1 (c::AI d [])=_;have:A1 (c::AI d [])=((A1 (c::AI d [])).1,(A1 (c::AI d [])).2):=rfl;rw[this,d1.1,e2]
  ·rw[if_neg h];have he:=Mt c (AI d []);have d1:=F0 (a:=Bk (c.toNat / 16)) (b:=Bk (c.toNat % 16)) (r:=AI d []) he.1;have e:Bd c++AI d []=37::Bk (c.toNat / 16)::Bk (c.toNat % 16)::AI d []:=rfl;rw[e];rw[ih] at d1;have e2:=d1.2 rfl;have hv:AZ (37::Bk (c.toNat / 16)::Bk (c.toNat % 16)::AI d [])=c:=he.2;rw[hv] at e2;have:A1 (37::Bk (c.toNat / 16)::Bk (c.toNat % 16)::AI d [])=((A1 (37::Bk (c.toNat / 16)::Bk (c.toNat % 16)::AI d [])).1,(A1 (37::Bk (c.toNat / 16)::Bk (c.toNat % 16)::AI d [])).2):=rfl;rw[this,d1.1,e2]
theorem Cn.enc (keep:List UInt8):∀d:List UInt8,Cn keep (AI d [])
 | []=>Cn.nil keep
 | c::d=>by
  rw[Hr,Hw]
  by_cases h:A4 c=true
  ·rw[if_pos h];exact(Cn.one (EW h)).append (Cn.enc keep d)
  ·rw[if_neg h];exact Cn.append (fun o r'=>Jr _ _ _ _ _ (Fz (by simpa using h))) (Cn.enc keep d)
theorem Qq:∀d:List UInt8,(47:UInt8)∉AI d []
 | []=>by simp[AI]
 | c::d=>by
  rw[Hr,Hw,zq,not_or];refine⟨?_,Qq d⟩
  by_cases h:A4 c=true
  ·rw[if_pos h];simpa using fun e=>((MW c).2 h).2 e.symm
  ·rw[if_neg h];exact Rr c
theorem PR (d:List UInt8):d.length<=(AI d []).length:=by
 induction d with
 | nil=>simp[AI]
 | cons c d ih=>
  rw[Hr,zf,zj]
  split
  ·simp;omega
  ·rw[Im];omega
theorem MC {x:List UInt8} (hc:Cn AX x) (hl:x.length<=16384) (hu:x.all Dn=true):(An x).1=0/\AI (An x).2 []=x:=by
 have hn:=hc.norm hl;obtain⟨a,h1,_⟩:=(EC _ _ _ hn).2.1;have hd:(An x).1=0:=by rw[h1]
 refine⟨hd,?_⟩;have h2:=MH AX x.length x [] (zd _) hu (by rw[<-Ej hl];exact hd);have h3:=hc [] [];simp only[qf,qm] at h3 h2;rw[h2] at h3;have h4:Al (AQ AX) 0 [] x=(0,x):=by cases x<;>rfl
 rw[h4] at h3;injection h3 with _ h3
 rw[Ej hl];exact h3
theorem Lm:∀(m:List (List UInt8)),(∀x∈m,(47:UInt8)∉x)->Ap 47 (jn m)=[]::m
 | [],_=>rfl
 | x::m,h=>by
  have hx:=h x (by simp);rw[D2,CT,if_pos rfl]
  congr 1
  have ih:=Lm m (fun y hy=>h y (by simp[hy]))
  cases m with
  | nil=>rw[I7,qf,DE,Fk 47 x hx];simp
  | cons y m=>
   rw[D2] at ih ⊢;rw[CT,if_pos rfl] at ih;injection ih with _ ih
   rw[DE,Dm 47 x _ hx,if_pos rfl,ih]
theorem Nn {u:UrlP} (h:DO u=true):CanW u:=by
 unfold DO at h;simp only[Bool.and_eq_true,decide_eq_true_eq] at h;exact CanW.of (s:=Bi u) (Prod.ext h.1 h.2)
theorem Pk {m i:List UInt8} {h:List UInt8} {n:Nat} (hd:AS m i=(0,h,n)):m=BR/\Cl i=(0,(Cl i).2)/\(AB m i).length<=4096/\BL (An (Ae 58 i).1).2=(0,h,n):=by
 unfold AS at hd
 split at hd
 ·injection hd with h1 _;cases h1
 ·rename_i g1;simp only[ne_eq,Decidable.not_not] at g1
  split at hd
  ·rename_i g2;injection hd with h1 _;exact absurd h1 g2
  ·rename_i g2;simp only[ne_eq,Decidable.not_not] at g2;have e:AY (AB m i)=(0,(AY (AB m i)).2.1,(AY (AB m i)).2.2):=by rw[<-g2]
   obtain⟨k1,l,k2,k3,k4⟩:=Kj e;refine⟨g1,?_,k4,hd⟩;have hml:(AY (AB m i)).2.1=m/\l=i:=by
    have hm:C9 m=true:=by rw[g1];decide
    have h58:∀{m:List UInt8},C9 m=true->(58:UInt8)∉m:=fun hm=>by
     unfold C9 at hm;simp only[Bool.and_eq_true] at hm;exact Gz (fun x hx=>(Hl x).1 (zl.1 hm.1 x hx)) (by decide)
    have c1:=Dm 58 m i (h58 hm);have c2:=Dm 58 _ l (h58 k1);have e1:(AB m i).drop 4=m++58::i:=by simp[AB,Ca]
    have e2:(AB (AY (AB m i)).2.1 l).drop 4=(AY (AB m i)).2.1++58::l:=by simp[AB,Ca]
    rw[<-e1,k2,e2,c2] at c1;injection c1 with c1 c3
    injection c3 with c3 _
    exact⟨c1,c3⟩
   rw[<-hml.2,k3]
theorem dQ {i:List UInt8} (h:Cl i=(0,(Cl i).2)) (hl:i.length<=16384):(∀q∈Ap 58 i,(An q).1=0/\q.length<=i.length):=by
 obtain⟨p,ps,hs⟩:=Cj 58 i;have hp:=JH i p ps hl hs;intro q hq;refine⟨?_,F4 58 i q hq⟩;rw[h] at hp
 split at hp
 ·cases hp
 ·rename_i g1;simp only[Decidable.not_not] at g1;rw[hs] at hq;exact g1 q hq
theorem Nl (c:UInt8) (l:List UInt8):(Ae c l).1=(Ap c l).headD []:=by
 rw[DE]
 split
 ·rfl
 ·rename_i h;exact((EP c l).2.2 (by simpa using h)).1
theorem Vk (c:UInt8) (l:List UInt8):(Ae c l).1∈Ap c l:=by
 rw[Nl];obtain⟨p,ps,e⟩:=Cj c l;rw[e];simp
theorem MY {m i:List UInt8} (h1:m=BR) (h2:(AY (AB m i)).1=0):(An (Ae 58 i).1).1=0/\(∀q∈Ap 58 i,(An q).1=0):=by
 have e:AY (AB m i)=(0,(AY (AB m i)).2.1,(AY (AB m i)).2.2):=by rw[<-h2]
 have key:Cl i=(0,(Cl i).2)/\(AB m i).length<=4096:=by
  have hx:AS m i=((AS m i).1,(AS m i).2.1,(AS m i).2.2):=rfl;obtain⟨k1,l,k2,k3,k4⟩:=Kj e;refine⟨?_,k4⟩;have hm:C9 m=true:=by rw[h1];decide
  have h58:∀{m:List UInt8},C9 m=true->(58:UInt8)∉m:=fun hm=>by
   unfold C9 at hm;simp only[Bool.and_eq_true] at hm;exact Gz (fun x hx=>(Hl x).1 (zl.1 hm.1 x hx)) (by decide)
  have c1:=Dm 58 m i (h58 hm);have c2:=Dm 58 _ l (h58 k1);have e1:(AB m i).drop 4=m++58::i:=by simp[AB,Ca]
  have e2:(AB (AY (AB m i)).2.1 l).drop 4=(AY (AB m i)).2.1++58::l:=by simp[AB,Ca]
  rw[<-e1,k2,e2,c2] at c1;injection c1 with c1 c3
  injection c3 with c3 _
  rw[<-c3,k3]
 have hl:i.length<=(AB m i).length:=by simp[AB];omega
 have:=dQ key.1 (by omega);exact⟨(this _ (Vk 58 i)).1,fun q hq=>(this q hq).1⟩
theorem nA:∀n:Fin 256,((UInt8.ofNat n.val=46\/BS (UInt8.ofNat n.val)=true)->B4 (UInt8.ofNat n.val)=true)/\(AD (UInt8.ofNat n.val)=true->B4 (UInt8.ofNat n.val)=true/\UInt8.ofNat n.val≠58):=by decide +kernel
theorem Rx (c:UInt8):((c=46\/BS c=true)->B4 c=true)/\(AD c=true->B4 c=true/\c≠58):=by
 have:=nA ⟨c.toNat,UInt8.toNat_lt c⟩;simp only[UInt8.ofNat_toNat] at this;exact this
theorem Ls:∀l:List UInt8,(∀c∈l,B4 c=true)->Ax l=l
 | [],_=>rfl
 | c::l,h=>by
  rw[F6,if_pos (h c (by simp)),Ls l (fun x hx=>h x (by simp[hx]))];rfl
theorem SW (a b:List UInt8):Ax (a++b)=Ax a++Ax b:=by simp[Ax]
theorem JG (l:List UInt8):(Ax l).length<=3*l.length:=by
 induction l with
 | nil=>simp[Ax]
 | cons c l ih=>
  rw[F6,zf,zj]
  split
  ·simp;omega
  ·rw[Im];omega
theorem Yd {h:List UInt8} {n:Nat} (hh:AH h=(0,h)):Ax (Ds h n)=BP h n:=by
 have hb:∀c∈h,B4 c=true:=fun c hc=>(Rx c).1 (ND (by rw[hh]) c hc);unfold Ds BP
 by_cases h0:(n:Int)=0
 ·rw[if_pos h0,if_pos h0,Ls h hb]
 ·rw[if_neg h0,if_neg h0,SW,SW,Ls h hb,M4,Ls (Lib.decDigits n) (fun c hc=>((Rx c).2 (zl.1 (Mr n n (zd _)).1 c hc)).1)];have:Ax [58]=[37,51,65]:=by decide
  rw[this];simp
theorem PG (h:List UInt8) (p:Int) (h0:-9223372036854775808<=p) (h1:p<=9223372036854775807):(BP h p).length<=h.length+24:=by
 have:=Lib.itoa_length_le p h0 h1;unfold BP
 split
 ·omega
 ·simp only[zf,zj,qo];omega
theorem RG:∀l:List (List UInt8),l.all BC=true->Cv l=js (l.map fun x=>Ax (An x).2)
 | [],_=>rfl
 | x::l,h=>by
  simp only[je,Bool.and_eq_true] at h;have ih:=RG l h.2;unfold Cv js at ih ⊢;rw[qp,ih,zu,qp];have hx:=h.1;unfold BC at hx;simp only[Bool.and_eq_true,decide_eq_true_eq] at hx;show DK x++_=(58::Ax (An x).2)++_;unfold DK;rw[S9 hx.1,NL]
theorem Yl {h:List UInt8} (hh:AH h=(0,h)):h≠[]:=by
 rintro rfl;exact absurd hh (by decide)
theorem mZ {hp:List UInt8} {d:List UInt8} (ds:List (List UInt8)) (h1:hp=Ax d) (h2:hp≠[]) (h3:∀q∈ds,q≠[]) (hl:(hp++js (ds.map Ax)).length<=16384):Cl (hp++js (ds.map Ax))=(0,hp++js (ds.map Ax)):=by
 subst h1;have hs:Ap 58 (Ax d++js (ds.map Ax))=Ax d::ds.map Ax:=K5 _ _ (IB _) (fun x hx=>by
  obtain⟨q,_,rfl⟩:=jd.1 hx;exact IB _)
 have hlen:∀q∈d::ds,(Ax q).length<=16384:=by
  intro q hq;rw[zf] at hl;rcases zt.1 hq with rfl|hq
  ·omega
  ·have:=NG (ds.map Ax) (Ax q) (List.mem_map_of_mem hq);omega
 have hdec:∀q∈d::ds,An (Ax q)=(0,q):=fun q hq=>by rw[Ej (hlen q hq),Ik]
 rw[JH _ (Ax d) (ds.map Ax) hl hs];have c1:∀q∈Ax d::ds.map Ax,(An q).1=0:=by
  intro q hq;have:q∈(d::ds).map Ax:=hq;obtain⟨q',k1,rfl⟩:=jd.1 this;rw[hdec q' k1]
 have c2:(Ax d::ds.map Ax).all (fun q=>q.all Ck)=true:=by
  rw[zl];intro q hq;have:q∈(d::ds).map Ax:=hq;obtain⟨q',k1,rfl⟩:=jd.1 this;exact Qt _
 have c3:¬(Ax d::ds.map Ax).getLastD []=[]:=by
  intro e;have e2:=Oa Ax d ds;rw[zu] at e2;rw[e2,Qs] at e;rcases List.eq_nil_or_concat ds with rfl|⟨l',z,rfl⟩
  ·rw[show ([d]:List (List UInt8)).getLastD []=d from rfl] at e;exact h2 (by rw[e];rfl)
  ·rw[List.concat_eq_append] at e h3;have:(d::(l'++[z])).getLastD []=z:=by
    show ((d::l')++[z]).getLastD []=z;simp only[xy,List.getLast?_append,List.getLast?_singleton];rfl
   rw[this] at e;exact h3 z (by simp) e
 rw[if_neg (by simpa using c1),if_neg (by rw[c2];simp),if_neg c3];have e1:Bp (Ax d)=Ax d:=by unfold Bp;rw[hdec d (by simp)]
 have e2:Ge (ds.map Ax)=js (ds.map Ax):=by
  rw[I8,List.map_map]
  congr 1
  apply xp
  intro q hq;show Bp (Ax q)=Ax q;unfold Bp;rw[hdec q (by simp[hq])]
 rw[e1,e2]
theorem eT {m:List (List UInt8)} (hm:m≠[]) {z:List UInt8} (h:m.getLastD []=z):m=m.dropLast++[z]:=by
 rcases List.eq_nil_or_concat m with rfl|⟨l',y,rfl⟩
 ·exact absurd rfl hm
 ·rw[List.concat_eq_append] at h ⊢;have:(l'++[y]).getLastD []=y:=by simp[xy]
  rw[this] at h;subst h;simp
theorem Lb (a b:List (List UInt8)):jn (a++b)=jn a++jn b:=by simp[jn]
theorem Qj {l:List (List UInt8)}:Ee l=(if l=[] then Cb else B8 l++47::CE):=rfl
theorem WJ {u:UrlP} {i:List UInt8} (h:CZ u=(0,BR,i)):BF BR i=(0,u):=by
 unfold CZ at h
 split at h
 ·cases h
 ·rename_i g1;simp only[Bool.not_eq_false] at g1
  split at h
  ·cases h
  ·rename_i g2;simp only[not_or,Bool.not_eq_true,Decidable.not_not] at g2;obtain⟨gq,gf,gl⟩:=g2
   split at h
   ·cases h
   ·rename_i g3
    split at h
    ·cases h
    ·rename_i g4;injection h with _ h
     injection h with _ h
     subst h;have hc:=Nn g1;obtain⟨n,hn,hn1,hn2⟩:=hc.port;obtain⟨m,hm,hms,hp⟩:=hc.path;have hsp:EN u=m:=by
      unfold EN;rw[hp,Lm m (fun x hx=>(hms x hx).1.1)];rfl
     rw[hsp] at gl g3;have hml:=eT hm gl;have hplen:∀x∈m,x.length<=4096:=by
      intro x hx;have h1:=IG u;have h2:=hc.len;have h3:x.length<=(jn m).length:=by
       obtain⟨a,b,rfl⟩:=List.append_of_mem hx;rw[Lb,D2];simp;omega
      rw[hp] at h1;omega
     have hE:=Yd (h:=u.host) (n:=n) hc.host;have key:∃segs:List (List UInt8),Cp u=BP u.host n++js ((segs.map fun x=>(An x).2).map Ax)/\segs.all BC=true/\(∀x∈segs,x∈m)/\Ee (segs.map fun x=>Ax (An x).2)=u.path:=by
      by_cases hw:u.path=Cb
      ·refine⟨[],?_,rfl,by simp,?_⟩
       ·unfold Cp;rw[if_pos hw,hn];rfl
       ·rw[hw];rfl
      ·have g3':¬m.dropLast=[]/\m.dropLast.all BC=true:=by
        refine⟨fun e=>g3 ⟨hw,.inl e⟩,?_⟩
        cases e:m.dropLast.all BC with
        | true=>rfl
        | false=>exact absurd ⟨hw,.inr e⟩ g3
       refine⟨m.dropLast,?_,g3'.2,fun x hx=>List.dropLast_subset m hx,?_⟩
       ·unfold Cp;rw[if_neg hw,hn,hsp,RG _ g3'.2,List.map_map];rfl
       ·rw[Qj,if_neg (by rw[List.map_eq_nil_iff];exact g3'.1),hp]
        conv=>rhs;rw[hml,Lb]
        have:∀l:List (List UInt8),l.all BC=true->(∀x∈l,x∈m)->B8 (l.map fun x=>Ax (An x).2)=jn l:=by
         intro l
         induction l with
         | nil=>intro _ _;rfl
         | cons x l ih=>
          intro ha hb;simp only[je,Bool.and_eq_true] at ha;have ih:=ih ha.2 (fun y hy=>hb y (by simp[hy]));have hx:=ha.1;unfold BC at hx;simp only[Bool.and_eq_true,decide_eq_true_eq] at hx;have hxl:=hplen x (hb x (by simp));have hup:=((JP (l:=x) (by omega)).1 hx.1).2;have hse:=(MC (hms x (hb x (by simp))).2 (by omega) hup).2;unfold B8 at ih ⊢;rw[zu,qp,ih,D2];unfold FP;have hel:(Ax (An x).2).length<=16384:=by
           have k1:=JG (An x).2;have k2:=PR (An x).2;rw[hse] at k2;omega
          rw[Ej hel,Ik];simp only;rw[hse];rfl
        rw[this m.dropLast g3'.2 (fun x hx=>List.dropLast_subset m hx)];simp[jn]
     obtain⟨segs,hid,hok,hmem,hpath⟩:=key;have hdn:∀x∈segs,(An x).2≠[]/\AI (An x).2 []=x/\x.length<=4096:=by
      intro x hx;have h1:=zl.1 hok x hx;unfold BC at h1;simp only[Bool.and_eq_true,decide_eq_true_eq,Bool.not_eq_true',decide_eq_false_iff_not] at h1;have hxl:=hplen x (hmem x hx);have hup:=((JP (l:=x) (by omega)).1 h1.1).2;have hse:=(MC (hms x (hmem x hx)).2 (by omega) hup).2;refine⟨fun e=>h1.2 ?_,hse,hxl⟩;rw[e] at hse;rw[<-hse];rfl
     have hil:(Cp u).length<=4096:=by
      have:(AB BR (Cp u)).length=(Cp u).length+8:=by simp[AB,Ca,BR]
      omega
     have hne:BP u.host n≠[]:=by
      have:=Yl hc.host;unfold BP
      split
      ·exact this
      ·simp[this]
     have hie:Cl (Cp u)=(0,Cp u):=by
      rw[hid];refine mZ (d:=Ds u.host n) _ hE.symm hne ?_ (by rw[<-hid];omega);intro q hq;obtain⟨x,hx,rfl⟩:=jd.1 hq;exact(hdn x hx).1
     have hdid:AY (AB BR (Cp u))=(0,BR,Cp u):=PM (by decide) hie (by omega);have h58:(58:UInt8)∉BP u.host n:=by rw[<-hE];exact IB _
     have hsplit:Ap 58 (Cp u)=BP u.host n::(segs.map fun x=>(An x).2).map Ax:=by
      rw[hid];exact K5 _ _ h58 (fun x hx=>by
       obtain⟨q,_,rfl⟩:=jd.1 hx;exact IB _)
     have hdw:AS BR (Cp u)=(0,u.host,n):=by
      unfold AS;rw[if_neg (by simp),hdid,if_neg (by simp),Nl,hsplit];show BL (An (BP u.host n)).2=_;have hl2:(BP u.host n).length<=16384:=by
       rw[hid,zf] at hil;omega
      rw[Ej hl2,<-hE,Ik];exact Pt hc.host hn1 hn2
     have htl:(Ap 58 (Cp u)).tail=segs.map fun x=>Ax (An x).2:=by
      rw[hsplit,List.tail_cons,List.map_map];rfl
     have hU:GO BR (Cp u)=u:=by
      unfold GO;rw[hdw,htl,hpath];have e1:=hc.noq gq;have e2:=hc.nof gf
      cases u
      simp only at hn gq gf e1 e2 ⊢;rw[hn,gq,gf,e1,e2]
     have hall:(Ap 58 (Cp u)).tail.all Do=true:=by
      rw[htl,List.all_map,zl];intro x hx;obtain⟨k1,k2,k3⟩:=hdn x hx;show Do (Ax (An x).2)=true;have hel:(Ax (An x).2).length<=16384:=by
       have k4:=JG (An x).2;have k5:=PR (An x).2;rw[k2] at k5;omega
      unfold Do;rw[Ej hel,Ik];simp only;have hs:=(hms x (hmem x hx)).1;have n1:¬(An x).2=[46]:=fun e=>hs.2.1 (by rw[<-k2,e];decide);have n2:¬(An x).2=[46,46]:=fun e=>hs.2.2 (by rw[<-k2,e];decide);simp[k1,n1,n2]
     have hlen:=hc.len;unfold BF;rw[hdw,hall,hU,if_neg (by simp),if_neg (by simp),if_neg (by omega)]
theorem MO:EL GN/\EL CE:=by
 refine⟨⟨by decide,by decide,by decide⟩,⟨by decide,by decide,by decide⟩⟩
theorem L3:Cn AX GN/\Cn AX CE:=by
 have e1:AI GN []=GN:=by decide
 have e2:AI CE []=CE:=by decide
 exact⟨by have:=Cn.enc AX GN;rwa [e1] at this,by have:=Cn.enc AX CE;rwa [e2] at this⟩
theorem Zc (l:List (List UInt8)):B8 l=jn (l.map fun x=>AI (An x).2 []):=by
 unfold B8 jn FP;rw[List.flatMap_map]
theorem Mo {m i:List UInt8} {u:UrlP} (h:BF m i=(0,u)):CanW u/\u.hq=false/\u.hf=false/\AS m i=(0,u.host,(AS m i).2.2)/\u.port=(AS m i).2.2/\u=GO m i:=by
 unfold BF at h
 split at h
 ·rename_i g;injection h with h1 _;exact absurd h1 g
 ·rename_i g1;simp only[Decidable.not_not] at g1
  split at h
  ·cases h
  ·rename_i g2;simp only[Bool.not_eq_false] at g2
   split at h
   ·cases h
   ·rename_i g3;injection h with _ h
    subst h;have hd:AS m i=(0,(AS m i).2.1,(AS m i).2.2):=by rw[<-g1]
    obtain⟨k1,k2,k3,k4⟩:=Pk hd;obtain⟨a1,a2,a3,_,_⟩:=M3 k4;refine⟨⟨a1,⟨_,rfl,a2,a3⟩,?_,?_,?_,fun _=>rfl,fun _=>rfl,by omega⟩,rfl,rfl,hd,rfl,rfl⟩
    ·show E9 (Ee (Ap 58 i).tail);rw[Qj]
     by_cases ht:(Ap 58 i).tail=[]
     ·rw[if_pos ht];refine⟨[GN,CE],by simp,?_,by decide⟩;intro s hs;simp only[zt,jk,or_false] at hs;rcases hs with rfl|rfl
      ·exact⟨MO.1,L3.1⟩
      ·exact⟨MO.2,L3.2⟩
     ·rw[if_neg ht];refine⟨((Ap 58 i).tail.map fun x=>AI (An x).2 [])++[CE],by simp,?_,?_⟩
      ·intro s hs;rcases zq.1 hs with hs|hs
       ·obtain⟨x,hx,rfl⟩:=jd.1 hs;have:=zl.1 g2 x hx;unfold Do at this;simp only[Bool.not_eq_true',Bool.or_eq_false_iff,decide_eq_false_iff_not] at this;refine⟨⟨Qq _,fun e=>this.1.2 ?_,fun e=>this.2 ?_⟩,Cn.enc _ _⟩
        ·have h1:=M6 (An x).2;rw[e] at h1;exact congrArg Prod.snd (h1.symm.trans (by decide:A1 [46]=(0,[46])))
        ·have h1:=M6 (An x).2;rw[e] at h1;exact congrArg Prod.snd (h1.symm.trans (by decide:A1 [46,46]=(0,[46,46])))
       ·simp only[zt,jk,or_false] at hs;subst hs;exact⟨MO.2,L3.2⟩
      ·rw[Zc,Lb];simp[jn]
    ·show Aj [] AO=(0,[]);decide
    ·show Aj [] AO=(0,[]);decide
theorem Yi {u:UrlP} {r:List UInt8×List UInt8} (h:CZ u=(0,r)):r.1=BR/\CZ u=(0,BR,r.2)/\r.2=Cp u:=by
 have h':=h;unfold CZ at h
 split at h
 ·cases h
 ·split at h
  ·cases h
  ·split at h
   ·cases h
   ·split at h
    ·cases h
    ·injection h with _ h
     subst h;exact⟨rfl,h',rfl⟩
theorem Yg {u:UrlP} (h:(CZ u).1≠0):(CZ u).2=([],[]):=by
 unfold CZ at h ⊢
 split
 ·rfl
 ·rename_i g1;rw[if_neg g1] at h
  split
  ·rfl
  ·rename_i g2;rw[if_neg g2] at h
   split
   ·rfl
   ·rename_i g3;rw[if_neg g3] at h
    split
    ·rfl
    ·rename_i g4;rw[if_neg g4] at h;exact absurd rfl h
theorem OU {m i:List UInt8} (h:(BF m i).1≠0):(BF m i).2=BB:=by
 unfold BF at h ⊢
 split
 ·rfl
 ·rename_i g1;rw[if_neg g1] at h
  split
  ·rfl
  ·rename_i g2;rw[if_neg g2] at h
   split
   ·rfl
   ·rename_i g3;rw[if_neg g3] at h;exact absurd rfl h
theorem nS {m i:List UInt8} {r:List UInt8×List UInt8} (h:BX m i=(0,r)):BF r.1 r.2=(0,(BF m i).2)/\CZ (BF m i).2=(0,r)/\BX r.1 r.2=(0,r)/\(BF m i).1=0/\r.1=BR:=by
 unfold BX at h
 split at h
 ·rename_i g;injection h with h1 _;exact absurd h1 g
 ·rename_i g;simp only[Decidable.not_not] at g;obtain⟨k1,k2,_⟩:=Yi h;have h3:=WJ k2;have h4:BF r.1 r.2=(0,(BF m i).2):=by rw[k1];exact h3
  refine⟨h4,h,?_,g,k1⟩;unfold BX;rw[h4,if_neg (by simp)];exact h
theorem Xi:∀(n:Nat) (l o:List UInt8),l.length<=n->(Al AR 0 l o).2.length<=o.length+l.length:=by
 intro n
 induction n with
 | zero=>
  intro l o hl;obtain rfl:l=[]:=qd (by omega);simp[Al]
 | succ n ih=>
  intro l o hl
  cases l with
  | nil=>simp[Al]
  | cons c t=>
   simp only[zj] at hl
   by_cases hc:c=37
   ·rcases he:Bm (c::t) with _|_
    ·rw[Al,if_pos hc,if_neg (by rw[he];simp)];simp
    ·obtain⟨a,b,r,rfl⟩:=Fj he;rw[P2 hc a b r rfl he];have:=ih r (o++[AZ (c::a::b::r)]) (by simp at hl;omega);simp at this ⊢;omega
   ·rw[P3 hc];have:=ih t (o++[c]) (by omega);simp at this ⊢;omega
theorem F2 (l:List UInt8):(An l).2.length<=l.length:=by
 unfold An BU
 split
 ·simp
 ·have h:=Xi l.length l [] (zd _);simpa using h
open Go.RowKit Sx
set_option maxHeartbeats 1000000 in
theorem gB (b:Nat) (w:World) (h0:w.cell? ⟨b,0,none⟩=some (.pointer (some ⟨b,0,none⟩))) :
  Calls Tryz.prog 225 #[.pointer (some ⟨b,0,none⟩)] w fun e w'=>e=.returned (.tuple #[])/\w'=w:=by
 obtain⟨j,hj,_⟩:=jz.1 (show ((Tryz.prog).info? 183).map (·.size)=some 2 by kernel_rfl);have t1:(Tryz.prog).underlying 181=some (.pointer 183):=by kernel_rfl
 go_enter Tryz.func225,Tryz.ntmps225
 go_wp2
 rw[Lib.run_neq_ptr_same w _ t1 hj]
 go_wp2
 go_end0
 exact⟨rfl,rfl⟩
set_option maxHeartbeats 1000000 in
theorem iD (T:TypeId) (b:Nat) (w:World) (h0:w.cell? ⟨b,0,none⟩=some (.pointer none)) (hsh:w.shape? b=some (T,2)) (hfz:w.frozen? ⟨b,0,none⟩=false) (hT:liesAt Tryz.prog (Tryz.prog).depth T (2 / (Tryz.prog).cellsOf T) 0 183 1=true) :
  Calls Tryz.prog 225 #[.pointer (some ⟨b,0,none⟩)] w fun e w'=>e=.returned (.tuple #[])/\w'=w.setCell ⟨b,0,none⟩ (.pointer (some ⟨b,0,none⟩)):=by
 obtain⟨j,hj,hjs⟩:=jz.1 (show ((Tryz.prog).info? 183).map (·.size)=some 2 by kernel_rfl);have t1:(Tryz.prog).underlying 181=some (.pointer 183):=by kernel_rfl
 have t2:(Tryz.prog).underlying 226=some .unsafePointer:=by kernel_rfl
 go_enter Tryz.func225,Tryz.ntmps225
 go_wp2
 rw[Lib.run_to_unsafe w ⟨b,0,none⟩ t1 t2 hj (by rw[hjs];decide) hsh (Nat.zero_lt_succ 1)];simp only[Result.andThen];rw[Oper.upon_value]
 go_wp2
 rw[run_callFunc_extern Tryz.func234 (by kernel_rfl) (by kernel_rfl) (by kernel_rfl) (e:=Extern.AbiNoEscape.same) (by kernel_rfl)];rw[Lib.run_noEscape];simp only[Result.andThen];rw[Oper.upon_value]
 go_wp2
 rw[Lib.run_from_unsafe w ⟨b,0,none⟩ t2 t1 hj hsh hT];simp only[Result.andThen];rw[Oper.upon_value]
 go_wp2
 go_end0
 exact⟨rfl,rfl⟩
theorem Di {α:Type} {l:List α} {b:Nat} {x:α} (h:l[b]? = some x):b<l.length:=by
 rcases zo b l.length with h0|h0
 ·exact h0
 ·rw[List.getElem?_eq_none h0] at h;cases h
theorem set_same {α:Type} {l:List α} {b:Nat} {x:α} (h:l[b]? = some x):l.set b x=l:=by
 apply List.ext_getElem?
 intro i;rw[zb]
 split
 ·rename_i e;subst e;rw[if_pos (Di h),h]
 ·rfl
theorem MemOk.kill {objs:List OB} {G:Gh} {I:Ak} {w w':World} (h:MemOk G I objs w) (r:Nat) {row:Option Nat} (hrow:∀k,row=some k->G.own r=some k) (hg:w.grownBy w' row):MemOk G I (objs.set r .dead) w':=by
 have hne:∀b g,b≠r->G.own b=some g->some g≠row:=fun b g hb h1 e=>hb (h.inj b r g h1 (hrow g e.symm));have hold:∀(b:Nat) ob,(objs.set r .dead)[b]? = some ob->(ob=.dead\/(b≠r/\objs[b]? = some ob)):=by
  intro b ob hb;rw[zb] at hb
  split at hb
  ·split at hb
   ·injection hb with hb;exact .inl hb.symm
   ·cases hb
  ·rename_i e;exact .inr ⟨fun e'=>e e'.symm,hb⟩
 refine⟨fun g o v hi=>?_,fun b T cs hb=>?_,fun b E sz gen n xs hb=>?_,fun b hh es hb=>?_,h.inj,fun b g hb=>xj (h.lt b g hb) hg.size,h.apart,fun b hb=>h.fresh b (by simpa using hb)⟩
 ·rw[<-h.imm g o v hi];exact Lj (hg.block g (World.block_lt_of_cell? (h:=h.imm g o v hi)) (fun e=>h.apart r g o v (hrow g e.symm) hi))
 ·rcases hold b _ hb with h1|⟨h1,h2⟩
  ·cases h1
  ·obtain⟨g,ys,k1,k2,k3⟩:=h.box b T cs h2;exact⟨g,ys,k1,(hg.block g (h.lt b g (Ci k1)) (hne b g h1 (Ci k1))).trans k2,k3⟩
 ·rcases hold b _ hb with h1|⟨h1,h2⟩
  ·cases h1
  ·obtain⟨v,ys,k1,k2,k3,k4,k5⟩:=h.row b E sz gen n xs h2;refine⟨v,ys,k1,World.ownsRow.kept k2 hg ?_,k3,k4,k5⟩;rcases hv:v.ownBlock with _|g
   ·exact .inl rfl
   ·have:=hne b g h1 (by rw[FC k5 k1,hv])
    first|exact .inr this|exact .inr (fun e=>this e.symm)
 ·rcases hold b _ hb with h1|⟨h1,h2⟩
  ·cases h1
  ·obtain⟨g,en,ck,k1,k2,k3⟩:=h.map b hh es h2;exact⟨g,en,ck,k1,(hg.block g (h.lt b g (Ci k1)) (hne b g h1 (Ci k1))).trans k2,k3⟩
section
variable [Tabs Tryz.prog] {objs:List OB} {K:List OB->AV->Prop}
def BT (T:TypeId):Prop:=liesAt Tryz.prog (Tryz.prog).depth T (2 / (Tryz.prog).cellsOf T) 0 183 1=true
theorem ST (T:TypeId) (b:Nat) (x y:AV) (hT:BT T) (hb:objs[b]? = some (.box T [x,y])) (hx:x=.o (.pointer none)\/x=.p b 0) (hk:K (objs.set b (.box T [.p b 0,y])) (.tup [])):Ag Tryz.prog 225 [.p b 0] objs K:=by
 intro C _ G I w hin hm ys hd;simp only[Ac] at hd;obtain⟨v,_,rfl,hv,rfl⟩:=hd;simp only[Ab] at hv;obtain⟨g,hg,rfl⟩:=hv;obtain⟨g',zs,k1,k2,k3,k4⟩:=hm.box b T _ hb;obtain rfl:g=g':=zw.inj (hg.symm.trans k1);simp only[Ac] at k3;obtain⟨z1,_,rfl,d1,z2,_,rfl,d2,rfl⟩:=k3;have hcell:w.cell? ⟨g,0,none⟩=some z1:=by rw[cell_of_row w g 0 _ T (0,0) k2];rfl
 rcases hx with rfl|rfl
 ·simp only[Ab] at d1;subst d1;refine(iD T g w hcell (by simp[World.shape?,k2]) (by simp[World.frozen?,k2]) hT).mono ?_;rintro e w' ⟨rfl,rfl⟩;obtain⟨s1,s2⟩:=Pj hin hm b g 0 T [.o (.pointer none),y] [.p b 0] [.pointer (some ⟨g,0,none⟩)] hb hg (Ac.cons (by simp only[Ab];exact⟨g,hg,rfl⟩) Ac.nil) (by simp[Value.oneCell']) (by simp);exact⟨_,_,.tup [],G,I,rfl,hk,Gh.le.refl G,Ak.le.refl I,s1,s2,by simp only[Ab];exact⟨[],rfl,Ac.nil⟩⟩
 ·simp only[Ab] at d1;obtain⟨g2,e2,rfl⟩:=d1;obtain rfl:g=g2:=zw.inj (hg.symm.trans e2);refine(gB g w hcell).mono ?_;rintro e w' ⟨rfl,rfl⟩;rw[set_same hb] at hk;exact⟨_,objs,.tup [],G,I,rfl,hk,Gh.le.refl G,Ak.le.refl I,hin,hm,by simp only[Ab];exact⟨[],rfl,Ac.nil⟩⟩
end
theorem Lr (w:World):w.grownBy w.drew none:=by
 have h:=Below.drew (Below.refl w.heap.size w);exact⟨h.os,h.tape,h.output,h.size,fun k hk _=>h.block k hk⟩
theorem eD {w w':World} (h:w.grownBy w' none) (g n:Nat):w.grownBy (w'.freeze ⟨g,0,none⟩ n) (some g):=by
 unfold World.freeze
 split
 ·exact⟨h.os,h.tape,h.output,h.size,fun k hk _=>h.block k hk (by simp)⟩
 ·refine⟨h.os,h.tape,h.output,by simpa using h.size,fun k hk hne=>?_⟩;rw[Array.getElem?_modify,if_neg (by rintro rfl;exact hne rfl)];exact h.block k hk (by simp)
theorem SH {w w':World} (h:w.grownBy w' none) (o:Obj) (row:Option Nat):w.grownBy (w'.alloc o) row :=
 ⟨h.os,h.tape,h.output,by simp;have:=h.size;omega,fun k hk _=>(Below.heap_alloc w' o k (xj hk h.size)).trans (h.block k hk (by simp))⟩
set_option maxHeartbeats 1000000 in
theorem dZ (b g cap:Nat) (l:List UInt8) (p:Value) (cur:Array Value) (T:TypeId) (w:World) (h0:l≠[]) (hbk:w.heap[b]? = some (.cells #[p,.slice (some ⟨g,0,none⟩) l.length cap] T (0,0))) (hg:w.heap[g]? = some (.cells cur 5 (0,0)))
  (hnc:l.length<=cap) (hcm:cap<=maxLen) (hcs:cur.size=cap) (hcell:∀j x,l[j]? = some x->w.cell? ((⟨g,0,none⟩:Addr).add j)=some (.int .u8 x.toNat)) :
  Calls Tryz.prog 183 #[.pointer (some ⟨b,0,none⟩)] w fun e w'=>e=.returned (.string ⟨l.toArray⟩)/\w.grownBy w' (some g):=by
 have hl0:l.length≠0:=by simpa using h0
 have c1:w.drew.cell? ⟨b,1,none⟩=some (.slice (some ⟨g,0,none⟩) l.length cap):=by
  have:w.drew.heap[b]? = some (.cells #[p,.slice (some ⟨g,0,none⟩) l.length cap] T (0,0)):=hbk;rw[Lib.cell_of_heap this];rfl
 have hSD:(Builtin.unsafeSliceData_ #[25] 208 #[.slice (some ⟨g,0,none⟩) l.length cap]).run Tryz.prog w.drew=.ok (.pointer (some ⟨g,0,none⟩)) w.drew :=
  Lib.run_unsafeSliceData_row _ _ _ _ _ _ (by omega)
 have hUS:(Builtin.unsafeString_ #[208,3] 9 #[.pointer (some ⟨g,0,none⟩),.int .i64 l.length]).run Tryz.prog w.drew=.ok (.string ⟨l.toArray⟩) (w.drew.freeze ⟨g,0,none⟩ l.length):=by
  refine Lib.run_unsafeString_row w.drew _ _ _ 5 (by kernel_rfl) (by kernel_rfl) g cur.size (by have hg':w.drew.heap[g]? = some (.cells cur 5 (0,0)):=hg;simp[World.shape?,hg']) l h0 (by omega) (by unfold maxLen at hcm;omega) ?_;intro j x hx;exact hcell j x hx
 clear hl0;have mixed:(Tryz.prog).follows .mixedOrders=true:=by kernel_rfl
 go_enter Tryz.func183,Tryz.ntmps183
 go_wp2
 go_region_o
 all_goals (go_wp2;go_ret;exact⟨rfl,eD (Lr w) g _⟩)
set_option maxHeartbeats 1000000 in
theorem SJ (b:Nat) (p:Value) (T:TypeId) (w:World) (hbk:w.heap[b]? = some (.cells #[p,.slice none 0 0] T (0,0))) :
  Calls Tryz.prog 183 #[.pointer (some ⟨b,0,none⟩)] w fun e w'=>e=.returned (.string ⟨#[]⟩)/\w.grownBy w' none:=by
 have hUS:∀(W:World) (q:Option Addr),(Builtin.unsafeString_ #[208,3] 9 #[.pointer q,.int .i64 0]).run Tryz.prog W=.ok (.string .empty) W:=fun W q=>Lib.run_unsafeString_none W _ _ _ q;have c1:w.drew.cell? ⟨b,1,none⟩=some (.slice none 0 0):=by
  have:w.drew.heap[b]? = some (.cells #[p,.slice none 0 0] T (0,0)):=hbk;rw[Lib.cell_of_heap this];rfl
 have hSD:(Builtin.unsafeSliceData_ #[25] 208 #[.slice none 0 0]).run Tryz.prog w.drew=.ok (.pointer none) w.drew:=rfl;have mixed:(Tryz.prog).follows .mixedOrders=true:=by kernel_rfl
 go_enter Tryz.func183,Tryz.ntmps183
 go_wp2
 go_region_o
 all_goals (go_wp2;go_ret;exact⟨rfl,Lr w⟩)
set_option maxHeartbeats 1000000 in
theorem gA (b g:Nat) (p:Value) (cur:Array Value) (T:TypeId) (w:World) (hbk:w.heap[b]? = some (.cells #[p,.slice (some ⟨g,0,none⟩) 0 0] T (0,0))) (hg:w.heap[g]? = some (.cells cur 5 (0,0))) :
  Calls Tryz.prog 183 #[.pointer (some ⟨b,0,none⟩)] w fun e w'=>e=.returned (.string ⟨#[]⟩)/\w.grownBy w' (some g):=by
 have hUS:∀(W:World) (q:Option Addr),(Builtin.unsafeString_ #[208,3] 9 #[.pointer q,.int .i64 0]).run Tryz.prog W=.ok (.string .empty) W:=fun W q=>Lib.run_unsafeString_none W _ _ _ q;have hlt:b<w.heap.size:=by
  rcases zo b w.heap.size with h' | h'
  ·exact h'
  ·simp[Array.getElem?_eq_none h'] at hbk
 have c1:w.drew.cell? ⟨b,1,none⟩=some (.slice (some ⟨g,0,none⟩) 0 0):=by
  have:w.drew.heap[b]? = some (.cells #[p,.slice (some ⟨g,0,none⟩) 0 0] T (0,0)):=hbk;rw[Lib.cell_of_heap this];rfl
 have hSD:(Builtin.unsafeSliceData_ #[25] 208 #[.slice (some ⟨g,0,none⟩) 0 0]).run Tryz.prog w.drew=.ok (.pointer (some ⟨w.drew.heap.size,0,none⟩)) (w.drew.alloc (.view ⟨g,0,none⟩ 5)) :=
  Lib.run_unsafeSliceData_zero w.drew _ _ 5 (by kernel_rfl) ⟨g,0,none⟩ 0 (5,cur.size) (by have hg':w.drew.heap[g]? = some (.cells cur 5 (0,0)):=hg;simp[World.shape?,hg'])
 have c2:(w.drew.alloc (.view ⟨g,0,none⟩ 5)).cell? ⟨b,1,none⟩=some (.slice (some ⟨g,0,none⟩) 0 0):=by
  have:(w.drew.alloc (.view ⟨g,0,none⟩ 5)).heap[b]? = _:=(Lib.alloc_old w.drew _ b hlt).trans hbk;rw[Lib.cell_of_heap this];rfl
 have c3:(w.alloc (.view ⟨g,0,none⟩ 5)).drew.cell? ⟨b,1,none⟩=some (.slice (some ⟨g,0,none⟩) 0 0):=c2;have c0:w.cell? ⟨b,1,none⟩=some (.slice (some ⟨g,0,none⟩) 0 0):=c1;have mixed:(Tryz.prog).follows .mixedOrders=true:=by kernel_rfl
 go_enter Tryz.func183,Tryz.ntmps183
 go_wp2
 go_region_o
 all_goals (go_wp2;go_ret;exact⟨rfl,SH (Lr w) _ _⟩)
set_option maxHeartbeats 1000000 in
theorem eA (b g cap:Nat) (p:Value) (T:TypeId) (w:World) (hc0:cap≠0) (hbk:w.heap[b]? = some (.cells #[p,.slice (some ⟨g,0,none⟩) 0 cap] T (0,0))) :
  Calls Tryz.prog 183 #[.pointer (some ⟨b,0,none⟩)] w fun e w'=>e=.returned (.string ⟨#[]⟩)/\w.grownBy w' none:=by
 have hUS:∀(W:World) (q:Option Addr),(Builtin.unsafeString_ #[208,3] 9 #[.pointer q,.int .i64 0]).run Tryz.prog W=.ok (.string .empty) W:=fun W q=>Lib.run_unsafeString_none W _ _ _ q;have c1:w.drew.cell? ⟨b,1,none⟩=some (.slice (some ⟨g,0,none⟩) 0 cap):=by
  have:w.drew.heap[b]? = some (.cells #[p,.slice (some ⟨g,0,none⟩) 0 cap] T (0,0)):=hbk;rw[Lib.cell_of_heap this];rfl
 have hSD:(Builtin.unsafeSliceData_ #[25] 208 #[.slice (some ⟨g,0,none⟩) 0 cap]).run Tryz.prog w.drew=.ok (.pointer (some ⟨g,0,none⟩)) w.drew :=
  Lib.run_unsafeSliceData_row _ _ _ _ _ _ hc0
 clear hc0;have mixed:(Tryz.prog).follows .mixedOrders=true:=by kernel_rfl
 go_enter Tryz.func183,Tryz.ntmps183
 go_wp2
 go_region_o
 all_goals (go_wp2;go_ret;exact⟨rfl,Lr w⟩)
theorem fL {w w':World} (h:w.grownBy w' none) (row:Option Nat):w.grownBy w' row:=⟨h.os,h.tape,h.output,h.size,fun k hk _=>h.block k hk (by simp)⟩
def CG (objs:List OB) (b:Nat) (T:TypeId) (l:List UInt8):Prop :=
 (objs[b]? = some (.box T [.o (.pointer none),.nil])/\l=[])\/∃r gen,objs[b]? = some (.box T [.p b 0,.orow r gen])/\objs[r]? = some (.orow 5 1 gen l.length (A8 l))
def Ex (objs:List OB) (b:Nat):Option Nat :=
 match objs[b]? with
 | some (.box _ [_,.orow r _])=>some r
 | _=>none
def Co (objs:List OB) (b:Nat) (objs':List OB):Prop:=objs.length<=objs'.length/\(∀(j:Nat) ob,objs[j]? = some ob->j≠b->Ex objs b≠some j->objs'[j]? = some ob/\Ex objs' b≠some j)
theorem Co.refl (objs:List OB) (b:Nat):Co objs b objs:=⟨zd _,fun j ob h _ h2=>⟨h,h2⟩⟩
theorem Co.trans {o1 o2 o3:List OB} {b:Nat} (h:Co o1 b o2) (k:Co o2 b o3):Co o1 b o3 :=
 ⟨Nat.le_trans h.1 k.1,fun j ob h1 h2 h3=>by
  obtain⟨a1,a2⟩:=h.2 j ob h1 h2 h3;exact k.2 j ob a1 h2 a2⟩
theorem CG.lt {objs:List OB} {b:Nat} {T:TypeId} {l:List UInt8} (h:CG objs b T l):b<objs.length/\∀r,Ex objs b=some r->r<objs.length:=by
 rcases h with ⟨h,_⟩|⟨r,gen,h,h2⟩
 ·refine⟨Di h,fun r hr=>?_⟩;unfold Ex at hr;rw[h] at hr;cases hr
 ·refine⟨Di h,fun r' hr=>?_⟩;unfold Ex at hr;rw[h] at hr;injection hr with hr;subst hr;exact Di h2
theorem CG.app {objs:List OB} {b:Nat} {T:TypeId} {l:List UInt8} (h:CG objs b T l) (more:List OB):CG (objs++more) b T l/\Ex (objs++more) b=Ex objs b:=by
 have hlt:=h.lt.1;have e:(objs++more)[b]? = objs[b]?:=qq hlt;refine⟨?_,by unfold Ex;rw[e]⟩;rcases h with ⟨h,h2⟩|⟨r,gen,h,h2⟩
 ·exact .inl ⟨by rw[e];exact h,h2⟩
 ·exact .inr ⟨r,gen,by rw[e];exact h,by rw[qq (Di h2)];exact h2⟩
theorem Co.behind {objs more objs':List OB} {b:Nat} {T:TypeId} {l:List UInt8} (h:CG objs b T l) (k:Co (objs++more) b objs'):∀(j:Nat) ob,more[j]? = some ob->objs'[objs.length+j]? = some ob:=by
 intro j ob hj;have h1:=h.lt;refine(k.2 (objs.length+j) ob (by rw[jw (by omega)];simpa using hj) (by omega) ?_).1;rw[(h.app more).2];intro e;have:=h1.2 _ e;omega
theorem Co.drop {objs more objs':List OB} {b:Nat} {T:TypeId} {l:List UInt8} (h:CG objs b T l) (k:Co (objs++more) b objs'):Co objs b objs':=by
 refine⟨by have:=k.1;simp at this;omega,fun j ob h1 h2 h3=>k.2 j ob (by rw[qq (Di h1)];exact h1) h2 (by rw[(h.app more).2];exact h3)⟩
theorem R6 (a b:List UInt8):A8 (a++b)=A8 a++A8 b:=by simp[A8]
section
variable [Tabs Tryz.prog] {objs:List OB} {K:List OB->AV->Prop}
theorem KT (T:TypeId) (b:Nat) (l0 l:List UInt8) (hT:BT T) (hb:CG objs b T l0) (hl:l0.length+l.length<=140737488355328) (hk:∀objs',CG objs' b T (l0++l)->Co objs b objs'->K objs' (.tup [.i .i64 l.length,.o .nilIface])) :
  Ag Tryz.prog 214 [.p b 0,.s l] objs K:=by
 rcases hb with ⟨hb,rfl⟩|⟨r,gen,hb,hr⟩
 ·have hlt:=Di hb;refine C0 UO fun C _=>?_;simp only[Ot,Aa,simprocAttr];refine Ai (ST T b _ _ hT hb (.inl rfl) ?_);have e1:(objs.set b (OB.box T [.p b 0,.nil]))[b]? = some (.box T [.p b 0,.nil]):=qc hlt;simp only[e1,Aa,simprocAttr];refine⟨by simpa using hl,?_⟩;have e2:(objs.set b (OB.box T [.p b 0,.nil])++[OB.orow 5 1 0 l.length (A8 l)])[b]? = some (.box T [.p b 0,.nil]):=by
   rw[qq (by simpa using hlt)];exact e1
  simp only[e2,Aa,simprocAttr];have e3:(objs.set b (OB.box T [.p b 0,.nil])++[OB.orow 5 1 0 l.length (A8 l)]).set b (OB.box T [.p b 0,.orow objs.length 0])=objs.set b (OB.box T [.p b 0,.orow objs.length 0])++[OB.orow 5 1 0 l.length (A8 l)]:=by
   rw[List.set_append_left _ _ (by simpa using hlt),List.set_set]
  rw[e3];refine hk _ (.inr ⟨objs.length,0,?_,?_⟩) ⟨by simp,fun j ob h1 h2 h3=>⟨?_,?_⟩⟩
  ·rw[qq (by simpa using hlt)];exact qc hlt
  ·rw[jw (by simp)];simp
  ·rw[qq (by simpa using Di h1),zp (fun e=>h2 e.symm)];exact h1
  ·unfold Ex;rw[qq (by simpa using hlt),qc hlt];have:=Di h1;simp;omega
 ·have hlt:=Di hb;have hrl:=Di hr;have hne:b≠r:=by rintro rfl;rw[hb] at hr;cases hr
  refine C0 UO fun C _=>?_;simp only[Ot,Aa,simprocAttr];refine Ai (ST T b _ _ hT hb (.inr rfl) ?_);rw[set_same hb];simp only[hb,hr,Aa,simprocAttr];refine⟨by omega,?_⟩;have e2:(objs.set r (OB.orow 5 1 (gen+1) (l0.length+l.length) (A8 l0++A8 l)))[b]? = some (.box T [.p b 0,.orow r gen]):=by
   rw[zp (fun e=>hne e.symm)];exact hb
  simp only[e2,Aa,simprocAttr];refine hk _ (.inr ⟨r,gen+1,?_,?_⟩) ⟨by simp,fun j ob h1 h2 h3=>⟨?_,?_⟩⟩
  ·exact qc (by simpa using hlt)
  ·rw[zp hne,qc hrl,R6,zf]
  ·have h4:j≠r:=by
    rintro rfl;exact h3 (by unfold Ex;rw[hb])
   rw[zp (fun e=>h2 e.symm),zp (fun e=>h4 e.symm)];exact h1
  ·unfold Ex at h3 ⊢;rw[hb] at h3;rw[qc (by simpa using hlt)];exact h3
theorem Nj (T:TypeId) (b:Nat) (l:List UInt8) (hb:CG objs b T l) (hk:∀objs',Co objs b objs'->K objs' (.s l)) :
  Ag Tryz.prog 183 [.p b 0] objs K:=by
 intro C _ G I w hin hm ys hd;simp only[Ac] at hd;obtain⟨v,_,rfl,hv,rfl⟩:=hd;simp only[Ab] at hv;obtain⟨g,hg,rfl⟩:=hv;have same:∀w',w.grownBy w' none->∀x:List UInt8,K objs (.s x)->∃(y:Value) (objs':List OB) (r:AV) (G':Gh) (I':Ak),Ending.returned (.string ⟨x.toArray⟩)=.returned y/\K objs' r/\G.le G'/\Ak.le I I'/\In C G' I' w'/\MemOk G' I' objs' w'/\Ab G' I' r y :=
  fun w' hgr x hx=>⟨_,objs,.s x,G,I,rfl,hx,Gh.le.refl G,Ak.le.refl I,hin.evolve hgr (by simp),hm.evolve hgr,by simp[Ab]⟩
 rcases hb with ⟨hb,rfl⟩|⟨r,gen,hb,hr⟩
 ·obtain⟨g',zs,k1,k2,k3,k4⟩:=hm.box b T _ hb;obtain rfl:g=g':=zw.inj (hg.symm.trans k1);simp only[Ac] at k3;obtain⟨z1,_,rfl,d1,z2,_,rfl,d2,rfl⟩:=k3;simp only[Ab] at d2;subst d2;refine(SJ g z1 T w k2).mono ?_;rintro e w' ⟨rfl,hgr⟩;exact same w' hgr [] (hk objs (Co.refl _ _))
 ·obtain⟨g',zs,k1,k2,k3,k4⟩:=hm.box b T _ hb;obtain rfl:g=g':=zw.inj (hg.symm.trans k1);simp only[Ac] at k3;obtain⟨z1,_,rfl,d1,z2,_,rfl,d2,rfl⟩:=k3;simp only[Ab] at d2;obtain⟨gn,u,q1,q2,q3,q4⟩:=d2;obtain⟨u',vs,m1,m2,m3,m4,m5⟩:=hm.row r _ _ _ _ _ hr;rw[q1] at m1;injection m1 with m1;injection m1 with m1 m6
  have hz:=q3 m1.symm;subst m1 m6 hz;have hne:b≠r:=by rintro rfl;rw[hb] at hr;cases hr
  have kill:∀w' row,(∀k,row=some k->G.own r=some k)->w.grownBy w' row->∀x:List UInt8,(x=l)->∃(y:Value) (objs':List OB) (r':AV) (G':Gh) (I':Ak),Ending.returned (.string ⟨x.toArray⟩)=.returned y/\K objs' r'/\G.le G'/\Ak.le I I'/\In C G' I' w'/\MemOk G' I' objs' w'/\Ab G' I' r' y:=by
   rintro w' row hrow hgr x rfl;refine⟨_,objs.set r .dead,.s x,G,I,rfl,hk _ ⟨by simp,fun j ob h1 h2 h3=>⟨?_,?_⟩⟩,Gh.le.refl G,Ak.le.refl I,hin.evolve hgr (fun k hk=>hin.blk r k (hrow k hk)),MemOk.kill hm r hrow hgr,by simp[Ab]⟩
   ·have h4:j≠r:=by
     rintro rfl;exact h3 (by unfold Ex;rw[hb])
    rw[zp (fun e=>h4 e.symm)];exact h1
   ·unfold Ex at h3 ⊢;rw[hb] at h3;rw[zp (fun e=>hne e.symm),hb];exact h3
  have hown:=FC m5 q1;have hvs:=JU m3;rcases m2.2 with ⟨rfl,hl0⟩|⟨gr,cap,cur,rfl,_,hgc,hnc,hcm,hcs,htake⟩
  ·have hl:l=[]:=qd hl0;subst hl;refine(SJ g z1 T w k2).mono ?_;rintro e w' ⟨rfl,hgr⟩;exact kill w' none (by simp) hgr [] rfl
  ·have hrow:∀k,some gr=some k->G.own r=some k:=by
    intro k hk';injection hk' with hk';subst hk'
    rw[hown];rfl
   by_cases hl:l=[]
   ·subst hl
    by_cases hc:cap=0
    ·subst hc;refine(gA g gr z1 cur T w k2 hgc).mono ?_;rintro e w' ⟨rfl,hgr⟩;exact kill w' (some gr) hrow hgr [] rfl
    ·refine(eA g gr cap z1 T w hc k2).mono ?_;rintro e w' ⟨rfl,hgr⟩;exact kill w' (some gr) hrow (fL hgr _) [] rfl
   ·refine(dZ g gr cap l z1 cur T w hl k2 hgc hnc hcm (by omega) ?_).mono ?_
    ·intro j x hx;exact m2.cells (g:=gr) rfl j (.int .u8 x.toNat) (by rw[hvs];simp[hx])
    ·rintro e w' ⟨rfl,hgr⟩;exact kill w' (some gr) hrow hgr l rfl
end
theorem MD (G:Gh) (I:Ak):∀l:List (List UInt8),Ac G I (l.map .s) (sv l)
 | []=>Ac.nil
 | x::l=>by
  show Ac G I (AV.s x::l.map .s) (.string (S x)::sv l);exact Ac.cons (by simp[Ab]) (MD G I l)
theorem dK {P:Program} [Tabs P] {f:FuncId} {args:List AV} {vs:List Value} {objs:List OB} {K:List OB->AV->Prop} (l:List (List UInt8)) (hne:0<l.length) (hk:K objs (.row l.length (l.map .s))) (ha:EI args=some vs)
  (h:∀w,Calls P f vs.toArray w fun e w'=>∃v,e=.returned v/\B6 w' w.heap.size v l/\Qb w w'):Ag P f args objs K:=by
 intro C _ G I w hin hm ys hd;rw[(Fg G I args vs ha ys).1 hd];refine(h w).mono ?_;rintro e w' ⟨v,rfl,hr,hb⟩;obtain⟨g,cap,rfl,h1,h2,h3⟩:=hr.form hne;have hg:w.grownBy w' none:=⟨hb.os,hb.tape,hb.output,Below.size hb,fun k hk _=>Below.block hb k hk⟩;obtain⟨I',s1,s2,s3,s4⟩:=Nx hin hm hg g l.length cap (l.map .s) (sv l) h1 h3 (MD G I l) (Mm l) (fun j u hj=>by
  have hjl:j<l.length:=by
   have:=(List.getElem?_eq_some_iff.1 hj).1
   rwa [RK] at this
  rw[hr.cell j hjl,<-OS l j hjl];exact hj)
 exact⟨_,objs,.row l.length (l.map .s),G,I',rfl,hk,Gh.le.refl G,s1,s2,s3,s4⟩
section
variable [Tabs Tryz.prog] {objs:List OB} {K:List OB->AV->Prop}
theorem MR (s:List UInt8) (c:UInt8) (hs:s.length<=1000000) (hk:K objs (.row (Ap c s).length ((Ap c s).map .s))):Ag Tryz.prog 95 [.s s,.i .u8 c.toNat] objs K :=
 dK (vs:=[.string (S s),.int .u8 c.toNat]) _ (EV c s) hk rfl (fun w=>Lp (S s) c w (by rw[Am];exact hs))
end
theorem cG (c:UInt8):∀(n:Nat) (s:List UInt8),s.length<=n->Lib.splitK [c] 0 (Lib.count s [c]) s=Ap c s:=by
 intro n
 induction n with
 | zero=>
  intro s hs;obtain rfl:s=[]:=qd (by omega)
  rfl
 | succ n ih=>
  intro s hs;rcases Dk c s with ⟨h1,h2,_⟩|⟨k,h1,h2,h3,_⟩
  ·rw[Lib.count_miss (by rw[Hs];exact h1),DE,h2];rfl
  ·have hi:Lib.index s [c]=k:=by rw[Hs];exact h1
   rw[Lib.count_hit (by simp) hi,Nat.add_comm,DE,h3,if_pos rfl];show (if (Lib.index s [c]==-1)=true then _ else _)=_;rw[hi,if_neg (by simp)];have:=ih (s.drop (k+1)) (by rw[zx];omega);simp only[zm,Nat.add_zero,zj,qo,Nat.zero_add];rw[this]
theorem eO (c:UInt8) (s:List UInt8):(Lib.splitB (S [c]) 0 (Lib.countB (S s) (S [c])) (S s)).map Value.string=sv (Ap c s):=by
 have h:=Lib.splitB_data (S [c]) 0 (Lib.countB (S s) (S [c])) (S s);have h2:Lib.splitK [c] 0 (Lib.count s [c]) s=Ap c s:=cG c s.length s (zd _);have h3:(Lib.splitB (S [c]) 0 (Lib.countB (S s) (S [c])) (S s)).map (·.data.toList)=Ap c s:=h.trans h2;rw[<-h3];unfold sv;rw[List.map_map]
 apply xp
 intro x _;simp[S]
theorem cF (c:UInt8) (s:List UInt8):Lib.countB (S s) (S [c])+1=(Ap c s).length:=by
 have key:∀(n:Nat) (s:List UInt8),s.length<=n->Lib.count s [c]+1=(Ap c s).length:=by
  intro n
  induction n with
  | zero=>
   intro s hs;obtain rfl:s=[]:=qd (by omega)
   rfl
  | succ n ih=>
   intro s hs;rcases Dk c s with ⟨h1,h2,_⟩|⟨k,h1,h2,h3,_⟩
   ·rw[Lib.count_miss (by rw[Hs];exact h1),DE,h2];rfl
   ·have hi:Lib.index s [c]=k:=by rw[Hs];exact h1
    rw[Lib.count_hit (by simp) hi,DE,h3,if_pos rfl];have:=ih (s.drop (k+1)) (by rw[zx];omega);simp only[zj,qo,Nat.zero_add];omega
 exact key s.length s (zd _)
theorem Vo (l:List UInt8) (h:(An l).1≠0):(An l).2=[]:=by
 unfold An BU at h ⊢
 split
 ·rfl
 ·rename_i g;rw[if_neg g] at h;exact JS _ _ _ _ h
theorem Vg [Tabs Tryz.prog]:BT 185:=by unfold BT;kernel_rfl
theorem L0 [Tabs Tryz.prog]:BT 189:=by unfold BT;kernel_rfl
theorem Wu:GT Tryz.prog 182:=⟨_,Tryz.func182,by kernel_rfl,of_decide_eq_true (by kernel_rfl)⟩
theorem Wt:GT Tryz.prog 186:=⟨_,Tryz.func186,by kernel_rfl,of_decide_eq_true (by kernel_rfl)⟩
section
variable [Tabs Tryz.prog] {objs:List OB} {K:List OB->AV->Prop}
theorem Q0 [Shp Tryz.prog] (s:List UInt8) (c:UInt8) (hs:s.length<=100000) (hk:K objs (.row (Ap c s).length ((Ap c s).map .s))):Ag Tryz.prog 180 [.s s,.s [c]] objs K:=by
 intro C _ G I w hin hm ys hd;have hT:=hin.tab (P:=Tryz.prog);rw[(Fg G I [.s s,.s [c]] [.string (S s),.string (S [c])] rfl ys).1 hd];refine(Tryz.strings_Split_shaped (S s) (S [c]) w (Shp.sh w hT) (by rw[Am];omega) (by rw[Am];simp)).mono ?_;rintro e w' ⟨rfl,rfl⟩;have hn:=cF c s;have hc:=eO c s;have hsl:=IC c s;have hg:w.grownBy (w.alloc (.cells ((Lib.splitB (S [c]) 0 (Lib.countB (S s) (S [c])) (S s)).map Value.string).toArray 9)) none:=SH (World.grownBy.refl w _) _ _;obtain⟨I',s1,s2,s3,s4⟩:=Nx hin hm hg w.heap.size (Ap c s).length (Ap c s).length ((Ap c s).map .s) (sv (Ap c s)) (zd _) (zd _) (MD G I _) (Mm _) (fun j u hj=>by
  rw[World.cell?_alloc_new,hc];simpa using hj)
 rw[hn];exact⟨_,objs,.row (Ap c s).length ((Ap c s).map .s),G,I',rfl,hk,Gh.le.refl G,s1,s2,s3,s4⟩
/-- each: the calls in their order, up to the first error -/
theorem Pl (l:List (List UInt8)) (hl:l.length<=1000000) (f:Nat) (fs cs:List AV) (hf:GT Tryz.prog f) (J:Nat->List OB->Prop) (h0:J 0 objs)
  (step:∀(i:Nat) (hi:i<l.length) o,J i o->Ag Tryz.prog f (fs++[.s l[i]]++cs) o fun o' r=>(r=.i .i64 0/\J (i+1) o')\/∃e:Int,r=.i .i64 e/\e≠0/\K o' (.i .i64 e))
  (hend:∀o,J l.length o->K o (.i .i64 0)):Ag Tryz.prog 181 [.row l.length (l.map .s),.fn f fs cs] objs K:=by
 refine C0 gE fun C _=>?_;simp only[Tz,Aa,simprocAttr];refine BI (fun n objs tm=>∃i:Nat,i<=l.length/\n=l.length - i/\J i objs/\tm.length=21/\tm[8]? = some (.row l.length (l.map .s))/\tm[1]? = some (.fn f fs cs)/\tm[9]? = some (.i .i64 l.length)/\tm[10]? = some (.i .i64 i)) l.length ⟨0,ze _,rfl,h0,rfl,rfl,rfl,rfl,rfl⟩ ?_;rintro n o tm ⟨i,hi,rfl,hJ,hlen,t8,t1,t9,t10⟩
 by_cases hlt:(i:Int)<l.length
 ·have hlt':i<l.length:=by omega
  have hg:(l.map AV.s)[i]? = some (.s l[i]):=by simp[hlt']
  simp only[Aa,simprocAttr,zb,hlen,t8,t1,t9,t10,hlt,qv,zm,hg,qn];refine⟨by omega,?_⟩;refine I6 hf ((step i hlt' o hJ).mono ?_);rintro o' r (⟨rfl,hJ'⟩|⟨e,rfl,he,hK⟩)
  ·simp only[Aa,simprocAttr,zb,hlen,t8,t1,t9,t10];exact⟨⟨by omega,by omega⟩,l.length - (i+1),by omega,i+1,by omega,rfl,hJ',rfl⟩
  ·simp only[he,Aa,simprocAttr,zb,hlen,t8,t1,t9,t10];exact hK
 ·obtain rfl:i=l.length:=by omega
  simp only[Aa,simprocAttr,zb,hlen,t8,t1,t9,t10,hlt];exact hend o hJ
theorem Xb (b:Nat) (l x:List UInt8) (hb:CG objs b 185 l) (hx:x.length<=16384) (hl:l.length<=1000000000) (h0:Do x=false->K objs (.i .i64 110))
  (h1:Do x=true->∀objs',CG objs' b 185 (l++FP x)->Co objs b objs'->K objs' (.i .i64 0)):Ag Tryz.prog 182 [.p b 0,.s x] objs K:=by
 refine C0 jZ fun C _=>?_;simp only[UI,Aa,simprocAttr];refine Ai (Ny x ?_);have he:=Vo x;have hdl:=F2 x;have hd0:=F2 x;unfold Do at h0 h1;unfold FP at h1;generalize An x=q at *;obtain⟨e,d⟩:=q;simp only at he hdl h0 h1 hd0 ⊢
 by_cases c1:e=0
 ·subst c1
  by_cases c2:d=[]
  ·simp only[c2,Aa,simprocAttr];exact h0 (by rw[c2];rfl)
  ·by_cases c3:d=[46]
   ·simp only[c3,Aa,simprocAttr];exact h0 (by rw[c3];decide)
   ·by_cases c4:d=[46,46]
    ·have n1:¬([46,46]:List UInt8)=[46]:=by decide
     simp only[c4,n1,Aa,simprocAttr];exact h0 (by rw[c4];decide)
    ·simp only[c2,c3,c4,Aa,simprocAttr];refine Bq (ZN d [] (by omega) ⟨rfl,rfl⟩) ?_;have hel:=Hq d [];simp only[Aa,simprocAttr];refine⟨by omega,?_⟩;refine Ai (KT _ b l _ Vg hb (by simp only[zj];omega) fun objs' k1 k2=>?_);simp only[Aa,simprocAttr];exact h1 (by simp[c2,c3,c4]) objs' k1 k2
 ·have hd:=he c1;subst hd;simp only[c1,Aa,simprocAttr];exact h0 rfl
theorem Ww [Shp Tryz.prog] (b:Nat) (l x:List UInt8) (hb:CG objs b 189 l) (hx:x.length<=16384) (hl:l.length<=1000000000) (h0:BC x=false->K objs (.i .i64 110))
  (h1:BC x=true->∀objs',CG objs' b 189 (l++DK x)->Co objs b objs'->K objs' (.i .i64 0)):Ag Tryz.prog 186 [.p b 0,.s x] objs K:=by
 refine C0 jR fun C _=>?_;simp only[UM,Aa,simprocAttr];refine Ai (Jo x [] ?_);have hnl:=(Fx x []).1;unfold BC at h0 h1;unfold DK at h1;generalize Aj x []=q at *;obtain⟨e,d⟩:=q;simp only at h0 h1 hnl ⊢
 by_cases c1:e=0
 ·subst c1
  by_cases c2:x=[]
  ·simp only[c2,Aa,simprocAttr];exact h0 (by rw[c2];rfl)
  ·simp only[c2,Aa,simprocAttr];refine Bq (S3 d _ 126 (by omega) (by decide) (by decide) ⟨rfl,rfl⟩) ?_;have htl:=NM d;unfold Dw at htl h1;simp only[Aa,simprocAttr];refine⟨by omega,?_⟩;refine Ai (KT _ b l _ L0 hb (by simp only[zj];omega) fun objs' k1 k2=>?_);simp only[Aa,simprocAttr];exact h1 (by simp[c2]) objs' k1 k2
 ·simp only[c1,Aa,simprocAttr];exact h0 (by simp[c1])
theorem aO [Pow Tryz.prog] (b:Nat) (h:List UInt8) (p:Int) (hb:CG objs b 189 []) (hh:h.length<=1000000) (h0:-9223372036854775808<=p) (h1:p<=9223372036854775807)
  (hk:∀objs',CG objs' b 189 (BP h p)->Co objs b objs'->K objs' (.tup [])):Ag Tryz.prog 185 [.p b 0,Bt h p] objs K:=by
 refine C0 jY fun C _=>?_;have hil:=Lib.itoa_length_le p h0 h1;unfold BP at hk;simp only[UH,Bt,Bx,Aa,simprocAttr];refine Ai (KT _ b [] h L0 (hb.app _).1 (by simp;omega) fun o k1 k2=>?_);have e1:=k2.behind hb 0 _ rfl;rw[Nat.add_zero] at e1;rw[qm] at k1
 by_cases c1:p=0
 ·subst c1;simp only[e1,Aa,simprocAttr];exact hk o (by simpa using k1) (k2.drop hb)
 ·simp only[c1,e1,Aa,simprocAttr];refine Bq (O0 p h0 h1 ⟨rfl,rfl⟩) ?_;simp only[Aa,simprocAttr];refine⟨by omega,?_⟩;refine Ai (KT _ b h _ L0 k1 (by simp only[zj];omega) fun o' k3 k4=>?_);simp only[Aa,simprocAttr];rw[if_neg c1] at hk;exact hk o' k3 ((k2.drop hb).trans k4)
theorem Qp [Shp Tryz.prog] (m i:List UInt8) (hm:m.length<=200000000000) (hi:i.length<=200000000000) (hk:K objs (.tup [Bt (AS m i).2.1 (AS m i).2.2,.i .i64 (AS m i).1])):Ag Tryz.prog 120 [.agg [.s m,.s i]] objs K:=by
 refine AC jG rfl fun C _=>?_;unfold AS at hk
 by_cases c0:m=BR
 ·subst c0;simp only[BR,Oq,Aa,simprocAttr];refine Ai (LD _ _ (by decide) (by omega) ?_);simp only[Aa,simprocAttr];refine Ai (SU _ (by simp only[AB,Ca,zf,zj,qo,maxLen];omega) ?_);simp only[ne_eq,not_true_eq_false,if_false] at hk;have hf:=MY (m:=BR) (i:=i) rfl;have hw:BR=[119,101,98]:=rfl;rw[hw] at hf;simp only[hw] at hk;generalize AY (AB [119,101,98] i)=q at *;obtain⟨e,d1,d2⟩:=q;simp only at hf hk ⊢
  by_cases c1:e=0
  ·subst c1;obtain⟨hf,_⟩:=hf rfl;simp only[not_true_eq_false,if_false] at hk;simp only[Aa,simprocAttr];refine Ai (Pi i 58 (by unfold maxLen;omega) ?_);simp only[Aa,simprocAttr];refine Ai (Ny _ ?_);simp only[hf,Aa,simprocAttr];have hl1:=F2 (Ae 58 i).1;have hl2:=(Da 58 i).1;refine Ai (Qy _ (by unfold maxLen;omega) ?_);simp only[Bt,Aa,simprocAttr];exact hk
  ·simp only[c1,not_false_eq_true,if_true] at hk;simp only[c1,Aa,simprocAttr];exact hk
 ·have c0':¬m=[119,101,98]:=c0;rw[if_pos c0] at hk;simp only[c0',Oq,Aa,simprocAttr];exact hk
end
theorem K3 (l:List (List UInt8)):((l.map AV.s).take l.length).drop 1=l.tail.map AV.s:=by
 rw[List.take_of_length_le (by simp),<-List.map_drop,List.drop_one]
theorem Za (x:List UInt8):(FP x).length<=1+3*x.length:=by
 unfold FP;have h1:=Hq (An x).2 [];have h2:=F2 x;simp only[zj];omega
theorem Iy:∀l:List (List UInt8),(B8 l).length<=3*(l.flatMap fun x=>1::x).length
 | []=>by simp[B8]
 | x::l=>by
  have ih:=Iy l;have h:=Za x;unfold B8 at ih ⊢;rw[qp,qp,zf,zf,zj];omega
theorem RJ (c:UInt8):∀(s:List UInt8),((Ap c s).flatMap fun x=>(1:UInt8)::x).length=s.length+1
 | []=>rfl
 | x::t=>by
  have ih:=RJ c t;rw[CT]
  split
  ·rw[qp];simp only[zf,zj,qo] at ih ⊢;omega
  ·obtain⟨p,ps,e⟩:=Cj c t;rw[e] at ih ⊢;simp only[qp,zf,zj] at ih ⊢;omega
theorem Jv (c:UInt8) (s:List UInt8):((Ap c s).tail.flatMap fun x=>(1:UInt8)::x).length<=s.length:=by
 have h:=RJ c s;obtain⟨p,ps,e⟩:=Cj c s;rw[e] at h ⊢;simp only[qp,zf,zj,List.tail_cons] at h ⊢;omega
theorem Jw {l:List (List UInt8)} (i:Nat) (f:List UInt8->List UInt8):(l.take i).flatMap f++(l.drop i).flatMap f=l.flatMap f:=by
 rw[<-xi,List.take_append_drop]
theorem Su {l:List (List UInt8)} {i:Nat} (h:i<l.length):B8 (l.take (i+1))=B8 (l.take i)++FP l[i]:=by
 unfold B8;rw[qz h,xi];simp
theorem cN {l:List (List UInt8)} {i:Nat} (h:i<l.length):Cv (l.take (i+1))=Cv (l.take i)++DK l[i]:=by
 unfold Cv;rw[qz h,xi];simp
theorem MM {p:List UInt8->Bool} {l:List (List UInt8)} {i:Nat} (h:i<l.length):(l.take (i+1)).all p=((l.take i).all p&&p l[i]):=by
 rw[qz h,xo];simp
theorem Jd {p:List UInt8->Bool} {l:List (List UInt8)} {i:Nat} (h:i<l.length) (hp:p l[i]=false):l.all p=false:=by
 rw[Bool.eq_false_iff];intro e;rw[zl.1 e _ (zy h)] at hp;cases hp
theorem Ln {m i:List UInt8} (hi:i.length<=13000) (c0:(AS m i).1=0):Dg (GO m i):=by
 have hd:AS m i=(0,(AS m i).2.1,(AS m i).2.2):=by rw[<-c0]
 obtain⟨_,_,_,k4⟩:=Pk hd;obtain⟨_,a2,_,a4,_⟩:=M3 k4;have h1:=Iy (Ap 58 i).tail;have h2:=Jv 58 i;refine⟨by show (AS m i).2.1.length<=_;omega,by show _<=(((AS m i).2.2:Nat):Int);omega,by show (((AS m i).2.2:Nat):Int)<=_;omega,?_,by show (0:Nat)<=_;omega,by show (0:Nat)<=_;omega⟩;show (Ee _).length<=_;unfold Ee
 split
 ·decide
 ·simp only[zf,zj,CE,qo];omega
theorem KK (l:List (List UInt8)):l.length<=(l.flatMap fun x=>(1:UInt8)::x).length:=by
 induction l with
 | nil=>simp
 | cons x l ih=>simp only[qp,zf,zj];omega
theorem Zb (x:List UInt8):(DK x).length<=1+3*x.length:=by
 unfold DK;have h1:=NM (Aj x []).2;have h2:=(Fx x []).1;simp only[zj];omega
theorem Nr:∀l:List (List UInt8),(Cv l).length<=3*(l.flatMap fun x=>(1:UInt8)::x).length
 | []=>by simp[Cv]
 | x::l=>by
  have ih:=Nr l;have h:=Zb x;unfold Cv at ih ⊢;rw[qp,qp,zf,zf,zj];omega
theorem QL {u:UrlP} (h:DO u=true):∃init z,EN u=init++[z]:=by
 obtain⟨m,hm,hms,hp⟩:=(Nn h).path;have hsp:EN u=m:=by
  unfold EN;rw[hp,Lm m (fun x hx=>(hms x hx).1.1)];rfl
 rw[hsp];rcases List.eq_nil_or_concat m with rfl|⟨l',y,rfl⟩
 ·exact absurd rfl hm
 ·exact⟨l',y,by simp⟩
section
variable [Tabs Tryz.prog] {objs:List OB} {K:List OB->AV->Prop}
theorem Vr (b:Nat) (l:List (List UInt8)) (hb:CG objs b 185 []) (hl:(l.flatMap fun x=>(1:UInt8)::x).length<=16384) (h0:l.all Do=false->∀o,Co objs b o->K o (.i .i64 110))
  (h1:l.all Do=true->∀o,CG o b 185 (B8 l)->Co objs b o->K o (.i .i64 0)) :
  Ag Tryz.prog 181 [.row l.length (l.map .s),.fn 182 [.p b 0] []] objs K:=by
 have hmem:∀x∈l,x.length+1<=(l.flatMap fun x=>(1:UInt8)::x).length:=by
  intro x hx;obtain⟨p,q,rfl⟩:=List.append_of_mem hx;simp only[xi,qp,zf,zj];omega
 have hlen:l.length<=(l.flatMap fun x=>(1:UInt8)::x).length:=by
  clear hb h0 h1 hl hmem
  induction l with
  | nil=>simp
  | cons x l ih=>simp only[qp,zf,zj];omega
 refine Pl l (by omega) _ _ _ Wu (fun i o=>CG o b 185 (B8 (l.take i))/\Co objs b o/\(l.take i).all Do=true) ⟨by simpa[B8] using hb,Co.refl _ _,by simp⟩ ?_ ?_
 ·rintro i hi o ⟨k1,k2,k3⟩;have hx:=hmem l[i] (zy hi);have hs:(B8 (l.take i)).length<=1000000000:=by
   have h2:=Iy (l.take i);have h3:=congrArg qx (Jw (l:=l) i fun x=>(1:UInt8)::x);rw[zf] at h3;omega
  refine Xb b (B8 (l.take i)) l[i] k1 (by omega) hs (fun e=>?_) (fun e o' k4 k5=>?_)
  ·exact .inr ⟨110,rfl,by decide,h0 (Jd hi e) o k2⟩
  ·refine .inl ⟨rfl,by rw[Su hi];exact k4,k2.trans k5,by rw[MM hi,k3,e];rfl⟩
 ·rintro o ⟨k1,k2,k3⟩;rw[qe] at k1 k3;exact h1 k3 o k1 k2
theorem ZG [Shp Tryz.prog] [Pow Tryz.prog] (m i:List UInt8) (hm:m.length<=13000) (hi:i.length<=13000) (hk:K objs (.tup [A3 (BF m i).2,.i .i64 (BF m i).1])):Ag Tryz.prog 151 [.agg [.s m,.s i]] objs K:=by
 refine AC gW rfl fun C _=>?_;simp only[TN,Aa,simprocAttr];refine Ai (Qp m i (by omega) (by omega) ?_);unfold BF at hk
 by_cases c0:(AS m i).1=0
 ·simp only[c0,ne_eq,not_true_eq_false,if_false] at hk;simp only[c0,Bt,Aa,simprocAttr];refine Ai (Q0 i 58 (by omega) ?_);have hpos:=EV 58 i;have htail:=Jv 58 i;simp only[Aa,simprocAttr,qv,K3];refine⟨by omega,?_⟩;have hsh:=Ln hi c0;have hlen:(Ap 58 i).length - 1=(Ap 58 i).tail.length:=by simp
  have hU:GO m i=⟨(AS m i).2.1,(AS m i).2.2,Ee (Ap 58 i).tail,[],[],false,false⟩:=rfl;rw[hlen];generalize (Ap 58 i).tail=segs at *
  by_cases ht:segs=[]
  ·subst ht;rw[show ([]:List (List UInt8)).all Do=true from rfl] at hk;simp only[Bool.true_eq_false,if_false] at hk;rw[show Ee []=Cb from rfl] at hU;rw[hU] at hsh hk;generalize hu:(⟨(AS m i).2.1,(AS m i).2.2,Cb,[],[],false,false⟩:UrlP)=u at hsh hk;have e0:¬(0:Int)<((0:Nat):Int):=by omega
   simp only[e0,Aa,simprocAttr];refine Ai (show Ag _ _ [A3 ⟨(AS m i).2.1,(AS m i).2.2,Cb,[],[],false,false⟩] _ _ from hu▸Jz u hsh ?_)
   by_cases c1:(4096:Int)<(Bi u).length
   ·have c1':4096<(Bi u).length:=by omega
    rw[if_pos c1'] at hk;simp only[c1,Aa,simprocAttr];exact hk
   ·have c1':¬4096<(Bi u).length:=by omega
    rw[if_neg c1'] at hk;simp only[c1,Aa,simprocAttr];subst hu;exact hk
  ·have e0:(0:Int)<(segs.length:Nat):=by
    have:=List.length_pos_iff.2 ht;omega
   rw[show Ee segs=B8 segs++47::CE by unfold Ee;rw[if_neg ht]] at hU;have hsl:=Iy segs;rw[hU] at hsh hk;simp only[e0,Aa,simprocAttr];refine Ai (Vr 4 segs (.inl ⟨rfl,rfl⟩) (by omega) (fun hbad o k2=>?_) (fun hok o k1 k2=>?_))
   ·have o1:=(k2.2 1 _ rfl (by decide) (fun e=>by cases (show (none:Option Nat)=some _ from e))).1;have ol:1<o.length:=Di o1;rw[hbad] at hk;simp only[o1,ol,Aa,simprocAttr,zb];exact hk
   ·rw[hok] at hk;simp only[Bool.true_eq_false,if_false] at hk;simp only[Aa,simprocAttr];refine Ai (Nj _ 4 (B8 segs) k1 fun o' k3=>?_);have k4:=k2.trans k3;have o1:=(k4.2 1 _ rfl (by decide) (fun e=>by cases (show (none:Option Nat)=some _ from e))).1;have o3:=(k4.2 3 _ rfl (by decide) (fun e=>by cases (show (none:Option Nat)=some _ from e))).1;have ol1:1<o'.length:=Di o1;have ol3:3<o'.length:=Di o3;have hpa:B8 segs++[47]++[100,105,100,46,106,115,111,110]=B8 segs++47::CE:=by simp[CE]
    simp only[o1,o3,ol1,ol3,Aa,simprocAttr,zb,zh];refine⟨by omega,?_⟩;simp only[hpa];refine⟨by omega,?_⟩;refine Ai (Jz _ hsh ?_);generalize hu:(⟨(AS m i).2.1,(AS m i).2.2,B8 segs++47::CE,[],[],false,false⟩:UrlP)=u at hsh hk ⊢
    by_cases c1:(4096:Int)<(Bi u).length
    ·have c1':4096<(Bi u).length:=by omega
     rw[if_pos c1'] at hk;simp only[c1,o1,o3,ol1,ol3,Aa,simprocAttr,zb,zh];exact hk
    ·have c1':¬4096<(Bi u).length:=by omega
     rw[if_neg c1'] at hk;simp only[c1,o1,o3,ol1,ol3,Aa,simprocAttr,zb,zh];subst hu;exact hk
 ·simp only[c0,ne_eq,not_false_eq_true,if_true] at hk;simp only[c0,Bt,Aa,simprocAttr];exact hk
theorem WD [Shp Tryz.prog] (b:Nat) (l0:List UInt8) (l:List (List UInt8)) (hb:CG objs b 189 l0) (hl0:l0.length<=100000000) (hl:(l.flatMap fun x=>(1:UInt8)::x).length<=16384) (h0:l.all BC=false->∀o,Co objs b o->K o (.i .i64 110))
  (h1:l.all BC=true->∀o,CG o b 189 (l0++Cv l)->Co objs b o->K o (.i .i64 0)) :
  Ag Tryz.prog 181 [.row l.length (l.map .s),.fn 186 [.p b 0] []] objs K:=by
 have hmem:∀x∈l,x.length+1<=(l.flatMap fun x=>(1:UInt8)::x).length:=by
  intro x hx;obtain⟨p,q,rfl⟩:=List.append_of_mem hx;simp only[xi,qp,zf,zj];omega
 have hlen:l.length<=(l.flatMap fun x=>(1:UInt8)::x).length:=by
  clear hb h0 h1 hl hmem
  induction l with
  | nil=>simp
  | cons x l ih=>simp only[qp,zf,zj];omega
 refine Pl l (by omega) _ _ _ Wt (fun i o=>CG o b 189 (l0++Cv (l.take i))/\Co objs b o/\(l.take i).all BC=true) ⟨by simpa[Cv] using hb,Co.refl _ _,by simp⟩ ?_ ?_
 ·rintro i hi o ⟨k1,k2,k3⟩;have hx:=hmem l[i] (zy hi);have hs:(l0++Cv (l.take i)).length<=1000000000:=by
   have h2:=Nr (l.take i);have h3:=congrArg qx (Jw (l:=l) i fun x=>(1:UInt8)::x);rw[zf] at h3 ⊢;omega
  refine Ww b (l0++Cv (l.take i)) l[i] k1 (by omega) hs (fun e=>?_) (fun e o' k4 k5=>?_)
  ·exact .inr ⟨110,rfl,by decide,h0 (Jd hi e) o k2⟩
  ·refine .inl ⟨rfl,by rw[cN hi,<-List.append_assoc];exact k4,k2.trans k5,by rw[MM hi,k3,e];rfl⟩
 ·rintro o ⟨k1,k2,k3⟩;rw[qe] at k1 k3;exact h1 k3 o k1 k2
set_option maxHeartbeats 1000000 in
theorem dO [Shp Tryz.prog] [Pow Tryz.prog] (u:UrlP) (hu:Dg u) (hk:K objs (.tup [.agg [.s (CZ u).2.1,.s (CZ u).2.2],.i .i64 (CZ u).1])):Ag Tryz.prog 152 [A3 u] objs K:=by
 refine AC iJ rfl fun C _=>?_;simp only[T6,A3,Aa,simprocAttr];refine Ai (YI u hu ?_);unfold CZ at hk
 by_cases c0:DO u=true
 ·obtain⟨init,z,hseg⟩:=QL c0;have hlen:=RM c0;have hpl:=IG u;have hsum:=Jv 47 u.path;have hst:(Ap 47 u.path).tail=init++[z]:=hseg;have hln:(Ap 47 u.path).length - 1=init.length+1:=by
   have:=congrArg qx hst;simpa using this
  have hpos:=EV 47 u.path;rw[hst] at hsum;have hid:Cp u=BP u.host u.port++(if u.path=Cb then [] else Cv init):=by
   unfold Cp;rw[hseg];simp
  have hhl:u.host.length<=1000000:=hu.1;simp only[c0,Bool.true_eq_false,if_false,hseg,List.getLastD_concat,List.dropLast_concat,hid] at hk;simp only[c0,Aa,simprocAttr];refine Ai (Q0 u.path 47 (by omega) ?_);simp only[Aa,simprocAttr,qv,K3,hst,hln];have hls:=KK (init++[z]);rw[zf,List.length_singleton] at hls;refine⟨by omega,by omega,?_⟩;have e1:((init.length+1:Nat):Int) - 1=init.length:=by omega
  have hz:((init++[z]).map AV.s)[init.length]? = some (.s z):=by simp
  have htk:((init++[z]).map AV.s).take init.length=init.map AV.s:=by simp
  have hsi:(init.flatMap fun x=>(1:UInt8)::x).length<=16384:=by
   rw[xi,zf] at hsum;omega
  simp only[e1]
  cases hq:u.hq with
  | true=>
   simp only[hq,true_or,if_true] at hk;simp only[Aa,simprocAttr];exact hk
  | false=>
   cases hf:u.hf with
   | true=>
    simp only[hf,true_or,or_true,if_true] at hk;simp only[Aa,simprocAttr];exact hk
   | false=>
    simp only[Aa,simprocAttr,zm,qv,hz];refine⟨by simp;omega,?_⟩
    by_cases c1:z=CE
    ·simp only[hq,hf,c1,Bool.false_eq_true,not_true_eq_false,or_self,if_false] at hk;have c1':¬¬z=[100,105,100,46,106,115,111,110]:=fun h=>h c1;simp only[c1',Aa,simprocAttr];have eu:A3 u=.agg [.s u.host,.i .i64 u.port,.s u.path,.s u.query,.s u.frag,.b false,.b false]:=by unfold A3;rw[hq,hf]
     refine Ai ?_;rw[<-eu];refine RN u ?_;simp only[Bt,Aa,simprocAttr];refine Ai (aO 2 u.host u.port (.inl ⟨rfl,rfl⟩) hhl hu.2.1 hu.2.2.1 fun o k1 k2=>?_);have o0:=(k2.2 0 _ rfl (by decide) (fun e=>by cases (show (none:Option Nat)=some _ from e))).1;have o1:=(k2.2 1 _ rfl (by decide) (fun e=>by cases (show (none:Option Nat)=some _ from e))).1;have hhp:=PG u.host u.port hu.2.1 hu.2.2.1
     by_cases c2:u.path=Cb
     ·simp only[c2,not_true_eq_false,false_and,if_false,if_true,qf] at hk;have c2':¬¬Cb=[47,46,119,101,108,108,45,107,110,111,119,110,47,100,105,100,46,106,115,111,110]:=fun h=>h rfl;simp only[c2,c2',o0,o1,Aa,simprocAttr];refine Ai (Nj _ 2 _ k1 fun o' k3=>?_);have p1:=((k2.trans k3).2 1 _ rfl (by decide) (fun e=>by cases (show (none:Option Nat)=some _ from e))).1;have ol1:1<o'.length:=Di p1;have g1:∀x:OB,(o'++[x])[1]? = o'[1]?:=fun x=>qq ol1;have s1:∀x y:OB,(o'++[x]).set 1 y=o'.set 1 y++[x]:=fun x y=>List.set_append_left _ _ ol1;have g2:∀x y:OB,(o'.set 1 y++[x])[1]? = some y:=fun x y=>by rw[qq (by simpa using ol1),qc ol1]
      simp only[Bx,CK,g1,s1,g2,p1,Aa,simprocAttr];refine Ai (LD _ _ (by decide) (by omega) ?_);have hw:BR=[119,101,98]:=rfl;rw[hw] at hk
      by_cases c3:(4096:Int)<(AB [119,101,98] (BP u.host u.port)).length
      ·have c3':4096<(AB [119,101,98] (BP u.host u.port)).length:=by omega
       rw[if_pos c3'] at hk;simp only[c3,Bx,CK,g1,s1,g2,p1,Aa,simprocAttr];exact hk
      ·have c3':¬4096<(AB [119,101,98] (BP u.host u.port)).length:=by omega
       rw[if_neg c3'] at hk;simp only[c3,Bx,CK,g1,s1,g2,p1,Aa,simprocAttr];exact hk
     ·have c2':¬u.path=[47,46,119,101,108,108,45,107,110,111,119,110,47,100,105,100,46,106,115,111,110]:=c2
      by_cases c4:init=[]
      ·subst c4;simp only[c2,not_false_eq_true,true_and,true_or,if_true] at hk;have ol1:=Di o1;have ez:((0:Nat):Int)=0:=rfl;simp only[c2',o0,o1,ol1,ez,Aa,simprocAttr,zb];exact hk
      ·have c4':¬((init.length:Nat):Int)=0:=by
        have:=List.length_pos_iff.2 c4;omega
       simp only[c2,c4,not_false_eq_true,true_and,false_or,if_false] at hk;simp only[c2',c4',o0,o1,Aa,simprocAttr,zm,qv,htk];refine⟨by omega,?_⟩;refine Ai (WD 2 _ init k1 (by omega) hsi (fun hbad o' k5=>?_) (fun hok o' k4 k5=>?_))
       ·have p1:=((k2.trans k5).2 1 _ rfl (by decide) (fun e=>by cases (show (none:Option Nat)=some _ from e))).1;have ol1:=Di p1;rw[hbad] at hk;simp only[p1,ol1,Aa,simprocAttr,zb];exact hk
       ·rw[hok] at hk;simp only[Bool.true_eq_false,if_false] at hk;simp only[Aa,simprocAttr];have hsl:=Nr init;refine Ai (Nj _ 2 _ k4 fun o2 k6=>?_);have p1:=(((k2.trans k5).trans k6).2 1 _ rfl (by decide) (fun e=>by cases (show (none:Option Nat)=some _ from e))).1;have ol1:1<o2.length:=Di p1;have g1:∀x:OB,(o2++[x])[1]? = o2[1]?:=fun x=>qq ol1;have s1:∀x y:OB,(o2++[x]).set 1 y=o2.set 1 y++[x]:=fun x y=>List.set_append_left _ _ ol1;have g2:∀x y:OB,(o2.set 1 y++[x])[1]? = some y:=fun x y=>by rw[qq (by simpa using ol1),qc ol1]
        simp only[Bx,CK,g1,s1,g2,p1,Aa,simprocAttr];refine Ai (LD _ _ (by decide) (by rw[zf];omega) ?_);have hw:BR=[119,101,98]:=rfl;rw[hw] at hk
        by_cases c3:(4096:Int)<(AB [119,101,98] (BP u.host u.port++Cv init)).length
        ·have c3':4096<(AB [119,101,98] (BP u.host u.port++Cv init)).length:=by omega
         rw[if_pos c3'] at hk;simp only[c3,Bx,CK,g1,s1,g2,p1,Aa,simprocAttr];exact hk
        ·have c3':¬4096<(AB [119,101,98] (BP u.host u.port++Cv init)).length:=by omega
         rw[if_neg c3'] at hk;simp only[c3,Bx,CK,g1,s1,g2,p1,Aa,simprocAttr];exact hk
    ·simp only[hq,hf,c1,Bool.false_eq_true,not_false_eq_true,or_true,if_true] at hk;have c1':¬z=[100,105,100,46,106,115,111,110]:=c1;simp only[c1',Aa,simprocAttr];exact hk
 ·simp only[c0,Aa,simprocAttr];simp only[c0,if_true] at hk;exact hk
theorem Vq [Shp Tryz.prog] [Pow Tryz.prog] (m i:List UInt8) (hm:m.length<=13000) (hi:i.length<=13000) (hk:K objs (.tup [.agg [.s (BX m i).2.1,.s (BX m i).2.2],.i .i64 (BX m i).1])):Ag Tryz.prog 119 [.agg [.s m,.s i]] objs K:=by
 refine AC jH rfl fun C _=>?_;simp only[Uk,Aa,simprocAttr];refine Ai (ZG m i hm hi ?_);unfold BX at hk;have hz:=OU (m:=m) (i:=i);have hsh:(BF m i).1=0->Dg (BF m i).2:=fun h=>by
  have e:BF m i=(0,(BF m i).2):=by rw[<-h]
  obtain⟨_,_,_,k4,_,k6⟩:=Mo e;rw[k6];exact Ln hi (by rw[k4])
 generalize BF m i=q at *;obtain⟨e,u⟩:=q;simp only at hz hsh hk ⊢
 by_cases c0:e=0
 ·subst c0;simp only[ne_eq,not_true_eq_false,if_false] at hk;simp only[A3,Aa,simprocAttr];refine Ai (dO u (hsh rfl) ?_);simp only[Aa,simprocAttr];exact hk
 ·have:=hz c0;subst this;simp only[c0,ne_eq,not_false_eq_true,if_true] at hk;simp only[c0,A3,Aa,simprocAttr];exact hk
end
open Nat renaming reduceAdd -> z6, reduceSub -> z7, reduceLeDiff -> z8, reduceLT -> j4, reduceMul -> j5, reduceEqDiff -> j6
open Int renaming reduceToNat -> j7, reduceAdd -> j8, reduceSub -> j9, reduceMul -> x0, reduceNeg -> x3, reduceLT -> x4, reduceLE -> x5, reduceEq -> x6, reduceNe -> x7
def Hy:List (List UInt8)->List UInt8
 | []=>[]
 | p::ps=>Bp p++Ge ps
theorem XL (xs:List (List UInt8)) (q:List UInt8):Hy (xs++[q])=(if xs=[] then [] else Hy xs++[58])++Bp q:=by
 cases xs with
 | nil=>simp[Hy,Ge]
 | cons p ps=>simp[Hy,Ge]
theorem Yp (d:List UInt8) (hl:d.length<=16384):Cl d=if ¬(∀q∈Ap 58 d,(An q).1=0) then (2,[]) else if (Ap 58 d).all (fun q=>q.all Ck)=false then (1,[]) else if (Ap 58 d).getLastD []=[] then (3,[]) else (0,Hy (Ap 58 d)):=by
 obtain⟨p,ps,h⟩:=Cj 58 d;rw[JH d p ps hl h,h];rfl
theorem Qr (l:List UInt8):(Ax l).length<=3*l.length:=by
 induction l with
 | nil=>exact zd _
 | cons c l ih=>
  rw[F6,zf,zj]
  split<;>simp only[Im,zj,qo]<;>omega
theorem pZ (c:UInt8):Ck c=(c==37||B4 c):=rfl
theorem PW {xs:List (List UInt8)} {p:List UInt8->Prop} (h:∀j (hj:j<xs.length),p xs[j]):∀q∈xs,p q:=by
 intro x hx;obtain⟨j,hj,rfl⟩:=List.mem_iff_getElem.1 hx;exact h j hj
theorem ZH (l:List UInt8) (c:UInt8):Ax (l++[c])=Ax l++(if B4 c=true then [c] else Bd c):=by simp[Ax]
theorem Vm (l:List UInt8) (h:(A1 l).1=0):(A1 l).2.length<=l.length:=by
 have key:∀(n:Nat) (l:List UInt8),l.length<=n->(A1 l).1=0->(A1 l).2.length<=l.length:=by
  intro n
  induction n with
  | zero=>
   intro l hl h;obtain rfl:l=[]:=qd (by omega);exact zd _
  | succ n ih=>
   intro l hl h
   cases l with
   | nil=>exact zd _
   | cons c t=>
    by_cases hc:c=37
    ·subst hc;rcases he:Bm (37::t) with _|_
     ·rw[Ie he] at h;cases h
     ·obtain⟨a,b,r,rfl⟩:=Fj he;have d:=F0 he;rw[d.1] at h;have:=ih r (by simp at hl ⊢;omega) h;rw[d.2 h];simp;omega
    ·have d:=Fw (c:=c) (t:=t) hc;rw[d.1] at h;have:=ih t (by simp at hl;omega) h;rw[d.2 h];simp;omega
 exact key l.length l (zd _) h
section
variable [Tabs Tryz.prog] {objs:List OB} {K:List OB->AV->Prop}
theorem QS (c:UInt8) (hk:K objs (.b (AD c))):Ag Tryz.prog 94 [.i .u8 c.toNat] objs K :=
 conv (vs:=[.int .u8 c.toNat]) rfl rfl (fun w=>(EY c w).mono (by rintro e w' ⟨rfl,rfl⟩;exact⟨rfl,Qb.refl _⟩)) hk
theorem YT (c:UInt8) (hk:K objs (.b (B1 c))):Ag Tryz.prog 93 [.i .u8 c.toNat] objs K :=
 conv (vs:=[.int .u8 c.toNat]) rfl rfl (fun w=>(EX c w).mono (by rintro e w' ⟨rfl,rfl⟩;exact⟨rfl,Qb.refl _⟩)) hk
theorem lG (c:UInt8) (s:List UInt8) (hs:s.length<=maxLen) (hk:K objs (.b (Aw c s))):Ag Tryz.prog 66 [.i .u8 c.toNat,.s s] objs K :=
 conv (vs:=[.int .u8 c.toNat,.string (S s)]) rfl rfl (fun w=>(DR c (S s) w (by rw[Am];exact hs)).mono (by rintro e w' ⟨rfl,rfl⟩;exact⟨rfl,Qb.refl _⟩)) hk
theorem ZS (c:UInt8) (hk:K objs (.s (Bd c))):Ag Tryz.prog 91 [.i .u8 c.toNat] objs K :=
 conv (vs:=[.int .u8 c.toNat]) rfl rfl (fun w=>Lw c w) hk
theorem R1 (c:UInt8) (hk:K objs (.b (B4 c))):Ag Tryz.prog 106 [.i .u8 c.toNat] objs K:=by
 refine AC gL rfl fun C _=>?_;unfold B4 at hk;simp only[TE,Aa,simprocAttr];refine Ai (YT c ?_)
 by_cases h1:B1 c=true
 ·simp only[h1,Bool.true_or] at hk;simp only[h1,Aa,simprocAttr];exact hk
 ·simp only[h1,Aa,simprocAttr];refine Ai (QS c ?_)
  by_cases h2:AD c=true
  ·simp only[h1,h2,Bool.true_or,Bool.or_true,Bool.false_or] at hk;simp only[h2,Aa,simprocAttr];exact hk
  ·simp only[h1,h2,Bool.false_or] at hk;simp only[h2,Aa,simprocAttr];refine Ai (lG c _ (by decide) ?_);simp only[Aa,simprocAttr];exact hk
set_option maxHeartbeats 4000000 in
theorem bO (s:List UInt8) (hs:s.length<=1000000) (hk:K objs (.b (C9 s))):Ag Tryz.prog 105 [.s s] objs K:=by
 refine AC hP rfl fun C _=>?_;unfold C9 at hk;simp only[TU,Aa,simprocAttr];refine BI (fun n objs tm=>∃i:Nat,i<=s.length/\n=s.length - i/\objs=[]/\(∀j (h:j<s.length),j<i->Cr s[j]=true)/\tm.length=29/\tm[0]? = some (.s s)/\tm[3]? = some (.i .i64 i)) s.length ⟨0,ze _,rfl,rfl,fun j h h0=>absurd h0 (by omega),rfl,rfl,rfl⟩ ?_;rintro n _ tm ⟨i,hi,rfl,rfl,hall,hlen,t0,t3⟩
 by_cases hlt:(i:Int)<s.length
 ·have hlt':i<s.length:=by omega
  have hg:=GJ hlt';have hfin:Cr s[i]=false->K objs (.b false):=fun h=>by
   rw[Kz hlt' h] at hk;exact hk
  have hnext:Cr s[i]=true->∀j (h:j<s.length),j<i+1->Cr s[j]=true:=by
   intro h j hj hji;rcases zo j i with h1|h1
   ·exact hall j hj h1
   ·have:j=i:=by omega
    subst this;exact h
  simp only[Aa,simprocAttr,zb,hlen,t0,t3,hlt];refine⟨by omega,?_⟩;rw[hg];generalize s[i]=c at *;refine Ai (QS c ?_)
  by_cases hd:AD c=true
  ·have hm:Cr c=true:=by unfold Cr;rw[hd];rfl
   simp only[hd,Aa,simprocAttr,zb,hlen,t0,t3];exact⟨⟨by omega,by omega⟩,s.length - (i+1),by omega,i+1,by omega,rfl,hnext hm,rfl⟩
  ·simp only[Bool.not_eq_true] at hd;have hm:=P6 c hd
   by_cases h97:((c.toNat:Nat):Int)<97
   ·have hm2:Cr c=false:=by rw[hm,decide_eq_false (by omega)];rfl
    simp only[hd,hg,h97,Aa,simprocAttr,zb,hlen,t0,t3];exact⟨⟨by omega,by omega⟩,hfin hm2⟩
   ·by_cases h122:(122:Int)<((c.toNat:Nat):Int)
    ·have hm2:Cr c=false:=by rw[hm,decide_eq_false (p:=c.toNat<=122) (by omega),Bool.and_false]
     simp only[hd,hg,h97,h122,Aa,simprocAttr,zb,hlen,t0,t3];exact⟨⟨by omega,by omega⟩,⟨by omega,by omega⟩,hfin hm2⟩
    ·have hm2:Cr c=true:=by rw[hm,decide_eq_true (by omega),decide_eq_true (by omega)];rfl
     simp only[hd,hg,h97,h122,Aa,simprocAttr,zb,hlen,t0,t3];exact⟨⟨by omega,by omega⟩,⟨by omega,by omega⟩,⟨by omega,by omega⟩,s.length - (i+1),by omega,i+1,by omega,rfl,hnext hm2,rfl⟩
 ·have hie:i=s.length:=by omega
  subst hie;have ha:s.all Cr=true:=Kt fun j h=>hall j h h;rw[ha] at hk;simp only[Aa,simprocAttr,zb,hlen,t0,t3,hlt];have e:decide (¬s=[])=(true&&!s.isEmpty):=by cases s<;>simp
  rw[e];exact hk
set_option maxHeartbeats 4000000 in
theorem Lx (s:List UInt8) (hs:s.length<=1000000) (hk:K objs (.s (Ax s))):Ag Tryz.prog 107 [.s s] objs K:=by
 refine AC iU rfl fun C _=>?_;simp only[Uc,Aa,simprocAttr];refine BI (fun n objs tm=>∃i:Nat,i<=s.length/\n=s.length - i/\objs=[]/\tm.length=29/\tm[0]? = some (.s s)/\tm[3]? = some (.s (Ax (s.take i)))/\tm[4]? = some (.i .i64 i)) s.length ⟨0,ze _,rfl,rfl,rfl,rfl,rfl,rfl⟩ ?_;rintro n _ tm ⟨i,hi,rfl,rfl,hlen,t0,t3,t4⟩;have hacc:=Qr (s.take i);rw[zg] at hacc
 by_cases hlt:(i:Int)<s.length
 ·have hlt':i<s.length:=by omega
  have hg:=GJ hlt';have hsn:Ax (s.take (i+1))=Ax (s.take i)++(if B4 s[i]=true then [s[i]] else Bd s[i]):=by
   rw[qz hlt',ZH]
  have hsl:(s.take (i+1)).drop i=[s[i]]:=by
   rw[qz hlt',List.drop_append_of_le_length (by rw[zg];omega)];simp
  generalize s[i]=c at *;simp only[Aa,simprocAttr,zb,hlen,t0,t3,t4,hlt,hg];refine⟨by omega,?_⟩;refine Ai (R1 c ?_)
  by_cases h:B4 c=true
  ·rw[if_pos h] at hsn;simp only[Aa,simprocAttr,zb,hlen,t0,t3,t4,h,hg,hsl];exact⟨⟨by omega,by omega⟩,⟨by omega,by omega,by omega⟩,by omega,⟨by omega,by omega⟩,s.length - (i+1),by omega,i+1,by omega,rfl,by rw[hsn],rfl⟩
  ·rw[if_neg h] at hsn;simp only[Aa,simprocAttr,zb,hlen,t0,t3,t4,h,hg];refine⟨by omega,?_⟩;refine Ai (ZS c ?_);simp only[Aa,simprocAttr,zb,hlen,t0,t3,t4,h,hg,Im];exact⟨by omega,⟨by omega,by omega⟩,s.length - (i+1),by omega,i+1,by omega,rfl,by rw[hsn],rfl⟩
 ·have hie:i=s.length:=by omega
  subst hie;rw[qe] at t3;simp only[Aa,simprocAttr,zb,hlen,t0,t3,t4,hlt];exact hk
set_option maxHeartbeats 8000000 in
theorem Tt (s:List UInt8) (hs:s.length<=maxLen) (hk:K objs (.tup [.agg [.s (AY s).2.1,.s (AY s).2.2],.i .i64 (AY s).1])):Ag Tryz.prog 77 [.s s] objs K:=by
 have hm:maxLen=2 ^ 63 - 1:=rfl;refine AC iN rfl fun C _=>?_;unfold AY at hk
 by_cases c0:(4096:Int)<↑s.length
 ·have c0':4096<s.length:=by omega
  simp only[c0',if_true] at hk;simp only[c0,Ok,Aa,z6,z7,z8,j4,j5,j6,j7,j8,j9,x0,x3,x4,x5,x6,x7,reduceCtorEq,↓reduceIte];exact hk
 ·have c0':¬4096<s.length:=by omega
  simp only[c0',if_false] at hk;simp only[c0,Ok,Aa,z6,z7,z8,j4,j5,j6,j7,j8,j9,x0,x3,x4,x5,x6,x7,reduceCtorEq,↓reduceIte];refine Ai (Iw s Ca hs ?_)
  by_cases c1:Lib.hasPrefix s Ca=true
  ·have h4:4<=s.length:=FY c1;have hdl:(s.drop 4).length<=s.length:=by rw[zx];omega
   simp only[c1,Aa,z6,z7,z8,j4,j5,j6,j7,j8,j9,x0,x3,x4,x5,x6,x7,reduceCtorEq,↓reduceIte] at hk ⊢;refine⟨by omega,?_⟩;generalize s.drop 4=r at *;refine Ai (F5 r [58] (by omega) (by decide) ?_);have c58:=Hg 58 r;have hil:=KJ r [58]
   by_cases h58:At r [58]<r.length
   ·have e58:=c58.1 h58;rw[e58] at hk;have hne:¬((At r [58]:Nat):Int)=((r.length:Nat):Int):=by omega
    have htl:(r.take (At r [58])).length<=r.length:=by rw[zg];omega
    have hdl2:(r.drop (At r [58]+1)).length<=r.length:=by rw[zx];omega
    simp only[hne,Aa,z6,z7,z8,j4,j5,j6,j7,j8,j9,x0,x3,x4,x5,x6,x7,reduceCtorEq,↓reduceIte] at hk ⊢;refine⟨⟨by omega,by omega⟩,?_⟩;refine Ai (bO _ (by omega) ?_)
    by_cases c2:C9 (r.take (At r [58]))=true
    ·simp only[c2,Aa,z6,z7,z8,j4,j5,j6,j7,j8,j9,x0,x3,x4,x5,x6,x7,reduceCtorEq,↓reduceIte] at hk ⊢;refine⟨⟨by omega,by omega⟩,⟨by omega,by omega⟩,?_⟩;refine Ai (MR _ 58 (by omega) ?_);have hid:=Yp (r.drop (At r [58]+1)) (by omega);have hxl:=IC 58 (r.drop (At r [58]+1));have hxp:=EV 58 (r.drop (At r [58]+1));have hxs:∀q∈Ap 58 (r.drop (At r [58]+1)),q.length<=4096:=fun q hq=>by
      have:=F4 58 _ q hq;omega
     generalize Cl (r.drop (At r [58]+1))=ie at hk hid;generalize Ap 58 (r.drop (At r [58]+1))=xs at hid hxl hxp hxs ⊢;have hb:At r [58]<=r.length:=hil;clear c58 e58 hil hne;generalize At r [58]=ix at *;simp only[Aa,z6,z7,z8,j4,j5,j6,j7,j8,j9,x0,x3,x4,x5,x6,x7,reduceCtorEq,↓reduceIte];refine BI (fun n objs tm=>∃i:Nat,i<=xs.length/\n=xs.length - i/\objs=[.box 119 [.s [],.s []]]/\(∀j (h:j<xs.length),j<i->(An xs[j]).1=0)/\tm.length=113/\tm[0]? = some (.s r)/\tm[2]? = some (.p 0 0)/\tm[4]? = some (.i .i64 ix)/\tm[5]? = some (.row xs.length (xs.map .s))/\tm[46]? = some (.row xs.length (xs.map .s))/\tm[47]? = some (.i .i64 xs.length)/\tm[48]? = some (.i .i64 i)) xs.length ⟨0,ze _,rfl,rfl,fun j h h0=>absurd h0 (by omega),rfl,rfl,rfl,rfl,rfl,rfl,rfl,rfl⟩ ?_;rintro n _ tm ⟨i,hi,rfl,rfl,hall,hlen,t0,t2,t4,t5,t46,t47,t48⟩
     by_cases hlt:(i:Int)<xs.length
     ·have hlt':i<xs.length:=by omega
      have hx:(xs.map AV.s)[i]? = some (.s xs[i]):=by simp
      have hni:(An xs[i]).1≠0->K objs (.tup [.agg [.s [],.s []],.i .i64 2]):=fun h=>by
       rw[if_pos (fun h2=>h (h2 _ (zy hlt')))] at hid;rw[hid] at hk;simp only[Aa,z6,z7,z8,j4,j5,j6,j7,j8,j9,x0,x3,x4,x5,x6,x7,reduceCtorEq,↓reduceIte] at hk;exact hk
      have hnext:(An xs[i]).1=0->∀j (h:j<xs.length),j<i+1->(An xs[j]).1=0:=by
       intro h j hj hji;rcases zo j i with h1|h1
       ·exact hall j hj h1
       ·have:j=i:=by omega
        subst this;exact h
      clear hk;generalize xs[i]=q at *;simp only[Aa,z6,z7,z8,j4,j5,j6,j7,j8,j9,x0,x3,x4,x5,x6,x7,reduceCtorEq,↓reduceIte,zb,hlen,t0,t2,t4,t5,t46,t47,t48,hlt];refine⟨⟨by omega,by simp⟩,?_⟩;rw[qv,hx];simp only[Aa,z6,z7,z8,j4,j5,j6,j7,j8,j9,x0,x3,x4,x5,x6,x7,reduceCtorEq,↓reduceIte,zb,hlen,t0,t2,t4,t5,t46,t47,t48];refine Ai (ID q ?_)
      by_cases hd:(An q).1=0
      ·simp only[Aa,z6,z7,z8,j4,j5,j6,j7,j8,j9,x0,x3,x4,x5,x6,x7,reduceCtorEq,↓reduceIte,zb,hlen,t0,t2,t4,t5,t46,t47,t48,hd];exact⟨⟨by omega,by omega⟩,xs.length - (i+1),by omega,i+1,by omega,rfl,hnext hd,rfl⟩
      ·simp only[Aa,z6,z7,z8,j4,j5,j6,j7,j8,j9,x0,x3,x4,x5,x6,x7,reduceCtorEq,↓reduceIte,zb,hlen,t0,t2,t4,t5,t46,t47,t48,hd];exact hni hd
     ·have hie:i=xs.length:=by omega
      subst hie;have hdec:∀q∈xs,(An q).1=0:=PW fun j h=>hall j h h;rw[if_neg (fun h=>h hdec)] at hid;simp only[Aa,z6,z7,z8,j4,j5,j6,j7,j8,j9,x0,x3,x4,x5,x6,x7,reduceCtorEq,↓reduceIte,zb,hlen,t0,t2,t4,t5,t46,t47,t48,hlt];refine BI (fun n objs tm=>∃i:Nat,∃acc:List UInt8,i<=xs.length/\n=xs.length - i/\objs=[.box 119 [.s [],.s []]]/\(∀j (h:j<xs.length),j<i->xs[j].all Ck=true)/\acc=Hy (xs.take i)/\acc.length<=i*20000/\tm.length=113/\tm[0]? = some (.s r)/\tm[2]? = some (.p 0 0)/\tm[4]? = some (.i .i64 ix)/\tm[5]? = some (.row xs.length (xs.map .s))/\tm[10]? = some (.s acc)/\tm[61]? = some (.row xs.length (xs.map .s))/\tm[62]? = some (.i .i64 xs.length)/\tm[63]? = some (.i .i64 i)) xs.length ⟨0,[],ze _,rfl,rfl,fun j h h0=>absurd h0 (by omega),rfl,by simp,(by simp only[Aa,z6,z7,z8,j4,j5,j6,j7,j8,j9,x0,x3,x4,x5,x6,x7,reduceCtorEq,↓reduceIte,zb,hlen];try rfl),(by simp only[Aa,z6,z7,z8,j4,j5,j6,j7,j8,j9,x0,x3,x4,x5,x6,x7,reduceCtorEq,↓reduceIte,zb,hlen,t0];try rfl),(by simp only[Aa,z6,z7,z8,j4,j5,j6,j7,j8,j9,x0,x3,x4,x5,x6,x7,reduceCtorEq,↓reduceIte,zb,hlen,t2];try rfl),(by simp only[Aa,z6,z7,z8,j4,j5,j6,j7,j8,j9,x0,x3,x4,x5,x6,x7,reduceCtorEq,↓reduceIte,zb,hlen,t4];try rfl),(by simp only[Aa,z6,z7,z8,j4,j5,j6,j7,j8,j9,x0,x3,x4,x5,x6,x7,reduceCtorEq,↓reduceIte,zb,hlen,t5];try rfl),(by simp only[Aa,z6,z7,z8,j4,j5,j6,j7,j8,j9,x0,x3,x4,x5,x6,x7,reduceCtorEq,↓reduceIte,zb,hlen];try rfl),(by simp only[Aa,z6,z7,z8,j4,j5,j6,j7,j8,j9,x0,x3,x4,x5,x6,x7,reduceCtorEq,↓reduceIte,zb,hlen];try rfl),(by simp only[Aa,z6,z7,z8,j4,j5,j6,j7,j8,j9,x0,x3,x4,x5,x6,x7,reduceCtorEq,↓reduceIte,zb,hlen];try rfl),(by simp only[Aa,z6,z7,z8,j4,j5,j6,j7,j8,j9,x0,x3,x4,x5,x6,x7,reduceCtorEq,↓reduceIte,zb,hlen];try rfl)⟩ ?_;clear hall hlt t0 t2 t4 t5 t46 t47 t48 hlen tm;rintro n _ tm ⟨i,acc,hi,rfl,rfl,hall,hacc,hal,hlen,t0,t2,t4,t5,t10,t61,t62,t63⟩
      by_cases hlt:(i:Int)<xs.length
      ·have hlt':i<xs.length:=by omega
       have hx:(xs.map AV.s)[i]? = some (.s xs[i]):=by simp
       have hql:xs[i].length<=4096:=hxs _ (zy hlt');have hni:xs[i].all Ck=false->K objs (.tup [.agg [.s [],.s []],.i .i64 1]):=fun h=>by
        have:(xs.all fun q=>q.all Ck)=false:=by
         rw[Bool.eq_false_iff];intro e;have:=zl.1 e _ (zy hlt');rw[h] at this;cases this
        rw[if_pos this] at hid;rw[hid] at hk;simp only[Aa,z6,z7,z8,j4,j5,j6,j7,j8,j9,x0,x3,x4,x5,x6,x7,reduceCtorEq,↓reduceIte] at hk;exact hk
       have hnext:xs[i].all Ck=true->∀j (h:j<xs.length),j<i+1->xs[j].all Ck=true:=by
        intro h j hj hji;rcases zo j i with h1|h1
        ·exact hall j hj h1
        ·have:j=i:=by omega
         subst this;exact h
       have htk:Hy (xs.take (i+1))=(if xs.take i=[] then [] else acc++[58])++Bp xs[i]:=by
        rw[qz hlt',XL,hacc]
       have htn:xs.take i=[]↔i=0:=by
        rw[List.take_eq_nil_iff]
        constructor
        ·rintro(h|h)
         ·exact h
         ·rw[h] at hxp;simp at hxp
        ·exact fun h=>.inl h
       have hdq:=hdec _ (zy hlt');have hdl3:(An xs[i]).2.length<=4096:=by
        have h2:(An xs[i]).2.length<=xs[i].length:=by
         rw[Ej (by omega)] at hdq ⊢;exact Vm _ hdq
        omega
       have hpl:(Ax (An xs[i]).2).length<=13000:=by
        have h1:=Qr (An xs[i]).2;omega
       clear hk hid hall hacc hxs hdec;have hpe:Bp xs[i]=Ax (An xs[i]).2:=rfl;generalize xs[i]=q at *;simp only[Aa,z6,z7,z8,j4,j5,j6,j7,j8,j9,x0,x3,x4,x5,x6,x7,reduceCtorEq,↓reduceIte,zb,hlen,t0,t2,t4,t5,t10,t61,t62,t63,hlt];refine⟨⟨by omega,by simp⟩,?_⟩;rw[qv,hx];simp only[Aa,z6,z7,z8,j4,j5,j6,j7,j8,j9,x0,x3,x4,x5,x6,x7,reduceCtorEq,↓reduceIte,zb,hlen,t0,t2,t4,t5,t10,t61,t62,t63];refine BI (fun n objs tm=>∃k:Nat,k<=q.length/\n=q.length - k/\objs=[.box 119 [.s [],.s []]]/\(∀j (h:j<q.length),j<k->Ck q[j]=true)/\tm.length=113/\tm[0]? = some (.s r)/\tm[2]? = some (.p 0 0)/\tm[4]? = some (.i .i64 ix)/\tm[5]? = some (.row xs.length (xs.map .s))/\tm[10]? = some (.s acc)/\tm[11]? = some (.i .i64 i)/\tm[12]? = some (.s q)/\tm[13]? = some (.i .i64 k)/\tm[61]? = some (.row xs.length (xs.map .s))/\tm[62]? = some (.i .i64 xs.length)/\tm[63]? = some (.i .i64 i)) q.length ⟨0,ze _,rfl,rfl,fun j h h0=>absurd h0 (by omega),(by simp only[Aa,z6,z7,z8,j4,j5,j6,j7,j8,j9,x0,x3,x4,x5,x6,x7,reduceCtorEq,↓reduceIte,zb,hlen];try rfl),(by simp only[Aa,z6,z7,z8,j4,j5,j6,j7,j8,j9,x0,x3,x4,x5,x6,x7,reduceCtorEq,↓reduceIte,zb,hlen,t0];try rfl),(by simp only[Aa,z6,z7,z8,j4,j5,j6,j7,j8,j9,x0,x3,x4,x5,x6,x7,reduceCtorEq,↓reduceIte,zb,hlen,t2];try rfl),(by simp only[Aa,z6,z7,z8,j4,j5,j6,j7,j8,j9,x0,x3,x4,x5,x6,x7,reduceCtorEq,↓reduceIte,zb,hlen,t4];try rfl),(by simp only[Aa,z6,z7,z8,j4,j5,j6,j7,j8,j9,x0,x3,x4,x5,x6,x7,reduceCtorEq,↓reduceIte,zb,hlen,t5];try rfl),(by simp only[Aa,z6,z7,z8,j4,j5,j6,j7,j8,j9,x0,x3,x4,x5,x6,x7,reduceCtorEq,↓reduceIte,zb,hlen,t10];try rfl),(by simp only[Aa,z6,z7,z8,j4,j5,j6,j7,j8,j9,x0,x3,x4,x5,x6,x7,reduceCtorEq,↓reduceIte,zb,hlen];try rfl),(by simp only[Aa,z6,z7,z8,j4,j5,j6,j7,j8,j9,x0,x3,x4,x5,x6,x7,reduceCtorEq,↓reduceIte,zb,hlen];try rfl),(by simp only[Aa,z6,z7,z8,j4,j5,j6,j7,j8,j9,x0,x3,x4,x5,x6,x7,reduceCtorEq,↓reduceIte,zb,hlen];try rfl),(by simp only[Aa,z6,z7,z8,j4,j5,j6,j7,j8,j9,x0,x3,x4,x5,x6,x7,reduceCtorEq,↓reduceIte,zb,hlen,t61];try rfl),(by simp only[Aa,z6,z7,z8,j4,j5,j6,j7,j8,j9,x0,x3,x4,x5,x6,x7,reduceCtorEq,↓reduceIte,zb,hlen,t62];try rfl),(by simp only[Aa,z6,z7,z8,j4,j5,j6,j7,j8,j9,x0,x3,x4,x5,x6,x7,reduceCtorEq,↓reduceIte,zb,hlen,t63];try rfl)⟩ ?_;clear hx t0 t2 t4 t5 t10 t61 t62 t63 hlen tm;rintro n _ tm ⟨k,hk1,rfl,rfl,hall,hlen,t0,t2,t4,t5,t10,t11,t12,t13,t61,t62,t63⟩
       by_cases hkl:(k:Int)<q.length
       ·have hkl':k<q.length:=by omega
        have hg:=GJ hkl';have hbad:Ck q[k]=false->K objs (.tup [.agg [.s [],.s []],.i .i64 1]):=fun h=>hni (Kz hkl' h);have hgood:Ck q[k]=true->∀j (h:j<q.length),j<k+1->Ck q[j]=true:=by
         intro h j hj hji;rcases zo j k with h1|h1
         ·exact hall j hj h1
         ·have:j=k:=by omega
          subst this;exact h
        generalize q[k]=c at *;have hpp:=pZ c;simp only[Aa,z6,z7,z8,j4,j5,j6,j7,j8,j9,x0,x3,x4,x5,x6,x7,reduceCtorEq,↓reduceIte,zb,hlen,t0,t2,t4,t5,t10,t11,t12,t13,t61,t62,t63,hkl,hg];refine⟨by omega,?_⟩;refine Ai (R1 c ?_)
        by_cases hid:B4 c=true
        ·simp only[Aa,z6,z7,z8,j4,j5,j6,j7,j8,j9,x0,x3,x4,x5,x6,x7,reduceCtorEq,↓reduceIte,zb,hlen,t0,t2,t4,t5,t10,t11,t12,t13,t61,t62,t63,hg,hid];have hpt:Ck c=true:=by rw[hpp,hid,Bool.or_true]
         exact⟨⟨by omega,by omega⟩,q.length - (k+1),by omega,k+1,by omega,rfl,hgood hpt,rfl⟩
        ·simp only[Bool.not_eq_true] at hid;rw[hid,Bool.or_false] at hpp
         by_cases h37:c=37
         ·have e37:((c.toNat:Nat):Int)=37:=by rw[h37];rfl
          have hpt:Ck c=true:=by rw[hpp,h37];rfl
          simp only[Aa,z6,z7,z8,j4,j5,j6,j7,j8,j9,x0,x3,x4,x5,x6,x7,reduceCtorEq,↓reduceIte,zb,hlen,t0,t2,t4,t5,t10,t11,t12,t13,t61,t62,t63,hg,hid,e37];exact⟨⟨by omega,by omega⟩,⟨by omega,by omega⟩,q.length - (k+1),by omega,k+1,by omega,rfl,hgood hpt,rfl⟩
         ·have e37:¬((c.toNat:Nat):Int)=37:=fun e=>h37 (UInt8.toNat_inj.1 (by have:(37:UInt8).toNat=37:=rfl;omega));have hpf:Ck c=false:=by rw[hpp];simpa using h37
          simp only[Aa,z6,z7,z8,j4,j5,j6,j7,j8,j9,x0,x3,x4,x5,x6,x7,reduceCtorEq,↓reduceIte,zb,hlen,t0,t2,t4,t5,t10,t11,t12,t13,t61,t62,t63,hg,hid,e37];exact⟨⟨by omega,by omega⟩,hbad hpf⟩
       ·have hqa:q.all Ck=true:=Kt fun j h=>hall j h (by omega);simp only[Aa,z6,z7,z8,j4,j5,j6,j7,j8,j9,x0,x3,x4,x5,x6,x7,reduceCtorEq,↓reduceIte,zb,hlen,t0,t2,t4,t5,t10,t11,t12,t13,t61,t62,t63,hkl];refine Ai (ID q ?_)
        by_cases hi0:i=0
        ·subst hi0;have hgt:¬(0:Int)<((0:Nat):Int):=by decide
         rw[if_pos (htn.2 rfl)] at htk;have hac:acc.length<=0:=by omega
         obtain rfl:acc=[]:=qd (by omega);simp only[Aa,z6,z7,z8,j4,j5,j6,j7,j8,j9,x0,x3,x4,x5,x6,x7,reduceCtorEq,↓reduceIte,zb,hlen,t0,t2,t4,t5,t10,t11,t12,t13,t61,t62,t63,hgt];refine Ai (Lx _ (by omega) ?_);simp only[Aa,z6,z7,z8,j4,j5,j6,j7,j8,j9,x0,x3,x4,x5,x6,x7,reduceCtorEq,↓reduceIte,zb,hlen,t0,t2,t4,t5,t10,t11,t12,t13,t61,t62,t63];exact⟨by omega,⟨by omega,by omega⟩,xs.length - 1,by omega,1,_,by omega,rfl,hnext hqa,by rw[htk,hpe];rfl,by omega,rfl,rfl⟩
        ·have hgt:(0:Int)<((i:Nat):Int):=by omega
         rw[if_neg (fun h=>hi0 (htn.1 h))] at htk;simp only[Aa,z6,z7,z8,j4,j5,j6,j7,j8,j9,x0,x3,x4,x5,x6,x7,reduceCtorEq,↓reduceIte,zb,hlen,t0,t2,t4,t5,t10,t11,t12,t13,t61,t62,t63,hgt];have hib:i*20000<=100000000:=by omega
         refine⟨by omega,?_⟩;refine Ai (Lx _ (by omega) ?_);simp only[Aa,z6,z7,z8,j4,j5,j6,j7,j8,j9,x0,x3,x4,x5,x6,x7,reduceCtorEq,↓reduceIte,zb,hlen,t0,t2,t4,t5,t10,t11,t12,t13,t61,t62,t63];exact⟨by omega,⟨by omega,by omega⟩,xs.length - (i+1),by omega,i+1,_,by omega,rfl,hnext hqa,by rw[htk,hpe],by simp only[zf,zj,qo];omega,rfl,rfl⟩
      ·have hie:i=xs.length:=by omega
       subst hie;have hal2:(xs.all fun q=>q.all Ck)=true:=zl.2 (PW fun j h=>hall j h h);rw[if_neg (by rw[hal2];simp)] at hid;have hlast:xs.getLastD []=xs[xs.length - 1]:=T9 xs [] hxp;have hxn:(xs.map AV.s)[((xs.length:Int) - 1).toNat*1]? = some (.s xs[xs.length - 1]):=by
        rw[show ((xs.length:Int) - 1).toNat*1=xs.length - 1 by omega,List.getElem?_map,List.getElem?_eq_getElem (by omega)];rfl
       rw[qe] at hacc;simp only[Aa,z6,z7,z8,j4,j5,j6,j7,j8,j9,x0,x3,x4,x5,x6,x7,reduceCtorEq,↓reduceIte,zb,hlen,t0,t2,t4,t5,t10,t61,t62,t63,hlt];refine⟨⟨by omega,by omega⟩,⟨by omega,by omega,by simp⟩,?_⟩;rw[hxn];rw[hlast] at hid
       by_cases hz:xs[xs.length - 1]=[]
       ·rw[if_pos hz] at hid;rw[hid] at hk;simp only[Aa,z6,z7,z8,j4,j5,j6,j7,j8,j9,x0,x3,x4,x5,x6,x7,reduceCtorEq,↓reduceIte,zb,hlen,t0,t2,t4,t5,t10,t61,t62,t63,hz] at hk ⊢;exact hk
       ·rw[if_neg hz] at hid;rw[hid] at hk;simp only[Aa,z6,z7,z8,j4,j5,j6,j7,j8,j9,x0,x3,x4,x5,x6,x7,reduceCtorEq,↓reduceIte] at hk;simp only[Aa,z6,z7,z8,j4,j5,j6,j7,j8,j9,x0,x3,x4,x5,x6,x7,reduceCtorEq,↓reduceIte,zb,hlen,t0,t2,t4,t5,t10,t61,t62,t63,hz];refine⟨⟨by omega,by omega⟩,?_⟩;rw[hacc];exact hk
    ·simp only[c2,Aa,z6,z7,z8,j4,j5,j6,j7,j8,j9,x0,x3,x4,x5,x6,x7,reduceCtorEq,↓reduceIte] at hk ⊢;exact hk
   ·have e58:=c58.2 h58;rw[e58] at hk;have hne:((At r [58]:Nat):Int)=((r.length:Nat):Int):=by omega
    simp only[hne,Aa,z6,z7,z8,j4,j5,j6,j7,j8,j9,x0,x3,x4,x5,x6,x7,reduceCtorEq,↓reduceIte] at hk ⊢;exact hk
  ·simp only[c1,Aa,z6,z7,z8,j4,j5,j6,j7,j8,j9,x0,x3,x4,x5,x6,x7,reduceCtorEq,↓reduceIte] at hk ⊢;exact hk
end
section
variable [Tabs Tryz.prog] {objs:List OB} {K:List OB->AV->Prop}
end
theorem Yh {u:UrlP} {r:List UInt8×List UInt8} (h:CZ u=(0,r)):r.2.length<=4096:=by
 unfold CZ at h
 split at h
 ·cases h
 ·split at h
  ·cases h
  ·split at h
   ·cases h
   ·split at h
    ·cases h
    ·rename_i g;injection h with _ h
     subst h;have:(AB BR (Cp u)).length=(Cp u).length+8:=by simp[AB,Ca,BR]
     show (Cp u).length<=_;omega
theorem bQ {m i:List UInt8} (hi:i.length<=13000) (h:(BF m i).1=0):Dg (BF m i).2:=by
 have e:BF m i=(0,(BF m i).2):=by rw[<-h]
 obtain⟨_,_,_,k4,_,k6⟩:=Mo e;rw[k6];exact Ln hi (by rw[k4])
section
variable [Tabs Tryz.prog] [Shp Tryz.prog] [Pow Tryz.prog] {objs:List OB} {K:List OB->AV->Prop}
end
theorem oB {m i:List UInt8} (h:(AS m i).1≠0):(AS m i).2=([],0):=by
 unfold AS at h ⊢
 split
 ·rfl
 ·rename_i g1;rw[if_neg g1] at h
  split
  ·rfl
  ·rename_i g2;rw[if_neg g2] at h;exact mX h
def Kh (m i:List UInt8):AV:=if m=BR/\(AY (AB m i)).1=0 then .row (Ap 58 i).length ((Ap 58 i).map .s) else .nil
theorem X7 {m i:List UInt8} (h:(AS m i).1=0):m=BR/\(AY (AB m i)).1=0/\∀q∈Ap 58 i,(An q).1=0:=by
 unfold AS at h
 split at h
 ·cases h
 ·rename_i g1;simp only[ne_eq,Decidable.not_not] at g1
  split at h
  ·rename_i g2;exact absurd h g2
  ·rename_i g2;simp only[ne_eq,Decidable.not_not] at g2;exact⟨g1,g2,(MY g1 g2).2⟩
theorem SY:∀l:List (List UInt8),AK (l.map AV.s)=true
 | []=>rfl
 | x::l=>by simp only[zu,AK,AV.plain,SY l,Bool.and_self]
theorem Z4 {u:UrlP} (h:DO u=true):∀x∈EN u,x.length<=4096/\((x.all Dn=false\/(An x).2=[])->BC x=false)/\(x.all Dn=true->(An x).2≠[]->BC x=true/\DK x=58::Ax (An x).2):=by
 have hc:=Nn h;obtain⟨m,hm,hms,hp⟩:=hc.path;have hsp:EN u=m:=by
  unfold EN;rw[hp,Lm m (fun x hx=>(hms x hx).1.1)];rfl
 rw[hsp];intro x hx;have hl:x.length<=4096:=by
  have h1:=IG u;have h2:=hc.len;have h3:x.length<=(jn m).length:=by
   obtain⟨a,b,rfl⟩:=List.append_of_mem hx;rw[Lb,D2];simp;omega
  rw[hp] at h1;omega
 have hcn:=(hms x hx).2;have hd0:(An x).1=0:=by
  have hn:=hcn.norm (by omega);obtain⟨a,h1,_⟩:=(EC _ _ _ hn).2.1;rw[h1]
 refine⟨hl,fun h1=>?_,fun h1 h2=>?_⟩
 ·unfold BC
  cases hx0:decide ((Aj x []).1=0) with
  | false=>rfl
  | true=>
   rw[decide_eq_true_eq,JP (by omega)] at hx0;rcases h1 with h1|h1
   ·rw[h1] at hx0;exact absurd hx0.2 (by decide)
   ·have:=(MC hcn (by omega) hx0.2).2;rw[h1] at this;rw[<-this];rfl
 ·have hn:(Aj x []).1=0:=(JP (by omega)).2 ⟨hd0,h1⟩;have hne:x≠[]:=by
   rintro rfl;exact h2 rfl
  refine⟨by unfold BC;rw[hn];simp[hne],?_⟩;unfold DK;rw[S9 hn,NL]
def D9 (u:UrlP) (l:List (List UInt8)):List UInt8:=BP u.host u.port++(if u.path=Cb then [] else l.flatMap fun x=>58::Ax (An x).2)
theorem RA (u:UrlP) (l:List (List UInt8)) (x:List UInt8):D9 u (l++[x])=if u.path=Cb then D9 u l else D9 u l++58::Ax (An x).2:=by
 unfold D9
 split
 ·rfl
 ·rw[xi];simp
theorem KQ (u:UrlP) (l:List (List UInt8)):(D9 u l).length<=(BP u.host u.port).length+3*(l.flatMap fun x=>(1:UInt8)::x).length:=by
 unfold D9;rw[zf]
 split
 ·simp
 ·have:(l.flatMap fun x=>58::Ax (An x).2).length<=3*(l.flatMap fun x=>(1:UInt8)::x).length:=by
   induction l with
   | nil=>simp
   | cons x l ih=>
    have h1:=JG (An x).2;have h2:=F2 x;simp only[qp,zf,zj];omega
  omega
theorem Q2:∀l:List (List UInt8),(∀x∈l,BC x=true/\DK x=58::Ax (An x).2)->(l.flatMap fun x=>58::Ax (An x).2)=Cv l
 | [],_=>rfl
 | x::l,h=>by
  unfold Cv;rw[qp,qp,(h x (by simp)).2,Q2 l (fun y hy=>h y (by simp[hy]))];rfl
theorem Ky {u:UrlP} {l:List (List UInt8)} (h:∀x∈l,BC x=true/\DK x=58::Ax (An x).2):D9 u l=BP u.host u.port++(if u.path=Cb then [] else Cv l):=by
 unfold D9;rw[Q2 l h]
theorem qG (x:List UInt8):Do x=!(decide ((An x).2=[])||decide ((An x).2=[46])||decide ((An x).2=[46,46])):=rfl
section
variable [Tabs Tryz.prog] {objs:List OB} {K:List OB->AV->Prop}
theorem Sp (m i:List UInt8) (hm:m.length<=13000) (hi:i.length<=13000) (hk:K objs (.tup [Kh m i,Bt (AS m i).2.1 (AS m i).2.2,.i .i64 (AS m i).1])):Ag Tryz.prog 110 [.agg [.s m,.s i]] objs K:=by
 have hmx:maxLen=2 ^ 63 - 1:=rfl;refine AC gN rfl fun C _=>?_;unfold AS Kh at hk
 by_cases c0:m=BR
 ·subst c0;have hw:BR=[119,101,98]:=rfl;simp only[ne_eq,not_true_eq_false,if_false,true_and] at hk;simp only[hw] at hk;simp only[hw,Oh,Aa,simprocAttr];refine Ai (LA _ _ (by decide) (by omega) ?_);simp only[Aa,simprocAttr];refine Ai (Tt _ (by simp only[AB,Ca,zf,zj,qo];omega) ?_);have hf:=MY (m:=BR) (i:=i) rfl;rw[hw] at hf;generalize AY (AB [119,101,98] i)=q at *;obtain⟨e,d1,d2⟩:=q;simp only at hf hk ⊢
  by_cases c1:e=0
  ·subst c1;simp only[not_true_eq_false,if_false,if_true] at hk;simp only[Aa,simprocAttr];refine Ai (MR i 58 (by omega) ?_);have hpos:=EV 58 i;have hcs:=Nl 58 i;have hl2:=(Da 58 i).1;obtain⟨p,ps,hs⟩:=Cj 58 i;rw[hs] at hcs;simp only[List.headD_cons] at hcs;rw[hcs] at hk hl2;rw[hs] at hk ⊢;simp only[Aa,simprocAttr];refine⟨by simp,?_⟩;refine Ai (ID p ?_);have hl1:=F2 p;simp only[Aa,simprocAttr];refine Ai (R4 _ (by omega) ?_);have e1:=SY ps;simp only[zj,zu,Bt] at hk;simp only[Bt,e1,Aa,simprocAttr];exact hk
  ·simp only[c1,not_false_eq_true,if_true,if_false] at hk;simp only[c1,Aa,simprocAttr];exact hk
 ·have c0':¬m=[119,101,98]:=c0;simp only[c0,ne_eq,not_false_eq_true,if_true,false_and,if_false] at hk;simp only[c0',Oh,Aa,simprocAttr];exact hk
theorem ZX (m i:List UInt8) (hm:m.length<=13000) (hi:i.length<=13000) (hk:K objs (.tup [Bt (AS m i).2.1 (AS m i).2.2,.i .i64 (AS m i).1])):Ag Tryz.prog 79 [.agg [.s m,.s i]] objs K:=by
 refine AC jA rfl fun C _=>?_;simp only[Uo,Aa,simprocAttr];refine Ai (Sp m i hm hi ?_);simp only[Bt,Aa,simprocAttr];exact hk
set_option maxHeartbeats 1000000 in
theorem cZ (m i:List UInt8) (hm:m.length<=13000) (hi:i.length<=13000) (hk:K objs (.tup [A3 (BF m i).2,.i .i64 (BF m i).1])):Ag Tryz.prog 108 [.agg [.s m,.s i]] objs K:=by
 refine AC gM rfl fun C _=>?_;simp only[TG,Aa,simprocAttr];refine Ai (Sp m i hm hi ?_);unfold BF at hk
 by_cases c0:(AS m i).1=0
 ·obtain⟨p1,p2,p3⟩:=X7 c0;have hrow:Kh m i=.row (Ap 58 i).length ((Ap 58 i).map .s):=by unfold Kh;rw[if_pos ⟨p1,p2⟩]
  have hsh:=Ln hi c0;have hpos:=EV 58 i;have htail:=Jv 58 i;have hlen:(Ap 58 i).length - 1=(Ap 58 i).tail.length:=by simp
  have hlen2:(Ap 58 i).length=(Ap 58 i).tail.length+1:=by rw[<-hlen];omega
  have hp3:∀q∈(Ap 58 i).tail,(An q).1=0:=fun q hq=>p3 q (List.mem_of_mem_tail hq);simp only[c0,ne_eq,not_true_eq_false,if_false] at hk;simp only[c0,hrow,Bt,Aa,simprocAttr,qv,K3];refine⟨by omega,?_⟩;have hU:GO m i=⟨(AS m i).2.1,(AS m i).2.2,Ee (Ap 58 i).tail,[],[],false,false⟩:=rfl;rw[hlen];generalize (Ap 58 i).tail=segs at *;have hmem:∀x∈segs,x.length+1<=(segs.flatMap fun x=>(1:UInt8)::x).length:=by
   intro x hx;obtain⟨p,q,rfl⟩:=List.append_of_mem hx;simp only[xi,qp,zf,zj];omega
  have hls:=KK segs;refine BI (fun n objs tm=>∃j:Nat,j<=segs.length/\n=segs.length - j/\objs=[.box 119 [.s m,.s i],.box 79 [.s [],.i .i64 0,.s [],.s [],.s [],.b false,.b false],.box 124 [.s (AS m i).2.1,.i .i64 (AS m i).2.2]]/\(segs.take j).all Do=true /\
   tm.length=68/\tm[2]? = some (.p 1 0)/\tm[4]? = some (.row (Ap 58 i).length ((Ap 58 i).map .s))/\tm[5]? = some (.p 2 0)/\tm[7]? = some (.s (B8 (segs.take j)))/\tm[24]? = some (.row segs.length (segs.map .s))/\tm[25]? = some (.i .i64 segs.length)/\tm[26]? = some (.i .i64 j)) segs.length
   ⟨0,ze _,rfl,rfl,by simp,rfl,rfl,rfl,rfl,rfl,rfl,rfl,rfl⟩ ?_
  rintro n o tm ⟨j,hj,rfl,rfl,hok,hl,t2,t4,t5,t7,t24,t25,t26⟩
  by_cases hlt:(j:Int)<segs.length
  ·have hlt':j<segs.length:=by omega
   have hg:(segs.map AV.s)[j]? = some (.s segs[j]):=by simp[hlt']
   have hx:=hmem segs[j] (zy hlt');have hdl:=F2 segs[j];have hsf:(B8 (segs.take j)).length<=100000:=by
    have h2:=Iy (segs.take j);have h3:=congrArg qx (Jw (l:=segs) j fun x=>(1:UInt8)::x);rw[zf] at h3;omega
   have hnext:=Su hlt';have hallt:Do segs[j]=true->(segs.take (j+1)).all Do=true:=fun e=>by rw[MM hlt',hok,e];rfl
   have hbad:Do segs[j]=false->segs.all Do=false:=Jd hlt';rw[qG] at hallt hbad;unfold FP at hnext;simp only[Aa,simprocAttr,zb,hl,t2,t4,t5,t7,t24,t25,t26,hlt,qv,zm,hg,qn];refine⟨by omega,?_⟩;refine Ai (ID segs[j] ?_);generalize (An segs[j]).2=d at *;generalize (An segs[j]).1=e
   by_cases c2:d=[]
   ·rw[hbad (by rw[c2];rfl)] at hk;simp only[c2,Aa,simprocAttr,zb,hl,t2,t4,t5,t7,t24,t25,t26];exact hk
   ·by_cases c3:d=[46]
    ·rw[hbad (by rw[c3];decide)] at hk;simp only[c3,Aa,simprocAttr,zb,hl,t2,t4,t5,t7,t24,t25,t26];exact hk
    ·by_cases c4:d=[46,46]
     ·have n1:¬([46,46]:List UInt8)=[46]:=by decide
      rw[hbad (by rw[c4];decide)] at hk;simp only[c4,n1,Aa,simprocAttr,zb,hl,t2,t4,t5,t7,t24,t25,t26];exact hk
     ·simp only[c2,c3,c4,Aa,simprocAttr,zb,hl,t2,t4,t5,t7,t24,t25,t26];refine Ai (dG d [] (by omega) (by decide) ?_);have hel:=Hq d [];simp only[Aa,simprocAttr,zb,hl,t2,t4,t5,t7,t24,t25,t26];refine⟨by omega,by omega,⟨by omega,by omega⟩,segs.length - (j+1),by omega,j+1,by omega,rfl,hallt (by simp[c2,c3,c4]),by rw[hnext],rfl⟩
  ·obtain rfl:j=segs.length:=by omega
   rw[qe] at hok t7;rw[hok] at hk;simp only[Bool.true_eq_false,if_false] at hk;have hsl:=Iy segs
   by_cases ht:segs=[]
   ·subst ht;have e1:((Ap 58 i).length:Int)=1:=by rw[hlen2];rfl
    rw[show Ee []=Cb from rfl] at hU;rw[hU] at hsh hk;generalize hu:(⟨(AS m i).2.1,(AS m i).2.2,Cb,[],[],false,false⟩:UrlP)=u at hsh hk;have ez:¬((0:Nat):Int)<((0:Nat):Int):=by omega
    have hwk:([47,46,119,101,108,108,45,107,110,111,119,110]++[47,100,105,100,46,106,115,111,110]:List UInt8)=Cb:=by decide
    simp only[Aa,simprocAttr,zb,hl,t2,t4,t5,t7,t24,t25,t26,hlt,ez,e1,hwk];refine Ai (show Ag _ _ [A3 ⟨(AS m i).2.1,(AS m i).2.2,Cb,[],[],false,false⟩] _ _ from hu▸IE u hsh ?_)
    by_cases c1:(4096:Int)<(Bi u).length
    ·have c1':4096<(Bi u).length:=by omega
     rw[if_pos c1'] at hk;simp only[c1,Aa,simprocAttr,zb,hl,t2,t4,t5,t7,t24,t25,t26];exact hk
    ·have c1':¬4096<(Bi u).length:=by omega
     rw[if_neg c1'] at hk;simp only[c1,Aa,simprocAttr,zb,hl,t2,t4,t5,t7,t24,t25,t26];subst hu;exact hk
   ·have hp:=List.length_pos_iff.2 ht;have e1:¬((Ap 58 i).length:Int)=1:=by omega
    rw[show Ee segs=B8 segs++47::CE by unfold Ee;rw[if_neg ht]] at hU;rw[hU] at hsh hk;have hpa:B8 segs++[47,100,105,100,46,106,115,111,110]=B8 segs++47::CE:=rfl;simp only[Aa,simprocAttr,zb,hl,t2,t4,t5,t7,t24,t25,t26,hlt,e1,hpa];refine⟨by omega,?_⟩;refine Ai (IE _ hsh ?_);generalize hu:(⟨(AS m i).2.1,(AS m i).2.2,B8 segs++47::CE,[],[],false,false⟩:UrlP)=u at hsh hk ⊢
    by_cases c1:(4096:Int)<(Bi u).length
    ·have c1':4096<(Bi u).length:=by omega
     rw[if_pos c1'] at hk;simp only[c1,Aa,simprocAttr,zb,hl,t2,t4,t5,t7,t24,t25,t26];exact hk
    ·have c1':¬4096<(Bi u).length:=by omega
     rw[if_neg c1'] at hk;simp only[c1,Aa,simprocAttr,zb,hl,t2,t4,t5,t7,t24,t25,t26];subst hu;exact hk
 ·have hz:=oB c0;simp only[c0,ne_eq,not_false_eq_true,if_true] at hk;simp only[c0,Bt,Aa,simprocAttr];exact hk
end
theorem RC {p:UInt8->Bool} {x:List UInt8} {k:Nat} (h:k<x.length):(x.take (k+1)).all p=((x.take k).all p&&p x[k]):=by
 rw[qz h,xo];simp
theorem QH {p:UInt8->Bool} {x:List UInt8} {k:Nat} (h:k<x.length) (hp:p x[k]=false):x.all p=false:=by
 rw[Bool.eq_false_iff];intro e;rw[zl.1 e _ (zy h)] at hp;cases hp
section
variable [Tabs Tryz.prog] {objs:List OB} {K:List OB->AV->Prop}
theorem QT (c:UInt8) (hk:K objs (.b (A4 c))):Ag Tryz.prog 70 [.i .u8 c.toNat] objs K :=
 FU (vs:=[.int .u8 c.toNat]) rfl rfl (fun w=>ED c w) hk
set_option maxHeartbeats 2000000 in
theorem eY (u:UrlP) (hu:Dg u) (hk:K objs (.tup [.agg [.s (CZ u).2.1,.s (CZ u).2.2],.i .i64 (CZ u).1])):Ag Tryz.prog 109 [A3 u] objs K:=by
 refine AC iV rfl fun C _=>?_;simp only[Ud,A3,Aa,simprocAttr];refine Ai (Z3 u hu ?_);unfold CZ at hk
 by_cases c0:DO u=true
 ·obtain⟨init,z,hseg⟩:=QL c0;have hsf:=Z4 c0;have hlen:=RM c0;have hpl:=IG u;have hsum:=Jv 47 u.path;have hst:(Ap 47 u.path).tail=init++[z]:=hseg;have hln:(Ap 47 u.path).length - 1=init.length+1:=by
   have:=congrArg qx hst;simpa using this
  have hpos:=EV 47 u.path;rw[hst] at hsum;rw[hseg] at hsf;have hid:Cp u=BP u.host u.port++(if u.path=Cb then [] else Cv init):=by
   unfold Cp;rw[hseg];simp
  have hhl:u.host.length<=1000000:=hu.1;simp only[c0,Bool.true_eq_false,if_false,hseg,List.getLastD_concat,List.dropLast_concat,hid] at hk;simp only[c0,Aa,simprocAttr];refine Ai (MR u.path 47 (by omega) ?_);simp only[Aa,simprocAttr,qv,K3,hst,hln];have hls:=KK (init++[z]);rw[zf,List.length_singleton] at hls;refine⟨by omega,?_⟩;have e1:((init.length+1:Nat):Int) - 1=init.length:=by omega
  have hz:((init++[z]).map AV.s)[init.length]? = some (.s z):=by simp
  have htk:((init++[z]).map AV.s).take init.length=init.map AV.s:=by simp
  have hsi:(init.flatMap fun x=>(1:UInt8)::x).length<=16384:=by
   rw[xi,zf] at hsum;omega
  cases hq:u.hq with
  | true=>
   simp only[hq,true_or,if_true] at hk;simp only[Aa,simprocAttr];exact hk
  | false=>
   cases hf:u.hf with
   | true=>
    simp only[hf,true_or,or_true,if_true] at hk;simp only[Aa,simprocAttr];exact hk
   | false=>
    simp only[Aa,simprocAttr,e1,zm,qv,hz];refine⟨by omega,by simp;omega,?_⟩
    by_cases c1:z=CE
    ·simp only[hq,hf,c1,Bool.false_eq_true,not_true_eq_false,or_self,if_false] at hk;have c1':¬¬z=[100,105,100,46,106,115,111,110]:=fun h=>h c1;simp only[c1',Aa,simprocAttr,e1,zm,qv,htk];refine⟨by omega,by omega,?_⟩
     by_cases c4:init=[]
     ·subst c4;have ez:((0:Nat):Int)=0:=rfl
      by_cases c2:u.path=Cb
      ·-- a well-known path has a segment ahead of its last one
       exfalso;have:=congrArg qx hst;rw[c2] at this;have hw:(Ap 47 Cb).tail.length=2:=by decide
       rw[hw] at this;simp at this
      ·simp only[c2,not_false_eq_true,true_and,true_or,if_true] at hk;simp only[ez,Aa,simprocAttr];exact hk
     ·have c4':¬((init.length:Nat):Int)=0:=by
       have:=List.length_pos_iff.2 c4;omega
      simp only[c4,false_or] at hk;have hil:=Lib.itoa_length_le u.port hu.2.1 hu.2.2.1;have hhp:=PG u.host u.port hu.2.1 hu.2.2.1;have hall:(¬u.path=Cb/\init.all BC=false)↔init.all BC=false:=by
       refine⟨fun h=>h.2,fun h=>⟨fun e=>?_,h⟩⟩;have hw:(Ap 47 Cb).tail=[GN]++[CE]:=by decide
       rw[e,hw] at hst;obtain⟨h1,_⟩:=List.append_inj' hst (by simp);rw[<-h1] at h;exact absurd h (by decide)
      simp only[hall] at hk;have hmem:∀x∈init,x.length+1<=(init.flatMap fun x=>(1:UInt8)::x).length:=by
       intro x hx;obtain⟨p,q,rfl⟩:=List.append_of_mem hx;simp only[xi,qp,zf,zj];omega
      have hls2:=KK init;have hacc0:D9 u []=BP u.host u.port:=by unfold D9;simp
      by_cases cp:u.port=0
      ·have hp0:BP u.host u.port=u.host:=by unfold BP;rw[if_pos cp]
       rw[hp0] at hacc0;simp only[c4',cp,Aa,simprocAttr];refine BI (fun n objs tm=>∃j:Nat,j<=init.length/\n=init.length - j/\objs=[.box 79 [.s u.host,.i .i64 u.port,.s u.path,.s u.query,.s u.frag,.b false,.b false],.box 119 [.s [],.s []]]/\(∀x∈init.take j,BC x=true/\DK x=58::Ax (An x).2) /\
        tm.length=105/\tm[1]? = some (.p 0 0)/\tm[2]? = some (.p 1 0)/\tm[5]? = some (.s (D9 u (init.take j)))/\tm[56]? = some (.row init.length (init.map .s))/\tm[57]? = some (.i .i64 init.length)/\tm[58]? = some (.i .i64 j)) init.length
        ⟨0,ze _,rfl,by rw[cp],by simp,rfl,rfl,rfl,by rw[xg,hacc0];rfl,rfl,rfl,rfl⟩ ?_
       rintro n o tm ⟨j,hj,rfl,rfl,hgood,hl,t1,t2,t5,t56,t57,t58⟩
       by_cases hlt:(j:Int)<init.length
       ·have hlt':j<init.length:=by omega
        have hg:(init.map AV.s)[j]? = some (.s init[j]):=by simp[hlt']
        have hx:=hmem init[j] (zy hlt');obtain⟨f1,f2,f3⟩:=hsf init[j] (xf _ (zy hlt'));have hbad:BC init[j]=false->init.all BC=false:=Jd hlt';have hacl:=KQ u (init.take j);have h3:=congrArg qx (Jw (l:=init) j fun x=>(1:UInt8)::x);rw[zf] at h3;have hsn:init.take (j+1)=init.take j++[init[j]]:=qz hlt';simp only[Aa,simprocAttr,zb,hl,t1,t2,t5,t56,t57,t58,hlt,qv,zm,hg,qn];refine⟨by omega,?_⟩;generalize init[j]=x at *;refine BI (fun n objs tm=>∃k:Nat,k<=x.length/\n=x.length - k/\objs=[.box 79 [.s u.host,.i .i64 u.port,.s u.path,.s u.query,.s u.frag,.b false,.b false],.box 119 [.s [],.s []]]/\(x.take k).all Dn=true /\
         tm.length=105/\tm[1]? = some (.p 0 0)/\tm[2]? = some (.p 1 0)/\tm[5]? = some (.s (D9 u (init.take j)))/\tm[56]? = some (.row init.length (init.map .s))/\tm[57]? = some (.i .i64 init.length)/\tm[58]? = some (.i .i64 j)/\tm[7]? = some (.s x)/\tm[8]? = some (.i .i64 k)) x.length
         ⟨0,ze _,rfl,rfl,by simp,by simp only[zh,hl],by simp only[Aa,simprocAttr,zb,hl,t1],by simp only[Aa,simprocAttr,zb,hl,t2],by simp only[Aa,simprocAttr,zb,hl,t5],by simp only[Aa,simprocAttr,zb,hl,t56],by simp only[Aa,simprocAttr,zb,hl,t57],by simp only[Aa,simprocAttr,zb,hl,t58],by simp only[Aa,simprocAttr,zb,hl],by simp only[Aa,simprocAttr,zb,hl]<;>rfl⟩ ?_
        clear t1 t2 t5 t56 t57 t58 hl;rintro n o tm ⟨k,hk1,rfl,rfl,hall2,hl,t1,t2,t5,t56,t57,t58,t7,t8⟩
        by_cases hkx:(k:Int)<x.length
        ·have hkx':k<x.length:=by omega
         have hgx:=GJ hkx';have hub:Dn x[k]=(A4 x[k]||x[k]==37):=rfl;have hno:Dn x[k]=false->BC x=false:=fun e=>f2 (.inl (QH hkx' e));have hyes:Dn x[k]=true->(x.take (k+1)).all Dn=true:=fun e=>by rw[RC hkx',hall2,e];rfl
         simp only[Aa,simprocAttr,zb,hl,t1,t2,t5,t7,t8,t56,t57,t58,hkx,zm];refine⟨by omega,?_⟩;rw[hgx];refine Ai (QT x[k] ?_)
         by_cases hu1:A4 x[k]=true
         ·simp only[hu1,Aa,simprocAttr,zb,hl,t1,t2,t5,t7,t8,t56,t57,t58];exact⟨⟨by omega,by omega⟩,x.length - (k+1),by omega,k+1,by omega,rfl,hyes (by rw[hub,hu1];rfl),rfl⟩
         ·simp only[Bool.not_eq_true] at hu1
          by_cases h37:((x[k].toNat:Nat):Int)=37
          ·have h37':x[k]=37:=UInt8.toNat_inj.1 (by show x[k].toNat=37;omega);simp only[hu1,hgx,h37,Aa,simprocAttr,zb,hl,t1,t2,t5,t7,t8,t56,t57,t58,zm];exact⟨by omega,⟨by omega,by omega⟩,x.length - (k+1),by omega,k+1,by omega,rfl,hyes (by rw[hub,h37'];rfl),rfl⟩
          ·have h37':¬x[k]=37:=fun e=>h37 (by rw[e];rfl);rw[hbad (hno (by rw[hub,hu1];simpa using h37'))] at hk;simp only[hu1,hgx,h37,Aa,simprocAttr,zb,hl,t1,t2,t5,t7,t8,t56,t57,t58,zm];exact⟨by omega,hk⟩
        ·obtain rfl:k=x.length:=by omega
         rw[qe] at hall2;simp only[Aa,simprocAttr,zb,hl,t1,t2,t5,t7,t8,t56,t57,t58,hkx];refine Ai (ID x ?_);have hdl:=F2 x;have hsnoc:=RA u (init.take j) x;have hgd:(An x).2≠[]->∀y∈init.take (j+1),BC y=true/\DK y=58::Ax (An y).2:=fun e y hy=>by
          rw[hsn] at hy;rcases zq.1 hy with hy|hy
          ·exact hgood y hy
          ·simp only[zt,jk,or_false] at hy;subst hy;exact f3 hall2 e
         rw[<-hsn] at hsnoc;generalize (An x).1=e at *
         by_cases hd0:(An x).2=[]
         ·rw[hbad (f2 (.inr hd0))] at hk;simp only[hd0,Aa,simprocAttr,zb,hl,t1,t2,t5,t7,t8,t56,t57,t58];exact hk
         ·have hgd2:=hgd hd0
          by_cases c2:u.path=Cb
          ·have c2':u.path=[47,46,119,101,108,108,45,107,110,111,119,110,47,100,105,100,46,106,115,111,110]:=c2;rw[if_pos c2] at hsnoc;rw[<-hsnoc] at t5;have c3':¬¬u.path=[47,46,119,101,108,108,45,107,110,111,119,110,47,100,105,100,46,106,115,111,110]:=fun h=>h c2';simp only[hd0,c3',Aa,simprocAttr,zb,hl,t1,t2,t5,t7,t8,t56,t57,t58];exact⟨⟨by omega,by omega⟩,init.length - (j+1),by omega,j+1,by omega,rfl,hgd2,rfl,rfl⟩
          ·have c2':¬u.path=[47,46,119,101,108,108,45,107,110,111,119,110,47,100,105,100,46,106,115,111,110]:=c2;rw[if_neg c2] at hsnoc;have hel:=JG (An x).2;generalize (An x).2=d at *;simp only[hd0,c2',Aa,simprocAttr,zb,hl,t1,t2,t5,t7,t8,t56,t57,t58];refine Ai (Lx d (by omega) ?_);simp only[Aa,simprocAttr,zb,hl,t1,t2,t5,t7,t8,t56,t57,t58];exact⟨by omega,by omega,⟨by omega,by omega⟩,init.length - (j+1),by omega,j+1,by omega,rfl,hgd2,by rw[hsnoc],rfl⟩
       ·obtain rfl:j=init.length:=by omega
        rw[qe] at hgood t5;rw[Ky hgood] at t5;have hok:init.all BC=true:=zl.2 fun x hx=>(hgood x hx).1;rw[hok] at hk;simp only[Bool.true_eq_false,if_false] at hk;have hal:=KQ u init;rw[Ky hgood] at hal;generalize (BP u.host u.port++if u.path=Cb then [] else Cv init)=l at *;simp only[Aa,simprocAttr,zb,hl,t1,t2,t5,t56,t57,t58,hlt];refine Ai (LA _ _ (by decide) (by omega) ?_);have hw:BR=[119,101,98]:=rfl;rw[hw] at hk
        by_cases c3:(4096:Int)<(AB [119,101,98] l).length
        ·have c3':4096<(AB [119,101,98] l).length:=by omega
         rw[if_pos c3'] at hk;simp only[c3,Aa,simprocAttr,zb,hl,t1,t2,t5,t56,t57,t58];exact hk
        ·have c3':¬4096<(AB [119,101,98] l).length:=by omega
         rw[if_neg c3'] at hk;simp only[c3,Aa,simprocAttr,zb,hl,t1,t2,t5,t56,t57,t58];exact hk
      ·have hp0:BP u.host u.port=u.host++([37,51,65]++Lib.itoa u.port):=by unfold BP;rw[if_neg cp]
       rw[hp0] at hacc0;simp only[c4',cp,Aa,simprocAttr];refine Ai (S1 u.port hu.2.1 hu.2.2.1 ?_);simp only[Aa,simprocAttr];refine⟨by omega,by omega,?_⟩;refine BI (fun n objs tm=>∃j:Nat,j<=init.length/\n=init.length - j/\objs=[.box 79 [.s u.host,.i .i64 u.port,.s u.path,.s u.query,.s u.frag,.b false,.b false],.box 119 [.s [],.s []]]/\(∀x∈init.take j,BC x=true/\DK x=58::Ax (An x).2) /\
        tm.length=105/\tm[1]? = some (.p 0 0)/\tm[2]? = some (.p 1 0)/\tm[5]? = some (.s (D9 u (init.take j)))/\tm[56]? = some (.row init.length (init.map .s))/\tm[57]? = some (.i .i64 init.length)/\tm[58]? = some (.i .i64 j)) init.length
        ⟨0,ze _,rfl,rfl,by simp,rfl,rfl,rfl,by rw[xg,hacc0];rfl,rfl,rfl,rfl⟩ ?_
       rintro n o tm ⟨j,hj,rfl,rfl,hgood,hl,t1,t2,t5,t56,t57,t58⟩
       by_cases hlt:(j:Int)<init.length
       ·have hlt':j<init.length:=by omega
        have hg:(init.map AV.s)[j]? = some (.s init[j]):=by simp[hlt']
        have hx:=hmem init[j] (zy hlt');obtain⟨f1,f2,f3⟩:=hsf init[j] (xf _ (zy hlt'));have hbad:BC init[j]=false->init.all BC=false:=Jd hlt';have hacl:=KQ u (init.take j);have h3:=congrArg qx (Jw (l:=init) j fun x=>(1:UInt8)::x);rw[zf] at h3;have hsn:init.take (j+1)=init.take j++[init[j]]:=qz hlt';simp only[Aa,simprocAttr,zb,hl,t1,t2,t5,t56,t57,t58,hlt,qv,zm,hg,qn];refine⟨by omega,?_⟩;generalize init[j]=x at *;refine BI (fun n objs tm=>∃k:Nat,k<=x.length/\n=x.length - k/\objs=[.box 79 [.s u.host,.i .i64 u.port,.s u.path,.s u.query,.s u.frag,.b false,.b false],.box 119 [.s [],.s []]]/\(x.take k).all Dn=true /\
         tm.length=105/\tm[1]? = some (.p 0 0)/\tm[2]? = some (.p 1 0)/\tm[5]? = some (.s (D9 u (init.take j)))/\tm[56]? = some (.row init.length (init.map .s))/\tm[57]? = some (.i .i64 init.length)/\tm[58]? = some (.i .i64 j)/\tm[7]? = some (.s x)/\tm[8]? = some (.i .i64 k)) x.length
         ⟨0,ze _,rfl,rfl,by simp,by simp only[zh,hl],by simp only[Aa,simprocAttr,zb,hl,t1],by simp only[Aa,simprocAttr,zb,hl,t2],by simp only[Aa,simprocAttr,zb,hl,t5],by simp only[Aa,simprocAttr,zb,hl,t56],by simp only[Aa,simprocAttr,zb,hl,t57],by simp only[Aa,simprocAttr,zb,hl,t58],by simp only[Aa,simprocAttr,zb,hl],by simp only[Aa,simprocAttr,zb,hl]<;>rfl⟩ ?_
        clear t1 t2 t5 t56 t57 t58 hl;rintro n o tm ⟨k,hk1,rfl,rfl,hall2,hl,t1,t2,t5,t56,t57,t58,t7,t8⟩
        by_cases hkx:(k:Int)<x.length
        ·have hkx':k<x.length:=by omega
         have hgx:=GJ hkx';have hub:Dn x[k]=(A4 x[k]||x[k]==37):=rfl;have hno:Dn x[k]=false->BC x=false:=fun e=>f2 (.inl (QH hkx' e));have hyes:Dn x[k]=true->(x.take (k+1)).all Dn=true:=fun e=>by rw[RC hkx',hall2,e];rfl
         simp only[Aa,simprocAttr,zb,hl,t1,t2,t5,t7,t8,t56,t57,t58,hkx,zm];refine⟨by omega,?_⟩;rw[hgx];refine Ai (QT x[k] ?_)
         by_cases hu1:A4 x[k]=true
         ·simp only[hu1,Aa,simprocAttr,zb,hl,t1,t2,t5,t7,t8,t56,t57,t58];exact⟨⟨by omega,by omega⟩,x.length - (k+1),by omega,k+1,by omega,rfl,hyes (by rw[hub,hu1];rfl),rfl⟩
         ·simp only[Bool.not_eq_true] at hu1
          by_cases h37:((x[k].toNat:Nat):Int)=37
          ·have h37':x[k]=37:=UInt8.toNat_inj.1 (by show x[k].toNat=37;omega);simp only[hu1,hgx,h37,Aa,simprocAttr,zb,hl,t1,t2,t5,t7,t8,t56,t57,t58,zm];exact⟨by omega,⟨by omega,by omega⟩,x.length - (k+1),by omega,k+1,by omega,rfl,hyes (by rw[hub,h37'];rfl),rfl⟩
          ·have h37':¬x[k]=37:=fun e=>h37 (by rw[e];rfl);rw[hbad (hno (by rw[hub,hu1];simpa using h37'))] at hk;simp only[hu1,hgx,h37,Aa,simprocAttr,zb,hl,t1,t2,t5,t7,t8,t56,t57,t58,zm];exact⟨by omega,hk⟩
        ·obtain rfl:k=x.length:=by omega
         rw[qe] at hall2;simp only[Aa,simprocAttr,zb,hl,t1,t2,t5,t7,t8,t56,t57,t58,hkx];refine Ai (ID x ?_);have hdl:=F2 x;have hsnoc:=RA u (init.take j) x;have hgd:(An x).2≠[]->∀y∈init.take (j+1),BC y=true/\DK y=58::Ax (An y).2:=fun e y hy=>by
          rw[hsn] at hy;rcases zq.1 hy with hy|hy
          ·exact hgood y hy
          ·simp only[zt,jk,or_false] at hy;subst hy;exact f3 hall2 e
         rw[<-hsn] at hsnoc;generalize (An x).1=e at *
         by_cases hd0:(An x).2=[]
         ·rw[hbad (f2 (.inr hd0))] at hk;simp only[hd0,Aa,simprocAttr,zb,hl,t1,t2,t5,t7,t8,t56,t57,t58];exact hk
         ·have hgd2:=hgd hd0
          by_cases c2:u.path=Cb
          ·have c2':u.path=[47,46,119,101,108,108,45,107,110,111,119,110,47,100,105,100,46,106,115,111,110]:=c2;rw[if_pos c2] at hsnoc;rw[<-hsnoc] at t5;have c3':¬¬u.path=[47,46,119,101,108,108,45,107,110,111,119,110,47,100,105,100,46,106,115,111,110]:=fun h=>h c2';simp only[hd0,c3',Aa,simprocAttr,zb,hl,t1,t2,t5,t7,t8,t56,t57,t58];exact⟨⟨by omega,by omega⟩,init.length - (j+1),by omega,j+1,by omega,rfl,hgd2,rfl,rfl⟩
          ·have c2':¬u.path=[47,46,119,101,108,108,45,107,110,111,119,110,47,100,105,100,46,106,115,111,110]:=c2;rw[if_neg c2] at hsnoc;have hel:=JG (An x).2;generalize (An x).2=d at *;simp only[hd0,c2',Aa,simprocAttr,zb,hl,t1,t2,t5,t7,t8,t56,t57,t58];refine Ai (Lx d (by omega) ?_);simp only[Aa,simprocAttr,zb,hl,t1,t2,t5,t7,t8,t56,t57,t58];exact⟨by omega,by omega,⟨by omega,by omega⟩,init.length - (j+1),by omega,j+1,by omega,rfl,hgd2,by rw[hsnoc],rfl⟩
       ·obtain rfl:j=init.length:=by omega
        rw[qe] at hgood t5;rw[Ky hgood] at t5;have hok:init.all BC=true:=zl.2 fun x hx=>(hgood x hx).1;rw[hok] at hk;simp only[Bool.true_eq_false,if_false] at hk;have hal:=KQ u init;rw[Ky hgood] at hal;generalize (BP u.host u.port++if u.path=Cb then [] else Cv init)=l at *;simp only[Aa,simprocAttr,zb,hl,t1,t2,t5,t56,t57,t58,hlt];refine Ai (LA _ _ (by decide) (by omega) ?_);have hw:BR=[119,101,98]:=rfl;rw[hw] at hk
        by_cases c3:(4096:Int)<(AB [119,101,98] l).length
        ·have c3':4096<(AB [119,101,98] l).length:=by omega
         rw[if_pos c3'] at hk;simp only[c3,Aa,simprocAttr,zb,hl,t1,t2,t5,t56,t57,t58];exact hk
        ·have c3':¬4096<(AB [119,101,98] l).length:=by omega
         rw[if_neg c3'] at hk;simp only[c3,Aa,simprocAttr,zb,hl,t1,t2,t5,t56,t57,t58];exact hk
    ·simp only[hq,hf,c1,Bool.false_eq_true,not_false_eq_true,or_true,if_true] at hk;have c1':¬z=[100,105,100,46,106,115,111,110]:=c1;simp only[c1',Aa,simprocAttr];exact hk
 ·simp only[c0,Aa,simprocAttr];simp only[c0,if_true] at hk;exact hk
theorem YX (m i:List UInt8) (hm:m.length<=13000) (hi:i.length<=13000) (hk:K objs (.tup [.agg [.s (BX m i).2.1,.s (BX m i).2.2],.i .i64 (BX m i).1])):Ag Tryz.prog 78 [.agg [.s m,.s i]] objs K:=by
 refine AC jB rfl fun C _=>?_;simp only[Up,Aa,simprocAttr];refine Ai (cZ m i hm hi ?_);unfold BX at hk;have hz:=OU (m:=m) (i:=i);have hsh:(BF m i).1=0->Dg (BF m i).2:=fun h=>bQ hi h;generalize BF m i=q at *;obtain⟨e,u⟩:=q;simp only at hz hsh hk ⊢
 by_cases c0:e=0
 ·subst c0;simp only[ne_eq,not_true_eq_false,if_false] at hk;simp only[A3,Aa,simprocAttr];refine Ai (eY u (hsh rfl) ?_);simp only[Aa,simprocAttr];exact hk
 ·have:=hz c0;subst this;simp only[c0,ne_eq,not_false_eq_true,if_true] at hk;simp only[c0,A3,Aa,simprocAttr];exact hk
end
section
variable [Tabs Tryz.prog] [Shp Tryz.prog] [Pow Tryz.prog]
end
end Go.Proofs.YtbeoijfmfkifeaaGreatDoor
namespace Go.Proofs.YtbeoijfmfkifeaaGreatDoor
open Go.RowKit
open Lib renaming containsAny->xh, hid->za
open List renaming all_eq_true->zl, eq_nil_of_length_eq_zero->qd, getElem?_eq_getElem->zv, length_cons->zj, length_drop->zx, length_take->zg, mem_cons->zt, mem_cons_of_mem->qw, mem_cons_self->jg, take_append_drop->jp, take_length->qe
open Nat renaming le_refl->zd, lt_or_ge->zo, zero_le->ze
def Fv:List UInt8:=[97,99,99,116,58]
def Ff:List UInt8:=[33,36,38,39,40,41,42,43,44,59,61]
def Ha:List UInt8->Bool
 | []=>true
 | c::_=>c.toNat==37
def Bl (l:List UInt8):Int×List UInt8×List UInt8 :=
 if 4096<l.length then (5,[],[])
 else if l.length<5\/AM (l.take 5) Fv=false then (60,[],[])
 else if (Ae 64 (l.drop 5)).2.2=false then (6,[],[])
 else if (Aj (Ae 64 (l.drop 5)).1 Ff).1≠0\/Ha (Aj (Ae 64 (l.drop 5)).1 Ff).2=true then (80,[],[])
 else if (AH (Ae 64 (l.drop 5)).2.1).1≠0 then ((AH (Ae 64 (l.drop 5)).2.1).1,[],[])
 else (0,(Aj (Ae 64 (l.drop 5)).1 Ff).2,(AH (Ae 64 (l.drop 5)).2.1).2)
def A9 (u h:List UInt8):Value:=.agg #[.string (S u),.string (S h)]
def AE (r:Int×List UInt8×List UInt8):Value:=.tuple #[A9 r.2.1 r.2.2,.int .i64 r.1]
def G1 (u h:List UInt8):List UInt8:=Fv++u++[64]++h
theorem IF (s:ByteArray) (w:World) (hs:s.size<=maxLen) :
  Calls Tryz.prog 135 #[.string s] w fun e w'=>e=.returned (BG (Ae 64 s.data.toList))/\Qb w w':=by
 go_enter Tryz.func135,Tryz.ntmps135
 go_wp2_with fail
 refine(Cw s 64 _ hs).mono ?_;rintro e w1 ⟨rfl,hq1⟩;unfold BG
 go_wp2_with fail
 go_ret3
 exact⟨rfl,hq1⟩
theorem dY (u h:List UInt8) (w:World) (hu:u.length<=9000000000000000000) (hh:h.length<=100000000000000000) :
  Calls Tryz.prog 113 #[A9 u h] w fun e w'=>e=.returned (.string (S (G1 u h)))/\Qb w w':=by
 unfold A9
 go_enter Tryz.func113,Tryz.ntmps113
 go_wp2_with fail
 go_ret
 exact⟨GB (J1 (by unfold G1 Fv;simp[ByteArray.data_append])),(Qb.refl w).alloc _⟩
theorem eX (u h:List UInt8) (w:World) (hu:u.length<=9000000000000000000) (hh:h.length<=100000000000000000) :
  Calls Tryz.prog 50 #[A9 u h] w fun e w'=>e=.returned (.string (S (G1 u h)))/\Qb w w':=by
 unfold A9
 go_enter Tryz.func50,Tryz.ntmps50
 go_wp2_with fail
 go_ret
 exact⟨GB (J1 (by unfold G1 Fv;simp[ByteArray.data_append])),(Qb.refl w).alloc _⟩
set_option maxHeartbeats 2000000 in
theorem bW (s:ByteArray) (w:World) (hs:s.size<=maxLen) :
  Calls Tryz.prog 112 #[.string s] w fun e w'=>e=.returned (AE (Bl s.data.toList))/\Qb w w':=by
 unfold maxLen at hs
 by_cases h0:4096<s.size
 ·have HF:Hid (Bl s.data.toList=(5,[],[])):=za (by unfold Bl;rw[if_pos (by rw[As];exact h0)])
  go_enter Tryz.func112,Tryz.ntmps112
  go_wp2_with fail
  exact bodyPost_ret (v:=AE (5,[],[])) (by simp[results,Tryz.results112,go_sem,AE,A9]) rfl ⟨by rw[HF.out],(Qb.refl w).alloc _⟩
 have h0':s.size<=4096:=by omega
 by_cases h5:s.size<5
 ·have HF:Hid (Bl s.data.toList=(60,[],[])):=za (by unfold Bl;rw[if_neg (by rw[As];omega),if_pos (.inl (by rw[As];exact h5))]);clear h0
  go_enter Tryz.func112,Tryz.ntmps112
  go_wp2_with fail
  exact bodyPost_ret (v:=AE (60,[],[])) (by simp[results,Tryz.results112,go_sem,AE,A9]) rfl ⟨by rw[HF.out],(Qb.refl w).alloc _⟩
 have h5':5<=s.size:=by omega
 have HX5:=za (FD s 5);have hxl:(s.extract 0 5).data.toList=s.data.toList.take 5:=by rw[HX5.out]
 have HXD:=za (EE s 5);have HE:Hid (Bl s.data.toList=if AM (s.data.toList.take 5) Fv=false then (60,[],[]) else if (Ae 64 (s.data.toList.drop 5)).2.2=false then (6,[],[])
   else if (Aj (Ae 64 (s.data.toList.drop 5)).1 Ff).1≠0\/Ha (Aj (Ae 64 (s.data.toList.drop 5)).1 Ff).2=true then (80,[],[])
   else if (AH (Ae 64 (s.data.toList.drop 5)).2.1).1≠0 then ((AH (Ae 64 (s.data.toList.drop 5)).2.1).1,[],[])
   else (0,(Aj (Ae 64 (s.data.toList.drop 5)).1 Ff).2,(AH (Ae 64 (s.data.toList.drop 5)).2.1).2)):=za (by
  unfold Bl;rw[if_neg (by rw[As];omega)];have:∀p:Prop,(s.data.toList.length<5\/p)=p:=fun p=>by rw[As];exact propext ⟨fun h=>h.resolve_left h5,.inr⟩
  simp only[this])
 have hdl:(s.data.toList.drop 5).length<=4096:=by rw[zx,As];omega
 generalize s.data.toList.drop 5=d at *;obtain⟨p,q,b,hcut⟩:∃p q b,Ae 64 d=(p,q,b):=⟨_,_,_,rfl⟩;obtain⟨ne,u,hn⟩:∃ne u,Aj p Ff=(ne,u):=⟨_,_,rfl⟩;obtain⟨he,h,hh⟩:∃he h,AH q=(he,h):=⟨_,_,rfl⟩;have HC:=za hcut;have HN:=za hn;have HH:=za hh;have hlens:=Da 64 d;rw[hcut] at hlens;have hpl:p.length<=4096:=by have:=hlens.1;simp at this;omega
 have hql:q.length<=4096:=by have:=hlens.2;simp at this;omega
 have HI:Hid (At d [64]=p.length):=za (by rw[Ip,hcut]);have HIX:Hid (At d ({ data:=#[64] }:ByteArray).data.toList=p.length):=HI;have hE2:∀x,AM (s.data.toList.take 5) Fv=x->Bl s.data.toList=if x=false then (60,[],[]) else if b=false then (6,[],[]) else if ne≠0\/Ha u=true then (80,[],[]) else if he≠0 then (he,[],[]) else (0,u,h):=fun x hx=>by
  rw[HE.out,hcut];simp only;rw[hn,hh,hx]
 have HE2:=za hE2;have hcl:=EP 64 d;rw[hcut] at hcl;simp only at hcl;have HCL:=za hcl;have hi:=Dk 64 d;rw[hcut] at hi;have HCI:=za hi;clear hcut hn hh hE2 HE hlens h0 h5 hcl hi;rcases hx:AM (s.data.toList.take 5) Fv with _|_
 ·have HEQ:Hid (AM (s.extract 0 5).data.toList ({ data:=#[97,99,99,116,58] }:ByteArray).data.toList=false):=za (by rw[hxl];exact hx);have HX:=za hx;clear hx hxl;have HF:Hid (Bl s.data.toList=(60,[],[])):=za (by rw[HE2.out _ HX.out];rfl)
  go_enter Tryz.func112,Tryz.ntmps112
  go_wp2_with fail
  refine(D4 _ _ _ (by unfold maxLen;rw[HX5.out,Am,zg];omega) (by decide)).mono ?_;rintro e w1 ⟨rfl,hqe⟩;rw[show AM (s.extract 0 5).data.toList ({ data:=#[97,99,99,116,58] }:ByteArray).data.toList=false from HEQ.out];have hk:=(AF.new w _ _).qb hqe;have hc0:=hk.cell 0;have hc1:=hk.cell 1;have hf0:=hk.frozen 0;have hf1:=hk.frozen 1;simp at hc0 hc1
  go_wp2_with fail
  exact bodyPost_ret (v:=AE (60,[],[])) (by simp[results,Tryz.results112,go_sem,hc0,hc1,hf0,hf1,AE,A9]) rfl ⟨by rw[HF.out],((((Qb.refl w).alloc _).trans hqe).set (zd _) _).set (zd _) _⟩
 ·have HEQ:Hid (AM (s.extract 0 5).data.toList ({ data:=#[97,99,99,116,58] }:ByteArray).data.toList=true):=za (by rw[hxl];exact hx);have HX:=za hx;clear hx hxl;rcases b with _|_
  ·have hpd:p.length=d.length:=by rw[(HCL.out.2.2 rfl).1]
   have HF:Hid (Bl s.data.toList=(6,[],[])):=za (by rw[HE2.out _ HX.out];rfl)
   go_enter Tryz.func112,Tryz.ntmps112
   go_wp2_with fail
   refine(D4 _ _ _ (by unfold maxLen;rw[HX5.out,Am,zg];omega) (by decide)).mono ?_;rintro e w1 ⟨rfl,hqe⟩;rw[show AM (s.extract 0 5).data.toList ({ data:=#[97,99,99,116,58] }:ByteArray).data.toList=true from HEQ.out]
   go_wp2_with fail
   rw[HXD.out];refine(IF _ _ (by unfold maxLen;rw[Am];omega)).mono ?_;rintro e w2 ⟨rfl,hq2⟩;rw[Ao,HC.out];unfold BG;have hk:=(AF.new w _ _).qb (hqe.trans hq2);have hc0:=hk.cell 0;have hc1:=hk.cell 1;have hf0:=hk.frozen 0;have hf1:=hk.frozen 1;simp at hc0 hc1
   go_wp2_with fail
   exact bodyPost_ret (v:=AE (6,[],[])) (by simp[results,Tryz.results112,go_sem,hc0,hc1,hf0,hf1,AE,A9]) rfl ⟨by rw[HF.out],((((Qb.refl w).alloc _).trans (hqe.trans hq2)).set (zd _) _).set (zd _) _⟩
  ·have hpd:=HCL.out.2.1 rfl;have hpq:p=d.take p.length/\q=d.drop (p.length+1):=by
    rcases HCI.out with ⟨_,h2,_⟩|⟨k,_,hk,h2,_⟩
    ·injection h2 with _ h2;injection h2 with _ h2;cases h2
    ·injection h2 with h2 h3;injection h3 with h3 _
     have:p.length=k:=by rw[h2,zg];omega
     rw[this];exact⟨h2,h3⟩
   have hxp:=FD (S d) p.length;rw[Ao,<-hpq.1] at hxp;have hxq:=EE (S d) (p.length+1);rw[Ao,Am,<-hpq.2] at hxq;have HXP:=za hxp;have HXQ:=za hxq;have hpi:(p.length:Int)+1<=(d.length:Int):=by omega
   have hb1:((p.length:Int)==(d.length:Int))=false:=by rw[beq_eq_false_iff_ne];omega
   clear hpd hpq hxp hxq
   by_cases hne:ne=0
   ·subst hne;rcases u with _|⟨c,t⟩
    ·have HF:Hid (Bl s.data.toList=(80,[],[])):=za (by rw[HE2.out _ HX.out];rfl)
     go_enter Tryz.func112,Tryz.ntmps112
     go_wp2_with fail
     refine(D4 _ _ _ (by unfold maxLen;rw[HX5.out,Am,zg];omega) (by decide)).mono ?_;rintro e w1 ⟨rfl,hqe⟩;rw[show AM (s.extract 0 5).data.toList ({ data:=#[97,99,99,116,58] }:ByteArray).data.toList=true from HEQ.out]
     go_wp2_with fail
     rw[HXD.out];refine(IF _ _ (by unfold maxLen;rw[Am];omega)).mono ?_;rintro e w2 ⟨rfl,hq2⟩;rw[Ao,HC.out];unfold BG
     go_wp2_with fail
     refine(It _ _ _).mono ?_;rintro e w3 ⟨rfl,hq3⟩;rw[Ao,show Aj p ({ data:=#[33,36,38,39,40,41,42,43,44,59,61] }:ByteArray).data.toList=_ from HN.out];unfold Be;have hk:=(AF.new w _ _).qb ((hqe.trans hq2).trans hq3);have hc0:=hk.cell 0;have hc1:=hk.cell 1;have hf0:=hk.frozen 0;have hf1:=hk.frozen 1;simp at hc0 hc1
     go_wp2_with fail
     exact bodyPost_ret (v:=AE (80,[],[])) (by simp[results,Tryz.results112,go_sem,hc0,hc1,hf0,hf1,AE,A9]) rfl ⟨by rw[HF.out],((((Qb.refl w).alloc _).trans ((hqe.trans hq2).trans hq3)).set (zd _) _).set (zd _) _⟩
    ·by_cases hc:c.toNat=37
     ·obtain rfl:c=37:=UInt8.toNat_inj.1 hc;clear hc;have HF:Hid (Bl s.data.toList=(80,[],[])):=za (by rw[HE2.out _ HX.out,if_neg (by simp),if_neg (by simp),if_pos (.inr rfl)])
      go_enter Tryz.func112,Tryz.ntmps112
      go_wp2_with fail
      refine(D4 _ _ _ (by unfold maxLen;rw[HX5.out,Am,zg];omega) (by decide)).mono ?_;rintro e w1 ⟨rfl,hqe⟩;rw[show AM (s.extract 0 5).data.toList ({ data:=#[97,99,99,116,58] }:ByteArray).data.toList=true from HEQ.out]
      go_wp2_with fail
      rw[HXD.out];refine(IF _ _ (by unfold maxLen;rw[Am];omega)).mono ?_;rintro e w2 ⟨rfl,hq2⟩;rw[Ao,HC.out];unfold BG
      go_wp2_with fail
      refine(It _ _ _).mono ?_;rintro e w3 ⟨rfl,hq3⟩;rw[Ao,show Aj p ({ data:=#[33,36,38,39,40,41,42,43,44,59,61] }:ByteArray).data.toList=_ from HN.out];unfold Be;have hk:=(AF.new w _ _).qb ((hqe.trans hq2).trans hq3);have hc0:=hk.cell 0;have hc1:=hk.cell 1;have hf0:=hk.frozen 0;have hf1:=hk.frozen 1;simp at hc0 hc1
      go_wp2_with fail
      exact bodyPost_ret (v:=AE (80,[],[])) (by simp[results,Tryz.results112,go_sem,hc0,hc1,hf0,hf1,AE,A9]) rfl ⟨by rw[HF.out],((((Qb.refl w).alloc _).trans ((hqe.trans hq2).trans hq3)).set (zd _) _).set (zd _) _⟩
     ·have hb:((((S (c::t))[0]'(by rw[Am,zj];omega)).toNat:Int)==37)=false:=by
       show ((c.toNat:Int)==37)=false;rw[beq_eq_false_iff_ne];omega
      have hpl2:Ha (c::t)=false:=show (c.toNat==37)=false from by rw[beq_eq_false_iff_ne];exact hc
      have HPL:=za hpl2;clear hc hpl2
      by_cases hhe:he=0
      ·subst hhe;have HF:Hid (Bl s.data.toList=(0,c::t,h)):=za (by rw[HE2.out _ HX.out,if_neg (by simp),if_neg (by simp),if_neg (by rw[HPL.out];simp),if_neg (by simp)])
       go_enter Tryz.func112,Tryz.ntmps112
       go_wp2_with fail
       refine(D4 _ _ _ (by unfold maxLen;rw[HX5.out,Am,zg];omega) (by decide)).mono ?_;rintro e w1 ⟨rfl,hqe⟩;rw[show AM (s.extract 0 5).data.toList ({ data:=#[97,99,99,116,58] }:ByteArray).data.toList=true from HEQ.out]
       go_wp2_with fail
       rw[HXD.out];refine(IF _ _ (by unfold maxLen;rw[Am];omega)).mono ?_;rintro e w2 ⟨rfl,hq2⟩;rw[Ao,HC.out];unfold BG
       go_wp2_with fail
       refine(It _ _ _).mono ?_;rintro e w3 ⟨rfl,hq3⟩;rw[Ao,show Aj p ({ data:=#[33,36,38,39,40,41,42,43,44,59,61] }:ByteArray).data.toList=_ from HN.out];unfold Be
       go_wp2_with fail
       refine(Fy (S q) _ (by unfold maxLen;rw[Am];omega)).mono ?_;rintro e w4 ⟨rfl,hq4⟩;rw[Ao,HH.out];unfold Be;have hk:=(AF.new w _ _).qb (((hqe.trans hq2).trans hq3).trans hq4);have hc0:=hk.cell 0;have hc1:=hk.cell 1;have hf0:=hk.frozen 0;have hf1:=hk.frozen 1;simp at hc0 hc1
       go_wp2_with fail
       exact bodyPost_ret (v:=AE (0,c::t,h)) (by simp[results,Tryz.results112,go_sem,hc0,hc1,hf0,hf1,AE,A9]) rfl ⟨by rw[HF.out],((((Qb.refl w).alloc _).trans (((hqe.trans hq2).trans hq3).trans hq4)).set (zd _) _).set (zd _) _⟩
      ·have hb2:(he != 0)=true:=bne_iff_ne.2 hhe;have HHE:=za hhe;clear hhe;have HF:Hid (Bl s.data.toList=(he,[],[])):=za (by rw[HE2.out _ HX.out,if_neg (by simp),if_neg (by simp),if_neg (by rw[HPL.out];simp),if_pos HHE.out])
       go_enter Tryz.func112,Tryz.ntmps112
       go_wp2_with fail
       refine(D4 _ _ _ (by unfold maxLen;rw[HX5.out,Am,zg];omega) (by decide)).mono ?_;rintro e w1 ⟨rfl,hqe⟩;rw[show AM (s.extract 0 5).data.toList ({ data:=#[97,99,99,116,58] }:ByteArray).data.toList=true from HEQ.out]
       go_wp2_with fail
       rw[HXD.out];refine(IF _ _ (by unfold maxLen;rw[Am];omega)).mono ?_;rintro e w2 ⟨rfl,hq2⟩;rw[Ao,HC.out];unfold BG
       go_wp2_with fail
       refine(It _ _ _).mono ?_;rintro e w3 ⟨rfl,hq3⟩;rw[Ao,show Aj p ({ data:=#[33,36,38,39,40,41,42,43,44,59,61] }:ByteArray).data.toList=_ from HN.out];unfold Be
       go_wp2_with fail
       refine(Fy (S q) _ (by unfold maxLen;rw[Am];omega)).mono ?_;rintro e w4 ⟨rfl,hq4⟩;rw[Ao,HH.out];unfold Be;have hk:=(AF.new w _ _).qb (((hqe.trans hq2).trans hq3).trans hq4);have hc0:=hk.cell 0;have hc1:=hk.cell 1;have hf0:=hk.frozen 0;have hf1:=hk.frozen 1;simp at hc0 hc1
       go_wp2_with fail
       exact bodyPost_ret (v:=AE (he,[],[])) (by simp[results,Tryz.results112,go_sem,hc0,hc1,hf0,hf1,AE,A9]) rfl ⟨by rw[HF.out],((((Qb.refl w).alloc _).trans (((hqe.trans hq2).trans hq3).trans hq4)).set (zd _) _).set (zd _) _⟩
   ·have hb2:(ne != 0)=true:=bne_iff_ne.2 hne;have HNE:=za hne;clear hne;have HF:Hid (Bl s.data.toList=(80,[],[])):=za (by rw[HE2.out _ HX.out,if_neg (by simp),if_neg (by simp),if_pos (.inl HNE.out)])
    go_enter Tryz.func112,Tryz.ntmps112
    go_wp2_with fail
    refine(D4 _ _ _ (by unfold maxLen;rw[HX5.out,Am,zg];omega) (by decide)).mono ?_;rintro e w1 ⟨rfl,hqe⟩;rw[show AM (s.extract 0 5).data.toList ({ data:=#[97,99,99,116,58] }:ByteArray).data.toList=true from HEQ.out]
    go_wp2_with fail
    rw[HXD.out];refine(IF _ _ (by unfold maxLen;rw[Am];omega)).mono ?_;rintro e w2 ⟨rfl,hq2⟩;rw[Ao,HC.out];unfold BG
    go_wp2_with fail
    refine(It _ _ _).mono ?_;rintro e w3 ⟨rfl,hq3⟩;rw[Ao,show Aj p ({ data:=#[33,36,38,39,40,41,42,43,44,59,61] }:ByteArray).data.toList=_ from HN.out];unfold Be;have hk:=(AF.new w _ _).qb ((hqe.trans hq2).trans hq3);have hc0:=hk.cell 0;have hc1:=hk.cell 1;have hf0:=hk.frozen 0;have hf1:=hk.frozen 1;simp at hc0 hc1
    go_wp2_with fail
    exact bodyPost_ret (v:=AE (80,[],[])) (by simp[results,Tryz.results112,go_sem,hc0,hc1,hf0,hf1,AE,A9]) rfl ⟨by rw[HF.out],((((Qb.refl w).alloc _).trans ((hqe.trans hq2).trans hq3)).set (zd _) _).set (zd _) _⟩
set_option maxHeartbeats 2000000 in
theorem eH (s:ByteArray) (w:World) (hs:s.size<=maxLen) :
  Calls Tryz.prog 49 #[.string s] w fun e w'=>e=.returned (AE (Bl s.data.toList))/\Qb w w':=by
 unfold maxLen at hs
 by_cases h0:4096<s.size
 ·have HF:Hid (Bl s.data.toList=(5,[],[])):=za (by unfold Bl;rw[if_pos (by rw[As];exact h0)])
  go_enter Tryz.func49,Tryz.ntmps49
  go_wp2_with fail
  exact bodyPost_ret (v:=AE (5,[],[])) (by simp[results,Tryz.results49,go_sem,AE,A9]) rfl ⟨by rw[HF.out],(Qb.refl w).alloc _⟩
 have h0':s.size<=4096:=by omega
 by_cases h5:s.size<5
 ·have HF:Hid (Bl s.data.toList=(60,[],[])):=za (by unfold Bl;rw[if_neg (by rw[As];omega),if_pos (.inl (by rw[As];exact h5))]);clear h0
  go_enter Tryz.func49,Tryz.ntmps49
  go_wp2_with fail
  exact bodyPost_ret (v:=AE (60,[],[])) (by simp[results,Tryz.results49,go_sem,AE,A9]) rfl ⟨by rw[HF.out],(Qb.refl w).alloc _⟩
 have h5':5<=s.size:=by omega
 have HX5:=za (FD s 5);have hxl:(s.extract 0 5).data.toList=s.data.toList.take 5:=by rw[HX5.out]
 have HXD:=za (EE s 5);have HE:Hid (Bl s.data.toList=if AM (s.data.toList.take 5) Fv=false then (60,[],[]) else if (Ae 64 (s.data.toList.drop 5)).2.2=false then (6,[],[])
   else if (Aj (Ae 64 (s.data.toList.drop 5)).1 Ff).1≠0\/Ha (Aj (Ae 64 (s.data.toList.drop 5)).1 Ff).2=true then (80,[],[])
   else if (AH (Ae 64 (s.data.toList.drop 5)).2.1).1≠0 then ((AH (Ae 64 (s.data.toList.drop 5)).2.1).1,[],[])
   else (0,(Aj (Ae 64 (s.data.toList.drop 5)).1 Ff).2,(AH (Ae 64 (s.data.toList.drop 5)).2.1).2)):=za (by
  unfold Bl;rw[if_neg (by rw[As];omega)];have:∀p:Prop,(s.data.toList.length<5\/p)=p:=fun p=>by rw[As];exact propext ⟨fun h=>h.resolve_left h5,.inr⟩
  simp only[this])
 have hdl:(s.data.toList.drop 5).length<=4096:=by rw[zx,As];omega
 generalize s.data.toList.drop 5=d at *;obtain⟨p,q,b,hcut⟩:∃p q b,Ae 64 d=(p,q,b):=⟨_,_,_,rfl⟩;obtain⟨ne,u,hn⟩:∃ne u,Aj p Ff=(ne,u):=⟨_,_,rfl⟩;obtain⟨he,h,hh⟩:∃he h,AH q=(he,h):=⟨_,_,rfl⟩;have HC:=za hcut;have HN:=za hn;have HH:=za hh;have hlens:=Da 64 d;rw[hcut] at hlens;have hpl:p.length<=4096:=by have:=hlens.1;simp at this;omega
 have hql:q.length<=4096:=by have:=hlens.2;simp at this;omega
 have HI:Hid (At d [64]=p.length):=za (by rw[Ip,hcut]);have HIX:Hid (At d ({ data:=#[64] }:ByteArray).data.toList=p.length):=HI;have hE2:∀x,AM (s.data.toList.take 5) Fv=x->Bl s.data.toList=if x=false then (60,[],[]) else if b=false then (6,[],[]) else if ne≠0\/Ha u=true then (80,[],[]) else if he≠0 then (he,[],[]) else (0,u,h):=fun x hx=>by
  rw[HE.out,hcut];simp only;rw[hn,hh,hx]
 have HE2:=za hE2;have hcl:=EP 64 d;rw[hcut] at hcl;simp only at hcl;have HCL:=za hcl;have hi:=Dk 64 d;rw[hcut] at hi;have HCI:=za hi;clear hcut hn hh hE2 HE hlens h0 h5 hcl hi;rcases hx:AM (s.data.toList.take 5) Fv with _|_
 ·have HEQ:Hid (AM (s.extract 0 5).data.toList ({ data:=#[97,99,99,116,58] }:ByteArray).data.toList=false):=za (by rw[hxl];exact hx);have HX:=za hx;clear hx hxl;have HF:Hid (Bl s.data.toList=(60,[],[])):=za (by rw[HE2.out _ HX.out];rfl)
  go_enter Tryz.func49,Tryz.ntmps49
  go_wp2_with fail
  refine(ES _ _ _ (by rw[HX5.out,Am,zg];omega) (by decide)).mono ?_;rintro e w1 ⟨rfl,hqe⟩;rw[show AM (s.extract 0 5).data.toList ({ data:=#[97,99,99,116,58] }:ByteArray).data.toList=false from HEQ.out];have hk:=(AF.new w _ _).qb hqe;have hc0:=hk.cell 0;have hc1:=hk.cell 1;have hf0:=hk.frozen 0;have hf1:=hk.frozen 1;simp at hc0 hc1
  go_wp2_with fail
  exact bodyPost_ret (v:=AE (60,[],[])) (by simp[results,Tryz.results49,go_sem,hc0,hc1,hf0,hf1,AE,A9]) rfl ⟨by rw[HF.out],((((Qb.refl w).alloc _).trans hqe).set (zd _) _).set (zd _) _⟩
 ·have HEQ:Hid (AM (s.extract 0 5).data.toList ({ data:=#[97,99,99,116,58] }:ByteArray).data.toList=true):=za (by rw[hxl];exact hx);have HX:=za hx;clear hx hxl;rcases b with _|_
  ·have hpd:p.length=d.length:=by rw[(HCL.out.2.2 rfl).1]
   have HF:Hid (Bl s.data.toList=(6,[],[])):=za (by rw[HE2.out _ HX.out];rfl);have hb1:((p.length:Int)==(d.length:Int))=true:=by rw[beq_iff_eq];omega
   clear hpd
   go_enter Tryz.func49,Tryz.ntmps49
   go_wp2_with fail
   refine(ES _ _ _ (by rw[HX5.out,Am,zg];omega) (by decide)).mono ?_;rintro e w1 ⟨rfl,hqe⟩;rw[show AM (s.extract 0 5).data.toList ({ data:=#[97,99,99,116,58] }:ByteArray).data.toList=true from HEQ.out]
   go_wp2_with fail
   rw[HXD.out];refine(EU _ _ _ (by unfold maxLen;rw[Am];omega) (by decide)).mono ?_;rintro e w2 ⟨rfl,rfl⟩;rw[Ao,show At d ({ data:=#[64] }:ByteArray).data.toList=p.length from HIX.out];have hk:=(AF.new w _ _).qb hqe;have hc0:=hk.cell 0;have hc1:=hk.cell 1;have hf0:=hk.frozen 0;have hf1:=hk.frozen 1;simp at hc0 hc1
   go_wp2_with fail
   exact bodyPost_ret (v:=AE (6,[],[])) (by simp[results,Tryz.results49,go_sem,hc0,hc1,hf0,hf1,AE,A9]) rfl ⟨by rw[HF.out],((((Qb.refl w).alloc _).trans hqe).set (zd _) _).set (zd _) _⟩
  ·have hpd:=HCL.out.2.1 rfl;have hpq:p=d.take p.length/\q=d.drop (p.length+1):=by
    rcases HCI.out with ⟨_,h2,_⟩|⟨k,_,hk,h2,_⟩
    ·injection h2 with _ h2;injection h2 with _ h2;cases h2
    ·injection h2 with h2 h3;injection h3 with h3 _
     have:p.length=k:=by rw[h2,zg];omega
     rw[this];exact⟨h2,h3⟩
   have hxp:=FD (S d) p.length;rw[Ao,<-hpq.1] at hxp;have hxq:=EE (S d) (p.length+1);rw[Ao,Am,<-hpq.2] at hxq;have HXP:=za hxp;have HXQ:=za hxq;have hpi:(p.length:Int)+1<=(d.length:Int):=by omega
   have hb1:((p.length:Int)==(d.length:Int))=false:=by rw[beq_eq_false_iff_ne];omega
   clear hpd hpq hxp hxq
   by_cases hne:ne=0
   ·subst hne;rcases u with _|⟨c,t⟩
    ·have HF:Hid (Bl s.data.toList=(80,[],[])):=za (by rw[HE2.out _ HX.out];rfl)
     go_enter Tryz.func49,Tryz.ntmps49
     go_wp2_with fail
     refine(ES _ _ _ (by rw[HX5.out,Am,zg];omega) (by decide)).mono ?_;rintro e w1 ⟨rfl,hqe⟩;rw[show AM (s.extract 0 5).data.toList ({ data:=#[97,99,99,116,58] }:ByteArray).data.toList=true from HEQ.out]
     go_wp2_with fail
     rw[HXD.out];refine(EU _ _ _ (by unfold maxLen;rw[Am];omega) (by decide)).mono ?_;rintro e w2 ⟨rfl,rfl⟩;rw[Ao,show At d ({ data:=#[64] }:ByteArray).data.toList=p.length from HIX.out]
     go_wp2_with fail
     rw[HXP.out];refine(Iv _ _ _ (by decide)).mono ?_;rintro e w3 ⟨rfl,hq3⟩;rw[Ao,show Aj p ({ data:=#[33,36,38,39,40,41,42,43,44,59,61] }:ByteArray).data.toList=_ from HN.out];unfold Be;have hk:=(AF.new w _ _).qb (hqe.trans hq3);have hc0:=hk.cell 0;have hc1:=hk.cell 1;have hf0:=hk.frozen 0;have hf1:=hk.frozen 1;simp at hc0 hc1
     go_wp2_with fail
     exact bodyPost_ret (v:=AE (80,[],[])) (by simp[results,Tryz.results49,go_sem,hc0,hc1,hf0,hf1,AE,A9]) rfl ⟨by rw[HF.out],((((Qb.refl w).alloc _).trans (hqe.trans hq3)).set (zd _) _).set (zd _) _⟩
    ·by_cases hc:c.toNat=37
     ·obtain rfl:c=37:=UInt8.toNat_inj.1 hc;clear hc;have HF:Hid (Bl s.data.toList=(80,[],[])):=za (by rw[HE2.out _ HX.out,if_neg (by simp),if_neg (by simp),if_pos (.inr rfl)])
      go_enter Tryz.func49,Tryz.ntmps49
      go_wp2_with fail
      refine(ES _ _ _ (by rw[HX5.out,Am,zg];omega) (by decide)).mono ?_;rintro e w1 ⟨rfl,hqe⟩;rw[show AM (s.extract 0 5).data.toList ({ data:=#[97,99,99,116,58] }:ByteArray).data.toList=true from HEQ.out]
      go_wp2_with fail
      rw[HXD.out];refine(EU _ _ _ (by unfold maxLen;rw[Am];omega) (by decide)).mono ?_;rintro e w2 ⟨rfl,rfl⟩;rw[Ao,show At d ({ data:=#[64] }:ByteArray).data.toList=p.length from HIX.out]
      go_wp2_with fail
      rw[HXP.out];refine(Iv _ _ _ (by decide)).mono ?_;rintro e w3 ⟨rfl,hq3⟩;rw[Ao,show Aj p ({ data:=#[33,36,38,39,40,41,42,43,44,59,61] }:ByteArray).data.toList=_ from HN.out];unfold Be;have hk:=(AF.new w _ _).qb (hqe.trans hq3);have hc0:=hk.cell 0;have hc1:=hk.cell 1;have hf0:=hk.frozen 0;have hf1:=hk.frozen 1;simp at hc0 hc1
      go_wp2_with fail
      exact bodyPost_ret (v:=AE (80,[],[])) (by simp[results,Tryz.results49,go_sem,hc0,hc1,hf0,hf1,AE,A9]) rfl ⟨by rw[HF.out],((((Qb.refl w).alloc _).trans (hqe.trans hq3)).set (zd _) _).set (zd _) _⟩
     ·have hb:((((S (c::t))[0]'(by rw[Am,zj];omega)).toNat:Int)==37)=false:=by
       show ((c.toNat:Int)==37)=false;rw[beq_eq_false_iff_ne];omega
      have hpl2:Ha (c::t)=false:=show (c.toNat==37)=false from by rw[beq_eq_false_iff_ne];exact hc
      have HPL:=za hpl2;clear hc hpl2
      by_cases hhe:he=0
      ·subst hhe;have HF:Hid (Bl s.data.toList=(0,c::t,h)):=za (by rw[HE2.out _ HX.out,if_neg (by simp),if_neg (by simp),if_neg (by rw[HPL.out];simp),if_neg (by simp)])
       go_enter Tryz.func49,Tryz.ntmps49
       go_wp2_with fail
       refine(ES _ _ _ (by rw[HX5.out,Am,zg];omega) (by decide)).mono ?_;rintro e w1 ⟨rfl,hqe⟩;rw[show AM (s.extract 0 5).data.toList ({ data:=#[97,99,99,116,58] }:ByteArray).data.toList=true from HEQ.out]
       go_wp2_with fail
       rw[HXD.out];refine(EU _ _ _ (by unfold maxLen;rw[Am];omega) (by decide)).mono ?_;rintro e w2 ⟨rfl,rfl⟩;rw[Ao,show At d ({ data:=#[64] }:ByteArray).data.toList=p.length from HIX.out]
       go_wp2_with fail
       rw[HXP.out];refine(Iv _ _ _ (by decide)).mono ?_;rintro e w3 ⟨rfl,hq3⟩;rw[Ao,show Aj p ({ data:=#[33,36,38,39,40,41,42,43,44,59,61] }:ByteArray).data.toList=_ from HN.out];unfold Be
       go_wp2_with fail
       rw[HXQ.out];refine(Iu (S q) _ (by rw[Am];omega)).mono ?_;rintro e w4 ⟨rfl,hq4⟩;rw[Ao,HH.out];unfold Be;have hk:=(AF.new w _ _).qb ((hqe.trans hq3).trans hq4);have hc0:=hk.cell 0;have hc1:=hk.cell 1;have hf0:=hk.frozen 0;have hf1:=hk.frozen 1;simp at hc0 hc1
       go_wp2_with fail
       exact bodyPost_ret (v:=AE (0,c::t,h)) (by simp[results,Tryz.results49,go_sem,hc0,hc1,hf0,hf1,AE,A9]) rfl ⟨by rw[HF.out],((((Qb.refl w).alloc _).trans ((hqe.trans hq3).trans hq4)).set (zd _) _).set (zd _) _⟩
      ·have hb2:(he != 0)=true:=bne_iff_ne.2 hhe;have HHE:=za hhe;clear hhe;have HF:Hid (Bl s.data.toList=(he,[],[])):=za (by rw[HE2.out _ HX.out,if_neg (by simp),if_neg (by simp),if_neg (by rw[HPL.out];simp),if_pos HHE.out])
       go_enter Tryz.func49,Tryz.ntmps49
       go_wp2_with fail
       refine(ES _ _ _ (by rw[HX5.out,Am,zg];omega) (by decide)).mono ?_;rintro e w1 ⟨rfl,hqe⟩;rw[show AM (s.extract 0 5).data.toList ({ data:=#[97,99,99,116,58] }:ByteArray).data.toList=true from HEQ.out]
       go_wp2_with fail
       rw[HXD.out];refine(EU _ _ _ (by unfold maxLen;rw[Am];omega) (by decide)).mono ?_;rintro e w2 ⟨rfl,rfl⟩;rw[Ao,show At d ({ data:=#[64] }:ByteArray).data.toList=p.length from HIX.out]
       go_wp2_with fail
       rw[HXP.out];refine(Iv _ _ _ (by decide)).mono ?_;rintro e w3 ⟨rfl,hq3⟩;rw[Ao,show Aj p ({ data:=#[33,36,38,39,40,41,42,43,44,59,61] }:ByteArray).data.toList=_ from HN.out];unfold Be
       go_wp2_with fail
       rw[HXQ.out];refine(Iu (S q) _ (by rw[Am];omega)).mono ?_;rintro e w4 ⟨rfl,hq4⟩;rw[Ao,HH.out];unfold Be;have hk:=(AF.new w _ _).qb ((hqe.trans hq3).trans hq4);have hc0:=hk.cell 0;have hc1:=hk.cell 1;have hf0:=hk.frozen 0;have hf1:=hk.frozen 1;simp at hc0 hc1
       go_wp2_with fail
       exact bodyPost_ret (v:=AE (he,[],[])) (by simp[results,Tryz.results49,go_sem,hc0,hc1,hf0,hf1,AE,A9]) rfl ⟨by rw[HF.out],((((Qb.refl w).alloc _).trans ((hqe.trans hq3).trans hq4)).set (zd _) _).set (zd _) _⟩
   ·have hb2:(ne != 0)=true:=bne_iff_ne.2 hne;have HNE:=za hne;clear hne;have HF:Hid (Bl s.data.toList=(80,[],[])):=za (by rw[HE2.out _ HX.out,if_neg (by simp),if_neg (by simp),if_pos (.inl HNE.out)])
    go_enter Tryz.func49,Tryz.ntmps49
    go_wp2_with fail
    refine(ES _ _ _ (by rw[HX5.out,Am,zg];omega) (by decide)).mono ?_;rintro e w1 ⟨rfl,hqe⟩;rw[show AM (s.extract 0 5).data.toList ({ data:=#[97,99,99,116,58] }:ByteArray).data.toList=true from HEQ.out]
    go_wp2_with fail
    rw[HXD.out];refine(EU _ _ _ (by unfold maxLen;rw[Am];omega) (by decide)).mono ?_;rintro e w2 ⟨rfl,rfl⟩;rw[Ao,show At d ({ data:=#[64] }:ByteArray).data.toList=p.length from HIX.out]
    go_wp2_with fail
    rw[HXP.out];refine(Iv _ _ _ (by decide)).mono ?_;rintro e w3 ⟨rfl,hq3⟩;rw[Ao,show Aj p ({ data:=#[33,36,38,39,40,41,42,43,44,59,61] }:ByteArray).data.toList=_ from HN.out];unfold Be;have hk:=(AF.new w _ _).qb (hqe.trans hq3);have hc0:=hk.cell 0;have hc1:=hk.cell 1;have hf0:=hk.frozen 0;have hf1:=hk.frozen 1;simp at hc0 hc1
    go_wp2_with fail
    exact bodyPost_ret (v:=AE (80,[],[])) (by simp[results,Tryz.results49,go_sem,hc0,hc1,hf0,hf1,AE,A9]) rfl ⟨by rw[HF.out],((((Qb.refl w).alloc _).trans (hqe.trans hq3)).set (zd _) _).set (zd _) _⟩
def Ni:List UInt8:=[33,35,36,37,38,39,42,43,45,47,61,63,94,95,96,123,124,125,126]
def DL (c:UInt8):Bool:=B1 c||AD c||Aw c Ni
def CN:Bool->List UInt8->Bool
 | ad,[]=>!ad
 | ad,c::t=>if c=46 then !ad&&CN true t else DL c&&CN false t
def CB (l:List UInt8):Bool:=decide (l.length<=64)&&CN true l
def Ed (l:List UInt8):Bool:=!l.isEmpty&&l.all DL
theorem Qx (ad:Bool) (c:UInt8) (t:List UInt8):CN ad (c::t)=if c=46 then !ad&&CN true t else DL c&&CN false t:=rfl
theorem Rt:∀(l p:List UInt8) (ps:List (List UInt8)),Ap 46 l=p::ps->CN true l=(Ed p&&ps.all Ed)/\CN false l=(p.all DL&&ps.all Ed)
 | [],p,ps,h=>by
  rw[Ap] at h;injection h with h1 h2;subst h1 h2;exact⟨rfl,rfl⟩
 | c::t,p,ps,h=>by
  obtain⟨q,qs,e⟩:=Cj 46 t;obtain⟨i1,i2⟩:=Rt t q qs e;rw[CT,e] at h;rw[Qx,Qx]
  by_cases hc:c=46
  ·rw[if_pos hc] at h;rw[if_pos hc,if_pos hc,i1];injection h with h1 h2
   subst h1 h2;simp[Ed]
  ·rw[if_neg hc] at h;rw[if_neg hc,if_neg hc,i2];injection h with h1 h2
   subst h1 h2;simp[Ed,Bool.and_assoc]
theorem eP (l:List UInt8):CN true l=(Ap 46 l).all Ed:=by
 obtain⟨q,qs,e⟩:=Cj 46 l;rw[(Rt l q qs e).1,e];rfl
theorem NH (c:UInt8) (s:ByteArray) (w:World) :
  Calls Tryz.prog 165 #[.int .u8 c.toNat,.string s] w fun e w'=>e=.returned (.bool (Aw c s.data.toList))/\w=w':=by
 go_enter Tryz.func165,Tryz.ntmps165
 go_wp2_with (go_at_call 169;refine(Tryz.strings_IndexByte _ _ _).mono ?_;rintro e w' ⟨rfl,rfl⟩)
 go_ret
 exact⟨AN (by unfold Aw;rw[Lib.contains_iff_indexByte]),rfl⟩
theorem Sg (c:UInt8) (w:World) :
  Calls Tryz.prog 203 #[.int .u8 c.toNat] w fun e w'=>e=.returned (.bool (DL c))/\w=w':=by
 go_enter Tryz.func203,Tryz.ntmps203
 go_wp2_with (first|(go_at_call 206;refine(EQ _ _).mono ?_;rintro e w' ⟨rfl,rfl⟩)|(go_at_call 177;refine(D6 _ _).mono ?_;rintro e w' ⟨rfl,rfl⟩)|(go_at_call 165;refine(NH _ _ _).mono ?_;rintro e w' ⟨rfl,rfl⟩))
 all_goals go_ret
 all_goals exact⟨AN (by simp_all [DL,Ni]),rfl⟩
theorem R0 (c:UInt8) (w:World) :
  Calls Tryz.prog 96 #[.int .u8 c.toNat] w fun e w'=>e=.returned (.bool (DL c))/\w=w':=by
 go_enter Tryz.func96,Tryz.ntmps96
 go_wp2_with (first|(go_at_call 93;refine(EX _ _).mono ?_;rintro e w' ⟨rfl,rfl⟩)|(go_at_call 94;refine(EY _ _).mono ?_;rintro e w' ⟨rfl,rfl⟩)|(go_at_call 66;refine(DR _ _ _ (by decide)).mono ?_;rintro e w' ⟨rfl,rfl⟩))
 all_goals go_ret
 all_goals exact⟨AN (by simp_all [DL,Ni]),rfl⟩
theorem Rz (s:ByteArray) (w:World) (hs:s.size<=maxLen) :
  Calls Tryz.prog 166 #[.string s] w fun e w'=>e=.returned (.bool (CB s.data.toList))/\w=w':=by
 have hm:=hs;unfold maxLen at hm;have hsz:=As s
 by_cases h64:64<s.size
 ·have HF:Hid (CB s.data.toList=false):=za (by unfold CB;rw[hsz,decide_eq_false (by omega)];rfl)
  go_enter Tryz.func166,Tryz.ntmps166
  go_wp2_with fail
  go_ret
  exact⟨AN (by rw[HF.out]),rfl⟩
 ·have HF:Hid (CB s.data.toList=CN true s.data.toList):=za (by unfold CB;rw[hsz,decide_eq_true (by omega)];rfl)
  go_enter Tryz.func166,Tryz.ntmps166
  go_wp2_with fail
  go_loop [3,4,5,11] (fun a _ _ i=>∃(k:Nat) (b:Bool),k<=s.size/\i=.int .i64 k/\a=.bool b/\Hid (CN true s.data.toList=CN b (s.data.toList.drop k))) (fun _ _ _ i=>s.size - (intOf i).toNat)
  case atStart=>exact⟨0,true,ze _,rfl,rfl,za (by simp)⟩
  case round=>
   obtain⟨k,b,hk,rfl,rfl,HT⟩:=hrel
   by_cases hlt:k<s.size
   ·have hd:Hid (CN b (s.data.toList.drop k)=if s[k]=46 then !b&&CN true (s.data.toList.drop (k+1)) else DL s[k]&&CN false (s.data.toList.drop (k+1))):=za (by rw[C2 s k hlt];rfl)
    by_cases hc:s[k]=46
    ·have hb:((s[k].toNat:Int)==46)=true:=by rw[hc];rfl
     rcases b with _|_
     ·have HN:Hid (CN true s.data.toList=CN true (s.data.toList.drop (k+1))):=za (by rw[HT.out,hd.out,if_pos hc];rfl);clear hc hd
      go_wp2_with fail
      go_round
      case rel=>exact⟨k+1,true,by omega,by go_num,rfl,HN⟩
      case measure=>simp[intOf];omega
     ·have HN:Hid (CN true s.data.toList=false):=za (by rw[HT.out,hd.out,if_pos hc];rfl);clear hc hd
      go_wp2_with fail
      go_ret
      exact⟨AN (by rw[HF.out,HN.out]),rfl⟩
    ·have hb:((s[k].toNat:Int)==46)=false:=by
      rw[beq_eq_false_iff_ne];intro e;exact hc (UInt8.toNat_inj.1 (by have:(46:UInt8).toNat=46:=rfl;omega))
     rcases ha:DL s[k] with _|_
     ·have HN:Hid (CN true s.data.toList=false):=za (by rw[HT.out,hd.out,if_neg hc,ha];rfl);have H1:=za ha;clear hc hd ha
      go_wp2_with fail
      refine(Sg _ _).mono ?_;rintro e w' ⟨rfl,rfl⟩;rw[H1.out]
      go_wp2_with fail
      go_ret
      exact⟨AN (by rw[HF.out,HN.out]),rfl⟩
     ·have HN:Hid (CN true s.data.toList=CN false (s.data.toList.drop (k+1))):=za (by rw[HT.out,hd.out,if_neg hc,ha];rfl);have H1:=za ha;clear hc hd ha
      go_wp2_with fail
      refine(Sg _ _).mono ?_;rintro e w' ⟨rfl,rfl⟩;rw[H1.out]
      go_wp2_with fail
      go_round
      case rel=>exact⟨k+1,false,by omega,by go_num,rfl,HN⟩
      case measure=>simp[intOf];omega
   ·obtain rfl:k=s.size:=by omega
    have HN:Hid (CN true s.data.toList=!b):=za (by rw[HT.out,List.drop_of_length_le (by omega)];rfl)
    go_wp2_with fail
    go_ret
    exact⟨AN (by rw[HF.out,HN.out]),rfl⟩
theorem Lu (s:ByteArray) (w:World) (hs:s.size<=1000000) :
  Calls Tryz.prog 72 #[.string s] w fun e w'=>e=.returned (.bool (CB s.data.toList))/\Qb w w':=by
 have hsz:=As s
 by_cases h0:s.size=0
 ·have HF:Hid (CB s.data.toList=false):=za (by rw[qd (hsz.trans h0)];rfl);obtain rfl:s=S []:=by rw[<-GU s,qd (hsz.trans h0)]
  go_enter Tryz.func72,Tryz.ntmps72
  go_wp2_with fail
  go_ret
  exact⟨AN (by rw[HF.out]),Qb.refl w⟩
 ·have hpos0:0<s.size:=by omega
  have hne:=Lz hpos0
  by_cases h64:64<s.size
  ·have HF:Hid (CB s.data.toList=false):=za (by unfold CB;rw[hsz,decide_eq_false (by omega)];rfl)
   go_enter Tryz.func72,Tryz.ntmps72
   go_wp2_with fail
   go_ret
   exact⟨AN (by rw[HF.out]),Qb.refl w⟩
  ·have HF:Hid (CB s.data.toList=(Ap 46 s.data.toList).all Ed):=za (by unfold CB;rw[hsz,decide_eq_true (by omega),eP];rfl);have hpos:=EV 46 s.data.toList;have hlen:=IC 46 s.data.toList;have hparts:∀(k:Nat) (h:k<(Ap 46 s.data.toList).length),((Ap 46 s.data.toList)[k]).length<=1000000:=fun k h=>by
    have:=F4 46 s.data.toList _ (List.getElem_mem h);omega
   rw[As] at hlen;have HP:=za hparts;clear hparts
   go_enter Tryz.func72,Tryz.ntmps72
   go_wp2_with fail
   refine(Lp s 46 _ hs).mono ?_;rintro e w1 ⟨v,rfl,hrow,hq1⟩;generalize Ap 46 s.data.toList=ls at *;obtain⟨g,cap,rfl,hg0,hg1,hcap⟩:=hrow.form hpos;have HR:=za hrow;clear hrow
   go_wp2_with fail
   go_loop [4,5,16] (fun _ _ i=>∃k:Nat,k<=ls.length/\i=.int .i64 k/\Hid ((ls.take k).all Ed=true)) (fun _ _ i=>ls.length - (intOf i).toNat)
   case atStart=>exact⟨0,ze _,rfl,za rfl⟩
   case round=>
    obtain⟨k,hk,rfl,HT⟩:=hrel
    by_cases hlt:k<ls.length
    ·have hcell:=HR.out.cell k hlt;have hsx:=HP.out k hlt;have HS:=za (JC Ed ls k hlt);have HA:=za (JN Ed ls (k+1));generalize ls[k]=x at *;rcases x with _|⟨c,t⟩
     ·have HB2:Hid (CB s.data.toList=false):=za (by rw[HF.out,HA.out (by rw[HS.out];simp[Ed])])
      go_wp2_with fail
      go_ret
      exact⟨AN (by rw[HB2.out]),hq1⟩
     ·obtain⟨x,hx⟩:∃x,x=c::t:=⟨_,rfl⟩;rw[<-hx] at hcell hsx HS;have hxe:x.isEmpty=false:=by rw[hx];rfl
      have HX:Hid (Ed x=x.all DL):=za (by unfold Ed;rw[hxe];rfl);clear hx
      go_wp2_with fail
      go_loop [5] (fun i=>∃j:Nat,j<=x.length/\i=.int .i64 j/\Hid ((x.take j).all DL=true)) (fun i=>x.length - (intOf i).toNat)
      case atStart=>exact⟨0,ze _,rfl,za rfl⟩
      case round=>
       obtain⟨j,hj,rfl,HJ⟩:=hrel
       by_cases hl2:j<x.length
       ·have HS2:=za (JC DL x j hl2);have HA2:=za (JN DL x (j+1));have hS:Hid (∀h,(S x)[j]'h=x[j]):=za (fun h=>rfl);rcases ha:DL x[j] with _|_
        ·have HB2:Hid (CB s.data.toList=false):=za (by rw[HF.out,HA.out (by rw[HS.out,HX.out,HA2.out (by rw[HS2.out,ha,Bool.and_false]),Bool.and_false])]);have H1:=za ha;clear ha
         go_wp2_with fail
         refine(R0 _ _).mono ?_;rintro e w2 ⟨rfl,rfl⟩;rw[hS.out,H1.out]
         go_wp2_with fail
         go_ret
         exact⟨AN (by rw[HB2.out]),hq1⟩
        ·have HJ2:Hid ((x.take (j+1)).all DL=true):=za (by rw[HS2.out,ha,HJ.out];rfl);have H1:=za ha;clear ha
         go_wp2_with fail
         refine(R0 _ _).mono ?_;rintro e w2 ⟨rfl,rfl⟩;rw[hS.out,H1.out]
         go_wp2_with fail
         go_round
         case rel=>exact⟨j+1,by omega,by go_num,HJ2⟩
         case measure=>simp[intOf];omega
       ·obtain rfl:j=x.length:=by omega
        have HT2:Hid ((ls.take (k+1)).all Ed=true):=za (by
         have:=HJ.out;rw[qe] at this;rw[HS.out,HT.out,HX.out,this];rfl)
        go_wp2_with fail
        go_round
        case rel=>exact⟨k+1,by omega,by go_num,HT2⟩
        case measure=>simp[intOf];omega
    ·obtain rfl:k=ls.length:=by omega
     have HB2:Hid (CB s.data.toList=true):=za (by
      have:=HT.out;rw[qe] at this;rw[HF.out,this])
     go_wp2_with fail
     go_ret
     exact⟨AN (by rw[HB2.out]),hq1⟩
theorem MU:∀(l:List UInt8) (n:Nat) (out:List UInt8),(Al AR n l out).2.length<=out.length+l.length
 | [],n,out=>by cases n<;>simp[Al]
 | c::t,0,out=>by
  rw[Al];have i1:=MU t
  split
  ·split
   ·rw[if_pos (show (AR out (AZ (c::t)) true).1=0 from rfl)];exact Nat.le_trans (i1 2 _) (by simp[AR];omega)
   ·simp
  ·rw[if_pos (show (AR out c false).1=0 from rfl)];exact Nat.le_trans (i1 0 _) (by simp[AR];omega)
 | c::t,n+1,out=>by
  rw[Al];have:=MU t n out;simp at this ⊢;omega
theorem QN (l:List UInt8):(An l).2.length<=l.length:=by
 unfold An BU
 split
 ·simp
 ·have:=MU l 0 [];simpa using this
def Cz:List UInt8:=[33,36,39,42,43]
def CP (c:UInt8):Bool:=A4 c||Aw c [37,33,36,39,42,43]
def BM (l:List UInt8):Int×List UInt8 :=
 if l.all CP=false then (1,[])
 else if (An l).1≠0 then ((An l).1,[])
 else if CB (An l).2=false then (80,[])
 else (0,(An l).2)
theorem LH (s:ByteArray) (w:World) (hs:s.size<=1000000) :
  Calls Tryz.prog 139 #[.string s] w fun e w'=>e=.returned (Be (BM s.data.toList))/\Qb w w':=by
 obtain⟨er,d,hD⟩:∃er d,An s.data.toList=(er,d):=⟨_,_,rfl⟩;have hdl:d.length<=s.size:=by have:=QN s.data.toList;rw[hD,As] at this;exact this
 have HD:=za hD;have HL:Hid (s.data.toList.all CP=true->BM s.data.toList=if er≠0 then (er,[]) else if CB d=false then (80,[]) else (0,d)):=za (fun h=>by unfold BM;rw[hD,h];rfl);have HL1:Hid (s.data.toList.all CP=false->BM s.data.toList=(1,[])):=za (fun h=>by unfold BM;rw[if_pos h]);clear hD
 go_enter Tryz.func139,Tryz.ntmps139
 go_wp2_with fail
 go_loop [4,9] (fun _ i=>∃k:Nat,k<=s.size/\i=.int .i64 k/\Hid ((s.data.toList.take k).all CP=true)) (fun _ i=>s.size - (intOf i).toNat)
 case atStart=>exact⟨0,ze _,rfl,za rfl⟩
 case round=>
  obtain⟨k,hk,rfl,HT⟩:=hrel
  by_cases hlt:k<s.size
  ·have hst:CP s[k]=true->Hid ((s.data.toList.take (k+1)).all CP=true):=fun h=>za (by rw[EO _ _ _ hlt,h,HT.out];rfl);have hbad:CP s[k]=false->Hid (s.data.toList.all CP=false):=fun h=>za (GM _ _ (k+1) (by rw[EO _ _ _ hlt,h,Bool.and_false]));rcases ha:A4 s[k] with _|_
   ·rcases hb:Aw s[k] [37,33,36,39,42,43] with _|_
    ·have HN:=hbad (by unfold CP;rw[ha,hb];rfl);have H1:=za ha;have H2:=za hb;clear ha hb hst hbad
     go_wp2_with fail
     refine(Hu _ _).mono ?_;rintro e w' ⟨rfl,rfl⟩;rw[H1.out]
     go_wp2_with fail
     refine(NH _ _ _).mono ?_;rintro e w' ⟨rfl,rfl⟩;rw[show Aw s[k] ({ data:=#[37,33,36,39,42,43] }:ByteArray).data.toList=false from H2.out]
     go_wp2_with fail
     go_ret2
     exact⟨by rw[HL1.out HN.out];rfl,Qb.refl w⟩
    ·have HN:=hst (by unfold CP;rw[ha,hb];rfl);have H1:=za ha;have H2:=za hb;clear ha hb hst hbad
     go_wp2_with fail
     refine(Hu _ _).mono ?_;rintro e w' ⟨rfl,rfl⟩;rw[H1.out]
     go_wp2_with fail
     refine(NH _ _ _).mono ?_;rintro e w' ⟨rfl,rfl⟩;rw[show Aw s[k] ({ data:=#[37,33,36,39,42,43] }:ByteArray).data.toList=true from H2.out]
     go_wp2_with fail
     go_round
     case rel=>exact⟨k+1,by omega,by go_num,HN⟩
     case measure=>simp[intOf];omega
   ·have HN:=hst (by unfold CP;rw[ha];rfl);have H1:=za ha;clear ha hst hbad
    go_wp2_with fail
    refine(Hu _ _).mono ?_;rintro e w' ⟨rfl,rfl⟩;rw[H1.out]
    go_wp2_with fail
    go_round
    case rel=>exact⟨k+1,by omega,by go_num,HN⟩
    case measure=>simp[intOf];omega
  ·obtain rfl:k=s.size:=by omega
   have HA:Hid (BM s.data.toList=if er≠0 then (er,[]) else if CB d=false then (80,[]) else (0,d)):=za (HL.out (by
    rw[<-D5 s s.size hlt];exact HT.out))
   go_wp2_with fail
   refine(Ta _ _).mono ?_;rintro e w1 ⟨rfl,hq1⟩;rw[HD.out];unfold Be
   by_cases he:er=0
   ·subst he;rcases hl:CB d with _|_
    ·have HR:Hid (BM s.data.toList=(80,[])):=za (by rw[HA.out,hl];rfl);have H1:=za hl;clear hl
     go_wp2_with fail
     refine(Rz _ _ (by unfold maxLen;rw[Am];omega)).mono ?_;rintro e w2 ⟨rfl,rfl⟩;rw[Ao,H1.out]
     go_wp2_with fail
     go_ret2
     exact⟨by rw[HR.out];rfl,hq1⟩
    ·have HR:Hid (BM s.data.toList=(0,d)):=za (by rw[HA.out,hl];rfl);have H1:=za hl;clear hl
     go_wp2_with fail
     refine(Rz _ _ (by unfold maxLen;rw[Am];omega)).mono ?_;rintro e w2 ⟨rfl,rfl⟩;rw[Ao,H1.out]
     go_wp2_with fail
     go_ret2
     exact⟨by rw[HR.out];rfl,hq1⟩
   ·have HR:Hid (BM s.data.toList=(er,[])):=za (by rw[HA.out,if_pos he]);have hb:(er != 0)=true:=by rw[bne_iff_ne];exact he
    go_wp2_with fail
    go_ret2
    exact⟨by rw[HR.out];rfl,hq1⟩
def Ch:List UInt8:=[109,97,105,108,116,111,58]
def D8 (u h:List UInt8):List UInt8:=Ch++AI u Cz++[64]++h
theorem Qb.cellkeep {w w':World} (h:Qb w w') {g i:Nat} {v:Value} (hc:w.cell? ⟨g,i,none⟩=some v):w'.cell? ⟨g,i,none⟩=some v:=by
 have hl:g<w.heap.size:=by
  rcases zo g w.heap.size with h1|h1
  ·exact h1
  ·simp[World.cell?,Array.getElem?_eq_none h1] at hc
 rw[<-hc];simp only[World.cell?,h.block g hl]
theorem QB {w w1 w2:World} {g:Nat} {u v:Value} (h:w1.cell? ⟨g,0,none⟩=some u/\w1.cell? ⟨g,1,none⟩=some v/\Qb w w1) (hq:Qb w1 w2):w2.cell? ⟨g,0,none⟩=some u/\w2.cell? ⟨g,1,none⟩=some v/\Qb w w2:=⟨hq.cellkeep h.1,hq.cellkeep h.2.1,h.2.2.trans hq⟩
theorem PF {w w1:World} {p q:Prop} (h:p/\q/\Qb w w1):Qb w w1:=h.2.2
theorem eQ (u h:List UInt8) (w:World) (hu:u.length<=300000000) (hh:h.length<=100000000000000000) :
  Calls Tryz.prog 115 #[A9 u h] w fun e w'=>e=.returned (.string (S (D8 u h)))/\Qb w w':=by
 have hel:=Hq u Cz;have HK:Hid (({ data:=#[33,36,39,42,43] }:ByteArray).data.toList=Cz):=za rfl;have HFM:Hid (D8 u h=Ch++AI u Cz++[64]++h):=za rfl;generalize hen:AI u Cz=en at *;have HE:=za hen;clear hen;have b1:¬(9223372036854775807<7+en.length):=by omega
 have b2:¬(9223372036854775807<7+en.length+1):=by omega
 have b3:¬(9223372036854775807<7+en.length+1+h.length):=by omega
 unfold A9
 go_enter Tryz.func115,Tryz.ntmps115
 go_wp2_with fail
 go_region_held3 (fun w'=>w'.cell? ⟨w.heap.size,0,none⟩=some (.string (S u))/\w'.cell? ⟨w.heap.size,1,none⟩=some (.string (S h))/\Qb w w') (first|exact⟨by assumption,by assumption,by assumption⟩|exact⟨((AF.new w _ _).drew.cell 0).trans rfl,((AF.new w _ _).drew.cell 1).trans rfl,((Qb.refl w).alloc _).drew⟩|assumption|exact QB (by assumption) hq1|exact⟨Qb.cellkeep hq1 (by assumption),Qb.cellkeep hq1 (by assumption),Qb.trans (by assumption) hq1⟩)
  (first|(go_at_call 141;refine(Tb _ _ _ (by rw[Am];exact hu)).mono ?_;rintro e w1 ⟨rfl,hq1⟩;rw[Ao,show AI u ({ data:=#[33,36,39,42,43] }:ByteArray).data.toList=en from HE.out]))
 go_wp2_with fail
 go_ret
 exact⟨GB (J1 (by rw[HFM.out];unfold Ch;simp[ByteArray.data_append])),PF (by assumption)⟩
theorem fC (u h:List UInt8) (w:World) (hu:u.length<=300000000) (hh:h.length<=100000000000000000) :
  Calls Tryz.prog 52 #[A9 u h] w fun e w'=>e=.returned (.string (S (D8 u h)))/\Qb w w':=by
 have hel:=Hq u Cz;have HK:Hid (({ data:=#[33,36,39,42,43] }:ByteArray).data.toList=Cz):=za rfl;have HFM:Hid (D8 u h=Ch++AI u Cz++[64]++h):=za rfl;generalize hen:AI u Cz=en at *;have HE:=za hen;clear hen;have b1:¬(9223372036854775807<7+en.length):=by omega
 have b2:¬(9223372036854775807<7+en.length+1):=by omega
 have b3:¬(9223372036854775807<7+en.length+1+h.length):=by omega
 unfold A9
 go_enter Tryz.func52,Tryz.ntmps52
 go_wp2_with fail
 go_region_held3 (fun w'=>w'.cell? ⟨w.heap.size,0,none⟩=some (.string (S u))/\w'.cell? ⟨w.heap.size,1,none⟩=some (.string (S h))/\Qb w w') (first|exact⟨by assumption,by assumption,by assumption⟩|exact⟨((AF.new w _ _).drew.cell 0).trans rfl,((AF.new w _ _).drew.cell 1).trans rfl,((Qb.refl w).alloc _).drew⟩|assumption|exact QB (by assumption) hq1|exact⟨Qb.cellkeep hq1 (by assumption),Qb.cellkeep hq1 (by assumption),Qb.trans (by assumption) hq1⟩)
  (first|(go_at_call 74;refine(SZ _ _ _ (by rw[Am];exact hu) (by decide)).mono ?_;rintro e w1 ⟨rfl,hq1⟩;rw[Ao,show AI u ({ data:=#[33,36,39,42,43] }:ByteArray).data.toList=en from HE.out]))
 go_wp2_with fail
 go_ret
 exact⟨GB (J1 (by rw[HFM.out];unfold Ch;simp[ByteArray.data_append])),PF (by assumption)⟩
theorem JO (s:ByteArray) (w:World) (hs:s.size<=1000000) (h8:8<s.size\/∀(j:Nat) b,s.data.toList[j]? = some b->b.toNat<128) :
  Calls Tryz.prog 138 #[.string s,.string ⟨#[63,35]⟩] w fun e w'=>e=.returned (.bool (xh s.data.toList [63,35]))/\Qb w w':=by
 have hac:∀(j:Nat) b,(⟨#[63,35]⟩:ByteArray).data.toList[j]? = some b->b.toNat<128:=by
  intro j b h;rcases j with _|_|j
  ·injection h with h;subst h;decide
  ·injection h with h;subst h;decide
  ·cases h
 rcases h8 with h8|h8
 ·go_enter Tryz.func138,Tryz.ntmps138
  go_wp2_with fail
  refine(Tryz.strings_IndexAny_long (zero_of_info (n:=256) (by kernel_rfl)).1 s ⟨#[63,35]⟩ w (by decide) h8 (by omega) (by decide) hac).mono ?_;rintro e w1 ⟨rfl,rfl⟩
  go_wp2_with fail
  go_ret
  exact⟨rfl,((Qb.refl w).alloc _).alloc _⟩
 ·exact(Tryz.strings_ContainsAny_laid s ⟨#[63,35]⟩ w (by omega) (by decide) h8 hac)
def FL (l:List UInt8):Bool:=xh l [63,35]
def A0 (l:List UInt8):Int×List UInt8×List UInt8 :=
 if 4096<l.length then (5,[],[])
 else if l.length<7\/AM (l.take 7) Ch=false then (60,[],[])
 else if (Ae 64 (l.drop 7)).2.2=false\/FL (l.drop 7)=true then (6,[],[])
 else if (BM (Ae 64 (l.drop 7)).1).1≠0 then ((BM (Ae 64 (l.drop 7)).1).1,[],[])
 else if (AH (Ae 64 (l.drop 7)).2.1).1≠0 then ((AH (Ae 64 (l.drop 7)).2.1).1,[],[])
 else if BZ (AH (Ae 64 (l.drop 7)).2.1).2=true then (50,[],[])
 else (0,(BM (Ae 64 (l.drop 7)).1).2,(AH (Ae 64 (l.drop 7)).2.1).2)
theorem any_cons (c:UInt8) (l cs:List UInt8):xh (c::l) cs=(cs.contains c||xh l cs):=by
 unfold xh;have hg:=Lib.indexAny_ge cs l;rw[Lib.indexAny];rcases h:cs.contains c with _|_
 ·rw[if_neg Bool.false_ne_true]
  by_cases h1:Lib.indexAny l cs=-1
  ·rw[h1];rfl
  ·rw[if_neg (by simpa using h1),Bool.false_or];rw[Bool.eq_iff_iff];simp only[decide_eq_true_eq];omega
 ·simp
theorem Jt:∀l cs:List UInt8,xh l cs=l.any (fun c=>Aw c cs)
 | [],cs=>rfl
 | c::l,cs=>by rw[any_cons,Jt l cs];rfl
theorem PI (l cs:List UInt8):At l cs=l.length↔xh l cs=false:=by
 rw[Jt];unfold At;rw[List.findIdx_eq_length];simp
theorem bF:∀n:Fin 256,Bh (UInt8.ofNat n.val)∈Ch->(UInt8.ofNat n.val).toNat<128/\Aw (UInt8.ofNat n.val) [63,35]=false:=by decide +kernel
theorem VQ (c:UInt8) (h:Bh c∈Ch):c.toNat<128/\Aw c [63,35]=false:=by
 have h1:=bF ⟨c.toNat,c.toNat_lt⟩;simp only[UInt8.ofNat_toNat] at h1;exact h1 h
theorem RZ (l:List UInt8) (h:AM l Ch=true):∀c∈l,c.toNat<128/\Aw c [63,35]=false:=by
 intro c hc;refine VQ c ?_;have e:Ay l=Ay Ch:=by simpa[AM] using h
 have e2:Ay Ch=Ch:=by decide +kernel
 rw[<-e2,<-e];exact List.mem_map_of_mem hc
theorem Vf (l:List UInt8) (h:AM (l.take 7) Ch=true):xh l [63,35]=FL (l.drop 7):=by
 unfold FL;rw[Jt,Jt]
 conv=>lhs;rw[<-jp 7 l]
 rw[List.any_append];have:(l.take 7).any (fun c=>Aw c [63,35])=false:=by
  rw[List.any_eq_false];intro c hc;rw[(RZ _ h c hc).2];exact Bool.false_ne_true
 rw[this,Bool.false_or]
theorem ZP (s:ByteArray) (h:AM (s.data.toList.take 7) Ch=true) (h7:7<=s.size) (hc:(Ae 64 (s.data.toList.drop 7)).2.2=true) :
  8<s.size\/∀(j:Nat) b,s.data.toList[j]? = some b->b.toNat<128:=by
 rcases zo 8 s.size with h8|h8
 ·exact .inl h8
 ·refine .inr fun j b hj=>?_;have hm:b∈s.data.toList:=List.mem_of_getElem? hj;rw[<-jp 7 s.data.toList] at hm;rcases List.mem_append.1 hm with hm|hm
  ·exact(RZ _ h b hm).1
  ·have hl:(s.data.toList.drop 7).length<=1:=by rw[zx,As];omega
   generalize s.data.toList.drop 7=d at *;rcases d with _|⟨x,_|⟨y,t⟩⟩
   ·cases hm
   ·rw[F9] at hc
    by_cases hx:x=64
    ·obtain rfl:b=x:=by simpa using hm
     rw[hx];decide
    ·rw[if_neg hx] at hc;cases hc
   ·simp at hl
theorem Rw (l:List UInt8):(AH l).2.length<=l.length:=by
 unfold AH
 split
 ·simp
 ·split
  ·simp
  ·split
   ·simp[Ay]
   ·simp
set_option maxHeartbeats 2000000 in
theorem bG (s:ByteArray) (w:World) (hs:s.size<=maxLen) :
  Calls Tryz.prog 114 #[.string s] w fun e w'=>e=.returned (AE (A0 s.data.toList))/\Qb w w':=by
 unfold maxLen at hs
 by_cases h0:4096<s.size
 ·have HF:Hid (A0 s.data.toList=(5,[],[])):=za (by unfold A0;rw[if_pos (by rw[As];exact h0)])
  go_enter Tryz.func114,Tryz.ntmps114
  go_wp2_with fail
  exact bodyPost_ret (v:=AE (5,[],[])) (by simp[results,Tryz.results114,go_sem,AE,A9]) rfl ⟨by rw[HF.out],(Qb.refl w).alloc _⟩
 have h0':s.size<=4096:=by omega
 by_cases h7:s.size<7
 ·have HF0:Hid (A0 s.data.toList=(60,[],[])):=za (by unfold A0;rw[if_neg (by rw[As];omega),if_pos (.inl (by rw[As];exact h7))]);clear h0;have HF:Hid (A0 s.data.toList=(60,[],[])):=za (by exact HF0.out)
  go_enter Tryz.func114,Tryz.ntmps114
  go_wp2_with fail
  exact bodyPost_ret (v:=AE (60,[],[])) (by simp[results,Tryz.results114,go_sem,AE,A9]) rfl ⟨by rw[HF.out],(Qb.refl w).alloc _⟩
 have h7':7<=s.size:=by omega
 have HX7:=za (FD s 7);have hxl:(s.extract 0 7).data.toList=s.data.toList.take 7:=by rw[HX7.out]
 have HXD:=za (EE s 7);have HE:Hid (A0 s.data.toList=if AM (s.data.toList.take 7) Ch=false then (60,[],[]) else if (Ae 64 (s.data.toList.drop 7)).2.2=false\/FL (s.data.toList.drop 7)=true then (6,[],[])
   else if (BM (Ae 64 (s.data.toList.drop 7)).1).1≠0 then ((BM (Ae 64 (s.data.toList.drop 7)).1).1,[],[])
   else if (AH (Ae 64 (s.data.toList.drop 7)).2.1).1≠0 then ((AH (Ae 64 (s.data.toList.drop 7)).2.1).1,[],[])
   else if BZ (AH (Ae 64 (s.data.toList.drop 7)).2.1).2=true then (50,[],[])
   else (0,(BM (Ae 64 (s.data.toList.drop 7)).1).2,(AH (Ae 64 (s.data.toList.drop 7)).2.1).2)):=za (by
  unfold A0;rw[if_neg (by rw[As];omega)];have:∀p:Prop,(s.data.toList.length<7\/p)=p:=fun p=>by rw[As];exact propext ⟨fun h=>h.resolve_left h7,.inr⟩
  simp only[this])
 have hAP:=Vf s.data.toList;have hPA:=fun a b=>ZP s a h7' b;have hdl:(s.data.toList.drop 7).length<=4096:=by rw[zx,As];omega
 generalize s.data.toList.drop 7=d at *;obtain⟨p,q,b,hcut⟩:∃p q b,Ae 64 d=(p,q,b):=⟨_,_,_,rfl⟩;obtain⟨ne,u,hn⟩:∃ne u,BM p=(ne,u):=⟨_,_,rfl⟩;obtain⟨he,h,hh⟩:∃he h,AH q=(he,h):=⟨_,_,rfl⟩;have hhl:h.length<=4096:=by have:=Rw q;rw[hh] at this;have h2:=(Da 64 d).2;rw[hcut] at h2;simp at this h2;omega
 obtain⟨ip,hip⟩:∃ip,BZ h=ip:=⟨_,rfl⟩;obtain⟨an,han⟩:∃an,FL d=an:=⟨_,rfl⟩;have HC:=za hcut;have HN:=za hn;have HH:=za hh;have HI:=za hip;have hlens:=Da 64 d;rw[hcut] at hlens;have hpl:p.length<=4096:=by have:=hlens.1;simp at this;omega
 have hql:q.length<=4096:=by have:=hlens.2;simp at this;omega
 have hE2:∀x,AM (s.data.toList.take 7) Ch=x->A0 s.data.toList=if x=false then (60,[],[]) else if b=false\/an=true then (6,[],[]) else if ne≠0 then (ne,[],[]) else if he≠0 then (he,[],[]) else if ip=true then (50,[],[]) else (0,u,h):=fun x hx=>by
  rw[HE.out,hcut];simp only;rw[hn,hh,hx,hip,han]
 have HE2:=za hE2;rw[hcut] at hPA;rw[han] at hAP;clear hcut hn hh hE2 HE hlens h0 h7 hip han;rcases hx:AM (s.data.toList.take 7) Ch with _|_
 ·have HEQ:Hid (AM (s.extract 0 7).data.toList ({ data:=#[109,97,105,108,116,111,58] }:ByteArray).data.toList=false):=za (by rw[hxl];exact hx);have HX:=za hx;clear hx hxl hAP hPA;have HF:Hid (A0 s.data.toList=(60,[],[])):=za (by rw[HE2.out _ HX.out];rfl)
  go_enter Tryz.func114,Tryz.ntmps114
  go_wp2_with fail
  refine(D4 _ _ _ (by unfold maxLen;rw[HX7.out,Am,zg];omega) (by decide)).mono ?_;rintro e w1 ⟨rfl,hqe⟩;rw[show AM (s.extract 0 7).data.toList ({ data:=#[109,97,105,108,116,111,58] }:ByteArray).data.toList=false from HEQ.out];have hk:=(AF.new w _ _).qb hqe;have hc0:=hk.cell 0;have hc1:=hk.cell 1;have hf0:=hk.frozen 0;have hf1:=hk.frozen 1;simp at hc0 hc1
  go_wp2_with fail
  exact bodyPost_ret (v:=AE (60,[],[])) (by simp[results,Tryz.results114,go_sem,hc0,hc1,hf0,hf1,AE,A9]) rfl ⟨by rw[HF.out],((((Qb.refl w).alloc _).trans hqe).set (zd _) _).set (zd _) _⟩
 ·have HEQ:Hid (AM (s.extract 0 7).data.toList ({ data:=#[109,97,105,108,116,111,58] }:ByteArray).data.toList=true):=za (by rw[hxl];exact hx);have HX:=za hx;have HA:=za (hAP hx);have hP2:=hPA hx;clear hx hxl hAP hPA;rcases b with _|_
  ·clear hP2;have HF:Hid (A0 s.data.toList=(6,[],[])):=za (by rw[HE2.out _ HX.out];rfl)
   go_enter Tryz.func114,Tryz.ntmps114
   go_wp2_with fail
   refine(D4 _ _ _ (by unfold maxLen;rw[HX7.out,Am,zg];omega) (by decide)).mono ?_;rintro e w1 ⟨rfl,hqe⟩;rw[show AM (s.extract 0 7).data.toList ({ data:=#[109,97,105,108,116,111,58] }:ByteArray).data.toList=true from HEQ.out]
   go_wp2_with fail
   rw[HXD.out];refine(Cw (S d) 64 _ (by unfold maxLen;rw[Am];omega)).mono ?_;rintro e w2 ⟨rfl,hq2⟩;rw[Ao,HC.out];unfold BG;have hk:=(AF.new w _ _).qb (hqe.trans hq2);have hc0:=hk.cell 0;have hc1:=hk.cell 1;have hf0:=hk.frozen 0;have hf1:=hk.frozen 1;simp at hc0 hc1
   go_wp2_with fail
   exact bodyPost_ret (v:=AE (6,[],[])) (by simp[results,Tryz.results114,go_sem,hc0,hc1,hf0,hf1,AE,A9]) rfl ⟨by rw[HF.out],((((Qb.refl w).alloc _).trans (hqe.trans hq2)).set (zd _) _).set (zd _) _⟩
  ·have H8:=za (hP2 rfl);clear hP2;rcases an with _|_
   ·by_cases hne:ne=0
    ·subst hne
     by_cases hhe:he=0
     ·subst hhe;rcases ip with _|_
      ·have HF:Hid (A0 s.data.toList=(0,u,h)):=za (by rw[HE2.out _ HX.out];rfl)
       go_enter Tryz.func114,Tryz.ntmps114
       go_wp2_with fail
       refine(D4 _ _ _ (by unfold maxLen;rw[HX7.out,Am,zg];omega) (by decide)).mono ?_;rintro e w1 ⟨rfl,hqe⟩;rw[show AM (s.extract 0 7).data.toList ({ data:=#[109,97,105,108,116,111,58] }:ByteArray).data.toList=true from HEQ.out]
       go_wp2_with fail
       rw[HXD.out];refine(Cw (S d) 64 _ (by unfold maxLen;rw[Am];omega)).mono ?_;rintro e w2 ⟨rfl,hq2⟩;rw[Ao,HC.out];unfold BG
       go_wp2_with fail
       refine(JO s _ (by omega) H8.out).mono ?_;rintro e w3 ⟨rfl,hq3⟩;rw[HA.out]
       go_wp2_with fail
       refine(LH (S p) _ (by rw[Am];omega)).mono ?_;rintro e w4 ⟨rfl,hq4⟩;rw[Ao,HN.out];unfold Be
       go_wp2_with fail
       refine(Fy (S q) _ (by unfold maxLen;rw[Am];omega)).mono ?_;rintro e w5 ⟨rfl,hq5⟩;rw[Ao,HH.out];unfold Be
       go_wp2_with fail
       refine(Lt (S h) _ (by unfold maxLen;rw[Am];omega)).mono ?_;rintro e w6 ⟨rfl,hq6⟩;rw[Ao,HI.out];have hk:=(AF.new w _ _).qb (((((hqe.trans hq2).trans hq3).trans hq4).trans hq5).trans hq6);have hc0:=hk.cell 0;have hc1:=hk.cell 1;have hf0:=hk.frozen 0;have hf1:=hk.frozen 1;simp at hc0 hc1
       go_wp2_with fail
       exact bodyPost_ret (v:=AE (0,u,h)) (by simp[results,Tryz.results114,go_sem,hc0,hc1,hf0,hf1,AE,A9]) rfl ⟨by rw[HF.out],((((Qb.refl w).alloc _).trans (((((hqe.trans hq2).trans hq3).trans hq4).trans hq5).trans hq6)).set (zd _) _).set (zd _) _⟩
      ·have HF:Hid (A0 s.data.toList=(50,[],[])):=za (by rw[HE2.out _ HX.out];rfl)
       go_enter Tryz.func114,Tryz.ntmps114
       go_wp2_with fail
       refine(D4 _ _ _ (by unfold maxLen;rw[HX7.out,Am,zg];omega) (by decide)).mono ?_;rintro e w1 ⟨rfl,hqe⟩;rw[show AM (s.extract 0 7).data.toList ({ data:=#[109,97,105,108,116,111,58] }:ByteArray).data.toList=true from HEQ.out]
       go_wp2_with fail
       rw[HXD.out];refine(Cw (S d) 64 _ (by unfold maxLen;rw[Am];omega)).mono ?_;rintro e w2 ⟨rfl,hq2⟩;rw[Ao,HC.out];unfold BG
       go_wp2_with fail
       refine(JO s _ (by omega) H8.out).mono ?_;rintro e w3 ⟨rfl,hq3⟩;rw[HA.out]
       go_wp2_with fail
       refine(LH (S p) _ (by rw[Am];omega)).mono ?_;rintro e w4 ⟨rfl,hq4⟩;rw[Ao,HN.out];unfold Be
       go_wp2_with fail
       refine(Fy (S q) _ (by unfold maxLen;rw[Am];omega)).mono ?_;rintro e w5 ⟨rfl,hq5⟩;rw[Ao,HH.out];unfold Be
       go_wp2_with fail
       refine(Lt (S h) _ (by unfold maxLen;rw[Am];omega)).mono ?_;rintro e w6 ⟨rfl,hq6⟩;rw[Ao,HI.out];have hk:=(AF.new w _ _).qb (((((hqe.trans hq2).trans hq3).trans hq4).trans hq5).trans hq6);have hc0:=hk.cell 0;have hc1:=hk.cell 1;have hf0:=hk.frozen 0;have hf1:=hk.frozen 1;simp at hc0 hc1
       go_wp2_with fail
       exact bodyPost_ret (v:=AE (50,[],[])) (by simp[results,Tryz.results114,go_sem,hc0,hc1,hf0,hf1,AE,A9]) rfl ⟨by rw[HF.out],((((Qb.refl w).alloc _).trans (((((hqe.trans hq2).trans hq3).trans hq4).trans hq5).trans hq6)).set (zd _) _).set (zd _) _⟩
     ·have hb2:(he != 0)=true:=bne_iff_ne.2 hhe;have HHE:=za hhe;clear hhe;have HF:Hid (A0 s.data.toList=(he,[],[])):=za (by rw[HE2.out _ HX.out,if_neg (by simp),if_neg (by simp),if_neg (by simp),if_pos HHE.out])
      go_enter Tryz.func114,Tryz.ntmps114
      go_wp2_with fail
      refine(D4 _ _ _ (by unfold maxLen;rw[HX7.out,Am,zg];omega) (by decide)).mono ?_;rintro e w1 ⟨rfl,hqe⟩;rw[show AM (s.extract 0 7).data.toList ({ data:=#[109,97,105,108,116,111,58] }:ByteArray).data.toList=true from HEQ.out]
      go_wp2_with fail
      rw[HXD.out];refine(Cw (S d) 64 _ (by unfold maxLen;rw[Am];omega)).mono ?_;rintro e w2 ⟨rfl,hq2⟩;rw[Ao,HC.out];unfold BG
      go_wp2_with fail
      refine(JO s _ (by omega) H8.out).mono ?_;rintro e w3 ⟨rfl,hq3⟩;rw[HA.out]
      go_wp2_with fail
      refine(LH (S p) _ (by rw[Am];omega)).mono ?_;rintro e w4 ⟨rfl,hq4⟩;rw[Ao,HN.out];unfold Be
      go_wp2_with fail
      refine(Fy (S q) _ (by unfold maxLen;rw[Am];omega)).mono ?_;rintro e w5 ⟨rfl,hq5⟩;rw[Ao,HH.out];unfold Be;have hk:=(AF.new w _ _).qb ((((hqe.trans hq2).trans hq3).trans hq4).trans hq5);have hc0:=hk.cell 0;have hc1:=hk.cell 1;have hf0:=hk.frozen 0;have hf1:=hk.frozen 1;simp at hc0 hc1
      go_wp2_with fail
      exact bodyPost_ret (v:=AE (he,[],[])) (by simp[results,Tryz.results114,go_sem,hc0,hc1,hf0,hf1,AE,A9]) rfl ⟨by rw[HF.out],((((Qb.refl w).alloc _).trans ((((hqe.trans hq2).trans hq3).trans hq4).trans hq5)).set (zd _) _).set (zd _) _⟩
    ·have hb2:(ne != 0)=true:=bne_iff_ne.2 hne;have HNE:=za hne;clear hne;have HF:Hid (A0 s.data.toList=(ne,[],[])):=za (by rw[HE2.out _ HX.out,if_neg (by simp),if_neg (by simp),if_pos HNE.out])
     go_enter Tryz.func114,Tryz.ntmps114
     go_wp2_with fail
     refine(D4 _ _ _ (by unfold maxLen;rw[HX7.out,Am,zg];omega) (by decide)).mono ?_;rintro e w1 ⟨rfl,hqe⟩;rw[show AM (s.extract 0 7).data.toList ({ data:=#[109,97,105,108,116,111,58] }:ByteArray).data.toList=true from HEQ.out]
     go_wp2_with fail
     rw[HXD.out];refine(Cw (S d) 64 _ (by unfold maxLen;rw[Am];omega)).mono ?_;rintro e w2 ⟨rfl,hq2⟩;rw[Ao,HC.out];unfold BG
     go_wp2_with fail
     refine(JO s _ (by omega) H8.out).mono ?_;rintro e w3 ⟨rfl,hq3⟩;rw[HA.out]
     go_wp2_with fail
     refine(LH (S p) _ (by rw[Am];omega)).mono ?_;rintro e w4 ⟨rfl,hq4⟩;rw[Ao,HN.out];unfold Be;have hk:=(AF.new w _ _).qb (((hqe.trans hq2).trans hq3).trans hq4);have hc0:=hk.cell 0;have hc1:=hk.cell 1;have hf0:=hk.frozen 0;have hf1:=hk.frozen 1;simp at hc0 hc1
     go_wp2_with fail
     exact bodyPost_ret (v:=AE (ne,[],[])) (by simp[results,Tryz.results114,go_sem,hc0,hc1,hf0,hf1,AE,A9]) rfl ⟨by rw[HF.out],((((Qb.refl w).alloc _).trans (((hqe.trans hq2).trans hq3).trans hq4)).set (zd _) _).set (zd _) _⟩
   ·have HF:Hid (A0 s.data.toList=(6,[],[])):=za (by rw[HE2.out _ HX.out];rfl)
    go_enter Tryz.func114,Tryz.ntmps114
    go_wp2_with fail
    refine(D4 _ _ _ (by unfold maxLen;rw[HX7.out,Am,zg];omega) (by decide)).mono ?_;rintro e w1 ⟨rfl,hqe⟩;rw[show AM (s.extract 0 7).data.toList ({ data:=#[109,97,105,108,116,111,58] }:ByteArray).data.toList=true from HEQ.out]
    go_wp2_with fail
    rw[HXD.out];refine(Cw (S d) 64 _ (by unfold maxLen;rw[Am];omega)).mono ?_;rintro e w2 ⟨rfl,hq2⟩;rw[Ao,HC.out];unfold BG
    go_wp2_with fail
    refine(JO s _ (by omega) H8.out).mono ?_;rintro e w3 ⟨rfl,hq3⟩;rw[HA.out];have hk:=(AF.new w _ _).qb ((hqe.trans hq2).trans hq3);have hc0:=hk.cell 0;have hc1:=hk.cell 1;have hf0:=hk.frozen 0;have hf1:=hk.frozen 1;simp at hc0 hc1
    go_wp2_with fail
    exact bodyPost_ret (v:=AE (6,[],[])) (by simp[results,Tryz.results114,go_sem,hc0,hc1,hf0,hf1,AE,A9]) rfl ⟨by rw[HF.out],((((Qb.refl w).alloc _).trans ((hqe.trans hq2).trans hq3)).set (zd _) _).set (zd _) _⟩
theorem WN (p d:List UInt8) (k:Nat) (h:p=d.take p.length) (hk:k<p.length) (hk2:k<d.length):p[k]=d[k]:=by
 have:p[k]? = d[k]?:=by
  conv=>lhs;rw[h]
  rw[List.getElem?_take_of_lt hk]
 simpa[zv hk,zv hk2] using this
set_option maxHeartbeats 2000000 in
theorem eI (s:ByteArray) (w:World) (hs:s.size<=maxLen) :
  Calls Tryz.prog 51 #[.string s] w fun e w'=>e=.returned (AE (A0 s.data.toList))/\Qb w w':=by
 unfold maxLen at hs
 by_cases h0:4096<s.size
 ·have HF:Hid (A0 s.data.toList=(5,[],[])):=za (by unfold A0;rw[if_pos (by rw[As];exact h0)])
  go_enter Tryz.func51,Tryz.ntmps51
  go_wp2_with fail
  exact bodyPost_ret (v:=AE (5,[],[])) (by simp[results,Tryz.results51,go_sem,AE,A9]) rfl ⟨by rw[HF.out],(Qb.refl w).alloc _⟩
 have h0':s.size<=4096:=by omega
 by_cases h7:s.size<7
 ·have HF:Hid (A0 s.data.toList=(60,[],[])):=za (by unfold A0;rw[if_neg (by rw[As];omega),if_pos (.inl (by rw[As];exact h7))]);clear h0
  go_enter Tryz.func51,Tryz.ntmps51
  go_wp2_with fail
  exact bodyPost_ret (v:=AE (60,[],[])) (by simp[results,Tryz.results51,go_sem,AE,A9]) rfl ⟨by rw[HF.out],(Qb.refl w).alloc _⟩
 have h7':7<=s.size:=by omega
 have HX7:=za (FD s 7);have hxl:(s.extract 0 7).data.toList=s.data.toList.take 7:=by rw[HX7.out]
 have HXD:=za (EE s 7);have HE:Hid (A0 s.data.toList=if AM (s.data.toList.take 7) Ch=false then (60,[],[]) else if (Ae 64 (s.data.toList.drop 7)).2.2=false\/FL (s.data.toList.drop 7)=true then (6,[],[])
   else if (BM (Ae 64 (s.data.toList.drop 7)).1).1≠0 then ((BM (Ae 64 (s.data.toList.drop 7)).1).1,[],[])
   else if (AH (Ae 64 (s.data.toList.drop 7)).2.1).1≠0 then ((AH (Ae 64 (s.data.toList.drop 7)).2.1).1,[],[])
   else if BZ (AH (Ae 64 (s.data.toList.drop 7)).2.1).2=true then (50,[],[])
   else (0,(BM (Ae 64 (s.data.toList.drop 7)).1).2,(AH (Ae 64 (s.data.toList.drop 7)).2.1).2)):=za (by
  unfold A0;rw[if_neg (by rw[As];omega)];have:∀p:Prop,(s.data.toList.length<7\/p)=p:=fun p=>by rw[As];exact propext ⟨fun h=>h.resolve_left h7,.inr⟩
  simp only[this])
 have hdl:(s.data.toList.drop 7).length<=4096:=by rw[zx,As];omega
 generalize s.data.toList.drop 7=d at *;obtain⟨p,q,b,hcut⟩:∃p q b,Ae 64 d=(p,q,b):=⟨_,_,_,rfl⟩;obtain⟨he,h,hh⟩:∃he h,AH q=(he,h):=⟨_,_,rfl⟩;have hhl:h.length<=4096:=by have:=Rw q;rw[hh] at this;have h2:=(Da 64 d).2;rw[hcut] at h2;simp at this h2;omega
 obtain⟨ip,hip⟩:∃ip,BZ h=ip:=⟨_,rfl⟩;obtain⟨an,han⟩:∃an,FL d=an:=⟨_,rfl⟩;have HH:=za hh;have HI:=za hip;have hlens:=Da 64 d;rw[hcut] at hlens;have hpl:p.length<=4096:=by have:=hlens.1;simp at this;omega
 have hql:q.length<=4096:=by have:=hlens.2;simp at this;omega
 have HIX:Hid (At d ({ data:=#[64] }:ByteArray).data.toList=p.length):=za (by
  show At d [64]=p.length;rw[Ip,hcut])
 have hE2:∀x,AM (s.data.toList.take 7) Ch=x->A0 s.data.toList=if x=false then (60,[],[]) else if b=false\/an=true then (6,[],[]) else if (BM p).1≠0 then ((BM p).1,[],[]) else if he≠0 then (he,[],[]) else if ip=true then (50,[],[]) else (0,(BM p).2,h):=fun x hx=>by
  rw[HE.out,hcut];simp only;rw[hh,hx,hip,han]
 have HE2:=za hE2;have hcl:=EP 64 d;rw[hcut] at hcl;simp only at hcl;have HCL:=za hcl;have hi:=Dk 64 d;rw[hcut] at hi;have HCI:=za hi;have HAN:=za han;clear hcut hh hE2 HE hlens h0 h7 hip hcl hi han;rcases hx:AM (s.data.toList.take 7) Ch with _|_
 ·have HEQ:Hid (AM (s.extract 0 7).data.toList ({ data:=#[109,97,105,108,116,111,58] }:ByteArray).data.toList=false):=za (by rw[hxl];exact hx);have HX:=za hx;clear hx hxl;have HF:Hid (A0 s.data.toList=(60,[],[])):=za (by rw[HE2.out _ HX.out];rfl)
  go_enter Tryz.func51,Tryz.ntmps51
  go_wp2_with fail
  refine(ES _ _ _ (by rw[HX7.out,Am,zg];omega) (by decide)).mono ?_;rintro e w1 ⟨rfl,hqe⟩;rw[show AM (s.extract 0 7).data.toList ({ data:=#[109,97,105,108,116,111,58] }:ByteArray).data.toList=false from HEQ.out];have hk:=(AF.new w _ _).qb hqe;have hc0:=hk.cell 0;have hc1:=hk.cell 1;have hf0:=hk.frozen 0;have hf1:=hk.frozen 1;simp at hc0 hc1
  go_wp2_with fail
  exact bodyPost_ret (v:=AE (60,[],[])) (by simp[results,Tryz.results51,go_sem,hc0,hc1,hf0,hf1,AE,A9]) rfl ⟨by rw[HF.out],((((Qb.refl w).alloc _).trans hqe).set (zd _) _).set (zd _) _⟩
 ·have HEQ:Hid (AM (s.extract 0 7).data.toList ({ data:=#[109,97,105,108,116,111,58] }:ByteArray).data.toList=true):=za (by rw[hxl];exact hx);have HX:=za hx;clear hx hxl;rcases b with _|_
  ·have hpd:p.length=d.length:=by rw[(HCL.out.2.2 rfl).1]
   have hb1:((p.length:Int)==(d.length:Int))=true:=by rw[beq_iff_eq];omega
   clear hpd;have HF:Hid (A0 s.data.toList=(6,[],[])):=za (by rw[HE2.out _ HX.out];rfl)
   go_enter Tryz.func51,Tryz.ntmps51
   go_wp2_with fail
   refine(ES _ _ _ (by rw[HX7.out,Am,zg];omega) (by decide)).mono ?_;rintro e w1 ⟨rfl,hqe⟩;rw[show AM (s.extract 0 7).data.toList ({ data:=#[109,97,105,108,116,111,58] }:ByteArray).data.toList=true from HEQ.out];have hk:=(AF.new w _ _).qb hqe;have hc0:=hk.cell 0;have hc1:=hk.cell 1;have hf0:=hk.frozen 0;have hf1:=hk.frozen 1;simp at hc0 hc1
   go_wp2_with fail
   rw[HXD.out];refine(EU _ _ _ (by unfold maxLen;rw[Am];omega) (by decide)).mono ?_;rintro e w2 ⟨rfl,rfl⟩;rw[Ao,show At d ({ data:=#[64] }:ByteArray).data.toList=p.length from HIX.out]
   go_wp2_with fail
   exact bodyPost_ret (v:=AE (6,[],[])) (by simp[results,Tryz.results51,go_sem,hc0,hc1,hf0,hf1,AE,A9]) rfl ⟨by rw[HF.out],((((Qb.refl w).alloc _).trans hqe).set (zd _) _).set (zd _) _⟩
  ·have hpd:=HCL.out.2.1 rfl;have hpq:p=d.take p.length/\q=d.drop (p.length+1):=by
    rcases HCI.out with ⟨_,h2,_⟩|⟨k,_,hk,h2,_⟩
    ·injection h2 with _ h2;injection h2 with _ h2;cases h2
    ·injection h2 with h2 h3;injection h3 with h3 _
     have:p.length=k:=by rw[h2,zg];omega
     rw[this];exact⟨h2,h3⟩
   have hxp:=FD (S d) p.length;rw[Ao,<-hpq.1] at hxp;have hxq:=EE (S d) (p.length+1);rw[Ao,Am,<-hpq.2] at hxq;have HXP:=za hxp;have HXQ:=za hxq;have HPQ:=za hpq;have hpi:(p.length:Int)+1<=(d.length:Int):=by omega
   have hb1:((p.length:Int)==(d.length:Int))=false:=by rw[beq_eq_false_iff_ne];omega
   clear hpd hpq hxp hxq;rcases an with _|_
   ·have HIQ:Hid (At d ({ data:=#[63,35] }:ByteArray).data.toList=d.length):=za ((PI d [63,35]).2 HAN.out);obtain⟨er,du,hd⟩:∃er du,An p=(er,du):=⟨_,_,rfl⟩;have hdul:du.length<=4096:=by have:=QN p;rw[hd] at this;simp at this;omega
    obtain⟨lo,hlo⟩:∃lo,CB du=lo:=⟨_,rfl⟩;have HD:=za hd;have HL:=za hlo;have HE3:Hid (A0 s.data.toList=if (BM p).1≠0 then ((BM p).1,[],[]) else if he≠0 then (he,[],[]) else if ip=true then (50,[],[]) else (0,(BM p).2,h)):=za (by rw[HE2.out _ HX.out,if_neg (by simp),if_neg (by simp)]);clear hd hlo
    go_enter Tryz.func51,Tryz.ntmps51
    go_wp2_with fail
    refine(ES _ _ _ (by rw[HX7.out,Am,zg];omega) (by decide)).mono ?_;rintro e w1 ⟨rfl,hqe⟩;rw[show AM (s.extract 0 7).data.toList ({ data:=#[109,97,105,108,116,111,58] }:ByteArray).data.toList=true from HEQ.out];have hk:=(AF.new w _ _).qb hqe;have hc0:=hk.cell 0;have hc1:=hk.cell 1;have hf0:=hk.frozen 0;have hf1:=hk.frozen 1;simp at hc0 hc1
    go_wp2_with fail
    rw[HXD.out];refine(EU _ _ _ (by unfold maxLen;rw[Am];omega) (by decide)).mono ?_;rintro e w2 ⟨rfl,rfl⟩;rw[Ao,show At d ({ data:=#[64] }:ByteArray).data.toList=p.length from HIX.out]
    go_wp2_with fail
    refine(EU _ _ _ (by unfold maxLen;rw[Am];omega) (by decide)).mono ?_;rintro e w3 ⟨rfl,rfl⟩;rw[Ao,show At d ({ data:=#[63,35] }:ByteArray).data.toList=d.length from HIQ.out]
    go_wp2_with fail
    go_loop [5] (fun i=>∃k:Nat,k<=p.length/\i=.int .i64 k/\Hid ((p.take k).all CP=true)) (fun i=>p.length - (intOf i).toNat)
    case atStart=>exact⟨0,ze _,rfl,za rfl⟩
    case round=>
     obtain⟨k,hk0,rfl,HT⟩:=hrel
     by_cases hlt:k<p.length
     ·have hlt2:k<d.length:=by omega
      have hpk:=WN p d k HPQ.out.1 hlt hlt2;have hS:Hid (∀h,(S d)[k]'h=d[k]):=za (fun h=>rfl);have HS:=za (JC CP p k hlt);have HA:=za (JN CP p (k+1));have HM:Hid (CP p[k]=(A4 d[k]||Aw d[k] [37,33,36,39,42,43])):=za (by rw[hpk];rfl);clear hpk;rcases ha:A4 d[k] with _|_
      ·rcases hb:Aw d[k] [37,33,36,39,42,43] with _|_
       ·have HF:Hid (A0 s.data.toList=(1,[],[])):=za (by rw[HE3.out,BM,if_pos (HA.out (by rw[HS.out,HM.out,ha,hb,HT.out];rfl))];rfl);have H1:=za ha;have H2:=za hb;clear ha hb
        go_wp2_with fail
        refine(ED _ _).mono ?_;rintro e w' ⟨rfl,rfl⟩;rw[hS.out,H1.out]
        go_wp2_with fail
        refine(DR _ _ _ (by decide)).mono ?_;rintro e w' ⟨rfl,rfl⟩;rw[hS.out,show Aw d[k] ({ data:=#[37,33,36,39,42,43] }:ByteArray).data.toList=false from H2.out]
        go_wp2_with fail
        exact bodyPost_ret (v:=AE (1,[],[])) (by simp[results,Tryz.results51,go_sem,hc0,hc1,hf0,hf1,AE,A9]) rfl ⟨by rw[HF.out],((((Qb.refl w).alloc _).trans hqe).set (zd _) _).set (zd _) _⟩
       ·have HN:Hid ((p.take (k+1)).all CP=true):=za (by rw[HS.out,HM.out,ha,hb,HT.out];rfl);have H1:=za ha;have H2:=za hb;clear ha hb
        go_wp2_with fail
        refine(ED _ _).mono ?_;rintro e w' ⟨rfl,rfl⟩;rw[hS.out,H1.out]
        go_wp2_with fail
        refine(DR _ _ _ (by decide)).mono ?_;rintro e w' ⟨rfl,rfl⟩;rw[hS.out,show Aw d[k] ({ data:=#[37,33,36,39,42,43] }:ByteArray).data.toList=true from H2.out]
        go_wp2_with fail
        go_round
        case rel=>exact⟨k+1,by omega,by go_num,HN⟩
        case measure=>simp[intOf];omega
      ·have HN:Hid ((p.take (k+1)).all CP=true):=za (by rw[HS.out,HM.out,ha,HT.out];rfl);have H1:=za ha;clear ha
       go_wp2_with fail
       refine(ED _ _).mono ?_;rintro e w' ⟨rfl,rfl⟩;rw[hS.out,H1.out]
       go_wp2_with fail
       go_round
       case rel=>exact⟨k+1,by omega,by go_num,HN⟩
       case measure=>simp[intOf];omega
     ·obtain rfl:k=p.length:=by omega
      have HE4:Hid (A0 s.data.toList=if er≠0 then (er,[],[]) else if lo=false then (80,[],[]) else if he≠0 then (he,[],[]) else if ip=true then (50,[],[]) else (0,du,h)):=za (by
       have hT:=HT.out;rw[qe] at hT;have hLoc:BM p=if er≠0 then (er,[]) else if lo=false then (80,[]) else (0,du):=by
        unfold BM;rw[if_neg (by rw[hT];simp)];simp only[HD.out,HL.out]
       rw[HE3.out,hLoc]
       by_cases h1:er=0
       ·subst h1;rcases lo with _|_<;>rfl
       ·rw[if_pos h1];exact(if_pos h1).trans (if_pos h1).symm)
      by_cases hne:er=0
      ·subst hne;rcases lo with _|_
       ·have HF:Hid (A0 s.data.toList=(80,[],[])):=za (by rw[HE4.out];rfl)
        go_wp2_with fail
        rw[HXP.out];refine(II _ _).mono ?_;rintro e w4 ⟨rfl,hq3⟩;rw[Ao,HD.out];unfold Be
        go_wp2_with fail
        refine(Lu _ _ (by rw[Am];omega)).mono ?_;rintro e w5 ⟨rfl,hq4⟩;rw[Ao,HL.out];have hk:=(AF.new w _ _).qb ((hqe.trans hq3).trans hq4);have hc0:=hk.cell 0;have hc1:=hk.cell 1;have hf0:=hk.frozen 0;have hf1:=hk.frozen 1;simp at hc0 hc1
        go_wp2_with fail
        exact bodyPost_ret (v:=AE (80,[],[])) (by simp[results,Tryz.results51,go_sem,hc0,hc1,hf0,hf1,AE,A9]) rfl ⟨by rw[HF.out],((((Qb.refl w).alloc _).trans ((hqe.trans hq3).trans hq4)).set (zd _) _).set (zd _) _⟩
       ·by_cases hhe:he=0
        ·subst hhe;rcases ip with _|_
         ·have HF:Hid (A0 s.data.toList=(0,du,h)):=za (by rw[HE4.out];rfl)
          go_wp2_with fail
          rw[HXP.out];refine(II _ _).mono ?_;rintro e w4 ⟨rfl,hq3⟩;rw[Ao,HD.out];unfold Be
          go_wp2_with fail
          refine(Lu _ _ (by rw[Am];omega)).mono ?_;rintro e w5 ⟨rfl,hq4⟩;rw[Ao,HL.out]
          go_wp2_with fail
          rw[HXQ.out];refine(Iu (S q) _ (by rw[Am];omega)).mono ?_;rintro e w6 ⟨rfl,hq5⟩;rw[Ao,HH.out];unfold Be
          go_wp2_with fail
          refine(Jx (S h) _ (by rw[Am];omega)).mono ?_;rintro e w7 ⟨rfl,hq6⟩;rw[Ao,HI.out];have hk:=(AF.new w _ _).qb ((((hqe.trans hq3).trans hq4).trans hq5).trans hq6);have hc0:=hk.cell 0;have hc1:=hk.cell 1;have hf0:=hk.frozen 0;have hf1:=hk.frozen 1;simp at hc0 hc1
          go_wp2_with fail
          exact bodyPost_ret (v:=AE (0,du,h)) (by simp[results,Tryz.results51,go_sem,hc0,hc1,hf0,hf1,AE,A9]) rfl ⟨by rw[HF.out],((((Qb.refl w).alloc _).trans ((((hqe.trans hq3).trans hq4).trans hq5).trans hq6)).set (zd _) _).set (zd _) _⟩
         ·have HF:Hid (A0 s.data.toList=(50,[],[])):=za (by rw[HE4.out];rfl)
          go_wp2_with fail
          rw[HXP.out];refine(II _ _).mono ?_;rintro e w4 ⟨rfl,hq3⟩;rw[Ao,HD.out];unfold Be
          go_wp2_with fail
          refine(Lu _ _ (by rw[Am];omega)).mono ?_;rintro e w5 ⟨rfl,hq4⟩;rw[Ao,HL.out]
          go_wp2_with fail
          rw[HXQ.out];refine(Iu (S q) _ (by rw[Am];omega)).mono ?_;rintro e w6 ⟨rfl,hq5⟩;rw[Ao,HH.out];unfold Be
          go_wp2_with fail
          refine(Jx (S h) _ (by rw[Am];omega)).mono ?_;rintro e w7 ⟨rfl,hq6⟩;rw[Ao,HI.out];have hk:=(AF.new w _ _).qb ((((hqe.trans hq3).trans hq4).trans hq5).trans hq6);have hc0:=hk.cell 0;have hc1:=hk.cell 1;have hf0:=hk.frozen 0;have hf1:=hk.frozen 1;simp at hc0 hc1
          go_wp2_with fail
          exact bodyPost_ret (v:=AE (50,[],[])) (by simp[results,Tryz.results51,go_sem,hc0,hc1,hf0,hf1,AE,A9]) rfl ⟨by rw[HF.out],((((Qb.refl w).alloc _).trans ((((hqe.trans hq3).trans hq4).trans hq5).trans hq6)).set (zd _) _).set (zd _) _⟩
        ·have hb2:(he != 0)=true:=bne_iff_ne.2 hhe;have HHE:=za hhe;clear hhe;have HF:Hid (A0 s.data.toList=(he,[],[])):=za (by rw[HE4.out,if_neg (by simp),if_neg (by simp),if_pos HHE.out])
         go_wp2_with fail
         rw[HXP.out];refine(II _ _).mono ?_;rintro e w4 ⟨rfl,hq3⟩;rw[Ao,HD.out];unfold Be
         go_wp2_with fail
         refine(Lu _ _ (by rw[Am];omega)).mono ?_;rintro e w5 ⟨rfl,hq4⟩;rw[Ao,HL.out]
         go_wp2_with fail
         rw[HXQ.out];refine(Iu (S q) _ (by rw[Am];omega)).mono ?_;rintro e w6 ⟨rfl,hq5⟩;rw[Ao,HH.out];unfold Be;have hk:=(AF.new w _ _).qb (((hqe.trans hq3).trans hq4).trans hq5);have hc0:=hk.cell 0;have hc1:=hk.cell 1;have hf0:=hk.frozen 0;have hf1:=hk.frozen 1;simp at hc0 hc1
         go_wp2_with fail
         exact bodyPost_ret (v:=AE (he,[],[])) (by simp[results,Tryz.results51,go_sem,hc0,hc1,hf0,hf1,AE,A9]) rfl ⟨by rw[HF.out],((((Qb.refl w).alloc _).trans (((hqe.trans hq3).trans hq4).trans hq5)).set (zd _) _).set (zd _) _⟩
      ·have hb2:(er != 0)=true:=bne_iff_ne.2 hne;have HNE:=za hne;clear hne;have HF:Hid (A0 s.data.toList=(er,[],[])):=za (by rw[HE4.out,if_pos HNE.out])
       go_wp2_with fail
       rw[HXP.out];refine(II _ _).mono ?_;rintro e w4 ⟨rfl,hq3⟩;rw[Ao,HD.out];unfold Be;have hk:=(AF.new w _ _).qb (hqe.trans hq3);have hc0:=hk.cell 0;have hc1:=hk.cell 1;have hf0:=hk.frozen 0;have hf1:=hk.frozen 1;simp at hc0 hc1
       go_wp2_with fail
       exact bodyPost_ret (v:=AE (er,[],[])) (by simp[results,Tryz.results51,go_sem,hc0,hc1,hf0,hf1,AE,A9]) rfl ⟨by rw[HF.out],((((Qb.refl w).alloc _).trans (hqe.trans hq3)).set (zd _) _).set (zd _) _⟩
   ·obtain⟨n,hn⟩:∃n,At d [63,35]=n:=⟨_,rfl⟩;have hnl:(n:Int)<(d.length:Int):=by
     have h1:=KJ d [63,35];have h2:¬At d [63,35]=d.length:=fun e=>by have:=(PI d [63,35]).1 e;rw[show xh d [63,35]=true from HAN.out] at this;cases this
     omega
    have HIQ:Hid (At d ({ data:=#[63,35] }:ByteArray).data.toList=n):=za hn;clear hn;have HF:Hid (A0 s.data.toList=(6,[],[])):=za (by rw[HE2.out _ HX.out];rfl)
    go_enter Tryz.func51,Tryz.ntmps51
    go_wp2_with fail
    refine(ES _ _ _ (by rw[HX7.out,Am,zg];omega) (by decide)).mono ?_;rintro e w1 ⟨rfl,hqe⟩;rw[show AM (s.extract 0 7).data.toList ({ data:=#[109,97,105,108,116,111,58] }:ByteArray).data.toList=true from HEQ.out];have hk:=(AF.new w _ _).qb hqe;have hc0:=hk.cell 0;have hc1:=hk.cell 1;have hf0:=hk.frozen 0;have hf1:=hk.frozen 1;simp at hc0 hc1
    go_wp2_with fail
    rw[HXD.out];refine(EU _ _ _ (by unfold maxLen;rw[Am];omega) (by decide)).mono ?_;rintro e w2 ⟨rfl,rfl⟩;rw[Ao,show At d ({ data:=#[64] }:ByteArray).data.toList=p.length from HIX.out]
    go_wp2_with fail
    refine(EU _ _ _ (by unfold maxLen;rw[Am];omega) (by decide)).mono ?_;rintro e w3 ⟨rfl,rfl⟩;rw[Ao,show At d ({ data:=#[63,35] }:ByteArray).data.toList=n from HIQ.out]
    go_wp2_with fail
    exact bodyPost_ret (v:=AE (6,[],[])) (by simp[results,Tryz.results51,go_sem,hc0,hc1,hf0,hf1,AE,A9]) rfl ⟨by rw[HF.out],((((Qb.refl w).alloc _).trans hqe).set (zd _) _).set (zd _) _⟩
open Sx
theorem PP (p:UInt8->Bool) (l keep:List UInt8) (h37:p 37=true) (hx:∀n:Fin 16,p (Bk n.val)=true) (hp:∀c,Bo c keep=true->p c=true):(AI l keep).all p=true:=by
 unfold AI;rw[List.all_flatMap];refine zl.2 fun c _=>?_
 split
 ·rename_i h;simp[hp c h]
 ·have hc:=UInt8.toNat_lt c;have h1:=hx ⟨c.toNat / 16,by omega⟩;have h2:=hx ⟨c.toNat % 16,by omega⟩;simp only at h1 h2;simp[Bd,h37,h1,h2]
theorem Nt (c x:UInt8):∀l:List UInt8,x∈l->x=c\/∃p∈Ap c l,x∈p
 | [],h=>by cases h
 | y::t,h=>by
  obtain⟨p,ps,e⟩:=Cj c t;rw[CT,e]
  by_cases hy:y=c
  ·rw[if_pos hy];rcases zt.1 h with rfl|h
   ·exact .inl hy
   ·rcases Nt c x t h with h|⟨q,hq,hx⟩
    ·exact .inl h
    ·exact .inr ⟨q,by rw[<-e];exact qw _ hq,hx⟩
  ·rw[if_neg hy];rcases zt.1 h with rfl|h
   ·exact .inr ⟨_,jg ..,jg ..⟩
   ·rcases Nt c x t h with h|⟨q,hq,hx⟩
    ·exact .inl h
    ·rw[e] at hq;rcases zt.1 hq with rfl|hq
     ·exact .inr ⟨_,jg ..,qw _ hx⟩
     ·exact .inr ⟨q,qw _ hq,hx⟩
theorem bJ {h:List UInt8} (hn:B7 h=true) (x:UInt8) (hx:x∈h):x=46\/BS x=true:=by
 rcases Nt 46 x h hx with h1|⟨p,hp,hxp⟩
 ·exact .inl h1
 ·unfold B7 at hn;simp only[Bool.and_eq_true,zl] at hn;have:=hn.1 p hp;unfold BW at this;simp only[Bool.and_eq_true,zl] at this;exact .inr (this.2 x hxp)
theorem Zp {h:List UInt8} (hh:AH h=(0,h)) (h4:BZ h=false):B7 h=true/\h.length<=253:=by
 unfold AH at hh
 split at hh
 ·cases hh
 ·split at hh
  ·cases hh
  ·split at hh
   ·rename_i h1 h2 h3;rw[h4,Bool.or_false] at h3;exact⟨h3,by omega⟩
   ·cases hh
theorem VU:∀n:Fin 256,(BS (UInt8.ofNat n.val)=true\/UInt8.ofNat n.val=46->Aw (UInt8.ofNat n.val) [63,35]=false)/\(Bo (UInt8.ofNat n.val) Cz=true->CP (UInt8.ofNat n.val)=true/\Aw (UInt8.ofNat n.val) [63,35]=false/\UInt8.ofNat n.val≠64):=by decide +kernel
theorem J8 (c:UInt8):(BS c=true\/c=46->Aw c [63,35]=false)/\(Bo c Cz=true->CP c=true/\Aw c [63,35]=false/\c≠64):=by
 have:=VU ⟨c.toNat,UInt8.toNat_lt c⟩;simpa using this
theorem XU {u h:List UInt8} (hu:CB u=true) (hh:AH h=(0,h)) (h4:BZ h=false):A0 (D8 u h)=(0,u,h)/\u.length<=64/\h.length<=253:=by
 obtain⟨hn,hl⟩:=Zp hh h4;have hu64:u.length<=64:=by
  unfold CB at hu;simp only[Bool.and_eq_true,decide_eq_true_eq] at hu;exact hu.1
 refine⟨?_,hu64,hl⟩;have he:=Hq u Cz;have hr:(AI u Cz).all CP=true:=PP CP u Cz (by decide) (by decide +kernel) fun c hc=>((J8 c).2 hc).1;have hm:(AI u Cz).all (fun c=>!Aw c [63,35]&&c != 64)=true:=PP _ u Cz (by decide) (by decide +kernel) fun c hc=>by simp[((J8 c).2 hc).2.1,((J8 c).2 hc).2.2]
 have h64:(64:UInt8)∉AI u Cz:=fun hx=>by
  have:=zl.1 hm 64 hx;simp at this
 have hq:FL (AI u Cz++64::h)=false:=by
  unfold FL;rw[Jt,List.any_append,List.any_cons];have e1:(AI u Cz).any (fun c=>Aw c [63,35])=false:=by
   rw[List.any_eq_false];intro c hc;have:=zl.1 hm c hc;simp at this;simp[this.1]
  have e2:h.any (fun c=>Aw c [63,35])=false:=by
   rw[List.any_eq_false];intro c hc;rw[(J8 c).1 (Or.symm (bJ hn c hc))];simp
  rw[e1,e2];rfl
 have e7:(D8 u h).take 7=Ch:=by unfold D8 Ch;simp
 have d7:(D8 u h).drop 7=AI u Cz++64::h:=by unfold D8 Ch;simp
 have hlen:(D8 u h).length=7+(AI u Cz).length+1+h.length:=by unfold D8 Ch;simp;omega
 have hloc:BM (AI u Cz)=(0,u):=by
  unfold BM;rw[hr,Vn u Cz (by omega),hu];simp
 unfold A0;rw[if_neg (by omega),e7,d7,if_neg (by
  rw[not_or];refine⟨by omega,?_⟩;have:AM Ch Ch=true:=by decide
  rw[this];simp),Dm 64 _ h h64,hq,hloc]
 simp only[hh,h4];simp
theorem nI {l u:List UInt8} (h:BM l=(0,u)):CB u=true:=by
 unfold BM at h
 split at h
 ·injection h with h1 _;cases h1
 ·split at h
  ·rename_i h0;injection h with h1 _;exact absurd h1 h0
  ·split at h
   ·injection h with h1 _;cases h1
   ·rename_i h0 h1 h2;injection h with _ h3
    rw[<-h3];simpa using h2
theorem bI {s u h:List UInt8} (hs:A0 s=(0,u,h)):CB u=true/\AH h=(0,h)/\BZ h=false:=by
 unfold A0 at hs
 split at hs
 ·injection hs with h1 _;cases h1
 ·split at hs
  ·injection hs with h1 _;cases h1
  ·split at hs
   ·injection hs with h1 _;cases h1
   ·split at hs
    ·rename_i h3;injection hs with h4 _;exact absurd h4 h3
    ·split at hs
     ·rename_i h3;injection hs with h4 _;exact absurd h4 h3
     ·split at hs
      ·injection hs with h1 _;cases h1
      ·rename_i k0 k1 k2 k3 k4 k5;injection hs with _ hs
       injection hs with hu hh
       simp only[Decidable.not_not] at k3 k4;refine⟨nI (l:=(Ae 64 (s.drop 7)).1) (by rw[<-hu,<-k3]),?_,?_⟩
       ·exact(NC (q:=(Ae 64 (s.drop 7)).2.1) (by rw[<-hh,<-k4])).1
       ·rw[<-hh];simpa using k5
theorem XT {s:List UInt8} (h:(A0 s).1≠0):(A0 s).2=([],[]):=by
 unfold A0 at h ⊢
 split
 ·rfl
 ·rename_i h1;rw[if_neg h1] at h
  split
  ·rfl
  ·rename_i h2;rw[if_neg h2] at h
   split
   ·rfl
   ·rename_i h3;rw[if_neg h3] at h
    split
    ·rfl
    ·rename_i h4;rw[if_neg h4] at h
     split
     ·rfl
     ·rename_i h5;rw[if_neg h5] at h
      split
      ·rfl
      ·rename_i h6;rw[if_neg h6] at h;exact absurd rfl h
section
variable [Tabs Tryz.prog] {objs:List OB} {K:List OB->AV->Prop}
theorem Xz (s:List UInt8) (hs:s.length<=maxLen) (hk:K objs (.tup [.agg [.s (Bl s).2.1,.s (Bl s).2.2],.i .i64 (Bl s).1])):Ag Tryz.prog 112 [.s s] objs K :=
 conv (vs:=[.string (S s)]) rfl rfl (fun w=>bW (S s) w (by rw[Am];exact hs)) hk
theorem ZL (u h:List UInt8) (hu:u.length<=9000000000000000000) (hh:h.length<=100000000000000000) (hk:K objs (.s (G1 u h))):Ag Tryz.prog 113 [.agg [.s u,.s h]] objs K :=
 conv (vs:=[A9 u h]) rfl rfl (fun w=>dY u h w hu hh) hk
theorem bN (u h:List UInt8) (hu:u.length<=9000000000000000000) (hh:h.length<=100000000000000000) (hk:K objs (.s (G1 u h))):Ag Tryz.prog 50 [.agg [.s u,.s h]] objs K :=
 conv (vs:=[A9 u h]) rfl rfl (fun w=>eX u h w hu hh) hk
theorem XS (s:List UInt8) (hs:s.length<=maxLen) (hk:K objs (.tup [.agg [.s (A0 s).2.1,.s (A0 s).2.2],.i .i64 (A0 s).1])):Ag Tryz.prog 114 [.s s] objs K :=
 conv (vs:=[.string (S s)]) rfl rfl (fun w=>bG (S s) w (by rw[Am];exact hs)) hk
theorem Z8 (u h:List UInt8) (hu:u.length<=300000000) (hh:h.length<=100000000000000000) (hk:K objs (.s (D8 u h))):Ag Tryz.prog 115 [.agg [.s u,.s h]] objs K :=
 conv (vs:=[A9 u h]) rfl rfl (fun w=>eQ u h w hu hh) hk
theorem dE (u h:List UInt8) (hu:u.length<=300000000) (hh:h.length<=100000000000000000) (hk:K objs (.s (D8 u h))):Ag Tryz.prog 52 [.agg [.s u,.s h]] objs K :=
 conv (vs:=[A9 u h]) rfl rfl (fun w=>fC u h w hu hh) hk
end
structure IdP where
 kind:Int
 text:List UInt8
 host:List UInt8
 port:Int
def DG:IdP:=⟨0,[],[],0⟩
def E5 (x:IdP):AV:=.agg [.i .i64 x.kind,.s x.text,.s x.host,.i .i64 x.port]
def Ep (r:Int×IdP):AV:=.tup [E5 r.2,.i .i64 r.1]
def LY (s:List UInt8):Int×IdP:=if (Bl s).1≠0 then ((Bl s).1,DG) else (0,⟨1,G1 (Bl s).2.1 (Bl s).2.2,(Bl s).2.2,0⟩)
def LV (s:List UInt8):Int×IdP:=if (A0 s).1≠0 then ((A0 s).1,DG) else (0,⟨2,D8 (A0 s).2.1 (A0 s).2.2,(A0 s).2.2,0⟩)
def J2 (s:List UInt8):Int×IdP:=if (BY s).1≠0 then ((BY s).1,DG) else (0,⟨3,Bi (BY s).2,(BY s).2.host,(BY s).2.port⟩)
def OG (c:Int×List UInt8×List UInt8):Int×IdP:=if c.1≠0 then (c.1,DG) else (0,⟨4,AB c.2.1 c.2.2,(AS c.2.1 c.2.2).2.1,(AS c.2.1 c.2.2).2.2⟩)
def J3 (s:List UInt8):Int×IdP:=if (AY s).1≠0 then ((AY s).1,DG) else OG (BX (AY s).2.1 (AY s).2.2)
def Gv:List UInt8:=[97,99,99,116]
def Gt:List UInt8:=[109,97,105,108,116,111]
def Gn:List UInt8:=[104,116,116,112,115]
def Gm:List UInt8:=[100,105,100]
def H6 (k s:List UInt8):Int×IdP:=if k=Gv then LY s else if k=Gt then LV s else if k=Gn then J2 s else if k=Gm then J3 s else (60,DG)
def Dy (s:List UInt8):Int×IdP :=
 if 4096<s.length then (5,DG)
 else if (Ae 58 s).2.2=false then (60,DG)
 else H6 (Ay (Ae 58 s).1) s
theorem RB (s:List UInt8):(Bl s).2.1.length<=16384/\(Bl s).2.2.length<=253:=by
 unfold Bl
 split
 ·exact⟨ze _,ze _⟩
 split
 ·exact⟨ze _,ze _⟩
 split
 ·exact⟨ze _,ze _⟩
 split
 ·exact⟨ze _,ze _⟩
 split
 ·exact⟨ze _,ze _⟩
 rename_i h;simp only[ne_eq,Decidable.not_not] at h;refine⟨(Fx _ _).2,?_⟩;have e:AH (Ae 64 (s.drop 5)).2.1=(0,(AH (Ae 64 (s.drop 5)).2.1).2):=by rw[<-h]
 exact(NC e).2.2.1
theorem RT (s:List UInt8):(A0 s).2.1.length<=64/\(A0 s).2.2.length<=253:=by
 by_cases h:(A0 s).1=0
 ·have e:A0 s=(0,(A0 s).2.1,(A0 s).2.2):=by rw[<-h]
  obtain⟨k1,k2,k3⟩:=bI e;obtain⟨_,k4,k5⟩:=XU k1 k2 k3;exact⟨k4,k5⟩
 ·rw[XT h];exact⟨by simp,by simp⟩
theorem Rm {s:List UInt8} (h:(AY s).1=0):(AY s).2.1.length<=4096/\(AY s).2.2.length<=12300:=by
 have e:AY s=(0,(AY s).2.1,(AY s).2.2):=by rw[<-h]
 obtain⟨k1,l,k2,k3,k4⟩:=Kj e;have hl:(AB (AY s).2.1 l).length=(AY s).2.1.length+l.length+5:=by simp[AB,Ca];omega
 rw[<-k2] at hl;have hi:=OZ k3;omega
theorem PK {m i:List UInt8} (h:(BX m i).1≠0):(BX m i).2=([],[]):=by
 unfold BX at h ⊢
 split
 ·rfl
 ·rename_i g;rw[if_neg g] at h;exact Yg h
theorem QK {m i:List UInt8} (h:(BX m i).1=0):(AS (BX m i).2.1 (BX m i).2.2).1=0/\(BX m i).2.1.length<=3/\(BX m i).2.2.length<=4096:=by
 have e:BX m i=(0,(BX m i).2):=by rw[<-h]
 obtain⟨k1,k2,k3,k4,k5⟩:=nS e;obtain⟨_,_,_,k6,_⟩:=Mo k1;refine⟨by rw[k6],by rw[k5];decide,Yh k2⟩
section
variable [Tabs Tryz.prog] {objs:List OB} {K:List OB->AV->Prop}
theorem ZV (s:List UInt8) (hs:s.length<=maxLen) (hk:K objs (.tup [.agg [.s (Bl s).2.1,.s (Bl s).2.2],.i .i64 (Bl s).1])):Ag Tryz.prog 49 [.s s] objs K :=
 conv (vs:=[.string (S s)]) rfl rfl (fun w=>eH (S s) w (by rw[Am];exact hs)) hk
theorem ZY (s:List UInt8) (hs:s.length<=maxLen) (hk:K objs (.tup [.agg [.s (A0 s).2.1,.s (A0 s).2.2],.i .i64 (A0 s).1])):Ag Tryz.prog 51 [.s s] objs K :=
 conv (vs:=[.string (S s)]) rfl rfl (fun w=>eI (S s) w (by rw[Am];exact hs)) hk
theorem YW (s:List UInt8) (hs:s.length<=140737488351232) (hk:K objs (.s (Ay s))):Ag Tryz.prog 48 [.s s] objs K :=
 conv (vs:=[.string (S s)]) rfl rfl (fun w=>JM (S s) w (by rw[Am];exact hs)) hk
theorem WL (s:List UInt8) (hs:s.length<=4096) (hk:K objs (Ep (LY s))):Ag Tryz.prog 84 [.s s] objs K:=by
 refine AC iX rfl fun C _=>?_;simp only[Ul,Aa,simprocAttr];refine Ai (Xz s (by unfold maxLen;omega) ?_);have hl:=RB s;unfold LY at hk
 by_cases c:(Bl s).1=0
 ·simp only[c,ne_eq,not_true_eq_false,if_false] at hk;simp only[c,Aa,simprocAttr];refine Bq (ZL _ _ (by omega) (by omega) ⟨rfl,rfl⟩) ?_;simp only[Aa,simprocAttr];exact hk
 ·simp only[c,ne_eq,not_false_eq_true,if_true] at hk;simp only[c,Aa,simprocAttr];exact hk
theorem WM (s:List UInt8) (hs:s.length<=4096) (hk:K objs (Ep (LV s))):Ag Tryz.prog 85 [.s s] objs K:=by
 refine AC iY rfl fun C _=>?_;simp only[Um,Aa,simprocAttr];refine Ai (XS s (by unfold maxLen;omega) ?_);have hl:=RT s;unfold LV at hk
 by_cases c:(A0 s).1=0
 ·simp only[c,ne_eq,not_true_eq_false,if_false] at hk;simp only[c,Aa,simprocAttr];refine Bq (Z8 _ _ (by omega) (by omega) ⟨rfl,rfl⟩) ?_;simp only[Aa,simprocAttr];exact hk
 ·simp only[c,ne_eq,not_false_eq_true,if_true] at hk;simp only[c,Aa,simprocAttr];exact hk
theorem VN [Pow Tryz.prog] (s:List UInt8) (hs:s.length<=4096) (hk:K objs (Ep (J2 s))):Ag Tryz.prog 86 [.s s] objs K:=by
 refine AC iL rfl fun C _=>?_;simp only[T8,Aa,simprocAttr];refine Ai (Q5 s (by unfold maxLen;omega) ?_);have hl:=Q6 s;unfold J2 at hk
 by_cases c:(BY s).1=0
 ·simp only[c,ne_eq,not_true_eq_false,if_false] at hk;generalize (BY s).2=u at *;simp only[c,A3,Aa,simprocAttr];refine Bq (Jz u hl ⟨rfl,rfl⟩) ?_;simp only[Aa,simprocAttr];exact hk
 ·simp only[c,ne_eq,not_false_eq_true,if_true] at hk;simp only[c,A3,Aa,simprocAttr];exact hk
theorem VM [Shp Tryz.prog] [Pow Tryz.prog] (s:List UInt8) (hs:s.length<=4096) (hk:K objs (Ep (J3 s))):Ag Tryz.prog 87 [.s s] objs K:=by
 refine AC iK rfl fun C _=>?_;simp only[T7,Aa,simprocAttr];refine Ai (SU s (by unfold maxLen;omega) ?_);unfold J3 OG at hk
 by_cases c:(AY s).1=0
 ·obtain⟨l1,l2⟩:=Rm c;simp only[c,ne_eq,not_true_eq_false,if_false] at hk;generalize (AY s).2.1=m at *;generalize (AY s).2.2=i at *;simp only[c,Aa,simprocAttr];refine Ai (Vq m i (by omega) (by omega) ?_)
  by_cases c1:(BX m i).1=0
  ·obtain⟨a1,a2,a3⟩:=QK c1;simp only[c1,not_true_eq_false,if_false] at hk;generalize (BX m i).2.1=cm at *;generalize (BX m i).2.2=ci at *;simp only[c1,Aa,simprocAttr];refine Ai (Qp cm ci (by omega) (by omega) ?_);simp only[a1,Bt,Aa,simprocAttr];refine Bq (LD cm ci (by omega) (by omega) ⟨rfl,rfl⟩) ?_;simp only[Aa,simprocAttr];exact hk
  ·have e:=PK c1;simp only[c1,not_false_eq_true,if_true] at hk;simp only[c1,Aa,simprocAttr];exact hk
 ·simp only[c,ne_eq,not_false_eq_true,if_true] at hk;simp only[c,Aa,simprocAttr];exact hk
end
theorem KU {P:Program} [Tabs P] {f:FuncId} {args:List AV} {vs:List Value} {r:AV} {v:Value} {w:World} (ha:EI args=some vs) (hr:val r=some v) (hT:Tabs.T (P:=P) w) (h:Ag P f args [] (fun _ x=>x=r)) :
  Calls P f vs.toArray w fun e w'=>e=.returned v/\Qb w w':=by
 haveI:On P ⟨w,fun _=>False,fun g o v=>w.cell? ⟨g,o,none⟩=some v,Gh.none⟩:=⟨hT,fun _ h=>h⟩
 have hc:=h ⟨w,fun _=>False,fun g o v=>w.cell? ⟨g,o,none⟩=some v,Gh.none⟩ Gh.none (fun g o v=>w.cell? ⟨g,o,none⟩=some v) w
  ⟨rfl,rfl,rfl,zd _,fun _ _ _=>rfl,fun _ _ _ h=>h,fun _ _ _ h=>.inl h,fun b g hb=>by simp[Gh.own,Gh.none] at hb,Gh.le.refl _⟩
  ⟨fun _ _ _ h=>h,by simp,by simp,by simp,fun b b' g hb=>by simp[Gh.own,Gh.none] at hb,fun b g hb=>by simp[Gh.own,Gh.none] at hb,fun b g o v hb=>by simp[Gh.own,Gh.none] at hb,fun b _=>⟨rfl,rfl⟩⟩ vs ((Fg _ _ args vs ha vs).2 rfl)
 refine hc.mono ?_;rintro e w' ⟨y,objs',r',G',I',rfl,rfl,_,_,hin,_,hy⟩;rw[(Hd _ _ _ v hr y).1 hy];exact⟨rfl,hin.os,hin.tape,hin.output,hin.size,fun k hk=>hin.block k hk (fun h=>h)⟩
def FM (W:World) (r:Nat) (es:Array MapEntry) (c:Nat):World:={ W with heap:=W.heap.setIfInBounds r (.map es c) }
theorem K0 {W:World} {r:Nat} {es:Array MapEntry} {c:Nat} (h:r<W.heap.size):(FM W r es c).heap[r]? = some (.map es c):=by
 simp[FM,h]
theorem JJ {W:World} {r g:Nat} {es:Array MapEntry} {c:Nat} (h:g≠r):(FM W r es c).heap[g]? = W.heap[g]?:=by
 simp only[FM,Array.getElem?_setIfInBounds];rw[if_neg (fun e=>h e.symm)]
theorem Fi (W:World) (r:Nat) (es:Array MapEntry) (c:Nat):(FM W r es c).heap.size=W.heap.size:=by simp[FM]
theorem Qb.map {w W:World} (h:Qb w W) (r:Nat) (es:Array MapEntry) (c:Nat) (hr:w.heap.size<=r):Qb w (FM W r es c) :=
 ⟨h.os,h.tape,h.output,by rw[Fi];exact h.size,fun k hk=>by rw[JJ (by omega)];exact h.block k hk⟩
theorem KA {P:Program} {w:World} (mty kt et:TypeId) (r clock:Nat) (es:Array MapEntry) (s:ByteArray) (val:Value) (hm:P.underlying mty=some (.map kt et)) (hk:P.underlying kt=some .string) (hb:w.heap[r]? = some (.map es clock)) (hf:Instr.findNow .string (.string s) es.toList 0=some none) :
  (Instr.mapUpdate mty (.map (some r)) (.string s) val).run P w=.ok () (FM w r (es.push { key:=.string s,val:=val,born:=clock }) (clock+1)):=by
 have hc:(Instr.checkKey false 10000 kt (.string s)).run P w=.ok () w:=MapKept.run_checkKey (k:=.string s) hk (by simp[MapKept.IsKey]) false 9999;simp[Instr.mapUpdate,run_underlying hm,MapKept.run_getObj_map hb,hc,MapKept.run_findKey hk hf,MapKept.run_setObj_map _ hb,Result.andThen,FM]
theorem Y6 {P:Program} {w:World} (mty kt et:TypeId) (r clock:Nat) (es:Array MapEntry) (s:ByteArray) (z:Value) (o:Option (Nat×Value)) (hm:P.underlying mty=some (.map kt et)) (hk:P.underlying kt=some .string) (hz:(zeroValue et).run P w=.ok z w) (hb:w.heap[r]? = some (.map es clock)) (hf:Instr.findNow .string (.string s) es.toList 0=some o) :
  (Instr.lookup mty (.map (some r)) (.string s) true).run P w=.ok (.tuple #[(o.map (·.2)).getD z,.bool o.isSome]) w:=by
 have hc:∀b,(Instr.checkKey b 10000 kt (.string s)).run P w=.ok () w:=fun b=>MapKept.run_checkKey (k:=.string s) hk (by simp[MapKept.IsKey]) b 9999
 cases o with
 | none=>simp[Instr.lookup,run_underlying hm,MapKept.run_getObj_map hb,hc,MapKept.run_findKey hk hf,Result.andThen,hz]
 | some p=>simp[Instr.lookup,run_underlying hm,MapKept.run_getObj_map hb,hc,MapKept.run_findKey hk hf,Result.andThen,hz]
def E3 (r:Int×IdP):Value:=.tuple #[.agg #[.int .i64 r.2.kind,.string (S r.2.text),.string (S r.2.host),.int .i64 r.2.port],.int .i64 r.1]
theorem Jc (r:Int×IdP):val (Ep r)=some (E3 r):=rfl
def LT:Array MapEntry:=#[⟨.string (S Gv),.func (.func 84) #[] #[],0⟩,⟨.string (S Gt),.func (.func 85) #[] #[],1⟩,⟨.string (S Gn),.func (.func 86) #[] #[],2⟩,⟨.string (S Gm),.func (.func 87) #[] #[],3⟩]
def G6 (k:List UInt8):Option (Nat×Value) :=
 if k=Gv then some (0,.func (.func 84) #[] #[]) else if k=Gt then some (1,.func (.func 85) #[] #[]) else if k=Gn then some (2,.func (.func 86) #[] #[]) else if k=Gm then some (3,.func (.func 87) #[] #[]) else none
theorem Ya (k:List UInt8):Instr.findNow .string (.string (S k)) LT.toList 0=some (G6 k):=by
 have key:∀x:List UInt8,Instr.sameNow .string (.string (S k)) (.string (S x))=some (decide (k=x)):=by
  intro x;have e:(S k==S x)=(k.toArray==x.toArray):=rfl;show some (S k==S x)=_;rw[e]
  by_cases h:k=x
  ·subst h;simp
  ·simp[h]
 show Instr.findNow .string (.string (S k)) [⟨.string (S Gv),_,_⟩,⟨.string (S Gt),_,_⟩,⟨.string (S Gn),_,_⟩,⟨.string (S Gm),_,_⟩] 0=_;unfold G6
 by_cases h1:k=Gv
 ·simp only[Instr.findNow,key,decide_eq_true h1,if_pos h1]
 ·by_cases h2:k=Gt
  ·simp only[Instr.findNow,key,decide_eq_false h1,decide_eq_true h2,if_pos h2,if_neg h1]
  ·by_cases h3:k=Gn
   ·simp only[Instr.findNow,key,decide_eq_false h1,decide_eq_false h2,decide_eq_true h3,if_pos h3,if_neg h1,if_neg h2]
   ·by_cases h4:k=Gm
    ·simp only[Instr.findNow,key,decide_eq_false h1,decide_eq_false h2,decide_eq_false h3,decide_eq_true h4,if_pos h4,if_neg h1,if_neg h2,if_neg h3]
    ·simp only[Instr.findNow,key,decide_eq_false h1,decide_eq_false h2,decide_eq_false h3,decide_eq_false h4,if_neg h4,if_neg h1,if_neg h2,if_neg h3]
section
set_option maxHeartbeats 2000000 in
theorem gC [Tabs Tryz.prog] [Shp Tryz.prog] [Pow Tryz.prog] (s:ByteArray) (w:World) (hs:s.size<=140737488351232) (hT:Tabs.T (P:=Tryz.prog) w):Calls Tryz.prog 65 #[.string s] w fun e w'=>e=.returned (E3 (Dy s.data.toList))/\Qb w w':=by
 by_cases h0:4096<s.size
 ·have HF:Hid (Dy s.data.toList=(5,DG)):=za (by unfold Dy;rw[if_pos (by rw[As];exact h0)])
  go_enter Tryz.func65,Tryz.ntmps65
  go_wp2_with fail
  exact bodyPost_ret (v:=E3 (5,DG)) (by simp[results,Tryz.results65,go_sem,E3,DG]) rfl ⟨by rw[HF.out],(Qb.refl w).alloc _⟩
 have hmm:=@run_makeMap Tryz.prog;have hk0:(Tryz.prog).underlying 9=some .string:=by kernel_rfl
 obtain⟨et,hm⟩:∃et,(Tryz.prog).underlying 138=some (.map 9 et):=⟨135,by kernel_rfl⟩;have hb0:((w.alloc (Obj.cells #[Value.int IntKind.i64 0,Value.string ⟨#[]⟩,Value.string ⟨#[]⟩,Value.int IntKind.i64 0] 36)).alloc (Obj.map #[] 0)).heap[w.heap.size+1]? = some (.map #[] 0):=by
  have e:(w.alloc (Obj.cells #[Value.int IntKind.i64 0,Value.string ⟨#[]⟩,Value.string ⟨#[]⟩,Value.int IntKind.i64 0] 36)).heap.size=w.heap.size+1:=by simp
  rw[<-e];exact heap_alloc_new _ _
 have hob:AF ((w.alloc (Obj.cells #[Value.int IntKind.i64 0,Value.string ⟨#[]⟩,Value.string ⟨#[]⟩,Value.int IntKind.i64 0] 36)).alloc (Obj.map #[] 0)) w.heap.size 36 #[Value.int IntKind.i64 0,Value.string ⟨#[]⟩,Value.string ⟨#[]⟩,Value.int IntKind.i64 0]:=(AF.new w _ _).alloc _;have hqb:Qb w ((w.alloc (Obj.cells #[Value.int IntKind.i64 0,Value.string ⟨#[]⟩,Value.string ⟨#[]⟩,Value.int IntKind.i64 0] 36)).alloc (Obj.map #[] 0)):=((Qb.refl w).alloc _).alloc _
 go_enter Tryz.func65,Tryz.ntmps65
 go_wp2_with fail
 generalize ((w.alloc (Obj.cells #[Value.int IntKind.i64 0,Value.string ⟨#[]⟩,Value.string ⟨#[]⟩,Value.int IntKind.i64 0] 36)).alloc (Obj.map #[] 0))=W0 at hb0 hob hqb ⊢;have hlt:w.heap.size+1<W0.heap.size:=by
  rcases zo (w.heap.size+1) W0.heap.size with h|h
  ·exact h
  ·rw[Array.getElem?_eq_none h] at hb0;cases hb0
 rw[KA _ 9 et (w.heap.size+1) 0 #[] ⟨#[97,99,99,116]⟩ _ hm hk0 hb0 rfl];simp only[Result.andThen];rw[Oper.upon_skip]
 go_wp2_with fail
 rw[KA _ 9 et (w.heap.size+1) 1 _ ⟨#[109,97,105,108,116,111]⟩ _ hm hk0 (K0 hlt) rfl];simp only[Result.andThen];rw[Oper.upon_skip]
 go_wp2_with fail
 rw[KA _ 9 et (w.heap.size+1) 2 _ ⟨#[104,116,116,112,115]⟩ _ hm hk0 (K0 (by rw[Fi];exact hlt)) rfl];simp only[Result.andThen];rw[Oper.upon_skip]
 go_wp2_with fail
 rw[KA _ 9 et (w.heap.size+1) 3 _ ⟨#[100,105,100]⟩ _ hm hk0 (K0 (by rw[Fi,Fi];exact hlt)) rfl];simp only[Result.andThen];rw[Oper.upon_skip]
 go_wp2_with fail
 refine(Cw s 58 _ (by unfold maxLen;omega)).mono ?_;rintro e w1 ⟨rfl,hq1⟩;have hM:w1.heap[w.heap.size+1]? = some (.map LT 4):=(hq1.block _ (by rw[Fi,Fi,Fi,Fi];exact hlt)).trans (K0 (by rw[Fi,Fi,Fi];exact hlt));have hO:AF w1 w.heap.size 36 #[Value.int IntKind.i64 0,Value.string ⟨#[]⟩,Value.string ⟨#[]⟩,Value.int IntKind.i64 0]:=by
  refine AF.qb ?_ hq1;unfold AF;rw[JJ (by omega),JJ (by omega),JJ (by omega),JJ (by omega)];exact hob
 have hQ:Qb w w1:=((((hqb.map _ _ _ (by omega)).map _ _ _ (by omega)).map _ _ _ (by omega)).map _ _ _ (by omega)).trans hq1;clear hq1 hob hqb hb0 hlt;have hcl:=Da 58 s.data.toList;rw[As] at hcl;obtain⟨p,q,b,hcut⟩:∃p q b,Ae 58 s.data.toList=(p,q,b):=⟨_,_,_,rfl⟩;have HC:=za hcut;rw[hcut] at hcl ⊢;simp only[BG] at hcl ⊢
 go_wp2_with fail
 refine(Nm (S p) w1 (by rw[Am];omega)).mono ?_;rintro e w2 ⟨rfl,hq2⟩;have hM2:w2.heap[w.heap.size+1]? = some (.map LT 4):=(hq2.block _ (by
  rcases zo (w.heap.size+1) w1.heap.size with h|h
  ·exact h
  ·rw[Array.getElem?_eq_none h] at hM;cases hM)).trans hM
 have hO2:=hO.qb hq2;have hQ2:=hQ.trans hq2;clear hq2 hM hO hQ;have hSp:(S p).data.toList=p:=rfl;rw[hSp];have hz:(zeroValue et).run Tryz.prog w2=.ok .nilFunc w2:=by
  have:et=135:=by
   have h2:(Tryz.prog).underlying 138=some (.map 9 135):=by kernel_rfl
   rw[hm] at h2;injection h2 with h2;injection h2
  subst this
  rfl
 go_wp2_with fail
 rw[Y6 _ 9 et (w.heap.size+1) 4 LT (S (Ay p)) .nilFunc (G6 (Ay p)) hm hk0 hz hM2 (Ya _)];simp only[Result.andThen];rw[Oper.upon_value];obtain⟨fv,hfv⟩:∃fv,((G6 (Ay p)).map (·.2)).getD Value.nilFunc=fv:=⟨_,rfl⟩;obtain⟨fb,hfb⟩:∃fb,(G6 (Ay p)).isSome=fb:=⟨_,rfl⟩;rw[hfv,hfb];clear hM2 hz hSp hmm hm hk0;have hc0:=hO2.cell 0;have hc1:=hO2.cell 1;have hc2:=hO2.cell 2;have hc3:=hO2.cell 3;have hf0:=hO2.frozen 0;have hf1:=hO2.frozen 1;have hf2:=hO2.frozen 2;have hf3:=hO2.frozen 3;simp at hc0 hc1 hc2 hc3
 cases b with
 | false=>
  have HF:Hid (Dy s.data.toList=(60,DG)):=za (by unfold Dy;rw[if_neg (by rw[As];exact h0),HC.out,if_pos rfl])
  go_wp2_with fail
  exact bodyPost_ret (v:=E3 (60,DG)) (by simp[results,Tryz.results65,go_sem,hc0,hc1,hc2,hc3,hf0,hf1,hf2,hf3,E3,DG]) rfl ⟨by rw[HF.out],(((hQ2.set (zd _) _).set (zd _) _).set (zd _) _).set (zd _) _⟩
 | true=>
 cases fb with
 | false=>
  have HF:Hid (Dy s.data.toList=(60,DG)):=za (by
   unfold Dy;rw[if_neg (by rw[As];exact h0),HC.out,if_neg (by simp)];show H6 (Ay p) _=_;unfold G6 at hfb;unfold H6
   split at hfb
   ·cases hfb
   split at hfb
   ·cases hfb
   split at hfb
   ·cases hfb
   split at hfb
   ·cases hfb
   rename_i a1 a2 a3 a4;rw[if_neg a1,if_neg a2,if_neg a3,if_neg a4])
  go_wp2_with fail
  exact bodyPost_ret (v:=E3 (60,DG)) (by simp[results,Tryz.results65,go_sem,hc0,hc1,hc2,hc3,hf0,hf1,hf2,hf3,E3,DG]) rfl ⟨by rw[HF.out],(((hQ2.set (zd _) _).set (zd _) _).set (zd _) _).set (zd _) _⟩
 | true=>
 clear hc0 hc1 hc2 hc3 hf0 hf1 hf2 hf3;have hT2:Tabs.T (P:=Tryz.prog) w2:=Sx.Tabs.keep _ _ hT (fun k hk=>hQ2.block k hk) hQ2.size;obtain⟨fid,r,hfv2,hr,hent,hcall⟩:∃fid r,fv=.func (.func fid) #[] #[]/\Dy s.data.toList=r/\(∀W,(callFunc fid #[.string s]).run Tryz.prog W=.ok (.enter fid #[.string s]) W)/\Calls Tryz.prog fid #[.string s] w2 fun e w'=>e=.returned (E3 r)/\Qb w2 w':=by
  have HF:Dy s.data.toList=H6 (Ay p) s.data.toList:=by
   unfold Dy;rw[if_neg (by rw[As];exact h0),HC.out,if_neg (by simp)]
  have h4:s.data.toList.length<=4096:=by rw[As];omega
  have hv:EI [AV.s s.data.toList]=some [.string s]:=rfl;unfold G6 at hfb hfv;unfold H6 at HF
  by_cases a1:Ay p=Gv
  ·simp only[if_pos a1] at hfv HF;exact⟨_,_,hfv.symm,HF,fun _=>rfl,KU hv (Jc _) hT2 (WL s.data.toList h4 rfl)⟩
  simp only[if_neg a1] at hfv hfb HF
  by_cases a2:Ay p=Gt
  ·simp only[if_pos a2] at hfv HF;exact⟨_,_,hfv.symm,HF,fun _=>rfl,KU hv (Jc _) hT2 (WM s.data.toList h4 rfl)⟩
  simp only[if_neg a2] at hfv hfb HF
  by_cases a3:Ay p=Gn
  ·simp only[if_pos a3] at hfv HF;exact⟨_,_,hfv.symm,HF,fun _=>rfl,KU hv (Jc _) hT2 (VN s.data.toList h4 rfl)⟩
  simp only[if_neg a3] at hfv hfb HF
  by_cases a4:Ay p=Gm
  ·simp only[if_pos a4] at hfv HF;exact⟨_,_,hfv.symm,HF,fun _=>rfl,KU hv (Jc _) hT2 (VM s.data.toList h4 rfl)⟩
  simp only[if_neg a4] at hfb
  cases hfb
 rw[hfv2];have HR:=za hr;clear hr hfv hfb hfv2
 go_wp2_with fail
 refine hcall.mono ?_;rintro e w3 ⟨rfl,hq3⟩;have hO3:=hO2.qb hq3;have hQ3:=hQ2.trans hq3;have hc0:=hO3.cell 0;have hc1:=hO3.cell 1;have hc2:=hO3.cell 2;have hc3:=hO3.cell 3;have hf0:=hO3.frozen 0;have hf1:=hO3.frozen 1;have hf2:=hO3.frozen 2;have hf3:=hO3.frozen 3;simp at hc0 hc1 hc2 hc3;clear hcall hent;obtain⟨er,kd,tx,ho,pt⟩:=r;simp only[E3]
 go_wp2_with fail
 exact bodyPost_ret (v:=E3 (er,⟨kd,tx,ho,pt⟩)) (by simp[results,Tryz.results65,go_sem,hc0,hc1,hc2,hc3,hf0,hf1,hf2,hf3,E3]) rfl ⟨by rw[HR.out],(((hQ3.set (zd _) _).set (zd _) _).set (zd _) _).set (zd _) _⟩
end
def JX (x y:IdP):Bool:=decide (x.kind=y.kind)&&(decide (x.text=y.text)&&(decide (x.host=y.host)&&decide (x.port=y.port)))
theorem Yq (a b:IdP):JX a b=true↔a=b:=by
 obtain⟨a1,a2,a3,a4⟩:=a;obtain⟨b1,b2,b3,b4⟩:=b;simp[JX]
def FO (x:IdP):Bool:=decide ((Dy x.text).1=0)&&JX (Dy x.text).2 x
section
variable [Tabs Tryz.prog] {objs:List OB} {K:List OB->AV->Prop}
theorem YV (s:List UInt8) (hs:s.length<=4096) (hk:K objs (Ep (J2 s))):Ag Tryz.prog 53 [.s s] objs K:=by
 refine AC fI rfl fun C _=>?_;simp only[SN,Aa,simprocAttr];refine Ai (RE s (by omega) ?_);have hl:=Q6 s;unfold J2 at hk
 by_cases c:(BY s).1=0
 ·simp only[c,ne_eq,not_true_eq_false,if_false] at hk;generalize (BY s).2=u at *;simp only[c,A3,Aa,simprocAttr];refine Bq (IE u hl ⟨rfl,rfl⟩) ?_;simp only[Aa,simprocAttr];exact hk
 ·simp only[c,ne_eq,not_false_eq_true,if_true] at hk;simp only[c,A3,Aa,simprocAttr];exact hk
theorem YU (s:List UInt8) (hs:s.length<=4096) (hk:K objs (Ep (J3 s))):Ag Tryz.prog 54 [.s s] objs K:=by
 refine AC jC rfl fun C _=>?_;simp only[Uq,Aa,simprocAttr];refine Ai (Tt s (by unfold maxLen;omega) ?_);unfold J3 OG at hk
 by_cases c:(AY s).1=0
 ·obtain⟨l1,l2⟩:=Rm c;simp only[c,ne_eq,not_true_eq_false,if_false] at hk;generalize (AY s).2.1=m at *;generalize (AY s).2.2=i at *;simp only[c,Aa,simprocAttr];refine Ai (YX m i (by omega) (by omega) ?_)
  by_cases c1:(BX m i).1=0
  ·obtain⟨a1,a2,a3⟩:=QK c1;simp only[c1,not_true_eq_false,if_false] at hk;generalize (BX m i).2.1=cm at *;generalize (BX m i).2.2=ci at *;simp only[c1,Aa,simprocAttr];refine Ai (ZX cm ci (by omega) (by omega) ?_);simp only[a1,Bt,Aa,simprocAttr];refine Bq (LA cm ci (by omega) (by omega) ⟨rfl,rfl⟩) ?_;simp only[Aa,simprocAttr];exact hk
  ·have e:=PK c1;simp only[c1,not_false_eq_true,if_true] at hk;simp only[c1,Aa,simprocAttr];exact hk
 ·simp only[c,ne_eq,not_false_eq_true,if_true] at hk;simp only[c,Aa,simprocAttr];exact hk
theorem Sn (s:List UInt8) (hs:s.length<=140737488351232) (hk:K objs (Ep (Dy s))):Ag Tryz.prog 34 [.s s] objs K:=by
 refine AC gO rfl fun C _=>?_;have hm:maxLen=2 ^ 63 - 1:=rfl;unfold Dy at hk
 by_cases c0:(4096:Int)<↑s.length
 ·have c0':4096<s.length:=by omega
  rw[if_pos c0'] at hk;simp only[c0,Oi,Aa,simprocAttr];exact hk
 have c0':¬4096<s.length:=by omega
 rw[if_neg c0'] at hk;simp only[c0,Oi,Aa,simprocAttr];refine Ai (F5 s [58] (by omega) (by decide) ?_);have c58:=Hg 58 s;have hil:=KJ s [58]
 by_cases h58:At s [58]<s.length
 ·have e58:=c58.1 h58;rw[e58,if_neg (by simp)] at hk;have hne:¬((At s [58]:Nat):Int)=((s.length:Nat):Int):=by omega
  have htl:(s.take (At s [58])).length<=s.length:=by rw[zg];omega
  simp only[hne,Aa,simprocAttr];refine⟨⟨by omega,by omega⟩,?_⟩;refine Ai (YW _ (by omega) ?_);simp only at hk;generalize Ay (s.take (At s [58]))=kd at *;unfold H6 at hk
  by_cases a1:kd=Gv
  ·subst a1;rw[if_pos rfl] at hk;simp only[Gv,Aa,simprocAttr];refine Ai (ZV s (by omega) ?_);have hl:=RB s;unfold LY at hk
   by_cases c:(Bl s).1=0
   ·simp only[c,ne_eq,not_true_eq_false,if_false] at hk;simp only[c,Aa,simprocAttr];refine Bq (bN _ _ (by omega) (by omega) ⟨rfl,rfl⟩) ?_;simp only[Aa,simprocAttr];exact hk
   ·simp only[c,ne_eq,not_false_eq_true,if_true] at hk;simp only[c,Aa,simprocAttr];exact hk
  rw[if_neg a1] at hk
  by_cases a2:kd=Gt
  ·subst a2;rw[if_pos rfl] at hk;have n0:¬([109,97,105,108,116,111]:List UInt8)=[97,99,99,116]:=by decide
   simp only[Gt,n0,Aa,simprocAttr];refine Ai (ZY s (by omega) ?_);have hl:=RT s;unfold LV at hk
   by_cases c:(A0 s).1=0
   ·simp only[c,ne_eq,not_true_eq_false,if_false] at hk;simp only[c,Aa,simprocAttr];refine Bq (dE _ _ (by omega) (by omega) ⟨rfl,rfl⟩) ?_;simp only[Aa,simprocAttr];exact hk
   ·simp only[c,ne_eq,not_false_eq_true,if_true] at hk;simp only[c,Aa,simprocAttr];exact hk
  rw[if_neg a2] at hk
  by_cases a3:kd=Gn
  ·subst a3;rw[if_pos rfl] at hk;have n0:¬([104,116,116,112,115]:List UInt8)=[97,99,99,116]:=by decide
   have n1:¬([104,116,116,112,115]:List UInt8)=[109,97,105,108,116,111]:=by decide
   simp only[Gn,n0,n1,Aa,simprocAttr];refine Ai (YV s (by omega) ?_);simp only[Ep,E5,Aa,simprocAttr];exact hk
  rw[if_neg a3] at hk
  by_cases a4:kd=Gm
  ·subst a4;rw[if_pos rfl] at hk;have n0:¬([100,105,100]:List UInt8)=[97,99,99,116]:=by decide
   have n1:¬([100,105,100]:List UInt8)=[109,97,105,108,116,111]:=by decide
   have n2:¬([100,105,100]:List UInt8)=[104,116,116,112,115]:=by decide
   simp only[Gm,n0,n1,n2,Aa,simprocAttr];refine Ai (YU s (by omega) ?_);simp only[Ep,E5,Aa,simprocAttr];exact hk
  rw[if_neg a4] at hk;have b1:¬kd=[97,99,99,116]:=a1;have b2:¬kd=[109,97,105,108,116,111]:=a2;have b3:¬kd=[104,116,116,112,115]:=a3;have b4:¬kd=[100,105,100]:=a4;simp only[b1,b2,b3,b4,Aa,simprocAttr];exact hk
 ·have e58:=c58.2 h58;rw[e58,if_pos rfl] at hk;have he:((At s [58]:Nat):Int)=((s.length:Nat):Int):=by omega
  simp only[he,Aa,simprocAttr];exact hk
theorem So (x:IdP) (hs:x.text.length<=140737488351232) (hk:K objs (.b (FO x))):Ag Tryz.prog 45 [E5 x] objs K:=by
 refine AC gP rfl fun C _=>?_;simp only[TH,E5,Aa,simprocAttr];refine Ai (Sn x.text hs ?_);unfold FO at hk;obtain⟨⟨er,y⟩,hy⟩:∃r,Dy x.text=r:=⟨_,rfl⟩;rw[hy] at hk ⊢;simp only[Ep,E5,Aa,simprocAttr]
 by_cases c:er=0
 ·simp only[c,Aa,simprocAttr];simpa[c,JX] using hk
 ·simp only[c,Aa,simprocAttr];simpa[c] using hk
end
section
variable [Tabs Tryz.prog] [Shp Tryz.prog] [Pow Tryz.prog] {objs:List OB} {K:List OB->AV->Prop}
theorem eE (s:List UInt8) (hs:s.length<=140737488351232) (hk:K objs (Ep (Dy s))):Ag Tryz.prog 65 [.s s] objs K :=
 L4 (vs:=[.string (S s)]) rfl (Jc _) (fun w hT=>gC (S s) w (by rw[Am];exact hs) hT) hk
theorem Tq (x:IdP) (hs:x.text.length<=140737488351232) (hk:K objs (.b (FO x))):Ag Tryz.prog 44 [E5 x] objs K:=by
 refine AC gG rfl fun C _=>?_;simp only[TA,E5,Aa,simprocAttr];refine Ai (eE x.text hs ?_);unfold FO at hk;obtain⟨⟨er,y⟩,hy⟩:∃r,Dy x.text=r:=⟨_,rfl⟩;rw[hy] at hk ⊢;simp only[Ep,E5,Aa,simprocAttr]
 by_cases c:er=0
 ·simp only[c,Aa,simprocAttr];simpa[c,JX] using hk
 ·simp only[c,Aa,simprocAttr];simpa[c] using hk
end
end Go.Proofs.YtbeoijfmfkifeaaGreatDoor
