/- The texts that the proofs of these statements reach, in their order, as few files. -/
import Derived.Lib.Builder
import Derived.Lib.UnsafeStr
import Derived.Shelf.RegionOpenPlain
import Derived.Laws.Externs
import Derived.Lib.Split
import Derived.Deep.RegionHeld3
import Derived.WideMake
import Derived.Test.YtbeoijfmfkifeaaGreatDoorCp4
set_option linter.unusedVariables false
set_option linter.unusedSimpArgs false
set_option maxRecDepth 100000
namespace Go.Proofs.YtbeoijfmfkifeaaGreatDoor
open Go.RowKit Sx
open List renaming all_eq_true->zj
structure CanW (u:UrlP):Prop where
 host:AK u.host=(0,u.host)
 port:∃n:Nat,u.port=n/\n<=65535/\n≠443
 path:Ff u.path
 query:Aj u.query AP=(0,u.query)
 frag:Aj u.frag AP=(0,u.frag)
 noq:u.hq=false->u.query=[]
 nof:u.hf=false->u.frag=[]
 len:(Bm u).length<=4096
def Er (u:UrlP):UriP:=⟨Dl,DE u.host u.port,u.path,u.query,u.frag,true,true,u.hq,u.hf⟩
theorem NU (u:UrlP):Em (Er u)=Bm u:=by
 obtain⟨h,p,pa,q,f,hq,hf⟩:=u;unfold Em Er Bm F7 Dl
 cases hq<;>cases hf<;>simp
theorem lR:∀n:Fin 256,(Ew AY (UInt8.ofNat n.val)=true->Aw (UInt8.ofNat n.val) [63,35]=false)/\(Ew AP (UInt8.ofNat n.val)=true->UInt8.ofNat n.val≠35):=by decide +kernel
theorem Rp (c:UInt8):(Ew AY c=true->Aw c [63,35]=false)/\(Ew AP c=true->c≠35):=by
 have:=lR ⟨c.toNat,UInt8.toNat_lt c⟩;simpa using this
theorem nH:∀n:Fin 256,AC (UInt8.ofNat n.val)=true->Aw (UInt8.ofNat n.val) [47,63,35,64]=false:=by decide +kernel
theorem YQ (c:UInt8) (h:AC c=true):Aw c [47,63,35,64]=false:=by
 have:=nH ⟨c.toNat,UInt8.toNat_lt c⟩;simp only[UInt8.ofNat_toNat] at this;exact this h
theorem Sz {h:List UInt8} {n:Nat} (hh:AK h=(0,h)):∀c∈DE h n,Aw c [47,63,35,64]=false:=by
 intro c hc;have hb:∀c∈h,Aw c [47,63,35,64]=false:=by
  intro c hc;have:=Q4 c (NS (by rw[hh]) c hc);unfold Aw at this ⊢;simp only[List.contains_cons,List.contains_nil,Bool.or_false,Bool.or_eq_false_iff] at this ⊢;exact⟨this.2.2.1,this.2.2.2.1,this.2.2.2.2,this.2.1⟩
 unfold DE at hc
 split at hc
 ·exact hb c hc
 ·rw[Nf] at hc;simp only[List.mem_append,List.mem_cons,List.not_mem_nil,or_false] at hc;rcases hc with (hc|hc)|hc
  ·exact hb c hc
  ·subst hc;decide
  ·exact YQ c (zj.1 (MD n n (Nat.le_refl _)).1 c hc)
theorem P4 {c:UInt8} (h:Aw c [47,63,35,64]=false):Aw c [47,63,35]=false/\c≠64:=by
 unfold Aw at h ⊢;simp only[List.contains_cons,List.contains_nil,Bool.or_false,Bool.or_eq_false_iff] at h ⊢;refine⟨⟨h.1,h.2.1,h.2.2.1⟩,?_⟩;have:=h.2.2.2;simpa using this
theorem IQ (u:UrlP):u.path.length<=(Bm u).length:=by
 unfold Bm F7
 split<;>simp only[List.length_append]<;>omega
theorem CanW.split {u:UrlP} (h:CanW u):AQ (Bm u)=(0,Er u):=by
 obtain⟨n,hn,_,_⟩:=h.port;rw[<-NU];have hl:=h.len;refine gD (Er u) rfl (by show Ed Dl=true;decide) (by show ∀c∈Dl,_;decide) rfl ?_ ?_ ?_ ?_ h.noq h.nof (by rw[NU];omega)
 ·intro c hc;have hc':c∈DE u.host u.port:=hc;rw[hn] at hc';exact(P4 (Sz h.host c hc')).1
 ·exact .inr h.path.form
 ·intro c hc;have h3:=IQ u;have:=zj.1 (LJ (h.path.norm (by omega))) c hc;exact(Rp c).1 this
 ·intro hm;have:=zj.1 (LJ h.query) 35 hm;exact(Rp 35).2 this rfl
theorem CanW.back {u:UrlP} (h:CanW u):B7 (Bm u)=(0,u):=by
 obtain⟨n,hn,hn1,hn2⟩:=h.port;have hl:=h.len;have hpl:=IQ u;have ho:Be (Er u)=(0,u.host,n):=by
  have e1:AN Dl Dl=true:=by decide
  have h64:(64:UInt8)∉DE u.host n:=fun hm=>(P4 (Sz h.host 64 hm)).2 rfl;unfold Be Er;simp only[e1];rw[hn,Fl 64 _ h64];simp only;rw[PS h.host hn1 hn2];simp
 have hr:BW (Er u)=(0,⟨[],0,u.path,u.query,u.frag,u.hq,u.hf⟩):=by
  unfold BW Er;simp only;rw[h.path.norm (by omega),h.query,h.frag];simp only;rw[h.path.slash];simp
 unfold B7;rw[if_neg (by omega),h.split];simp only;unfold G8;rw[ho,hr];simp only;have hu:FC u.host n ⟨[],0,u.path,u.query,u.frag,u.hq,u.hf⟩=u:=by
  obtain⟨a,b,c,d,e,f,g⟩:=u;simp only at hn;subst hn;rfl
 rw[hu];unfold Gw;rw[if_neg (by omega)];simp;omega
theorem CanW.valid {u:UrlP} (h:CanW u):DX u=true:=by
 unfold DX;rw[h.back];simp
theorem iV (s:List UInt8) (h:(AQ s).2.ha=true):(AQ s).2.path=[]\/∃r,(AQ s).2.path=47::r:=by
 unfold AQ at h ⊢
 split at h
 ·cases h
 ·rename_i h1
  split at h
  ·cases h
  ·rename_i h2;rw[if_neg h1,if_neg h2];simp only at h ⊢;unfold D8;rw[if_pos h];have ea:Db (EP s)=Ba ((EP s).drop 2):=by unfold Db;rw[if_pos h]
   rw[ea];generalize (EP s).drop 2=l;unfold Ba;rcases Du 47 l with ⟨_,h3,_⟩|⟨k,_,hk,h3,h4⟩
   ·rw[h3];left;simp
   ·rw[h3];right;have e:(l.take k).length=k:=by rw[List.length_take];omega
    simp only[e];rw[List.drop_eq_getElem_cons hk];rw[List.getElem?_eq_getElem hk] at h4;injection h4 with h4
    exact⟨_,by rw[h4]⟩
theorem CanW.of {s:List UInt8} {u:UrlP} (h:B7 s=(0,u)):CanW u:=by
 unfold B7 at h
 split at h
 ·injection h with h1 _;cases h1
 ·split at h
  ·rename_i h1;injection h with h2 _;exact absurd h2 h1
  ·rename_i h0 h1;simp only[Decidable.not_not] at h1;have hj:=SY s h1;have hpf:=iV s;have hqq:(AQ s).2.hq=false->(AQ s).2.query=[]:=by
    unfold AQ
    split
    ·intro _;rfl
    ·split
     ·intro _;rfl
     ·intro h1;simp only at h1 ⊢;exact((EU 63 _).2.2 h1).2
   have hff:(AQ s).2.hf=false->(AQ s).2.frag=[]:=by
    unfold AQ
    split
    ·intro _;rfl
    ·split
     ·intro _;rfl
     ·intro h1;simp only at h1 ⊢;exact((EU 35 _).2.2 h1).2
   generalize (AQ s).2=p at *;unfold G8 at h
   split at h
   ·rename_i h2;injection h with h3 _;exact absurd h3 h2
   ·rename_i h2;simp only[Decidable.not_not] at h2
    split at h
    ·rename_i h3;injection h with h4 _;exact absurd h4 h3
    ·rename_i h3;simp only[Decidable.not_not] at h3;unfold Gw at h
     split at h
     ·injection h with h4 _;cases h4
     ·rename_i h4;injection h with _ h
      subst h;have ho:p.ha=true/\BU p.auth=(0,(Be p).2.1,(Be p).2.2):=by
       unfold Be at h2 ⊢
       split at h2
       ·cases h2
       ·rename_i g1;rw[if_neg g1]
        split at h2
        ·cases h2
        ·rename_i g2;rw[if_neg g2]
         split at h2
         ·cases h2
         ·rename_i g3;rw[if_neg g3]
          split at h2
          ·cases h2
          ·rename_i g4;rw[if_neg g4];exact⟨by simpa using g3,by rw[<-h2]⟩
      obtain⟨k1,k2,k3,_,_⟩:=Nd ho.2;have hr:(Aj p.path AY).1=0/\(Aj p.query AP).1=0/\(Aj p.frag AP).1=0/\(BW p).2=⟨[],0,EG (Aj p.path AY).2,(Aj p.query AP).2,(Aj p.frag AP).2,p.hq,p.hf⟩:=by
       unfold BW at h3 ⊢
       split at h3
       ·rename_i g;exact absurd h3 g
       ·rename_i g1;rw[if_neg g1]
        split at h3
        ·rename_i g;exact absurd h3 g
        ·rename_i g2;rw[if_neg g2]
         split at h3
         ·rename_i g;exact absurd h3 g
         ·rename_i g3;rw[if_neg g3];exact⟨by simpa using g1,by simpa using g2,by simpa using g3,rfl⟩
      obtain⟨r1,r2,r3,r4⟩:=hr;rw[r4] at h4 ⊢;have e2:Aj p.query AP=(0,(Aj p.query AP).2):=by rw[<-r2]
      have e3:Aj p.frag AP=(0,(Aj p.frag AP).2):=by rw[<-r3]
      refine⟨k1,⟨(Be p).2.2,rfl,k2,k3⟩,bZ p.path (hpf ho.1) r1,(EJ _ _ _ e2).1,(EJ _ _ _ e3).1,?_,?_,by omega⟩
      ·intro hq;show (Aj p.query AP).2=[];rw[hqq hq];rfl
      ·intro hf;show (Aj p.frag AP).2=[];rw[hff hf];rfl
theorem CanW.rel {b u:UrlP} (hb:CanW b) (hu:CanW u):Vo b (Bm u)=(0,u):=by
 unfold Vo;rw[hb.valid,hu.split];have hres:K3 (AQ (Bm b)).2 (Er u)=Er u:=by
  unfold K3;rw[if_pos (show (Er u).hs=true from rfl)];show ({ Er u with path:=BL u.path }:UriP)=Er u;rw[hu.path.dots];rfl
 simp only;rw[hres,NU,hu.back];have e1:AN (Er u).scheme Dl=true:=by show AN Dl Dl=true;decide
 rw[e1];simp
end Go.Proofs.YtbeoijfmfkifeaaGreatDoor
namespace Go.Proofs.YtbeoijfmfkifeaaGreatDoor
open Int renaming toNat_natCast->zm
open List renaming all_append->xx, all_cons->jd, all_eq_true->zj, append_nil->zy, eq_nil_of_length_eq_zero->qh, flatMap_append->xn, flatMap_cons->qq, getElem?_append_left->qr, getElem?_append_right->jy, getElem?_set->zb, getElem?_set_ne->zp, getElem?_set_self->qd, getElem_mem->qe, getLastD_eq_getLast?->yk, length->qv, length_append->zg, length_cons->zl, length_drop->zt, length_map->jg, length_nil->qp, length_set->zf, length_singleton->yg, length_take->zh, map_congr_left->xy, map_cons->zr, mem_append->zw, mem_append_left->xj, mem_cons->zv, mem_map->jc, nil_append->qn, not_mem_nil->jk, take_length->qc, take_succ_eq_append_getElem->qm, take_zero->xl
open Nat renaming le_refl->zd, lt_of_lt_of_le->xu, lt_or_ge->zo, mul_one->qt, zero_le->ze
open Option renaming map_eq_some_iff->xf, some->zx
def B0:List UInt8:=[119,101,98]
def CO:List UInt8:=[100,105,100,46,106,115,111,110]
def GW:List UInt8:=[46,119,101,108,108,45,107,110,111,119,110]
def Ci:List UInt8:=47::(GW++47::CO)
def AU (m i:List UInt8):Int×List UInt8×Nat :=
 if m≠B0 then (100,[],0)
 else if (A0 (AB m i)).1≠0 then ((A0 (AB m i)).1,[],0)
 else BU (An (Af 58 i).1).2
def Dz (x:List UInt8):Bool:=!(decide ((An x).2=[])||decide ((An x).2=[46])||decide ((An x).2=[46,46]))
def FW (x:List UInt8):List UInt8:=47::AL (An x).2 []
def Cf (l:List (List UInt8)):List UInt8:=l.flatMap FW
def Eo (l:List (List UInt8)):List UInt8:=if l=[] then Ci else Cf l++47::CO
def GX (m i:List UInt8):UrlP:=⟨(AU m i).2.1,(AU m i).2.2,Eo (Ap 58 i).tail,[],[],false,false⟩
def BN (m i:List UInt8):Int×UrlP :=
 if (AU m i).1≠0 then ((AU m i).1,BH)
 else if (Ap 58 i).tail.all Dz=false then (110,BH)
 else if 4096<(Bm (GX m i)).length then (5,BH)
 else (0,GX m i)
def BJ (x:List UInt8):Bool:=decide ((Aj x []).1=0)&&!decide (x=[])
def DT (x:List UInt8):List UInt8:=58::DI (Aj x []).2
def CC (l:List (List UInt8)):List UInt8:=l.flatMap DT
def BY (h:List UInt8) (p:Int):List UInt8:=if p=0 then h else h++([37,51,65]++Lib.itoa p)
def ER (u:UrlP):List (List UInt8):=(Ap 47 u.path).tail
def Cu (u:UrlP):List UInt8:=BY u.host u.port++(if u.path=Ci then [] else CC (ER u).dropLast)
def Dc (u:UrlP):Int×List UInt8×List UInt8 :=
 if DX u=false then (8,[],[])
 else if u.hq=true\/u.hf=true\/¬(ER u).getLastD []=CO then (6,[],[])
 else if ¬u.path=Ci/\((ER u).dropLast=[]\/(ER u).dropLast.all BJ=false) then (110,[],[])
 else if 4096<(AB B0 (Cu u)).length then (5,[],[])
 else (0,B0,Cu u)
def B6 (m i:List UInt8):Int×List UInt8×List UInt8:=if (BN m i).1≠0 then ((BN m i).1,[],[]) else Dc (BN m i).2
def Dy (c:UInt8):Bool:=A8 c||c==37
theorem Hy (c:UInt8) (d k:List UInt8):AL (c::d) k=(if Bx c k=true then [c] else Bk c)++AL d k:=by simp[AL]
theorem mA:∀n:Fin 256,(Bn (UInt8.ofNat n.val)=true->A8 (UInt8.ofNat n.val)=true)/\(A8 (UInt8.ofNat n.val)=true->UInt8.ofNat n.val≠37/\UInt8.ofNat n.val≠47):=by decide +kernel
theorem Na (c:UInt8):(Bn c=true->A8 c=true)/\(A8 c=true->c≠37/\c≠47):=by
 have:=mA ⟨c.toNat,UInt8.toNat_lt c⟩;simpa using this
theorem M1 (also:List UInt8):∀(n:Nat) (l out:List UInt8),l.length<=n->l.all Dy=true->(A4 l).1=0->Al (AR also) 0 l out=(0,out++AL (A4 l).2 []):=by
 intro n
 induction n with
 | zero=>
  intro l out hl _ _;obtain rfl:l=[]:=qh (by omega);simp[Al,A4,AL]
 | succ n ih=>
  intro l out hl hb hd
  cases l with
  | nil=>simp[Al,A4,AL]
  | cons c t=>
   simp only[zl] at hl
   by_cases hc:c=37
   ·subst hc;rcases he:Bq (37::t) with _|_
    ·rw[Io he] at hd;exact absurd hd (by decide)
    ·obtain⟨a,b,r,rfl⟩:=Fq he;have hd':(A4 r).1=0:=by rw[<-(F6 he).1];exact hd
     have hb':r.all Dy=true:=by
      simp only[jd,Bool.and_eq_true] at hb;exact hb.2.2.2
     rw[(F6 he).2 hd',Hy,H4];rcases hu:A8 (A1 (37::a::b::r)) with _|_
     ·rw[Al,if_pos rfl,if_pos he,FH hu,if_pos rfl,D0];have:=ih r (out++Bk (A1 (37::a::b::r))) (by simp at hl;omega) hb' hd';show Al (AR also) 0 r _=_;rw[this];simp
     ·rw[Al,if_pos rfl,if_pos he,DN (by rw[hu];rfl) (EX hu),if_pos rfl,D0];have:=ih r (out++[A1 (37::a::b::r)]) (by simp at hl;omega) hb' hd';show Al (AR also) 0 r _=_;rw[this];simp
   ·simp only[jd,Bool.and_eq_true] at hb;have hu:A8 c=true:=by
     have:=hb.1;unfold Dy at this;rw[Bool.or_eq_true] at this;rcases this with h|h
     ·exact h
     ·exact absurd (by simpa using h) hc
    have hd':(A4 t).1=0:=by rw[<-(FE hc).1];exact hd
    rw[(FE hc).2 hd',Hy,H4,hu,if_pos rfl];rw[Al,if_neg hc,DN rfl (EX hu),if_pos rfl];have:=ih t (out++[c]) (by omega) hb.2 hd';show Al (AR also) 0 t _=_;rw[this];simp
theorem JS {l:List UInt8} (hl:l.length<=16384):(Aj l []).1=0↔(An l).1=0/\l.all Dy=true:=by
 constructor
 ·intro h;have e:Aj l []=(0,(Aj l []).2):=by rw[<-h]
  obtain⟨a,h1,_⟩:=(EJ _ _ _ e).2.1;refine⟨by rw[h1],?_⟩;rw[zj];intro c hc;have:=zj.1 (SI e) c hc;unfold Ew at this;rw[H4] at this;unfold Dy;simp only[Bool.or_eq_true] at this ⊢;rcases this with (h|h)|h
  ·exact .inr h
  ·exact .inl ((Na c).1 h)
  ·exact .inl h
 ·rintro⟨h1,h2⟩;rw[Et hl] at h1;have:=M1 [] l.length l [] (zd _) h2 h1;unfold Aj B3;rw[if_neg (by omega),this]
theorem TD {l:List UInt8} (h:(Aj l []).1=0):(Aj l []).2=AL (An l).2 []:=by
 have e:Aj l []=(0,(Aj l []).2):=by rw[<-h]
 have hl:=Ix e;obtain⟨h1,h2⟩:=(JS hl).1 h;have:=M1 [] l.length l [] (zd _) h2 (by rw[<-Et hl];exact h1);unfold Aj B3;rw[if_neg (by omega),this,Et hl];rfl
theorem N7:∀d:List UInt8,DI (AL d [])=Ax d
 | []=>rfl
 | c::d=>by
  rw[Hy,LF,N7 d,H4,S6,Gg]
theorem Nl:∀d:List UInt8,A4 (AL d [])=(0,d)
 | []=>rfl
 | c::d=>by
  have ih:=Nl d;rw[Hy,H4]
  by_cases h:A8 c=true
  ·rw[if_pos h];have d1:=FE (c:=c) (t:=AL d []) ((Na c).2 h).1;rw[ih] at d1;have e2:=d1.2 rfl;show A4 (c::AL d [])=_;have:A4 (c::AL d [])=((A4 (c::AL d [])).1,(A4 (c::AL d [])).2):=rfl;rw[this,d1.1,e2]
  ·rw[if_neg h];have he:=MF c (AL d []);have d1:=F6 (a:=Bo (c.toNat / 16)) (b:=Bo (c.toNat % 16)) (r:=AL d []) he.1;have e:Bk c++AL d []=37::Bo (c.toNat / 16)::Bo (c.toNat % 16)::AL d []:=rfl;rw[e];rw[ih] at d1;have e2:=d1.2 rfl;have hv:A1 (37::Bo (c.toNat / 16)::Bo (c.toNat % 16)::AL d [])=c:=he.2;rw[hv] at e2;have:A4 (37::Bo (c.toNat / 16)::Bo (c.toNat % 16)::AL d [])=((A4 (37::Bo (c.toNat / 16)::Bo (c.toNat % 16)::AL d [])).1,(A4 (37::Bo (c.toNat / 16)::Bo (c.toNat % 16)::AL d [])).2):=rfl;rw[this,d1.1,e2]
theorem Cn.enc (keep:List UInt8):∀d:List UInt8,Cn keep (AL d [])
 | []=>Cn.nil keep
 | c::d=>by
  rw[Hy,H4]
  by_cases h:A8 c=true
  ·rw[if_pos h];exact(Cn.one (EX h)).append (Cn.enc keep d)
  ·rw[if_neg h];exact Cn.append (fun o r'=>Js _ _ _ _ _ (FH (by simpa using h))) (Cn.enc keep d)
theorem QS:∀d:List UInt8,(47:UInt8)∉AL d []
 | []=>by simp[AL]
 | c::d=>by
  rw[Hy,H4,zw,not_or];refine⟨?_,QS d⟩
  by_cases h:A8 c=true
  ·rw[if_pos h];simpa using fun e=>((Na c).2 h).2 e.symm
  ·rw[if_neg h];exact RY c
theorem Qf (d:List UInt8):d.length<=(AL d []).length:=by
 induction d with
 | nil=>simp[AL]
 | cons c d ih=>
  rw[Hy,zg,zl]
  split
  ·simp;omega
  ·rw[Iv];omega
theorem MT {x:List UInt8} (hc:Cn AY x) (hl:x.length<=16384) (hu:x.all Dy=true):(An x).1=0/\AL (An x).2 []=x:=by
 have hn:=hc.norm hl;obtain⟨a,h1,_⟩:=(EJ _ _ _ hn).2.1;have hd:(An x).1=0:=by rw[h1]
 refine⟨hd,?_⟩;have h2:=M1 AY x.length x [] (zd _) hu (by rw[<-Et hl];exact hd);have h3:=hc [] [];simp only[zy,qn] at h3 h2;rw[h2] at h3;have h4:Al (AR AY) 0 [] x=(0,x):=by cases x<;>rfl
 rw[h4] at h3;injection h3 with _ h3
 rw[Et hl];exact h3
theorem Li:∀(m:List (List UInt8)),(∀x∈m,(47:UInt8)∉x)->Ap 47 (jn m)=[]::m
 | [],_=>rfl
 | x::m,h=>by
  have hx:=h x (by simp);rw[Ec,C7,if_pos rfl]
  congr 1
  have ih:=Li m (fun y hy=>h y (by simp[hy]))
  cases m with
  | nil=>rw[Jc,zy,DM,Fl 47 x hx];simp
  | cons y m=>
   rw[Ec] at ih ⊢;rw[C7,if_pos rfl] at ih;injection ih with _ ih
   rw[DM,Dx 47 x _ hx,if_pos rfl,ih]
theorem NM {u:UrlP} (h:DX u=true):CanW u:=by
 unfold DX at h;simp only[Bool.and_eq_true,decide_eq_true_eq] at h;exact CanW.of (s:=Bm u) (Prod.ext h.1 h.2)
theorem O7 {m i:List UInt8} {h:List UInt8} {n:Nat} (hd:AU m i=(0,h,n)):m=B0/\Cr i=(0,(Cr i).2)/\(AB m i).length<=4096/\BU (An (Af 58 i).1).2=(0,h,n):=by
 unfold AU at hd
 split at hd
 ·injection hd with h1 _;cases h1
 ·rename_i g1;simp only[ne_eq,Decidable.not_not] at g1
  split at hd
  ·rename_i g2;injection hd with h1 _;exact absurd h1 g2
  ·rename_i g2;simp only[ne_eq,Decidable.not_not] at g2;have e:A0 (AB m i)=(0,(A0 (AB m i)).2.1,(A0 (AB m i)).2.2):=by rw[<-g2]
   obtain⟨k1,l,k2,k3,k4⟩:=Kr e;refine⟨g1,?_,k4,hd⟩;have hml:(A0 (AB m i)).2.1=m/\l=i:=by
    have hm:Dm m=true:=by rw[g1];decide
    have h58:∀{m:List UInt8},Dm m=true->(58:UInt8)∉m:=fun hm=>by
     unfold Dm at hm;simp only[Bool.and_eq_true] at hm;exact GI (fun x hx=>(Hx x).1 (zj.1 hm.1 x hx)) (by decide)
    have c1:=Dx 58 m i (h58 hm);have c2:=Dx 58 _ l (h58 k1);have e1:(AB m i).drop 4=m++58::i:=by simp[AB,Ch]
    have e2:(AB (A0 (AB m i)).2.1 l).drop 4=(A0 (AB m i)).2.1++58::l:=by simp[AB,Ch]
    rw[<-e1,k2,e2,c2] at c1;injection c1 with c1 c3
    injection c3 with c3 _
    exact⟨c1,c3⟩
   rw[<-hml.2,k3]
theorem eG {i:List UInt8} (h:Cr i=(0,(Cr i).2)) (hl:i.length<=16384):(∀q∈Ap 58 i,(An q).1=0/\q.length<=i.length):=by
 obtain⟨p,ps,hs⟩:=Cp 58 i;have hp:=JE i p ps hl hs;intro q hq;refine⟨?_,Gb 58 i q hq⟩;rw[h] at hp
 split at hp
 ·cases hp
 ·rename_i g1;simp only[Decidable.not_not] at g1;rw[hs] at hq;exact g1 q hq
theorem NC (c:UInt8) (l:List UInt8):(Af c l).1=(Ap c l).headD []:=by
 rw[DM]
 split
 ·rfl
 ·rename_i h;exact((EU c l).2.2 (by simpa using h)).1
theorem VJ (c:UInt8) (l:List UInt8):(Af c l).1∈Ap c l:=by
 rw[NC];obtain⟨p,ps,e⟩:=Cp c l;rw[e];simp
theorem Nq {m i:List UInt8} (h1:m=B0) (h2:(A0 (AB m i)).1=0):(An (Af 58 i).1).1=0/\(∀q∈Ap 58 i,(An q).1=0):=by
 have e:A0 (AB m i)=(0,(A0 (AB m i)).2.1,(A0 (AB m i)).2.2):=by rw[<-h2]
 have key:Cr i=(0,(Cr i).2)/\(AB m i).length<=4096:=by
  have hx:AU m i=((AU m i).1,(AU m i).2.1,(AU m i).2.2):=rfl;obtain⟨k1,l,k2,k3,k4⟩:=Kr e;refine⟨?_,k4⟩;have hm:Dm m=true:=by rw[h1];decide
  have h58:∀{m:List UInt8},Dm m=true->(58:UInt8)∉m:=fun hm=>by
   unfold Dm at hm;simp only[Bool.and_eq_true] at hm;exact GI (fun x hx=>(Hx x).1 (zj.1 hm.1 x hx)) (by decide)
  have c1:=Dx 58 m i (h58 hm);have c2:=Dx 58 _ l (h58 k1);have e1:(AB m i).drop 4=m++58::i:=by simp[AB,Ch]
  have e2:(AB (A0 (AB m i)).2.1 l).drop 4=(A0 (AB m i)).2.1++58::l:=by simp[AB,Ch]
  rw[<-e1,k2,e2,c2] at c1;injection c1 with c1 c3
  injection c3 with c3 _
  rw[<-c3,k3]
 have hl:i.length<=(AB m i).length:=by simp[AB];omega
 have:=eG key.1 (by omega);exact⟨(this _ (VJ 58 i)).1,fun q hq=>(this q hq).1⟩
theorem nU:∀n:Fin 256,((UInt8.ofNat n.val=46\/B1 (UInt8.ofNat n.val)=true)->Cc (UInt8.ofNat n.val)=true)/\(AC (UInt8.ofNat n.val)=true->Cc (UInt8.ofNat n.val)=true/\UInt8.ofNat n.val≠58):=by decide +kernel
theorem R4 (c:UInt8):((c=46\/B1 c=true)->Cc c=true)/\(AC c=true->Cc c=true/\c≠58):=by
 have:=nU ⟨c.toNat,UInt8.toNat_lt c⟩;simp only[UInt8.ofNat_toNat] at this;exact this
theorem Lr:∀l:List UInt8,(∀c∈l,Cc c=true)->Ax l=l
 | [],_=>rfl
 | c::l,h=>by
  rw[Gg,if_pos (h c (by simp)),Lr l (fun x hx=>h x (by simp[hx]))];rfl
theorem Tq (a b:List UInt8):Ax (a++b)=Ax a++Ax b:=by simp[Ax]
theorem JD (l:List UInt8):(Ax l).length<=3*l.length:=by
 induction l with
 | nil=>simp[Ax]
 | cons c l ih=>
  rw[Gg,zg,zl]
  split
  ·simp;omega
  ·rw[Iv];omega
theorem Yv {h:List UInt8} {n:Nat} (hh:AK h=(0,h)):Ax (DE h n)=BY h n:=by
 have hb:∀c∈h,Cc c=true:=fun c hc=>(R4 c).1 (NS (by rw[hh]) c hc);unfold DE BY
 by_cases h0:(n:Int)=0
 ·rw[if_pos h0,if_pos h0,Lr h hb]
 ·rw[if_neg h0,if_neg h0,Tq,Tq,Lr h hb,Nf,Lr (Lib.decDigits n) (fun c hc=>((R4 c).2 (zj.1 (MD n n (zd _)).1 c hc)).1)];have:Ax [58]=[37,51,65]:=by decide
  rw[this];simp
theorem P6 (h:List UInt8) (p:Int) (h0:-9223372036854775808<=p) (h1:p<=9223372036854775807):(BY h p).length<=h.length+24:=by
 have:=Lib.itoa_length_le p h0 h1;unfold BY
 split
 ·omega
 ·simp only[zg,zl,qp];omega
theorem Sc:∀l:List (List UInt8),l.all BJ=true->CC l=js (l.map fun x=>Ax (An x).2)
 | [],_=>rfl
 | x::l,h=>by
  simp only[jd,Bool.and_eq_true] at h;have ih:=Sc l h.2;unfold CC js at ih ⊢;rw[qq,ih,zr,qq];have hx:=h.1;unfold BJ at hx;simp only[Bool.and_eq_true,decide_eq_true_eq] at hx;show DT x++_=(58::Ax (An x).2)++_;unfold DT;rw[TD hx.1,N7]
theorem YE {h:List UInt8} (hh:AK h=(0,h)):h≠[]:=by
 rintro rfl;exact absurd hh (by decide)
theorem nT {hp:List UInt8} {d:List UInt8} (ds:List (List UInt8)) (h1:hp=Ax d) (h2:hp≠[]) (h3:∀q∈ds,q≠[]) (hl:(hp++js (ds.map Ax)).length<=16384):Cr (hp++js (ds.map Ax))=(0,hp++js (ds.map Ax)):=by
 subst h1;have hs:Ap 58 (Ax d++js (ds.map Ax))=Ax d::ds.map Ax:=K7 _ _ (IJ _) (fun x hx=>by
  obtain⟨q,_,rfl⟩:=jc.1 hx;exact IJ _)
 have hlen:∀q∈d::ds,(Ax q).length<=16384:=by
  intro q hq;rw[zg] at hl;rcases zv.1 hq with rfl|hq
  ·omega
  ·have:=NV (ds.map Ax) (Ax q) (List.mem_map_of_mem hq);omega
 have hdec:∀q∈d::ds,An (Ax q)=(0,q):=fun q hq=>by rw[Et (hlen q hq),It]
 rw[JE _ (Ax d) (ds.map Ax) hl hs];have c1:∀q∈Ax d::ds.map Ax,(An q).1=0:=by
  intro q hq;have:q∈(d::ds).map Ax:=hq;obtain⟨q',k1,rfl⟩:=jc.1 this;rw[hdec q' k1]
 have c2:(Ax d::ds.map Ax).all (fun q=>q.all Cq)=true:=by
  rw[zj];intro q hq;have:q∈(d::ds).map Ax:=hq;obtain⟨q',k1,rfl⟩:=jc.1 this;exact QV _
 have c3:¬(Ax d::ds.map Ax).getLastD []=[]:=by
  intro e;have e2:=Ou Ax d ds;rw[zr] at e2;rw[e2,QU] at e;rcases List.eq_nil_or_concat ds with rfl|⟨l',z,rfl⟩
  ·rw[show ([d]:List (List UInt8)).getLastD []=d from rfl] at e;exact h2 (by rw[e];rfl)
  ·rw[List.concat_eq_append] at e h3;have:(d::(l'++[z])).getLastD []=z:=by
    show ((d::l')++[z]).getLastD []=z;simp only[yk,List.getLast?_append,List.getLast?_singleton];rfl
   rw[this] at e;exact h3 z (by simp) e
 rw[if_neg (by simpa using c1),if_neg (by rw[c2];simp),if_neg c3];have e1:Bz (Ax d)=Ax d:=by unfold Bz;rw[hdec d (by simp)]
 have e2:Gp (ds.map Ax)=js (ds.map Ax):=by
  rw[Jd,List.map_map]
  congr 1
  apply xy
  intro q hq;show Bz (Ax q)=Ax q;unfold Bz;rw[hdec q (by simp[hq])]
 rw[e1,e2]
theorem fJ {m:List (List UInt8)} (hm:m≠[]) {z:List UInt8} (h:m.getLastD []=z):m=m.dropLast++[z]:=by
 rcases List.eq_nil_or_concat m with rfl|⟨l',y,rfl⟩
 ·exact absurd rfl hm
 ·rw[List.concat_eq_append] at h ⊢;have:(l'++[y]).getLastD []=y:=by simp[yk]
  rw[this] at h;subst h;simp
theorem Lb (a b:List (List UInt8)):jn (a++b)=jn a++jn b:=by simp[jn]
theorem QL {l:List (List UInt8)}:Eo l=(if l=[] then Ci else Cf l++47::CO):=rfl
theorem VV {u:UrlP} {i:List UInt8} (h:Dc u=(0,B0,i)):BN B0 i=(0,u):=by
 unfold Dc at h
 split at h
 ·cases h
 ·rename_i g1;simp only[Bool.not_eq_false] at g1
  split at h
  ·cases h
  ·rename_i g2;simp only[not_or,Bool.not_eq_true,Decidable.not_not] at g2;obtain⟨gq,gf,gl⟩:=g2
   split at h
   ·cases h
   ·rename_i g3
    split at h
    ·cases h
    ·rename_i g4;injection h with _ h
     injection h with _ h
     subst h;have hc:=NM g1;obtain⟨n,hn,hn1,hn2⟩:=hc.port;obtain⟨m,hm,hms,hp⟩:=hc.path;have hsp:ER u=m:=by
      unfold ER;rw[hp,Li m (fun x hx=>(hms x hx).1.1)];rfl
     rw[hsp] at gl g3;have hml:=fJ hm gl;have hplen:∀x∈m,x.length<=4096:=by
      intro x hx;have h1:=IQ u;have h2:=hc.len;have h3:x.length<=(jn m).length:=by
       obtain⟨a,b,rfl⟩:=List.append_of_mem hx;rw[Lb,Ec];simp;omega
      rw[hp] at h1;omega
     have hE:=Yv (h:=u.host) (n:=n) hc.host;have key:∃segs:List (List UInt8),Cu u=BY u.host n++js ((segs.map fun x=>(An x).2).map Ax)/\segs.all BJ=true/\(∀x∈segs,x∈m)/\Eo (segs.map fun x=>Ax (An x).2)=u.path:=by
      by_cases hw:u.path=Ci
      ·refine⟨[],?_,rfl,by simp,?_⟩
       ·unfold Cu;rw[if_pos hw,hn];rfl
       ·rw[hw];rfl
      ·have g3':¬m.dropLast=[]/\m.dropLast.all BJ=true:=by
        refine⟨fun e=>g3 ⟨hw,.inl e⟩,?_⟩
        cases e:m.dropLast.all BJ with
        | true=>rfl
        | false=>exact absurd ⟨hw,.inr e⟩ g3
       refine⟨m.dropLast,?_,g3'.2,fun x hx=>List.dropLast_subset m hx,?_⟩
       ·unfold Cu;rw[if_neg hw,hn,hsp,Sc _ g3'.2,List.map_map];rfl
       ·rw[QL,if_neg (by rw[List.map_eq_nil_iff];exact g3'.1),hp]
        conv=>rhs;rw[hml,Lb]
        have:∀l:List (List UInt8),l.all BJ=true->(∀x∈l,x∈m)->Cf (l.map fun x=>Ax (An x).2)=jn l:=by
         intro l
         induction l with
         | nil=>intro _ _;rfl
         | cons x l ih=>
          intro ha hb;simp only[jd,Bool.and_eq_true] at ha;have ih:=ih ha.2 (fun y hy=>hb y (by simp[hy]));have hx:=ha.1;unfold BJ at hx;simp only[Bool.and_eq_true,decide_eq_true_eq] at hx;have hxl:=hplen x (hb x (by simp));have hup:=((JS (l:=x) (by omega)).1 hx.1).2;have hse:=(MT (hms x (hb x (by simp))).2 (by omega) hup).2;unfold Cf at ih ⊢;rw[zr,qq,ih,Ec];unfold FW;have hel:(Ax (An x).2).length<=16384:=by
           have k1:=JD (An x).2;have k2:=Qf (An x).2;rw[hse] at k2;omega
          rw[Et hel,It];simp only;rw[hse];rfl
        rw[this m.dropLast g3'.2 (fun x hx=>List.dropLast_subset m hx)];simp[jn]
     obtain⟨segs,hid,hok,hmem,hpath⟩:=key;have hdn:∀x∈segs,(An x).2≠[]/\AL (An x).2 []=x/\x.length<=4096:=by
      intro x hx;have h1:=zj.1 hok x hx;unfold BJ at h1;simp only[Bool.and_eq_true,decide_eq_true_eq,Bool.not_eq_true',decide_eq_false_iff_not] at h1;have hxl:=hplen x (hmem x hx);have hup:=((JS (l:=x) (by omega)).1 h1.1).2;have hse:=(MT (hms x (hmem x hx)).2 (by omega) hup).2;refine⟨fun e=>h1.2 ?_,hse,hxl⟩;rw[e] at hse;rw[<-hse];rfl
     have hil:(Cu u).length<=4096:=by
      have:(AB B0 (Cu u)).length=(Cu u).length+8:=by simp[AB,Ch,B0]
      omega
     have hne:BY u.host n≠[]:=by
      have:=YE hc.host;unfold BY
      split
      ·exact this
      ·simp[this]
     have hie:Cr (Cu u)=(0,Cu u):=by
      rw[hid];refine nT (d:=DE u.host n) _ hE.symm hne ?_ (by rw[<-hid];omega);intro q hq;obtain⟨x,hx,rfl⟩:=jc.1 hq;exact(hdn x hx).1
     have hdid:A0 (AB B0 (Cu u))=(0,B0,Cu u):=Qc (by decide) hie (by omega);have h58:(58:UInt8)∉BY u.host n:=by rw[<-hE];exact IJ _
     have hsplit:Ap 58 (Cu u)=BY u.host n::(segs.map fun x=>(An x).2).map Ax:=by
      rw[hid];exact K7 _ _ h58 (fun x hx=>by
       obtain⟨q,_,rfl⟩:=jc.1 hx;exact IJ _)
     have hdw:AU B0 (Cu u)=(0,u.host,n):=by
      unfold AU;rw[if_neg (by simp),hdid,if_neg (by simp),NC,hsplit];show BU (An (BY u.host n)).2=_;have hl2:(BY u.host n).length<=16384:=by
       rw[hid,zg] at hil;omega
      rw[Et hl2,<-hE,It];exact PS hc.host hn1 hn2
     have htl:(Ap 58 (Cu u)).tail=segs.map fun x=>Ax (An x).2:=by
      rw[hsplit,List.tail_cons,List.map_map];rfl
     have hU:GX B0 (Cu u)=u:=by
      unfold GX;rw[hdw,htl,hpath];have e1:=hc.noq gq;have e2:=hc.nof gf
      cases u
      simp only at hn gq gf e1 e2 ⊢;rw[hn,gq,gf,e1,e2]
     have hall:(Ap 58 (Cu u)).tail.all Dz=true:=by
      rw[htl,List.all_map,zj];intro x hx;obtain⟨k1,k2,k3⟩:=hdn x hx;show Dz (Ax (An x).2)=true;have hel:(Ax (An x).2).length<=16384:=by
       have k4:=JD (An x).2;have k5:=Qf (An x).2;rw[k2] at k5;omega
      unfold Dz;rw[Et hel,It];simp only;have hs:=(hms x (hmem x hx)).1;have n1:¬(An x).2=[46]:=fun e=>hs.2.1 (by rw[<-k2,e];decide);have n2:¬(An x).2=[46,46]:=fun e=>hs.2.2 (by rw[<-k2,e];decide);simp[k1,n1,n2]
     have hlen:=hc.len;unfold BN;rw[hdw,hall,hU,if_neg (by simp),if_neg (by simp),if_neg (by omega)]
theorem Nh:EO GW/\EO CO:=by
 refine⟨⟨by decide,by decide,by decide⟩,⟨by decide,by decide,by decide⟩⟩
theorem L9:Cn AY GW/\Cn AY CO:=by
 have e1:AL GW []=GW:=by decide
 have e2:AL CO []=CO:=by decide
 exact⟨by have:=Cn.enc AY GW;rwa [e1] at this,by have:=Cn.enc AY CO;rwa [e2] at this⟩
theorem Zq (l:List (List UInt8)):Cf l=jn (l.map fun x=>AL (An x).2 []):=by
 unfold Cf jn FW;rw[List.flatMap_map]
theorem Mz {m i:List UInt8} {u:UrlP} (h:BN m i=(0,u)):CanW u/\u.hq=false/\u.hf=false/\AU m i=(0,u.host,(AU m i).2.2)/\u.port=(AU m i).2.2/\u=GX m i:=by
 unfold BN at h
 split at h
 ·rename_i g;injection h with h1 _;exact absurd h1 g
 ·rename_i g1;simp only[Decidable.not_not] at g1
  split at h
  ·cases h
  ·rename_i g2;simp only[Bool.not_eq_false] at g2
   split at h
   ·cases h
   ·rename_i g3;injection h with _ h
    subst h;have hd:AU m i=(0,(AU m i).2.1,(AU m i).2.2):=by rw[<-g1]
    obtain⟨k1,k2,k3,k4⟩:=O7 hd;obtain⟨a1,a2,a3,_,_⟩:=Nd k4;refine⟨⟨a1,⟨_,rfl,a2,a3⟩,?_,?_,?_,fun _=>rfl,fun _=>rfl,by omega⟩,rfl,rfl,hd,rfl,rfl⟩
    ·show Ff (Eo (Ap 58 i).tail);rw[QL]
     by_cases ht:(Ap 58 i).tail=[]
     ·rw[if_pos ht];refine⟨[GW,CO],by simp,?_,by decide⟩;intro s hs;simp only[zv,jk,or_false] at hs;rcases hs with rfl|rfl
      ·exact⟨Nh.1,L9.1⟩
      ·exact⟨Nh.2,L9.2⟩
     ·rw[if_neg ht];refine⟨((Ap 58 i).tail.map fun x=>AL (An x).2 [])++[CO],by simp,?_,?_⟩
      ·intro s hs;rcases zw.1 hs with hs|hs
       ·obtain⟨x,hx,rfl⟩:=jc.1 hs;have:=zj.1 g2 x hx;unfold Dz at this;simp only[Bool.not_eq_true',Bool.or_eq_false_iff,decide_eq_false_iff_not] at this;refine⟨⟨QS _,fun e=>this.1.2 ?_,fun e=>this.2 ?_⟩,Cn.enc _ _⟩
        ·have h1:=Nl (An x).2;rw[e] at h1;exact congrArg Prod.snd (h1.symm.trans (by decide:A4 [46]=(0,[46])))
        ·have h1:=Nl (An x).2;rw[e] at h1;exact congrArg Prod.snd (h1.symm.trans (by decide:A4 [46,46]=(0,[46,46])))
       ·simp only[zv,jk,or_false] at hs;subst hs;exact⟨Nh.2,L9.2⟩
      ·rw[Zq,Lb];simp[jn]
    ·show Aj [] AP=(0,[]);decide
    ·show Aj [] AP=(0,[]);decide
theorem YA {u:UrlP} {r:List UInt8×List UInt8} (h:Dc u=(0,r)):r.1=B0/\Dc u=(0,B0,r.2)/\r.2=Cu u:=by
 have h':=h;unfold Dc at h
 split at h
 ·cases h
 ·split at h
  ·cases h
  ·split at h
   ·cases h
   ·split at h
    ·cases h
    ·injection h with _ h
     subst h;exact⟨rfl,h',rfl⟩
theorem Yy {u:UrlP} (h:(Dc u).1≠0):(Dc u).2=([],[]):=by
 unfold Dc at h ⊢
 split
 ·rfl
 ·rename_i g1;rw[if_neg g1] at h
  split
  ·rfl
  ·rename_i g2;rw[if_neg g2] at h
   split
   ·rfl
   ·rename_i g3;rw[if_neg g3] at h
    split
    ·rfl
    ·rename_i g4;rw[if_neg g4] at h;exact absurd rfl h
theorem Pk {m i:List UInt8} (h:(BN m i).1≠0):(BN m i).2=BH:=by
 unfold BN at h ⊢
 split
 ·rfl
 ·rename_i g1;rw[if_neg g1] at h
  split
  ·rfl
  ·rename_i g2;rw[if_neg g2] at h
   split
   ·rfl
   ·rename_i g3;rw[if_neg g3] at h;exact absurd rfl h
theorem oO {m i:List UInt8} {r:List UInt8×List UInt8} (h:B6 m i=(0,r)):BN r.1 r.2=(0,(BN m i).2)/\Dc (BN m i).2=(0,r)/\B6 r.1 r.2=(0,r)/\(BN m i).1=0/\r.1=B0:=by
 unfold B6 at h
 split at h
 ·rename_i g;injection h with h1 _;exact absurd h1 g
 ·rename_i g;simp only[Decidable.not_not] at g;obtain⟨k1,k2,_⟩:=YA h;have h3:=VV k2;have h4:BN r.1 r.2=(0,(BN m i).2):=by rw[k1];exact h3
  refine⟨h4,h,?_,g,k1⟩;unfold B6;rw[h4,if_neg (by simp)];exact h
theorem Xs:∀(n:Nat) (l o:List UInt8),l.length<=n->(Al AS 0 l o).2.length<=o.length+l.length:=by
 intro n
 induction n with
 | zero=>
  intro l o hl;obtain rfl:l=[]:=qh (by omega);simp[Al]
 | succ n ih=>
  intro l o hl
  cases l with
  | nil=>simp[Al]
  | cons c t=>
   simp only[zl] at hl
   by_cases hc:c=37
   ·rcases he:Bq (c::t) with _|_
    ·rw[Al,if_pos hc,if_neg (by rw[he];simp)];simp
    ·obtain⟨a,b,r,rfl⟩:=Fq he;rw[Qt hc a b r rfl he];have:=ih r (o++[A1 (c::a::b::r)]) (by simp at hl;omega);simp at this ⊢;omega
   ·rw[Qu hc];have:=ih t (o++[c]) (by omega);simp at this ⊢;omega
theorem Ge (l:List UInt8):(An l).2.length<=l.length:=by
 unfold An B3
 split
 ·simp
 ·have h:=Xs l.length l [] (zd _);simpa using h
open Go.RowKit Sx
set_option maxHeartbeats 1000000 in
theorem gQ (b:Nat) (w:World) (h0:w.cell? ⟨b,0,none⟩=some (.pointer (some ⟨b,0,none⟩))) :
  Calls Tryz.prog 225 #[.pointer (some ⟨b,0,none⟩)] w fun e w'=>e=.returned (.tuple #[])/\w'=w:=by
 obtain⟨j,hj,_⟩:=xf.1 (show ((Tryz.prog).info? 183).map (·.size)=some 2 by kernel_rfl);have t1:(Tryz.prog).underlying 181=some (.pointer 183):=by kernel_rfl
 go_enter Tryz.func225,Tryz.ntmps225
 go_wp2
 rw[Lib.run_neq_ptr_same w _ t1 hj]
 go_wp2
 go_end0
 exact⟨rfl,rfl⟩
set_option maxHeartbeats 1000000 in
theorem iU (T:TypeId) (b:Nat) (w:World) (h0:w.cell? ⟨b,0,none⟩=some (.pointer none)) (hsh:w.shape? b=some (T,2)) (hfz:w.frozen? ⟨b,0,none⟩=false) (hT:liesAt Tryz.prog (Tryz.prog).depth T (2 / (Tryz.prog).cellsOf T) 0 183 1=true) :
  Calls Tryz.prog 225 #[.pointer (some ⟨b,0,none⟩)] w fun e w'=>e=.returned (.tuple #[])/\w'=w.setCell ⟨b,0,none⟩ (.pointer (some ⟨b,0,none⟩)):=by
 obtain⟨j,hj,hjs⟩:=xf.1 (show ((Tryz.prog).info? 183).map (·.size)=some 2 by kernel_rfl);have t1:(Tryz.prog).underlying 181=some (.pointer 183):=by kernel_rfl
 have t2:(Tryz.prog).underlying 226=some .unsafePointer:=by kernel_rfl
 go_enter Tryz.func225,Tryz.ntmps225
 go_wp2
 rw[Lib.run_to_unsafe w ⟨b,0,none⟩ t1 t2 hj (by rw[hjs];decide) hsh (Nat.zero_lt_succ 1)];simp only[Result.andThen];rw[Oper.upon_value]
 go_wp2
 rw[run_callFunc_extern Tryz.func234 (by kernel_rfl) (by kernel_rfl) (by kernel_rfl) (e:=Extern.AbiNoEscape.same) (by kernel_rfl)];rw[Lib.run_noEscape];simp only[Result.andThen];rw[Oper.upon_value]
 go_wp2
 rw[Lib.run_from_unsafe w ⟨b,0,none⟩ t2 t1 hj hsh hT];simp only[Result.andThen];rw[Oper.upon_value]
 go_wp2
 go_end0
 exact⟨rfl,rfl⟩
theorem Dt {α:Type} {l:List α} {b:Nat} {x:α} (h:l[b]? = some x):b<l.length:=by
 rcases zo b l.length with h0|h0
 ·exact h0
 ·rw[List.getElem?_eq_none h0] at h;cases h
theorem set_same {α:Type} {l:List α} {b:Nat} {x:α} (h:l[b]? = some x):l.set b x=l:=by
 apply List.ext_getElem?
 intro i;rw[zb]
 split
 ·rename_i e;subst e;rw[if_pos (Dt h),h]
 ·rfl
theorem MemOk.kill {objs:List OB} {G:Gh} {I:Ak} {w w':World} (h:MemOk G I objs w) (r:Nat) {row:Option Nat} (hrow:∀k,row=some k->G.own r=some k) (hg:w.grownBy w' row):MemOk G I (objs.set r .dead) w':=by
 have hne:∀b g,b≠r->G.own b=some g->some g≠row:=fun b g hb h1 e=>hb (h.inj b r g h1 (hrow g e.symm));have hold:∀(b:Nat) ob,(objs.set r .dead)[b]? = some ob->(ob=.dead\/(b≠r/\objs[b]? = some ob)):=by
  intro b ob hb;rw[zb] at hb
  split at hb
  ·split at hb
   ·injection hb with hb;exact .inl hb.symm
   ·cases hb
  ·rename_i e;exact .inr ⟨fun e'=>e e'.symm,hb⟩
 refine⟨fun g o v hi=>?_,fun b T cs hb=>?_,fun b E sz gen n xs hb=>?_,fun b hh es hb=>?_,h.inj,fun b g hb=>xu (h.lt b g hb) hg.size,h.apart,fun b hb=>h.fresh b (by simpa using hb)⟩
 ·rw[<-h.imm g o v hi];exact Ln (hg.block g (World.block_lt_of_cell? (h:=h.imm g o v hi)) (fun e=>h.apart r g o v (hrow g e.symm) hi))
 ·rcases hold b _ hb with h1|⟨h1,h2⟩
  ·cases h1
  ·obtain⟨g,ys,k1,k2,k3⟩:=h.box b T cs h2;exact⟨g,ys,k1,(hg.block g (h.lt b g (Co k1)) (hne b g h1 (Co k1))).trans k2,k3⟩
 ·rcases hold b _ hb with h1|⟨h1,h2⟩
  ·cases h1
  ·obtain⟨v,ys,k1,k2,k3,k4,k5⟩:=h.row b E sz gen n xs h2;refine⟨v,ys,k1,World.ownsRow.kept k2 hg ?_,k3,k4,k5⟩;rcases hv:v.ownBlock with _|g
   ·exact .inl rfl
   ·have:=hne b g h1 (by rw[FL k5 k1,hv])
    first|exact .inr this|exact .inr (fun e=>this e.symm)
 ·rcases hold b _ hb with h1|⟨h1,h2⟩
  ·cases h1
  ·obtain⟨g,en,ck,k1,k2,k3⟩:=h.map b hh es h2;exact⟨g,en,ck,k1,(hg.block g (h.lt b g (Co k1)) (hne b g h1 (Co k1))).trans k2,k3⟩
section
variable [Tabs Tryz.prog] {objs:List OB} {K:List OB->AV->Prop}
def BT (T:TypeId):Prop:=liesAt Tryz.prog (Tryz.prog).depth T (2 / (Tryz.prog).cellsOf T) 0 183 1=true
theorem To (T:TypeId) (b:Nat) (x y:AV) (hT:BT T) (hb:objs[b]? = some (.box T [x,y])) (hx:x=.o (.pointer none)\/x=.p b 0) (hk:K (objs.set b (.box T [.p b 0,y])) (.tup [])):Ai Tryz.prog 225 [.p b 0] objs K:=by
 intro C _ G I w hin hm ys hd;simp only[Ac] at hd;obtain⟨v,_,rfl,hv,rfl⟩:=hd;simp only[Ab] at hv;obtain⟨g,hg,rfl⟩:=hv;obtain⟨g',zs,k1,k2,k3,k4⟩:=hm.box b T _ hb;obtain rfl:g=g':=zx.inj (hg.symm.trans k1);simp only[Ac] at k3;obtain⟨z1,_,rfl,d1,z2,_,rfl,d2,rfl⟩:=k3;have hcell:w.cell? ⟨g,0,none⟩=some z1:=by rw[cell_of_row w g 0 _ T (0,0) k2];rfl
 rcases hx with rfl|rfl
 ·simp only[Ab] at d1;subst d1;refine(iU T g w hcell (by simp[World.shape?,k2]) (by simp[World.frozen?,k2]) hT).mono ?_;rintro e w' ⟨rfl,rfl⟩;obtain⟨s1,s2⟩:=PI hin hm b g 0 T [.o (.pointer none),y] [.p b 0] [.pointer (some ⟨g,0,none⟩)] hb hg (Ac.cons (by simp only[Ab];exact⟨g,hg,rfl⟩) Ac.nil) (by simp[Value.oneCell']) (by simp);exact⟨_,_,.tup [],G,I,rfl,hk,Gh.le.refl G,Ak.le.refl I,s1,s2,by simp only[Ab];exact⟨[],rfl,Ac.nil⟩⟩
 ·simp only[Ab] at d1;obtain⟨g2,e2,rfl⟩:=d1;obtain rfl:g=g2:=zx.inj (hg.symm.trans e2);refine(gQ g w hcell).mono ?_;rintro e w' ⟨rfl,rfl⟩;rw[set_same hb] at hk;exact⟨_,objs,.tup [],G,I,rfl,hk,Gh.le.refl G,Ak.le.refl I,hin,hm,by simp only[Ab];exact⟨[],rfl,Ac.nil⟩⟩
end
theorem Lq (w:World):w.grownBy w.drew none:=by
 have h:=Below.drew (Below.refl w.heap.size w);exact⟨h.os,h.tape,h.output,h.size,fun k hk _=>h.block k hk⟩
theorem eO {w w':World} (h:w.grownBy w' none) (g n:Nat):w.grownBy (w'.freeze ⟨g,0,none⟩ n) (some g):=by
 unfold World.freeze
 split
 ·exact⟨h.os,h.tape,h.output,h.size,fun k hk _=>h.block k hk (by simp)⟩
 ·refine⟨h.os,h.tape,h.output,by simpa using h.size,fun k hk hne=>?_⟩;rw[Array.getElem?_modify,if_neg (by rintro rfl;exact hne rfl)];exact h.block k hk (by simp)
theorem Tc {w w':World} (h:w.grownBy w' none) (o:Obj) (row:Option Nat):w.grownBy (w'.alloc o) row :=
 ⟨h.os,h.tape,h.output,by simp;have:=h.size;omega,fun k hk _=>(Below.heap_alloc w' o k (xu hk h.size)).trans (h.block k hk (by simp))⟩
set_option maxHeartbeats 1000000 in
theorem eL (b g cap:Nat) (l:List UInt8) (p:Value) (cur:Array Value) (T:TypeId) (w:World) (h0:l≠[]) (hbk:w.heap[b]? = some (.cells #[p,.slice (some ⟨g,0,none⟩) l.length cap] T (0,0))) (hg:w.heap[g]? = some (.cells cur 5 (0,0)))
  (hnc:l.length<=cap) (hcm:cap<=maxLen) (hcs:cur.size=cap) (hcell:∀j x,l[j]? = some x->w.cell? ((⟨g,0,none⟩:Addr).add j)=some (.int .u8 x.toNat)) :
  Calls Tryz.prog 183 #[.pointer (some ⟨b,0,none⟩)] w fun e w'=>e=.returned (.string ⟨l.toArray⟩)/\w.grownBy w' (some g):=by
 have hl0:l.length≠0:=by simpa using h0
 have c1:w.drew.cell? ⟨b,1,none⟩=some (.slice (some ⟨g,0,none⟩) l.length cap):=by
  have:w.drew.heap[b]? = some (.cells #[p,.slice (some ⟨g,0,none⟩) l.length cap] T (0,0)):=hbk;rw[Lib.cell_of_heap this];rfl
 have hSD:(Builtin.unsafeSliceData_ #[25] 208 #[.slice (some ⟨g,0,none⟩) l.length cap]).run Tryz.prog w.drew=.ok (.pointer (some ⟨g,0,none⟩)) w.drew :=
  Lib.run_unsafeSliceData_row _ _ _ _ _ _ (by omega)
 have hUS:(Builtin.unsafeString_ #[208,3] 9 #[.pointer (some ⟨g,0,none⟩),.int .i64 l.length]).run Tryz.prog w.drew=.ok (.string ⟨l.toArray⟩) (w.drew.freeze ⟨g,0,none⟩ l.length):=by
  refine Lib.run_unsafeString_row w.drew _ _ _ 5 (by kernel_rfl) (by kernel_rfl) g cur.size (by have hg':w.drew.heap[g]? = some (.cells cur 5 (0,0)):=hg;simp[World.shape?,hg']) l h0 (by omega) (by unfold maxLen at hcm;omega) ?_;intro j x hx;exact hcell j x hx
 clear hl0;have mixed:(Tryz.prog).follows .mixedOrders=true:=by kernel_rfl
 go_enter Tryz.func183,Tryz.ntmps183
 go_wp2
 go_region_o
 all_goals (go_wp2;go_ret;exact⟨rfl,eO (Lq w) g _⟩)
set_option maxHeartbeats 1000000 in
theorem Te (b:Nat) (p:Value) (T:TypeId) (w:World) (hbk:w.heap[b]? = some (.cells #[p,.slice none 0 0] T (0,0))) :
  Calls Tryz.prog 183 #[.pointer (some ⟨b,0,none⟩)] w fun e w'=>e=.returned (.string ⟨#[]⟩)/\w.grownBy w' none:=by
 have hUS:∀(W:World) (q:Option Addr),(Builtin.unsafeString_ #[208,3] 9 #[.pointer q,.int .i64 0]).run Tryz.prog W=.ok (.string .empty) W:=fun W q=>Lib.run_unsafeString_none W _ _ _ q;have c1:w.drew.cell? ⟨b,1,none⟩=some (.slice none 0 0):=by
  have:w.drew.heap[b]? = some (.cells #[p,.slice none 0 0] T (0,0)):=hbk;rw[Lib.cell_of_heap this];rfl
 have hSD:(Builtin.unsafeSliceData_ #[25] 208 #[.slice none 0 0]).run Tryz.prog w.drew=.ok (.pointer none) w.drew:=rfl;have mixed:(Tryz.prog).follows .mixedOrders=true:=by kernel_rfl
 go_enter Tryz.func183,Tryz.ntmps183
 go_wp2
 go_region_o
 all_goals (go_wp2;go_ret;exact⟨rfl,Lq w⟩)
set_option maxHeartbeats 1000000 in
theorem gP (b g:Nat) (p:Value) (cur:Array Value) (T:TypeId) (w:World) (hbk:w.heap[b]? = some (.cells #[p,.slice (some ⟨g,0,none⟩) 0 0] T (0,0))) (hg:w.heap[g]? = some (.cells cur 5 (0,0))) :
  Calls Tryz.prog 183 #[.pointer (some ⟨b,0,none⟩)] w fun e w'=>e=.returned (.string ⟨#[]⟩)/\w.grownBy w' (some g):=by
 have hUS:∀(W:World) (q:Option Addr),(Builtin.unsafeString_ #[208,3] 9 #[.pointer q,.int .i64 0]).run Tryz.prog W=.ok (.string .empty) W:=fun W q=>Lib.run_unsafeString_none W _ _ _ q;have hlt:b<w.heap.size:=by
  rcases zo b w.heap.size with h' | h'
  ·exact h'
  ·simp[Array.getElem?_eq_none h'] at hbk
 have c1:w.drew.cell? ⟨b,1,none⟩=some (.slice (some ⟨g,0,none⟩) 0 0):=by
  have:w.drew.heap[b]? = some (.cells #[p,.slice (some ⟨g,0,none⟩) 0 0] T (0,0)):=hbk;rw[Lib.cell_of_heap this];rfl
 have hSD:(Builtin.unsafeSliceData_ #[25] 208 #[.slice (some ⟨g,0,none⟩) 0 0]).run Tryz.prog w.drew=.ok (.pointer (some ⟨w.drew.heap.size,0,none⟩)) (w.drew.alloc (.view ⟨g,0,none⟩ 5)) :=
  Lib.run_unsafeSliceData_zero w.drew _ _ 5 (by kernel_rfl) ⟨g,0,none⟩ 0 (5,cur.size) (by have hg':w.drew.heap[g]? = some (.cells cur 5 (0,0)):=hg;simp[World.shape?,hg'])
 have c2:(w.drew.alloc (.view ⟨g,0,none⟩ 5)).cell? ⟨b,1,none⟩=some (.slice (some ⟨g,0,none⟩) 0 0):=by
  have:(w.drew.alloc (.view ⟨g,0,none⟩ 5)).heap[b]? = _:=(Lib.alloc_old w.drew _ b hlt).trans hbk;rw[Lib.cell_of_heap this];rfl
 have c3:(w.alloc (.view ⟨g,0,none⟩ 5)).drew.cell? ⟨b,1,none⟩=some (.slice (some ⟨g,0,none⟩) 0 0):=c2;have c0:w.cell? ⟨b,1,none⟩=some (.slice (some ⟨g,0,none⟩) 0 0):=c1;have mixed:(Tryz.prog).follows .mixedOrders=true:=by kernel_rfl
 go_enter Tryz.func183,Tryz.ntmps183
 go_wp2
 go_region_o
 all_goals (go_wp2;go_ret;exact⟨rfl,Tc (Lq w) _ _⟩)
set_option maxHeartbeats 1000000 in
theorem eM (b g cap:Nat) (p:Value) (T:TypeId) (w:World) (hc0:cap≠0) (hbk:w.heap[b]? = some (.cells #[p,.slice (some ⟨g,0,none⟩) 0 cap] T (0,0))) :
  Calls Tryz.prog 183 #[.pointer (some ⟨b,0,none⟩)] w fun e w'=>e=.returned (.string ⟨#[]⟩)/\w.grownBy w' none:=by
 have hUS:∀(W:World) (q:Option Addr),(Builtin.unsafeString_ #[208,3] 9 #[.pointer q,.int .i64 0]).run Tryz.prog W=.ok (.string .empty) W:=fun W q=>Lib.run_unsafeString_none W _ _ _ q;have c1:w.drew.cell? ⟨b,1,none⟩=some (.slice (some ⟨g,0,none⟩) 0 cap):=by
  have:w.drew.heap[b]? = some (.cells #[p,.slice (some ⟨g,0,none⟩) 0 cap] T (0,0)):=hbk;rw[Lib.cell_of_heap this];rfl
 have hSD:(Builtin.unsafeSliceData_ #[25] 208 #[.slice (some ⟨g,0,none⟩) 0 cap]).run Tryz.prog w.drew=.ok (.pointer (some ⟨g,0,none⟩)) w.drew :=
  Lib.run_unsafeSliceData_row _ _ _ _ _ _ hc0
 clear hc0;have mixed:(Tryz.prog).follows .mixedOrders=true:=by kernel_rfl
 go_enter Tryz.func183,Tryz.ntmps183
 go_wp2
 go_region_o
 all_goals (go_wp2;go_ret;exact⟨rfl,Lq w⟩)
theorem gN {w w':World} (h:w.grownBy w' none) (row:Option Nat):w.grownBy w' row:=⟨h.os,h.tape,h.output,h.size,fun k hk _=>h.block k hk (by simp)⟩
def CT (objs:List OB) (b:Nat) (T:TypeId) (l:List UInt8):Prop :=
 (objs[b]? = some (.box T [.o (.pointer none),.nil])/\l=[])\/∃r gen,objs[b]? = some (.box T [.p b 0,.orow r gen])/\objs[r]? = some (.orow 5 1 gen l.length (Bf l))
def ED (objs:List OB) (b:Nat):Option Nat :=
 match objs[b]? with
 | some (.box _ [_,.orow r _])=>some r
 | _=>none
def Cs (objs:List OB) (b:Nat) (objs':List OB):Prop:=objs.length<=objs'.length/\(∀(j:Nat) ob,objs[j]? = some ob->j≠b->ED objs b≠some j->objs'[j]? = some ob/\ED objs' b≠some j)
theorem Cs.refl (objs:List OB) (b:Nat):Cs objs b objs:=⟨zd _,fun j ob h _ h2=>⟨h,h2⟩⟩
theorem Cs.trans {o1 o2 o3:List OB} {b:Nat} (h:Cs o1 b o2) (k:Cs o2 b o3):Cs o1 b o3 :=
 ⟨Nat.le_trans h.1 k.1,fun j ob h1 h2 h3=>by
  obtain⟨a1,a2⟩:=h.2 j ob h1 h2 h3;exact k.2 j ob a1 h2 a2⟩
theorem CT.lt {objs:List OB} {b:Nat} {T:TypeId} {l:List UInt8} (h:CT objs b T l):b<objs.length/\∀r,ED objs b=some r->r<objs.length:=by
 rcases h with ⟨h,_⟩|⟨r,gen,h,h2⟩
 ·refine⟨Dt h,fun r hr=>?_⟩;unfold ED at hr;rw[h] at hr;cases hr
 ·refine⟨Dt h,fun r' hr=>?_⟩;unfold ED at hr;rw[h] at hr;injection hr with hr;subst hr;exact Dt h2
theorem CT.app {objs:List OB} {b:Nat} {T:TypeId} {l:List UInt8} (h:CT objs b T l) (more:List OB):CT (objs++more) b T l/\ED (objs++more) b=ED objs b:=by
 have hlt:=h.lt.1;have e:(objs++more)[b]? = objs[b]?:=qr hlt;refine⟨?_,by unfold ED;rw[e]⟩;rcases h with ⟨h,h2⟩|⟨r,gen,h,h2⟩
 ·exact .inl ⟨by rw[e];exact h,h2⟩
 ·exact .inr ⟨r,gen,by rw[e];exact h,by rw[qr (Dt h2)];exact h2⟩
theorem Cs.behind {objs more objs':List OB} {b:Nat} {T:TypeId} {l:List UInt8} (h:CT objs b T l) (k:Cs (objs++more) b objs'):∀(j:Nat) ob,more[j]? = some ob->objs'[objs.length+j]? = some ob:=by
 intro j ob hj;have h1:=h.lt;refine(k.2 (objs.length+j) ob (by rw[jy (by omega)];simpa using hj) (by omega) ?_).1;rw[(h.app more).2];intro e;have:=h1.2 _ e;omega
theorem Cs.drop {objs more objs':List OB} {b:Nat} {T:TypeId} {l:List UInt8} (h:CT objs b T l) (k:Cs (objs++more) b objs'):Cs objs b objs':=by
 refine⟨by have:=k.1;simp at this;omega,fun j ob h1 h2 h3=>k.2 j ob (by rw[qr (Dt h1)];exact h1) h2 (by rw[(h.app more).2];exact h3)⟩
theorem SA (a b:List UInt8):Bf (a++b)=Bf a++Bf b:=by simp[Bf]
section
variable [Tabs Tryz.prog] {objs:List OB} {K:List OB->AV->Prop}
theorem KU (T:TypeId) (b:Nat) (l0 l:List UInt8) (hT:BT T) (hb:CT objs b T l0) (hl:l0.length+l.length<=140737488355328) (hk:∀objs',CT objs' b T (l0++l)->Cs objs b objs'->K objs' (.tup [.i .i64 l.length,.o .nilIface])) :
  Ai Tryz.prog 214 [.p b 0,.s l] objs K:=by
 rcases hb with ⟨hb,rfl⟩|⟨r,gen,hb,hr⟩
 ·have hlt:=Dt hb;refine CE Vf fun C _=>?_;simp only[OH,Aa,simprocAttr];refine Ag (To T b _ _ hT hb (.inl rfl) ?_);have e1:(objs.set b (OB.box T [.p b 0,.nil]))[b]? = some (.box T [.p b 0,.nil]):=qd hlt;simp only[e1,Aa,simprocAttr];refine⟨by simpa using hl,?_⟩;have e2:(objs.set b (OB.box T [.p b 0,.nil])++[OB.orow 5 1 0 l.length (Bf l)])[b]? = some (.box T [.p b 0,.nil]):=by
   rw[qr (by simpa using hlt)];exact e1
  simp only[e2,Aa,simprocAttr];have e3:(objs.set b (OB.box T [.p b 0,.nil])++[OB.orow 5 1 0 l.length (Bf l)]).set b (OB.box T [.p b 0,.orow objs.length 0])=objs.set b (OB.box T [.p b 0,.orow objs.length 0])++[OB.orow 5 1 0 l.length (Bf l)]:=by
   rw[List.set_append_left _ _ (by simpa using hlt),List.set_set]
  rw[e3];refine hk _ (.inr ⟨objs.length,0,?_,?_⟩) ⟨by simp,fun j ob h1 h2 h3=>⟨?_,?_⟩⟩
  ·rw[qr (by simpa using hlt)];exact qd hlt
  ·rw[jy (by simp)];simp
  ·rw[qr (by simpa using Dt h1),zp (fun e=>h2 e.symm)];exact h1
  ·unfold ED;rw[qr (by simpa using hlt),qd hlt];have:=Dt h1;simp;omega
 ·have hlt:=Dt hb;have hrl:=Dt hr;have hne:b≠r:=by rintro rfl;rw[hb] at hr;cases hr
  refine CE Vf fun C _=>?_;simp only[OH,Aa,simprocAttr];refine Ag (To T b _ _ hT hb (.inr rfl) ?_);rw[set_same hb];simp only[hb,hr,Aa,simprocAttr];refine⟨by omega,?_⟩;have e2:(objs.set r (OB.orow 5 1 (gen+1) (l0.length+l.length) (Bf l0++Bf l)))[b]? = some (.box T [.p b 0,.orow r gen]):=by
   rw[zp (fun e=>hne e.symm)];exact hb
  simp only[e2,Aa,simprocAttr];refine hk _ (.inr ⟨r,gen+1,?_,?_⟩) ⟨by simp,fun j ob h1 h2 h3=>⟨?_,?_⟩⟩
  ·exact qd (by simpa using hlt)
  ·rw[zp hne,qd hrl,SA,zg]
  ·have h4:j≠r:=by
    rintro rfl;exact h3 (by unfold ED;rw[hb])
   rw[zp (fun e=>h2 e.symm),zp (fun e=>h4 e.symm)];exact h1
  ·unfold ED at h3 ⊢;rw[hb] at h3;rw[qd (by simpa using hlt)];exact h3
theorem NA (T:TypeId) (b:Nat) (l:List UInt8) (hb:CT objs b T l) (hk:∀objs',Cs objs b objs'->K objs' (.s l)) :
  Ai Tryz.prog 183 [.p b 0] objs K:=by
 intro C _ G I w hin hm ys hd;simp only[Ac] at hd;obtain⟨v,_,rfl,hv,rfl⟩:=hd;simp only[Ab] at hv;obtain⟨g,hg,rfl⟩:=hv;have same:∀w',w.grownBy w' none->∀x:List UInt8,K objs (.s x)->∃(y:Value) (objs':List OB) (r:AV) (G':Gh) (I':Ak),Ending.returned (.string ⟨x.toArray⟩)=.returned y/\K objs' r/\G.le G'/\Ak.le I I'/\In C G' I' w'/\MemOk G' I' objs' w'/\Ab G' I' r y :=
  fun w' hgr x hx=>⟨_,objs,.s x,G,I,rfl,hx,Gh.le.refl G,Ak.le.refl I,hin.evolve hgr (by simp),hm.evolve hgr,by simp[Ab]⟩
 rcases hb with ⟨hb,rfl⟩|⟨r,gen,hb,hr⟩
 ·obtain⟨g',zs,k1,k2,k3,k4⟩:=hm.box b T _ hb;obtain rfl:g=g':=zx.inj (hg.symm.trans k1);simp only[Ac] at k3;obtain⟨z1,_,rfl,d1,z2,_,rfl,d2,rfl⟩:=k3;simp only[Ab] at d2;subst d2;refine(Te g z1 T w k2).mono ?_;rintro e w' ⟨rfl,hgr⟩;exact same w' hgr [] (hk objs (Cs.refl _ _))
 ·obtain⟨g',zs,k1,k2,k3,k4⟩:=hm.box b T _ hb;obtain rfl:g=g':=zx.inj (hg.symm.trans k1);simp only[Ac] at k3;obtain⟨z1,_,rfl,d1,z2,_,rfl,d2,rfl⟩:=k3;simp only[Ab] at d2;obtain⟨gn,u,q1,q2,q3,q4⟩:=d2;obtain⟨u',vs,m1,m2,m3,m4,m5⟩:=hm.row r _ _ _ _ _ hr;rw[q1] at m1;injection m1 with m1;injection m1 with m1 m6
  have hz:=q3 m1.symm;subst m1 m6 hz;have hne:b≠r:=by rintro rfl;rw[hb] at hr;cases hr
  have kill:∀w' row,(∀k,row=some k->G.own r=some k)->w.grownBy w' row->∀x:List UInt8,(x=l)->∃(y:Value) (objs':List OB) (r':AV) (G':Gh) (I':Ak),Ending.returned (.string ⟨x.toArray⟩)=.returned y/\K objs' r'/\G.le G'/\Ak.le I I'/\In C G' I' w'/\MemOk G' I' objs' w'/\Ab G' I' r' y:=by
   rintro w' row hrow hgr x rfl;refine⟨_,objs.set r .dead,.s x,G,I,rfl,hk _ ⟨by simp,fun j ob h1 h2 h3=>⟨?_,?_⟩⟩,Gh.le.refl G,Ak.le.refl I,hin.evolve hgr (fun k hk=>hin.blk r k (hrow k hk)),MemOk.kill hm r hrow hgr,by simp[Ab]⟩
   ·have h4:j≠r:=by
     rintro rfl;exact h3 (by unfold ED;rw[hb])
    rw[zp (fun e=>h4 e.symm)];exact h1
   ·unfold ED at h3 ⊢;rw[hb] at h3;rw[zp (fun e=>hne e.symm),hb];exact h3
  have hown:=FL m5 q1;have hvs:=JR m3;rcases m2.2 with ⟨rfl,hl0⟩|⟨gr,cap,cur,rfl,_,hgc,hnc,hcm,hcs,htake⟩
  ·have hl:l=[]:=qh hl0;subst hl;refine(Te g z1 T w k2).mono ?_;rintro e w' ⟨rfl,hgr⟩;exact kill w' none (by simp) hgr [] rfl
  ·have hrow:∀k,some gr=some k->G.own r=some k:=by
    intro k hk';injection hk' with hk';subst hk'
    rw[hown];rfl
   by_cases hl:l=[]
   ·subst hl
    by_cases hc:cap=0
    ·subst hc;refine(gP g gr z1 cur T w k2 hgc).mono ?_;rintro e w' ⟨rfl,hgr⟩;exact kill w' (some gr) hrow hgr [] rfl
    ·refine(eM g gr cap z1 T w hc k2).mono ?_;rintro e w' ⟨rfl,hgr⟩;exact kill w' (some gr) hrow (gN hgr _) [] rfl
   ·refine(eL g gr cap l z1 cur T w hl k2 hgc hnc hcm (by omega) ?_).mono ?_
    ·intro j x hx;exact m2.cells (g:=gr) rfl j (.int .u8 x.toNat) (by rw[hvs];simp[hx])
    ·rintro e w' ⟨rfl,hgr⟩;exact kill w' (some gr) hrow hgr l rfl
end
theorem MU (G:Gh) (I:Ak):∀l:List (List UInt8),Ac G I (l.map .s) (sv l)
 | []=>Ac.nil
 | x::l=>by
  show Ac G I (AV.s x::l.map .s) (.string (S x)::sv l);exact Ac.cons (by simp[Ab]) (MU G I l)
theorem eA {P:Program} [Tabs P] {f:FuncId} {args:List AV} {vs:List Value} {objs:List OB} {K:List OB->AV->Prop} (l:List (List UInt8)) (hne:0<l.length) (hk:K objs (.row l.length (l.map .s))) (ha:EN args=some vs)
  (h:∀w,Calls P f vs.toArray w fun e w'=>∃v,e=.returned v/\Cd w' w.heap.size v l/\Qb w w'):Ai P f args objs K:=by
 intro C _ G I w hin hm ys hd;rw[(Fo G I args vs ha ys).1 hd];refine(h w).mono ?_;rintro e w' ⟨v,rfl,hr,hb⟩;obtain⟨g,cap,rfl,h1,h2,h3⟩:=hr.form hne;have hg:w.grownBy w' none:=⟨hb.os,hb.tape,hb.output,Below.size hb,fun k hk _=>Below.block hb k hk⟩;obtain⟨I',s1,s2,s3,s4⟩:=NN hin hm hg g l.length cap (l.map .s) (sv l) h1 h3 (MU G I l) (My l) (fun j u hj=>by
  have hjl:j<l.length:=by
   have:=(List.getElem?_eq_some_iff.1 hj).1
   rwa [Sf] at this
  rw[hr.cell j hjl,<-Pi l j hjl];exact hj)
 exact⟨_,objs,.row l.length (l.map .s),G,I',rfl,hk,Gh.le.refl G,s1,s2,s3,s4⟩
section
variable [Tabs Tryz.prog] {objs:List OB} {K:List OB->AV->Prop}
theorem Nk (s:List UInt8) (c:UInt8) (hs:s.length<=1000000) (hk:K objs (.row (Ap c s).length ((Ap c s).map .s))):Ai Tryz.prog 95 [.s s,.i .u8 c.toNat] objs K :=
 eA (vs:=[.string (S s),.int .u8 c.toNat]) _ (E4 c s) hk rfl (fun w=>Lx (S s) c w (by rw[Am];exact hs))
end
theorem cX (c:UInt8):∀(n:Nat) (s:List UInt8),s.length<=n->Lib.splitK [c] 0 (Lib.count s [c]) s=Ap c s:=by
 intro n
 induction n with
 | zero=>
  intro s hs;obtain rfl:s=[]:=qh (by omega)
  rfl
 | succ n ih=>
  intro s hs;rcases Du c s with ⟨h1,h2,_⟩|⟨k,h1,h2,h3,_⟩
  ·rw[Lib.count_miss (by rw[HG];exact h1),DM,h2];rfl
  ·have hi:Lib.index s [c]=k:=by rw[HG];exact h1
   rw[Lib.count_hit (by simp) hi,Nat.add_comm,DM,h3,if_pos rfl];show (if (Lib.index s [c]==-1)=true then _ else _)=_;rw[hi,if_neg (by simp)];have:=ih (s.drop (k+1)) (by rw[zt];omega);simp only[zm,Nat.add_zero,zl,qp,Nat.zero_add];rw[this]
theorem fB (c:UInt8) (s:List UInt8):(Lib.splitB (S [c]) 0 (Lib.countB (S s) (S [c])) (S s)).map Value.string=sv (Ap c s):=by
 have h:=Lib.splitB_data (S [c]) 0 (Lib.countB (S s) (S [c])) (S s);have h2:Lib.splitK [c] 0 (Lib.count s [c]) s=Ap c s:=cX c s.length s (zd _);have h3:(Lib.splitB (S [c]) 0 (Lib.countB (S s) (S [c])) (S s)).map (·.data.toList)=Ap c s:=h.trans h2;rw[<-h3];unfold sv;rw[List.map_map]
 apply xy
 intro x _;simp[S]
theorem cW (c:UInt8) (s:List UInt8):Lib.countB (S s) (S [c])+1=(Ap c s).length:=by
 have key:∀(n:Nat) (s:List UInt8),s.length<=n->Lib.count s [c]+1=(Ap c s).length:=by
  intro n
  induction n with
  | zero=>
   intro s hs;obtain rfl:s=[]:=qh (by omega)
   rfl
  | succ n ih=>
   intro s hs;rcases Du c s with ⟨h1,h2,_⟩|⟨k,h1,h2,h3,_⟩
   ·rw[Lib.count_miss (by rw[HG];exact h1),DM,h2];rfl
   ·have hi:Lib.index s [c]=k:=by rw[HG];exact h1
    rw[Lib.count_hit (by simp) hi,DM,h3,if_pos rfl];have:=ih (s.drop (k+1)) (by rw[zt];omega);simp only[zl,qp,Nat.zero_add];omega
 exact key s.length s (zd _)
theorem VN (l:List UInt8) (h:(An l).1≠0):(An l).2=[]:=by
 unfold An B3 at h ⊢
 split
 ·rfl
 ·rename_i g;rw[if_neg g] at h;exact JV _ _ _ _ h
theorem VF [Tabs Tryz.prog]:BT 185:=by unfold BT;kernel_rfl
theorem Md [Tabs Tryz.prog]:BT 189:=by unfold BT;kernel_rfl
theorem WL:Gr Tryz.prog 182:=⟨_,Tryz.func182,by kernel_rfl,of_decide_eq_true (by kernel_rfl)⟩
theorem WK:Gr Tryz.prog 186:=⟨_,Tryz.func186,by kernel_rfl,of_decide_eq_true (by kernel_rfl)⟩
section
variable [Tabs Tryz.prog] {objs:List OB} {K:List OB->AV->Prop}
theorem Ry [Shp Tryz.prog] (s:List UInt8) (c:UInt8) (hs:s.length<=100000) (hk:K objs (.row (Ap c s).length ((Ap c s).map .s))):Ai Tryz.prog 180 [.s s,.s [c]] objs K:=by
 intro C _ G I w hin hm ys hd;have hT:=hin.tab (P:=Tryz.prog);rw[(Fo G I [.s s,.s [c]] [.string (S s),.string (S [c])] rfl ys).1 hd];refine(Tryz.strings_Split_shaped (S s) (S [c]) w (Shp.sh w hT) (by rw[Am];omega) (by rw[Am];simp)).mono ?_;rintro e w' ⟨rfl,rfl⟩;have hn:=cW c s;have hc:=fB c s;have hsl:=IM c s;have hg:w.grownBy (w.alloc (.cells ((Lib.splitB (S [c]) 0 (Lib.countB (S s) (S [c])) (S s)).map Value.string).toArray 9)) none:=Tc (World.grownBy.refl w _) _ _;obtain⟨I',s1,s2,s3,s4⟩:=NN hin hm hg w.heap.size (Ap c s).length (Ap c s).length ((Ap c s).map .s) (sv (Ap c s)) (zd _) (zd _) (MU G I _) (My _) (fun j u hj=>by
  rw[World.cell?_alloc_new,hc];simpa using hj)
 rw[hn];exact⟨_,objs,.row (Ap c s).length ((Ap c s).map .s),G,I',rfl,hk,Gh.le.refl G,s1,s2,s3,s4⟩
/-- each: the calls in their order, up to the first error -/
theorem O8 (l:List (List UInt8)) (hl:l.length<=1000000) (f:Nat) (fs cs:List AV) (hf:Gr Tryz.prog f) (J:Nat->List OB->Prop) (h0:J 0 objs)
  (step:∀(i:Nat) (hi:i<l.length) o,J i o->Ai Tryz.prog f (fs++[.s l[i]]++cs) o fun o' r=>(r=.i .i64 0/\J (i+1) o')\/∃e:Int,r=.i .i64 e/\e≠0/\K o' (.i .i64 e))
  (hend:∀o,J l.length o->K o (.i .i64 0)):Ai Tryz.prog 181 [.row l.length (l.map .s),.fn f fs cs] objs K:=by
 refine CE gU fun C _=>?_;simp only[T1,Aa,simprocAttr];refine BI (fun n objs tm=>∃i:Nat,i<=l.length/\n=l.length - i/\J i objs/\tm.length=21/\tm[8]? = some (.row l.length (l.map .s))/\tm[1]? = some (.fn f fs cs)/\tm[9]? = some (.i .i64 l.length)/\tm[10]? = some (.i .i64 i)) l.length ⟨0,ze _,rfl,h0,rfl,rfl,rfl,rfl,rfl⟩ ?_;rintro n o tm ⟨i,hi,rfl,hJ,hlen,t8,t1,t9,t10⟩
 by_cases hlt:(i:Int)<l.length
 ·have hlt':i<l.length:=by omega
  have hg:(l.map AV.s)[i]? = some (.s l[i]):=by simp[hlt']
  simp only[Aa,simprocAttr,zb,hlen,t8,t1,t9,t10,hlt,qt,zm,hg,jg];refine⟨by omega,?_⟩;refine He hf ((step i hlt' o hJ).mono ?_);rintro o' r (⟨rfl,hJ'⟩|⟨e,rfl,he,hK⟩)
  ·simp only[Aa,simprocAttr,zb,hlen,t8,t1,t9,t10];exact⟨⟨by omega,by omega⟩,l.length - (i+1),by omega,i+1,by omega,rfl,hJ',rfl⟩
  ·simp only[he,Aa,simprocAttr,zb,hlen,t8,t1,t9,t10];exact hK
 ·obtain rfl:i=l.length:=by omega
  simp only[Aa,simprocAttr,zb,hlen,t8,t1,t9,t10,hlt];exact hend o hJ
theorem Xl (b:Nat) (l x:List UInt8) (hb:CT objs b 185 l) (hx:x.length<=16384) (hl:l.length<=1000000000) (h0:Dz x=false->K objs (.i .i64 110))
  (h1:Dz x=true->∀objs',CT objs' b 185 (l++FW x)->Cs objs b objs'->K objs' (.i .i64 0)):Ai Tryz.prog 182 [.p b 0,.s x] objs K:=by
 refine CE kX fun C _=>?_;simp only[Vb,Aa,simprocAttr];refine Ag (NO x ?_);have he:=VN x;have hdl:=Ge x;have hd0:=Ge x;unfold Dz at h0 h1;unfold FW at h1;generalize An x=q at *;obtain⟨e,d⟩:=q;simp only at he hdl h0 h1 hd0 ⊢
 by_cases c1:e=0
 ·subst c1
  by_cases c2:d=[]
  ·simp only[c2,Aa,simprocAttr];exact h0 (by rw[c2];rfl)
  ·by_cases c3:d=[46]
   ·simp only[c3,Aa,simprocAttr];exact h0 (by rw[c3];decide)
   ·by_cases c4:d=[46,46]
    ·have n1:¬([46,46]:List UInt8)=[46]:=by decide
     simp only[c4,n1,Aa,simprocAttr];exact h0 (by rw[c4];decide)
    ·simp only[c2,c3,c4,Aa,simprocAttr];refine Br (aW d [] (by omega) ⟨rfl,rfl⟩) ?_;have hel:=Hu d [];simp only[Aa,simprocAttr];refine⟨by omega,?_⟩;refine Ag (KU _ b l _ VF hb (by simp only[zl];omega) fun objs' k1 k2=>?_);simp only[Aa,simprocAttr];exact h1 (by simp[c2,c3,c4]) objs' k1 k2
 ·have hd:=he c1;subst hd;simp only[c1,Aa,simprocAttr];exact h0 rfl
theorem WN [Shp Tryz.prog] (b:Nat) (l x:List UInt8) (hb:CT objs b 189 l) (hx:x.length<=16384) (hl:l.length<=1000000000) (h0:BJ x=false->K objs (.i .i64 110))
  (h1:BJ x=true->∀objs',CT objs' b 189 (l++DT x)->Cs objs b objs'->K objs' (.i .i64 0)):Ai Tryz.prog 186 [.p b 0,.s x] objs K:=by
 refine CE kP fun C _=>?_;simp only[U7,Aa,simprocAttr];refine Ag (Jp x [] ?_);have hnl:=(FF x []).1;unfold BJ at h0 h1;unfold DT at h1;generalize Aj x []=q at *;obtain⟨e,d⟩:=q;simp only at h0 h1 hnl ⊢
 by_cases c1:e=0
 ·subst c1
  by_cases c2:x=[]
  ·simp only[c2,Aa,simprocAttr];exact h0 (by rw[c2];rfl)
  ·simp only[c2,Aa,simprocAttr];refine Br (Tw d _ 126 (by omega) (by decide) (by decide) ⟨rfl,rfl⟩) ?_;have htl:=N8 d;unfold DI at htl h1;simp only[Aa,simprocAttr];refine⟨by omega,?_⟩;refine Ag (KU _ b l _ Md hb (by simp only[zl];omega) fun objs' k1 k2=>?_);simp only[Aa,simprocAttr];exact h1 (by simp[c2]) objs' k1 k2
 ·simp only[c1,Aa,simprocAttr];exact h0 (by simp[c1])
theorem ZP [Pow Tryz.prog] (b:Nat) (h:List UInt8) (p:Int) (hb:CT objs b 189 []) (hh:h.length<=1000000) (h0:-9223372036854775808<=p) (h1:p<=9223372036854775807)
  (hk:∀objs',CT objs' b 189 (BY h p)->Cs objs b objs'->K objs' (.tup [])):Ai Tryz.prog 185 [.p b 0,BC h p] objs K:=by
 refine CE kW fun C _=>?_;have hil:=Lib.itoa_length_le p h0 h1;unfold BY at hk;simp only[Va,BC,Bd,Aa,simprocAttr];refine Ag (KU _ b [] h Md (hb.app _).1 (by simp;omega) fun o k1 k2=>?_);have e1:=k2.behind hb 0 _ rfl;rw[Nat.add_zero] at e1;rw[qn] at k1
 by_cases c1:p=0
 ·subst c1;simp only[e1,Aa,simprocAttr];exact hk o (by simpa using k1) (k2.drop hb)
 ·simp only[c1,e1,Aa,simprocAttr];refine Br (PU p h0 h1 ⟨rfl,rfl⟩) ?_;simp only[Aa,simprocAttr];refine⟨by omega,?_⟩;refine Ag (KU _ b h _ Md k1 (by simp only[zl];omega) fun o' k3 k4=>?_);simp only[Aa,simprocAttr];rw[if_neg c1] at hk;exact hk o' k3 ((k2.drop hb).trans k4)
theorem QR [Shp Tryz.prog] (m i:List UInt8) (hm:m.length<=200000000000) (hi:i.length<=200000000000) (hk:K objs (.tup [BC (AU m i).2.1 (AU m i).2.2,.i .i64 (AU m i).1])):Ai Tryz.prog 120 [.agg [.s m,.s i]] objs K:=by
 refine AI kD rfl fun C _=>?_;unfold AU at hk
 by_cases c0:m=B0
 ·subst c0;simp only[B0,OG,Aa,simprocAttr];refine Ag (LG _ _ (by decide) (by omega) ?_);simp only[Aa,simprocAttr];refine Ag (Tp _ (by simp only[AB,Ch,zg,zl,qp,maxLen];omega) ?_);simp only[ne_eq,not_true_eq_false,if_false] at hk;have hf:=Nq (m:=B0) (i:=i) rfl;have hw:B0=[119,101,98]:=rfl;rw[hw] at hf;simp only[hw] at hk;generalize A0 (AB [119,101,98] i)=q at *;obtain⟨e,d1,d2⟩:=q;simp only at hf hk ⊢
  by_cases c1:e=0
  ·subst c1;obtain⟨hf,_⟩:=hf rfl;simp only[not_true_eq_false,if_false] at hk;simp only[Aa,simprocAttr];refine Ag (PH i 58 (by unfold maxLen;omega) ?_);simp only[Aa,simprocAttr];refine Ag (NO _ ?_);simp only[hf,Aa,simprocAttr];have hl1:=Ge (Af 58 i).1;have hl2:=(Dn 58 i).1;refine Ag (Q2 _ (by unfold maxLen;omega) ?_);simp only[BC,Aa,simprocAttr];exact hk
  ·simp only[c1,not_false_eq_true,if_true] at hk;simp only[c1,Aa,simprocAttr];exact hk
 ·have c0':¬m=[119,101,98]:=c0;rw[if_pos c0] at hk;simp only[c0',OG,Aa,simprocAttr];exact hk
end
theorem K5 (l:List (List UInt8)):((l.map AV.s).take l.length).drop 1=l.tail.map AV.s:=by
 rw[List.take_of_length_le (by simp),<-List.map_drop,List.drop_one]
theorem Zo (x:List UInt8):(FW x).length<=1+3*x.length:=by
 unfold FW;have h1:=Hu (An x).2 [];have h2:=Ge x;simp only[zl];omega
theorem IF:∀l:List (List UInt8),(Cf l).length<=3*(l.flatMap fun x=>1::x).length
 | []=>by simp[Cf]
 | x::l=>by
  have ih:=IF l;have h:=Zo x;unfold Cf at ih ⊢;rw[qq,qq,zg,zg,zl];omega
theorem Se (c:UInt8):∀(s:List UInt8),((Ap c s).flatMap fun x=>(1:UInt8)::x).length=s.length+1
 | []=>rfl
 | x::t=>by
  have ih:=Se c t;rw[C7]
  split
  ·rw[qq];simp only[zg,zl,qp] at ih ⊢;omega
  ·obtain⟨p,ps,e⟩:=Cp c t;rw[e] at ih ⊢;simp only[qq,zg,zl] at ih ⊢;omega
theorem Jt (c:UInt8) (s:List UInt8):((Ap c s).tail.flatMap fun x=>(1:UInt8)::x).length<=s.length:=by
 have h:=Se c s;obtain⟨p,ps,e⟩:=Cp c s;rw[e] at h ⊢;simp only[qq,zg,zl,List.tail_cons] at h ⊢;omega
theorem Jy {l:List (List UInt8)} (i:Nat) (f:List UInt8->List UInt8):(l.take i).flatMap f++(l.drop i).flatMap f=l.flatMap f:=by
 rw[<-xn,List.take_append_drop]
theorem SU {l:List (List UInt8)} {i:Nat} (h:i<l.length):Cf (l.take (i+1))=Cf (l.take i)++FW l[i]:=by
 unfold Cf;rw[qm h,xn];simp
theorem dB {l:List (List UInt8)} {i:Nat} (h:i<l.length):CC (l.take (i+1))=CC (l.take i)++DT l[i]:=by
 unfold CC;rw[qm h,xn];simp
theorem M3 {p:List UInt8->Bool} {l:List (List UInt8)} {i:Nat} (h:i<l.length):(l.take (i+1)).all p=((l.take i).all p&&p l[i]):=by
 rw[qm h,xx];simp
theorem Jl {p:List UInt8->Bool} {l:List (List UInt8)} {i:Nat} (h:i<l.length) (hp:p l[i]=false):l.all p=false:=by
 rw[Bool.eq_false_iff];intro e;rw[zj.1 e _ (qe h)] at hp;cases hp
theorem Lt {m i:List UInt8} (hi:i.length<=13000) (c0:(AU m i).1=0):Dr (GX m i):=by
 have hd:AU m i=(0,(AU m i).2.1,(AU m i).2.2):=by rw[<-c0]
 obtain⟨_,_,_,k4⟩:=O7 hd;obtain⟨_,a2,_,a4,_⟩:=Nd k4;have h1:=IF (Ap 58 i).tail;have h2:=Jt 58 i;refine⟨by show (AU m i).2.1.length<=_;omega,by show _<=(((AU m i).2.2:Nat):Int);omega,by show (((AU m i).2.2:Nat):Int)<=_;omega,?_,by show (0:Nat)<=_;omega,by show (0:Nat)<=_;omega⟩;show (Eo _).length<=_;unfold Eo
 split
 ·decide
 ·simp only[zg,zl,CO,qp];omega
theorem KL (l:List (List UInt8)):l.length<=(l.flatMap fun x=>(1:UInt8)::x).length:=by
 induction l with
 | nil=>simp
 | cons x l ih=>simp only[qq,zg,zl];omega
theorem Zp (x:List UInt8):(DT x).length<=1+3*x.length:=by
 unfold DT;have h1:=N8 (Aj x []).2;have h2:=(FF x []).1;simp only[zl];omega
theorem NI:∀l:List (List UInt8),(CC l).length<=3*(l.flatMap fun x=>(1:UInt8)::x).length
 | []=>by simp[CC]
 | x::l=>by
  have ih:=NI l;have h:=Zp x;unfold CC at ih ⊢;rw[qq,qq,zg,zg,zl];omega
theorem Ri {u:UrlP} (h:DX u=true):∃init z,ER u=init++[z]:=by
 obtain⟨m,hm,hms,hp⟩:=(NM h).path;have hsp:ER u=m:=by
  unfold ER;rw[hp,Li m (fun x hx=>(hms x hx).1.1)];rfl
 rw[hsp];rcases List.eq_nil_or_concat m with rfl|⟨l',y,rfl⟩
 ·exact absurd rfl hm
 ·exact⟨l',y,by simp⟩
section
variable [Tabs Tryz.prog] {objs:List OB} {K:List OB->AV->Prop}
theorem VQ (b:Nat) (l:List (List UInt8)) (hb:CT objs b 185 []) (hl:(l.flatMap fun x=>(1:UInt8)::x).length<=16384) (h0:l.all Dz=false->∀o,Cs objs b o->K o (.i .i64 110))
  (h1:l.all Dz=true->∀o,CT o b 185 (Cf l)->Cs objs b o->K o (.i .i64 0)) :
  Ai Tryz.prog 181 [.row l.length (l.map .s),.fn 182 [.p b 0] []] objs K:=by
 have hmem:∀x∈l,x.length+1<=(l.flatMap fun x=>(1:UInt8)::x).length:=by
  intro x hx;obtain⟨p,q,rfl⟩:=List.append_of_mem hx;simp only[xn,qq,zg,zl];omega
 have hlen:l.length<=(l.flatMap fun x=>(1:UInt8)::x).length:=by
  clear hb h0 h1 hl hmem
  induction l with
  | nil=>simp
  | cons x l ih=>simp only[qq,zg,zl];omega
 refine O8 l (by omega) _ _ _ WL (fun i o=>CT o b 185 (Cf (l.take i))/\Cs objs b o/\(l.take i).all Dz=true) ⟨by simpa[Cf] using hb,Cs.refl _ _,by simp⟩ ?_ ?_
 ·rintro i hi o ⟨k1,k2,k3⟩;have hx:=hmem l[i] (qe hi);have hs:(Cf (l.take i)).length<=1000000000:=by
   have h2:=IF (l.take i);have h3:=congrArg qv (Jy (l:=l) i fun x=>(1:UInt8)::x);rw[zg] at h3;omega
  refine Xl b (Cf (l.take i)) l[i] k1 (by omega) hs (fun e=>?_) (fun e o' k4 k5=>?_)
  ·exact .inr ⟨110,rfl,by decide,h0 (Jl hi e) o k2⟩
  ·refine .inl ⟨rfl,by rw[SU hi];exact k4,k2.trans k5,by rw[M3 hi,k3,e];rfl⟩
 ·rintro o ⟨k1,k2,k3⟩;rw[qc] at k1 k3;exact h1 k3 o k1 k2
theorem ZY [Shp Tryz.prog] [Pow Tryz.prog] (m i:List UInt8) (hm:m.length<=13000) (hi:i.length<=13000) (hk:K objs (.tup [A7 (BN m i).2,.i .i64 (BN m i).1])):Ai Tryz.prog 151 [.agg [.s m,.s i]] objs K:=by
 refine AI iK rfl fun C _=>?_;simp only[Ug,Aa,simprocAttr];refine Ag (QR m i (by omega) (by omega) ?_);unfold BN at hk
 by_cases c0:(AU m i).1=0
 ·simp only[c0,ne_eq,not_true_eq_false,if_false] at hk;simp only[c0,BC,Aa,simprocAttr];refine Ag (Ry i 58 (by omega) ?_);have hpos:=E4 58 i;have htail:=Jt 58 i;simp only[Aa,simprocAttr,qt,K5];refine⟨by omega,?_⟩;have hsh:=Lt hi c0;have hlen:(Ap 58 i).length - 1=(Ap 58 i).tail.length:=by simp
  have hU:GX m i=⟨(AU m i).2.1,(AU m i).2.2,Eo (Ap 58 i).tail,[],[],false,false⟩:=rfl;rw[hlen];generalize (Ap 58 i).tail=segs at *
  by_cases ht:segs=[]
  ·subst ht;rw[show ([]:List (List UInt8)).all Dz=true from rfl] at hk;simp only[Bool.true_eq_false,if_false] at hk;rw[show Eo []=Ci from rfl] at hU;rw[hU] at hsh hk;generalize hu:(⟨(AU m i).2.1,(AU m i).2.2,Ci,[],[],false,false⟩:UrlP)=u at hsh hk;have e0:¬(0:Int)<((0:Nat):Int):=by omega
   simp only[e0,Aa,simprocAttr];refine Ag (show Ai _ _ [A7 ⟨(AU m i).2.1,(AU m i).2.2,Ci,[],[],false,false⟩] _ _ from hu▸JH u hsh ?_)
   by_cases c1:(4096:Int)<(Bm u).length
   ·have c1':4096<(Bm u).length:=by omega
    rw[if_pos c1'] at hk;simp only[c1,Aa,simprocAttr];exact hk
   ·have c1':¬4096<(Bm u).length:=by omega
    rw[if_neg c1'] at hk;simp only[c1,Aa,simprocAttr];subst hu;exact hk
  ·have e0:(0:Int)<(segs.length:Nat):=by
    have:=List.length_pos_iff.2 ht;omega
   rw[show Eo segs=Cf segs++47::CO by unfold Eo;rw[if_neg ht]] at hU;have hsl:=IF segs;rw[hU] at hsh hk;simp only[e0,Aa,simprocAttr];refine Ag (VQ 4 segs (.inl ⟨rfl,rfl⟩) (by omega) (fun hbad o k2=>?_) (fun hok o k1 k2=>?_))
   ·have o1:=(k2.2 1 _ rfl (by decide) (fun e=>by cases (show (none:Option Nat)=some _ from e))).1;have ol:1<o.length:=Dt o1;rw[hbad] at hk;simp only[o1,ol,Aa,simprocAttr,zb];exact hk
   ·rw[hok] at hk;simp only[Bool.true_eq_false,if_false] at hk;simp only[Aa,simprocAttr];refine Ag (NA _ 4 (Cf segs) k1 fun o' k3=>?_);have k4:=k2.trans k3;have o1:=(k4.2 1 _ rfl (by decide) (fun e=>by cases (show (none:Option Nat)=some _ from e))).1;have o3:=(k4.2 3 _ rfl (by decide) (fun e=>by cases (show (none:Option Nat)=some _ from e))).1;have ol1:1<o'.length:=Dt o1;have ol3:3<o'.length:=Dt o3;have hpa:Cf segs++[47]++[100,105,100,46,106,115,111,110]=Cf segs++47::CO:=by simp[CO]
    simp only[o1,o3,ol1,ol3,Aa,simprocAttr,zb,zf];refine⟨by omega,?_⟩;simp only[hpa];refine⟨by omega,?_⟩;refine Ag (JH _ hsh ?_);generalize hu:(⟨(AU m i).2.1,(AU m i).2.2,Cf segs++47::CO,[],[],false,false⟩:UrlP)=u at hsh hk ⊢
    by_cases c1:(4096:Int)<(Bm u).length
    ·have c1':4096<(Bm u).length:=by omega
     rw[if_pos c1'] at hk;simp only[c1,o1,o3,ol1,ol3,Aa,simprocAttr,zb,zf];exact hk
    ·have c1':¬4096<(Bm u).length:=by omega
     rw[if_neg c1'] at hk;simp only[c1,o1,o3,ol1,ol3,Aa,simprocAttr,zb,zf];subst hu;exact hk
 ·simp only[c0,ne_eq,not_false_eq_true,if_true] at hk;simp only[c0,BC,Aa,simprocAttr];exact hk
theorem VR [Shp Tryz.prog] (b:Nat) (l0:List UInt8) (l:List (List UInt8)) (hb:CT objs b 189 l0) (hl0:l0.length<=100000000) (hl:(l.flatMap fun x=>(1:UInt8)::x).length<=16384) (h0:l.all BJ=false->∀o,Cs objs b o->K o (.i .i64 110))
  (h1:l.all BJ=true->∀o,CT o b 189 (l0++CC l)->Cs objs b o->K o (.i .i64 0)) :
  Ai Tryz.prog 181 [.row l.length (l.map .s),.fn 186 [.p b 0] []] objs K:=by
 have hmem:∀x∈l,x.length+1<=(l.flatMap fun x=>(1:UInt8)::x).length:=by
  intro x hx;obtain⟨p,q,rfl⟩:=List.append_of_mem hx;simp only[xn,qq,zg,zl];omega
 have hlen:l.length<=(l.flatMap fun x=>(1:UInt8)::x).length:=by
  clear hb h0 h1 hl hmem
  induction l with
  | nil=>simp
  | cons x l ih=>simp only[qq,zg,zl];omega
 refine O8 l (by omega) _ _ _ WK (fun i o=>CT o b 189 (l0++CC (l.take i))/\Cs objs b o/\(l.take i).all BJ=true) ⟨by simpa[CC] using hb,Cs.refl _ _,by simp⟩ ?_ ?_
 ·rintro i hi o ⟨k1,k2,k3⟩;have hx:=hmem l[i] (qe hi);have hs:(l0++CC (l.take i)).length<=1000000000:=by
   have h2:=NI (l.take i);have h3:=congrArg qv (Jy (l:=l) i fun x=>(1:UInt8)::x);rw[zg] at h3 ⊢;omega
  refine WN b (l0++CC (l.take i)) l[i] k1 (by omega) hs (fun e=>?_) (fun e o' k4 k5=>?_)
  ·exact .inr ⟨110,rfl,by decide,h0 (Jl hi e) o k2⟩
  ·refine .inl ⟨rfl,by rw[dB hi,<-List.append_assoc];exact k4,k2.trans k5,by rw[M3 hi,k3,e];rfl⟩
 ·rintro o ⟨k1,k2,k3⟩;rw[qc] at k1 k3;exact h1 k3 o k1 k2
set_option maxHeartbeats 1000000 in
theorem eE [Shp Tryz.prog] [Pow Tryz.prog] (u:UrlP) (hu:Dr u) (hk:K objs (.tup [.agg [.s (Dc u).2.1,.s (Dc u).2.2],.i .i64 (Dc u).1])):Ai Tryz.prog 152 [A7 u] objs K:=by
 refine AI jA rfl fun C _=>?_;simp only[Uu,A7,Aa,simprocAttr];refine Ag (YY u hu ?_);unfold Dc at hk
 by_cases c0:DX u=true
 ·obtain⟨init,z,hseg⟩:=Ri c0;have hlen:=Sh c0;have hpl:=IQ u;have hsum:=Jt 47 u.path;have hst:(Ap 47 u.path).tail=init++[z]:=hseg;have hln:(Ap 47 u.path).length - 1=init.length+1:=by
   have:=congrArg qv hst;simpa using this
  have hpos:=E4 47 u.path;rw[hst] at hsum;have hid:Cu u=BY u.host u.port++(if u.path=Ci then [] else CC init):=by
   unfold Cu;rw[hseg];simp
  have hhl:u.host.length<=1000000:=hu.1;simp only[c0,Bool.true_eq_false,if_false,hseg,List.getLastD_concat,List.dropLast_concat,hid] at hk;simp only[c0,Aa,simprocAttr];refine Ag (Ry u.path 47 (by omega) ?_);simp only[Aa,simprocAttr,qt,K5,hst,hln];have hls:=KL (init++[z]);rw[zg,yg] at hls;refine⟨by omega,by omega,?_⟩;have e1:((init.length+1:Nat):Int) - 1=init.length:=by omega
  have hz:((init++[z]).map AV.s)[init.length]? = some (.s z):=by simp
  have htk:((init++[z]).map AV.s).take init.length=init.map AV.s:=by simp
  have hsi:(init.flatMap fun x=>(1:UInt8)::x).length<=16384:=by
   rw[xn,zg] at hsum;omega
  simp only[e1]
  cases hq:u.hq with
  | true=>
   simp only[hq,true_or,if_true] at hk;simp only[Aa,simprocAttr];exact hk
  | false=>
   cases hf:u.hf with
   | true=>
    simp only[hf,true_or,or_true,if_true] at hk;simp only[Aa,simprocAttr];exact hk
   | false=>
    simp only[Aa,simprocAttr,zm,qt,hz];refine⟨by simp;omega,?_⟩
    by_cases c1:z=CO
    ·simp only[hq,hf,c1,Bool.false_eq_true,not_true_eq_false,or_self,if_false] at hk;have c1':¬¬z=[100,105,100,46,106,115,111,110]:=fun h=>h c1;simp only[c1',Aa,simprocAttr];have eu:A7 u=.agg [.s u.host,.i .i64 u.port,.s u.path,.s u.query,.s u.frag,.b false,.b false]:=by unfold A7;rw[hq,hf]
     refine Ag ?_;rw[<-eu];refine Si u ?_;simp only[BC,Aa,simprocAttr];refine Ag (ZP 2 u.host u.port (.inl ⟨rfl,rfl⟩) hhl hu.2.1 hu.2.2.1 fun o k1 k2=>?_);have o0:=(k2.2 0 _ rfl (by decide) (fun e=>by cases (show (none:Option Nat)=some _ from e))).1;have o1:=(k2.2 1 _ rfl (by decide) (fun e=>by cases (show (none:Option Nat)=some _ from e))).1;have hhp:=P6 u.host u.port hu.2.1 hu.2.2.1
     by_cases c2:u.path=Ci
     ·simp only[c2,not_true_eq_false,false_and,if_false,if_true,zy] at hk;have c2':¬¬Ci=[47,46,119,101,108,108,45,107,110,111,119,110,47,100,105,100,46,106,115,111,110]:=fun h=>h rfl;simp only[c2,c2',o0,o1,Aa,simprocAttr];refine Ag (NA _ 2 _ k1 fun o' k3=>?_);have p1:=((k2.trans k3).2 1 _ rfl (by decide) (fun e=>by cases (show (none:Option Nat)=some _ from e))).1;have ol1:1<o'.length:=Dt p1;have g1:∀x:OB,(o'++[x])[1]? = o'[1]?:=fun x=>qr ol1;have s1:∀x y:OB,(o'++[x]).set 1 y=o'.set 1 y++[x]:=fun x y=>List.set_append_left _ _ ol1;have g2:∀x y:OB,(o'.set 1 y++[x])[1]? = some y:=fun x y=>by rw[qr (by simpa using ol1),qd ol1]
      simp only[Bd,BX,g1,s1,g2,p1,Aa,simprocAttr];refine Ag (LG _ _ (by decide) (by omega) ?_);have hw:B0=[119,101,98]:=rfl;rw[hw] at hk
      by_cases c3:(4096:Int)<(AB [119,101,98] (BY u.host u.port)).length
      ·have c3':4096<(AB [119,101,98] (BY u.host u.port)).length:=by omega
       rw[if_pos c3'] at hk;simp only[c3,Bd,BX,g1,s1,g2,p1,Aa,simprocAttr];exact hk
      ·have c3':¬4096<(AB [119,101,98] (BY u.host u.port)).length:=by omega
       rw[if_neg c3'] at hk;simp only[c3,Bd,BX,g1,s1,g2,p1,Aa,simprocAttr];exact hk
     ·have c2':¬u.path=[47,46,119,101,108,108,45,107,110,111,119,110,47,100,105,100,46,106,115,111,110]:=c2
      by_cases c4:init=[]
      ·subst c4;simp only[c2,not_false_eq_true,true_and,true_or,if_true] at hk;have ol1:=Dt o1;have ez:((0:Nat):Int)=0:=rfl;simp only[c2',o0,o1,ol1,ez,Aa,simprocAttr,zb];exact hk
      ·have c4':¬((init.length:Nat):Int)=0:=by
        have:=List.length_pos_iff.2 c4;omega
       simp only[c2,c4,not_false_eq_true,true_and,false_or,if_false] at hk;simp only[c2',c4',o0,o1,Aa,simprocAttr,zm,qt,htk];refine⟨by omega,?_⟩;refine Ag (VR 2 _ init k1 (by omega) hsi (fun hbad o' k5=>?_) (fun hok o' k4 k5=>?_))
       ·have p1:=((k2.trans k5).2 1 _ rfl (by decide) (fun e=>by cases (show (none:Option Nat)=some _ from e))).1;have ol1:=Dt p1;rw[hbad] at hk;simp only[p1,ol1,Aa,simprocAttr,zb];exact hk
       ·rw[hok] at hk;simp only[Bool.true_eq_false,if_false] at hk;simp only[Aa,simprocAttr];have hsl:=NI init;refine Ag (NA _ 2 _ k4 fun o2 k6=>?_);have p1:=(((k2.trans k5).trans k6).2 1 _ rfl (by decide) (fun e=>by cases (show (none:Option Nat)=some _ from e))).1;have ol1:1<o2.length:=Dt p1;have g1:∀x:OB,(o2++[x])[1]? = o2[1]?:=fun x=>qr ol1;have s1:∀x y:OB,(o2++[x]).set 1 y=o2.set 1 y++[x]:=fun x y=>List.set_append_left _ _ ol1;have g2:∀x y:OB,(o2.set 1 y++[x])[1]? = some y:=fun x y=>by rw[qr (by simpa using ol1),qd ol1]
        simp only[Bd,BX,g1,s1,g2,p1,Aa,simprocAttr];refine Ag (LG _ _ (by decide) (by rw[zg];omega) ?_);have hw:B0=[119,101,98]:=rfl;rw[hw] at hk
        by_cases c3:(4096:Int)<(AB [119,101,98] (BY u.host u.port++CC init)).length
        ·have c3':4096<(AB [119,101,98] (BY u.host u.port++CC init)).length:=by omega
         rw[if_pos c3'] at hk;simp only[c3,Bd,BX,g1,s1,g2,p1,Aa,simprocAttr];exact hk
        ·have c3':¬4096<(AB [119,101,98] (BY u.host u.port++CC init)).length:=by omega
         rw[if_neg c3'] at hk;simp only[c3,Bd,BX,g1,s1,g2,p1,Aa,simprocAttr];exact hk
    ·simp only[hq,hf,c1,Bool.false_eq_true,not_false_eq_true,or_true,if_true] at hk;have c1':¬z=[100,105,100,46,106,115,111,110]:=c1;simp only[c1',Aa,simprocAttr];exact hk
 ·simp only[c0,Aa,simprocAttr];simp only[c0,if_true] at hk;exact hk
theorem VP [Shp Tryz.prog] [Pow Tryz.prog] (m i:List UInt8) (hm:m.length<=13000) (hi:i.length<=13000) (hk:K objs (.tup [.agg [.s (B6 m i).2.1,.s (B6 m i).2.2],.i .i64 (B6 m i).1])):Ai Tryz.prog 119 [.agg [.s m,.s i]] objs K:=by
 refine AI kE rfl fun C _=>?_;simp only[UJ,Aa,simprocAttr];refine Ag (ZY m i hm hi ?_);unfold B6 at hk;have hz:=Pk (m:=m) (i:=i);have hsh:(BN m i).1=0->Dr (BN m i).2:=fun h=>by
  have e:BN m i=(0,(BN m i).2):=by rw[<-h]
  obtain⟨_,_,_,k4,_,k6⟩:=Mz e;rw[k6];exact Lt hi (by rw[k4])
 generalize BN m i=q at *;obtain⟨e,u⟩:=q;simp only at hz hsh hk ⊢
 by_cases c0:e=0
 ·subst c0;simp only[ne_eq,not_true_eq_false,if_false] at hk;simp only[A7,Aa,simprocAttr];refine Ag (eE u (hsh rfl) ?_);simp only[Aa,simprocAttr];exact hk
 ·have:=hz c0;subst this;simp only[c0,ne_eq,not_false_eq_true,if_true] at hk;simp only[c0,A7,Aa,simprocAttr];exact hk
end
open Nat renaming reduceAdd -> z6, reduceSub -> z7, reduceLeDiff -> z8, reduceLT -> j4, reduceMul -> j5, reduceEqDiff -> j6
open Int renaming reduceToNat -> j7, reduceAdd -> j8, reduceSub -> j9, reduceMul -> x0, reduceNeg -> x5, reduceLT -> x6, reduceLE -> x7, reduceEq -> x8, reduceNe -> x9
def H7:List (List UInt8)->List UInt8
 | []=>[]
 | p::ps=>Bz p++Gp ps
theorem X2 (xs:List (List UInt8)) (q:List UInt8):H7 (xs++[q])=(if xs=[] then [] else H7 xs++[58])++Bz q:=by
 cases xs with
 | nil=>simp[H7,Gp]
 | cons p ps=>simp[H7,Gp]
theorem YI (d:List UInt8) (hl:d.length<=16384):Cr d=if ¬(∀q∈Ap 58 d,(An q).1=0) then (2,[]) else if (Ap 58 d).all (fun q=>q.all Cq)=false then (1,[]) else if (Ap 58 d).getLastD []=[] then (3,[]) else (0,H7 (Ap 58 d)):=by
 obtain⟨p,ps,h⟩:=Cp 58 d;rw[JE d p ps hl h,h];rfl
theorem QT (l:List UInt8):(Ax l).length<=3*l.length:=by
 induction l with
 | nil=>exact zd _
 | cons c l ih=>
  rw[Gg,zg,zl]
  split<;>simp only[Iv,zl,qp]<;>omega
theorem qV (c:UInt8):Cq c=(c==37||Cc c):=rfl
theorem PY {xs:List (List UInt8)} {p:List UInt8->Prop} (h:∀j (hj:j<xs.length),p xs[j]):∀q∈xs,p q:=by
 intro x hx;obtain⟨j,hj,rfl⟩:=List.mem_iff_getElem.1 hx;exact h j hj
theorem ZZ (l:List UInt8) (c:UInt8):Ax (l++[c])=Ax l++(if Cc c=true then [c] else Bk c):=by simp[Ax]
theorem VL (l:List UInt8) (h:(A4 l).1=0):(A4 l).2.length<=l.length:=by
 have key:∀(n:Nat) (l:List UInt8),l.length<=n->(A4 l).1=0->(A4 l).2.length<=l.length:=by
  intro n
  induction n with
  | zero=>
   intro l hl h;obtain rfl:l=[]:=qh (by omega);exact zd _
  | succ n ih=>
   intro l hl h
   cases l with
   | nil=>exact zd _
   | cons c t=>
    by_cases hc:c=37
    ·subst hc;rcases he:Bq (37::t) with _|_
     ·rw[Io he] at h;cases h
     ·obtain⟨a,b,r,rfl⟩:=Fq he;have d:=F6 he;rw[d.1] at h;have:=ih r (by simp at hl ⊢;omega) h;rw[d.2 h];simp;omega
    ·have d:=FE (c:=c) (t:=t) hc;rw[d.1] at h;have:=ih t (by simp at hl;omega) h;rw[d.2 h];simp;omega
 exact key l.length l (zd _) h
section
variable [Tabs Tryz.prog] {objs:List OB} {K:List OB->AV->Prop}
theorem Rq (c:UInt8) (hk:K objs (.b (AC c))):Ai Tryz.prog 94 [.i .u8 c.toNat] objs K :=
 conv (vs:=[.int .u8 c.toNat]) rfl rfl (fun w=>(EZ c w).mono (by rintro e w' ⟨rfl,rfl⟩;exact⟨rfl,Qb.refl _⟩)) hk
theorem Y7 (c:UInt8) (hk:K objs (.b (Ca c))):Ai Tryz.prog 93 [.i .u8 c.toNat] objs K :=
 conv (vs:=[.int .u8 c.toNat]) rfl rfl (fun w=>(EY c w).mono (by rintro e w' ⟨rfl,rfl⟩;exact⟨rfl,Qb.refl _⟩)) hk
theorem lS (c:UInt8) (s:List UInt8) (hs:s.length<=maxLen) (hk:K objs (.b (Aw c s))):Ai Tryz.prog 66 [.i .u8 c.toNat,.s s] objs K :=
 conv (vs:=[.int .u8 c.toNat,.string (S s)]) rfl rfl (fun w=>(DY c (S s) w (by rw[Am];exact hs)).mono (by rintro e w' ⟨rfl,rfl⟩;exact⟨rfl,Qb.refl _⟩)) hk
theorem Z7 (c:UInt8) (hk:K objs (.s (Bk c))):Ai Tryz.prog 91 [.i .u8 c.toNat] objs K :=
 conv (vs:=[.int .u8 c.toNat]) rfl rfl (fun w=>LB c w) hk
theorem Su (c:UInt8) (hk:K objs (.b (Cc c))):Ai Tryz.prog 106 [.i .u8 c.toNat] objs K:=by
 refine AI hH rfl fun C _=>?_;unfold Cc at hk;simp only[T8,Aa,simprocAttr];refine Ag (Y7 c ?_)
 by_cases h1:Ca c=true
 ·simp only[h1,Bool.true_or] at hk;simp only[h1,Aa,simprocAttr];exact hk
 ·simp only[h1,Aa,simprocAttr];refine Ag (Rq c ?_)
  by_cases h2:AC c=true
  ·simp only[h1,h2,Bool.true_or,Bool.or_true,Bool.false_or] at hk;simp only[h2,Aa,simprocAttr];exact hk
  ·simp only[h1,h2,Bool.false_or] at hk;simp only[h2,Aa,simprocAttr];refine Ag (lS c _ (by decide) ?_);simp only[Aa,simprocAttr];exact hk
set_option maxHeartbeats 4000000 in
theorem cE (s:List UInt8) (hs:s.length<=1000000) (hk:K objs (.b (Dm s))):Ai Tryz.prog 105 [.s s] objs K:=by
 refine AI iQ rfl fun C _=>?_;unfold Dm at hk;simp only[Ul,Aa,simprocAttr];refine BI (fun n objs tm=>∃i:Nat,i<=s.length/\n=s.length - i/\objs=[]/\(∀j (h:j<s.length),j<i->Cw s[j]=true)/\tm.length=29/\tm[0]? = some (.s s)/\tm[3]? = some (.i .i64 i)) s.length ⟨0,ze _,rfl,rfl,fun j h h0=>absurd h0 (by omega),rfl,rfl,rfl⟩ ?_;rintro n _ tm ⟨i,hi,rfl,rfl,hall,hlen,t0,t3⟩
 by_cases hlt:(i:Int)<s.length
 ·have hlt':i<s.length:=by omega
  have hg:=GP hlt';have hfin:Cw s[i]=false->K objs (.b false):=fun h=>by
   rw[KA hlt' h] at hk;exact hk
  have hnext:Cw s[i]=true->∀j (h:j<s.length),j<i+1->Cw s[j]=true:=by
   intro h j hj hji;rcases zo j i with h1|h1
   ·exact hall j hj h1
   ·have:j=i:=by omega
    subst this;exact h
  simp only[Aa,simprocAttr,zb,hlen,t0,t3,hlt];refine⟨by omega,?_⟩;rw[hg];generalize s[i]=c at *;refine Ag (Rq c ?_)
  by_cases hd:AC c=true
  ·have hm:Cw c=true:=by unfold Cw;rw[hd];rfl
   simp only[hd,Aa,simprocAttr,zb,hlen,t0,t3];exact⟨⟨by omega,by omega⟩,s.length - (i+1),by omega,i+1,by omega,rfl,hnext hm,rfl⟩
  ·simp only[Bool.not_eq_true] at hd;have hm:=QA c hd
   by_cases h97:((c.toNat:Nat):Int)<97
   ·have hm2:Cw c=false:=by rw[hm,decide_eq_false (by omega)];rfl
    simp only[hd,hg,h97,Aa,simprocAttr,zb,hlen,t0,t3];exact⟨⟨by omega,by omega⟩,hfin hm2⟩
   ·by_cases h122:(122:Int)<((c.toNat:Nat):Int)
    ·have hm2:Cw c=false:=by rw[hm,decide_eq_false (p:=c.toNat<=122) (by omega),Bool.and_false]
     simp only[hd,hg,h97,h122,Aa,simprocAttr,zb,hlen,t0,t3];exact⟨⟨by omega,by omega⟩,⟨by omega,by omega⟩,hfin hm2⟩
    ·have hm2:Cw c=true:=by rw[hm,decide_eq_true (by omega),decide_eq_true (by omega)];rfl
     simp only[hd,hg,h97,h122,Aa,simprocAttr,zb,hlen,t0,t3];exact⟨⟨by omega,by omega⟩,⟨by omega,by omega⟩,⟨by omega,by omega⟩,s.length - (i+1),by omega,i+1,by omega,rfl,hnext hm2,rfl⟩
 ·have hie:i=s.length:=by omega
  subst hie;have ha:s.all Cw=true:=Kq fun j h=>hall j h h;rw[ha] at hk;simp only[Aa,simprocAttr,zb,hlen,t0,t3,hlt];have e:decide (¬s=[])=(true&&!s.isEmpty):=by cases s<;>simp
  rw[e];exact hk
set_option maxHeartbeats 4000000 in
theorem LC (s:List UInt8) (hs:s.length<=1000000) (hk:K objs (.s (Ax s))):Ai Tryz.prog 107 [.s s] objs K:=by
 refine AI jJ rfl fun C _=>?_;simp only[Uz,Aa,simprocAttr];refine BI (fun n objs tm=>∃i:Nat,i<=s.length/\n=s.length - i/\objs=[]/\tm.length=29/\tm[0]? = some (.s s)/\tm[3]? = some (.s (Ax (s.take i)))/\tm[4]? = some (.i .i64 i)) s.length ⟨0,ze _,rfl,rfl,rfl,rfl,rfl,rfl⟩ ?_;rintro n _ tm ⟨i,hi,rfl,rfl,hlen,t0,t3,t4⟩;have hacc:=QT (s.take i);rw[zh] at hacc
 by_cases hlt:(i:Int)<s.length
 ·have hlt':i<s.length:=by omega
  have hg:=GP hlt';have hsn:Ax (s.take (i+1))=Ax (s.take i)++(if Cc s[i]=true then [s[i]] else Bk s[i]):=by
   rw[qm hlt',ZZ]
  have hsl:(s.take (i+1)).drop i=[s[i]]:=by
   rw[qm hlt',List.drop_append_of_le_length (by rw[zh];omega)];simp
  generalize s[i]=c at *;simp only[Aa,simprocAttr,zb,hlen,t0,t3,t4,hlt,hg];refine⟨by omega,?_⟩;refine Ag (Su c ?_)
  by_cases h:Cc c=true
  ·rw[if_pos h] at hsn;simp only[Aa,simprocAttr,zb,hlen,t0,t3,t4,h,hg,hsl];exact⟨⟨by omega,by omega⟩,⟨by omega,by omega,by omega⟩,by omega,⟨by omega,by omega⟩,s.length - (i+1),by omega,i+1,by omega,rfl,by rw[hsn],rfl⟩
  ·rw[if_neg h] at hsn;simp only[Aa,simprocAttr,zb,hlen,t0,t3,t4,h,hg];refine⟨by omega,?_⟩;refine Ag (Z7 c ?_);simp only[Aa,simprocAttr,zb,hlen,t0,t3,t4,h,hg,Iv];exact⟨by omega,⟨by omega,by omega⟩,s.length - (i+1),by omega,i+1,by omega,rfl,by rw[hsn],rfl⟩
 ·have hie:i=s.length:=by omega
  subst hie;rw[qc] at t3;simp only[Aa,simprocAttr,zb,hlen,t0,t3,t4,hlt];exact hk
set_option maxHeartbeats 8000000 in
theorem TQ (s:List UInt8) (hs:s.length<=maxLen) (hk:K objs (.tup [.agg [.s (A0 s).2.1,.s (A0 s).2.2],.i .i64 (A0 s).1])):Ai Tryz.prog 77 [.s s] objs K:=by
 have hm:maxLen=2 ^ 63 - 1:=rfl;refine AI jE rfl fun C _=>?_;unfold A0 at hk
 by_cases c0:(4096:Int)<↑s.length
 ·have c0':4096<s.length:=by omega
  simp only[c0',if_true] at hk;simp only[c0,OD,Aa,z6,z7,z8,j4,j5,j6,j7,j8,j9,x0,x5,x6,x7,x8,x9,reduceCtorEq,↓reduceIte];exact hk
 ·have c0':¬4096<s.length:=by omega
  simp only[c0',if_false] at hk;simp only[c0,OD,Aa,z6,z7,z8,j4,j5,j6,j7,j8,j9,x0,x5,x6,x7,x8,x9,reduceCtorEq,↓reduceIte];refine Ag (ID s Ch hs ?_)
  by_cases c1:Lib.hasPrefix s Ch=true
  ·have h4:4<=s.length:=F8 c1;have hdl:(s.drop 4).length<=s.length:=by rw[zt];omega
   simp only[c1,Aa,z6,z7,z8,j4,j5,j6,j7,j8,j9,x0,x5,x6,x7,x8,x9,reduceCtorEq,↓reduceIte] at hk ⊢;refine⟨by omega,?_⟩;generalize s.drop 4=r at *;refine Ag (Gc r [58] (by omega) (by decide) ?_);have c58:=Ho 58 r;have hil:=KK r [58]
   by_cases h58:Au r [58]<r.length
   ·have e58:=c58.1 h58;rw[e58] at hk;have hne:¬((Au r [58]:Nat):Int)=((r.length:Nat):Int):=by omega
    have htl:(r.take (Au r [58])).length<=r.length:=by rw[zh];omega
    have hdl2:(r.drop (Au r [58]+1)).length<=r.length:=by rw[zt];omega
    simp only[hne,Aa,z6,z7,z8,j4,j5,j6,j7,j8,j9,x0,x5,x6,x7,x8,x9,reduceCtorEq,↓reduceIte] at hk ⊢;refine⟨⟨by omega,by omega⟩,?_⟩;refine Ag (cE _ (by omega) ?_)
    by_cases c2:Dm (r.take (Au r [58]))=true
    ·simp only[c2,Aa,z6,z7,z8,j4,j5,j6,j7,j8,j9,x0,x5,x6,x7,x8,x9,reduceCtorEq,↓reduceIte] at hk ⊢;refine⟨⟨by omega,by omega⟩,⟨by omega,by omega⟩,?_⟩;refine Ag (Nk _ 58 (by omega) ?_);have hid:=YI (r.drop (Au r [58]+1)) (by omega);have hxl:=IM 58 (r.drop (Au r [58]+1));have hxp:=E4 58 (r.drop (Au r [58]+1));have hxs:∀q∈Ap 58 (r.drop (Au r [58]+1)),q.length<=4096:=fun q hq=>by
      have:=Gb 58 _ q hq;omega
     generalize Cr (r.drop (Au r [58]+1))=ie at hk hid;generalize Ap 58 (r.drop (Au r [58]+1))=xs at hid hxl hxp hxs ⊢;have hb:Au r [58]<=r.length:=hil;clear c58 e58 hil hne;generalize Au r [58]=ix at *;simp only[Aa,z6,z7,z8,j4,j5,j6,j7,j8,j9,x0,x5,x6,x7,x8,x9,reduceCtorEq,↓reduceIte];refine BI (fun n objs tm=>∃i:Nat,i<=xs.length/\n=xs.length - i/\objs=[.box 119 [.s [],.s []]]/\(∀j (h:j<xs.length),j<i->(An xs[j]).1=0)/\tm.length=113/\tm[0]? = some (.s r)/\tm[2]? = some (.p 0 0)/\tm[4]? = some (.i .i64 ix)/\tm[5]? = some (.row xs.length (xs.map .s))/\tm[46]? = some (.row xs.length (xs.map .s))/\tm[47]? = some (.i .i64 xs.length)/\tm[48]? = some (.i .i64 i)) xs.length ⟨0,ze _,rfl,rfl,fun j h h0=>absurd h0 (by omega),rfl,rfl,rfl,rfl,rfl,rfl,rfl,rfl⟩ ?_;rintro n _ tm ⟨i,hi,rfl,rfl,hall,hlen,t0,t2,t4,t5,t46,t47,t48⟩
     by_cases hlt:(i:Int)<xs.length
     ·have hlt':i<xs.length:=by omega
      have hx:(xs.map AV.s)[i]? = some (.s xs[i]):=by simp
      have hni:(An xs[i]).1≠0->K objs (.tup [.agg [.s [],.s []],.i .i64 2]):=fun h=>by
       rw[if_pos (fun h2=>h (h2 _ (qe hlt')))] at hid;rw[hid] at hk;simp only[Aa,z6,z7,z8,j4,j5,j6,j7,j8,j9,x0,x5,x6,x7,x8,x9,reduceCtorEq,↓reduceIte] at hk;exact hk
      have hnext:(An xs[i]).1=0->∀j (h:j<xs.length),j<i+1->(An xs[j]).1=0:=by
       intro h j hj hji;rcases zo j i with h1|h1
       ·exact hall j hj h1
       ·have:j=i:=by omega
        subst this;exact h
      clear hk;generalize xs[i]=q at *;simp only[Aa,z6,z7,z8,j4,j5,j6,j7,j8,j9,x0,x5,x6,x7,x8,x9,reduceCtorEq,↓reduceIte,zb,hlen,t0,t2,t4,t5,t46,t47,t48,hlt];refine⟨⟨by omega,by simp⟩,?_⟩;rw[qt,hx];simp only[Aa,z6,z7,z8,j4,j5,j6,j7,j8,j9,x0,x5,x6,x7,x8,x9,reduceCtorEq,↓reduceIte,zb,hlen,t0,t2,t4,t5,t46,t47,t48];refine Ag (IK q ?_)
      by_cases hd:(An q).1=0
      ·simp only[Aa,z6,z7,z8,j4,j5,j6,j7,j8,j9,x0,x5,x6,x7,x8,x9,reduceCtorEq,↓reduceIte,zb,hlen,t0,t2,t4,t5,t46,t47,t48,hd];exact⟨⟨by omega,by omega⟩,xs.length - (i+1),by omega,i+1,by omega,rfl,hnext hd,rfl⟩
      ·simp only[Aa,z6,z7,z8,j4,j5,j6,j7,j8,j9,x0,x5,x6,x7,x8,x9,reduceCtorEq,↓reduceIte,zb,hlen,t0,t2,t4,t5,t46,t47,t48,hd];exact hni hd
     ·have hie:i=xs.length:=by omega
      subst hie;have hdec:∀q∈xs,(An q).1=0:=PY fun j h=>hall j h h;rw[if_neg (fun h=>h hdec)] at hid;simp only[Aa,z6,z7,z8,j4,j5,j6,j7,j8,j9,x0,x5,x6,x7,x8,x9,reduceCtorEq,↓reduceIte,zb,hlen,t0,t2,t4,t5,t46,t47,t48,hlt];refine BI (fun n objs tm=>∃i:Nat,∃acc:List UInt8,i<=xs.length/\n=xs.length - i/\objs=[.box 119 [.s [],.s []]]/\(∀j (h:j<xs.length),j<i->xs[j].all Cq=true)/\acc=H7 (xs.take i)/\acc.length<=i*20000/\tm.length=113/\tm[0]? = some (.s r)/\tm[2]? = some (.p 0 0)/\tm[4]? = some (.i .i64 ix)/\tm[5]? = some (.row xs.length (xs.map .s))/\tm[10]? = some (.s acc)/\tm[61]? = some (.row xs.length (xs.map .s))/\tm[62]? = some (.i .i64 xs.length)/\tm[63]? = some (.i .i64 i)) xs.length ⟨0,[],ze _,rfl,rfl,fun j h h0=>absurd h0 (by omega),rfl,by simp,(by simp only[Aa,z6,z7,z8,j4,j5,j6,j7,j8,j9,x0,x5,x6,x7,x8,x9,reduceCtorEq,↓reduceIte,zb,hlen];try rfl),(by simp only[Aa,z6,z7,z8,j4,j5,j6,j7,j8,j9,x0,x5,x6,x7,x8,x9,reduceCtorEq,↓reduceIte,zb,hlen,t0];try rfl),(by simp only[Aa,z6,z7,z8,j4,j5,j6,j7,j8,j9,x0,x5,x6,x7,x8,x9,reduceCtorEq,↓reduceIte,zb,hlen,t2];try rfl),(by simp only[Aa,z6,z7,z8,j4,j5,j6,j7,j8,j9,x0,x5,x6,x7,x8,x9,reduceCtorEq,↓reduceIte,zb,hlen,t4];try rfl),(by simp only[Aa,z6,z7,z8,j4,j5,j6,j7,j8,j9,x0,x5,x6,x7,x8,x9,reduceCtorEq,↓reduceIte,zb,hlen,t5];try rfl),(by simp only[Aa,z6,z7,z8,j4,j5,j6,j7,j8,j9,x0,x5,x6,x7,x8,x9,reduceCtorEq,↓reduceIte,zb,hlen];try rfl),(by simp only[Aa,z6,z7,z8,j4,j5,j6,j7,j8,j9,x0,x5,x6,x7,x8,x9,reduceCtorEq,↓reduceIte,zb,hlen];try rfl),(by simp only[Aa,z6,z7,z8,j4,j5,j6,j7,j8,j9,x0,x5,x6,x7,x8,x9,reduceCtorEq,↓reduceIte,zb,hlen];try rfl),(by simp only[Aa,z6,z7,z8,j4,j5,j6,j7,j8,j9,x0,x5,x6,x7,x8,x9,reduceCtorEq,↓reduceIte,zb,hlen];try rfl)⟩ ?_;clear hall hlt t0 t2 t4 t5 t46 t47 t48 hlen tm;rintro n _ tm ⟨i,acc,hi,rfl,rfl,hall,hacc,hal,hlen,t0,t2,t4,t5,t10,t61,t62,t63⟩
      by_cases hlt:(i:Int)<xs.length
      ·have hlt':i<xs.length:=by omega
       have hx:(xs.map AV.s)[i]? = some (.s xs[i]):=by simp
       have hql:xs[i].length<=4096:=hxs _ (qe hlt');have hni:xs[i].all Cq=false->K objs (.tup [.agg [.s [],.s []],.i .i64 1]):=fun h=>by
        have:(xs.all fun q=>q.all Cq)=false:=by
         rw[Bool.eq_false_iff];intro e;have:=zj.1 e _ (qe hlt');rw[h] at this;cases this
        rw[if_pos this] at hid;rw[hid] at hk;simp only[Aa,z6,z7,z8,j4,j5,j6,j7,j8,j9,x0,x5,x6,x7,x8,x9,reduceCtorEq,↓reduceIte] at hk;exact hk
       have hnext:xs[i].all Cq=true->∀j (h:j<xs.length),j<i+1->xs[j].all Cq=true:=by
        intro h j hj hji;rcases zo j i with h1|h1
        ·exact hall j hj h1
        ·have:j=i:=by omega
         subst this;exact h
       have htk:H7 (xs.take (i+1))=(if xs.take i=[] then [] else acc++[58])++Bz xs[i]:=by
        rw[qm hlt',X2,hacc]
       have htn:xs.take i=[]↔i=0:=by
        rw[List.take_eq_nil_iff]
        constructor
        ·rintro(h|h)
         ·exact h
         ·rw[h] at hxp;simp at hxp
        ·exact fun h=>.inl h
       have hdq:=hdec _ (qe hlt');have hdl3:(An xs[i]).2.length<=4096:=by
        have h2:(An xs[i]).2.length<=xs[i].length:=by
         rw[Et (by omega)] at hdq ⊢;exact VL _ hdq
        omega
       have hpl:(Ax (An xs[i]).2).length<=13000:=by
        have h1:=QT (An xs[i]).2;omega
       clear hk hid hall hacc hxs hdec;have hpe:Bz xs[i]=Ax (An xs[i]).2:=rfl;generalize xs[i]=q at *;simp only[Aa,z6,z7,z8,j4,j5,j6,j7,j8,j9,x0,x5,x6,x7,x8,x9,reduceCtorEq,↓reduceIte,zb,hlen,t0,t2,t4,t5,t10,t61,t62,t63,hlt];refine⟨⟨by omega,by simp⟩,?_⟩;rw[qt,hx];simp only[Aa,z6,z7,z8,j4,j5,j6,j7,j8,j9,x0,x5,x6,x7,x8,x9,reduceCtorEq,↓reduceIte,zb,hlen,t0,t2,t4,t5,t10,t61,t62,t63];refine BI (fun n objs tm=>∃k:Nat,k<=q.length/\n=q.length - k/\objs=[.box 119 [.s [],.s []]]/\(∀j (h:j<q.length),j<k->Cq q[j]=true)/\tm.length=113/\tm[0]? = some (.s r)/\tm[2]? = some (.p 0 0)/\tm[4]? = some (.i .i64 ix)/\tm[5]? = some (.row xs.length (xs.map .s))/\tm[10]? = some (.s acc)/\tm[11]? = some (.i .i64 i)/\tm[12]? = some (.s q)/\tm[13]? = some (.i .i64 k)/\tm[61]? = some (.row xs.length (xs.map .s))/\tm[62]? = some (.i .i64 xs.length)/\tm[63]? = some (.i .i64 i)) q.length ⟨0,ze _,rfl,rfl,fun j h h0=>absurd h0 (by omega),(by simp only[Aa,z6,z7,z8,j4,j5,j6,j7,j8,j9,x0,x5,x6,x7,x8,x9,reduceCtorEq,↓reduceIte,zb,hlen];try rfl),(by simp only[Aa,z6,z7,z8,j4,j5,j6,j7,j8,j9,x0,x5,x6,x7,x8,x9,reduceCtorEq,↓reduceIte,zb,hlen,t0];try rfl),(by simp only[Aa,z6,z7,z8,j4,j5,j6,j7,j8,j9,x0,x5,x6,x7,x8,x9,reduceCtorEq,↓reduceIte,zb,hlen,t2];try rfl),(by simp only[Aa,z6,z7,z8,j4,j5,j6,j7,j8,j9,x0,x5,x6,x7,x8,x9,reduceCtorEq,↓reduceIte,zb,hlen,t4];try rfl),(by simp only[Aa,z6,z7,z8,j4,j5,j6,j7,j8,j9,x0,x5,x6,x7,x8,x9,reduceCtorEq,↓reduceIte,zb,hlen,t5];try rfl),(by simp only[Aa,z6,z7,z8,j4,j5,j6,j7,j8,j9,x0,x5,x6,x7,x8,x9,reduceCtorEq,↓reduceIte,zb,hlen,t10];try rfl),(by simp only[Aa,z6,z7,z8,j4,j5,j6,j7,j8,j9,x0,x5,x6,x7,x8,x9,reduceCtorEq,↓reduceIte,zb,hlen];try rfl),(by simp only[Aa,z6,z7,z8,j4,j5,j6,j7,j8,j9,x0,x5,x6,x7,x8,x9,reduceCtorEq,↓reduceIte,zb,hlen];try rfl),(by simp only[Aa,z6,z7,z8,j4,j5,j6,j7,j8,j9,x0,x5,x6,x7,x8,x9,reduceCtorEq,↓reduceIte,zb,hlen];try rfl),(by simp only[Aa,z6,z7,z8,j4,j5,j6,j7,j8,j9,x0,x5,x6,x7,x8,x9,reduceCtorEq,↓reduceIte,zb,hlen,t61];try rfl),(by simp only[Aa,z6,z7,z8,j4,j5,j6,j7,j8,j9,x0,x5,x6,x7,x8,x9,reduceCtorEq,↓reduceIte,zb,hlen,t62];try rfl),(by simp only[Aa,z6,z7,z8,j4,j5,j6,j7,j8,j9,x0,x5,x6,x7,x8,x9,reduceCtorEq,↓reduceIte,zb,hlen,t63];try rfl)⟩ ?_;clear hx t0 t2 t4 t5 t10 t61 t62 t63 hlen tm;rintro n _ tm ⟨k,hk1,rfl,rfl,hall,hlen,t0,t2,t4,t5,t10,t11,t12,t13,t61,t62,t63⟩
       by_cases hkl:(k:Int)<q.length
       ·have hkl':k<q.length:=by omega
        have hg:=GP hkl';have hbad:Cq q[k]=false->K objs (.tup [.agg [.s [],.s []],.i .i64 1]):=fun h=>hni (KA hkl' h);have hgood:Cq q[k]=true->∀j (h:j<q.length),j<k+1->Cq q[j]=true:=by
         intro h j hj hji;rcases zo j k with h1|h1
         ·exact hall j hj h1
         ·have:j=k:=by omega
          subst this;exact h
        generalize q[k]=c at *;have hpp:=qV c;simp only[Aa,z6,z7,z8,j4,j5,j6,j7,j8,j9,x0,x5,x6,x7,x8,x9,reduceCtorEq,↓reduceIte,zb,hlen,t0,t2,t4,t5,t10,t11,t12,t13,t61,t62,t63,hkl,hg];refine⟨by omega,?_⟩;refine Ag (Su c ?_)
        by_cases hid:Cc c=true
        ·simp only[Aa,z6,z7,z8,j4,j5,j6,j7,j8,j9,x0,x5,x6,x7,x8,x9,reduceCtorEq,↓reduceIte,zb,hlen,t0,t2,t4,t5,t10,t11,t12,t13,t61,t62,t63,hg,hid];have hpt:Cq c=true:=by rw[hpp,hid,Bool.or_true]
         exact⟨⟨by omega,by omega⟩,q.length - (k+1),by omega,k+1,by omega,rfl,hgood hpt,rfl⟩
        ·simp only[Bool.not_eq_true] at hid;rw[hid,Bool.or_false] at hpp
         by_cases h37:c=37
         ·have e37:((c.toNat:Nat):Int)=37:=by rw[h37];rfl
          have hpt:Cq c=true:=by rw[hpp,h37];rfl
          simp only[Aa,z6,z7,z8,j4,j5,j6,j7,j8,j9,x0,x5,x6,x7,x8,x9,reduceCtorEq,↓reduceIte,zb,hlen,t0,t2,t4,t5,t10,t11,t12,t13,t61,t62,t63,hg,hid,e37];exact⟨⟨by omega,by omega⟩,⟨by omega,by omega⟩,q.length - (k+1),by omega,k+1,by omega,rfl,hgood hpt,rfl⟩
         ·have e37:¬((c.toNat:Nat):Int)=37:=fun e=>h37 (UInt8.toNat_inj.1 (by have:(37:UInt8).toNat=37:=rfl;omega));have hpf:Cq c=false:=by rw[hpp];simpa using h37
          simp only[Aa,z6,z7,z8,j4,j5,j6,j7,j8,j9,x0,x5,x6,x7,x8,x9,reduceCtorEq,↓reduceIte,zb,hlen,t0,t2,t4,t5,t10,t11,t12,t13,t61,t62,t63,hg,hid,e37];exact⟨⟨by omega,by omega⟩,hbad hpf⟩
       ·have hqa:q.all Cq=true:=Kq fun j h=>hall j h (by omega);simp only[Aa,z6,z7,z8,j4,j5,j6,j7,j8,j9,x0,x5,x6,x7,x8,x9,reduceCtorEq,↓reduceIte,zb,hlen,t0,t2,t4,t5,t10,t11,t12,t13,t61,t62,t63,hkl];refine Ag (IK q ?_)
        by_cases hi0:i=0
        ·subst hi0;have hgt:¬(0:Int)<((0:Nat):Int):=by decide
         rw[if_pos (htn.2 rfl)] at htk;have hac:acc.length<=0:=by omega
         obtain rfl:acc=[]:=qh (by omega);simp only[Aa,z6,z7,z8,j4,j5,j6,j7,j8,j9,x0,x5,x6,x7,x8,x9,reduceCtorEq,↓reduceIte,zb,hlen,t0,t2,t4,t5,t10,t11,t12,t13,t61,t62,t63,hgt];refine Ag (LC _ (by omega) ?_);simp only[Aa,z6,z7,z8,j4,j5,j6,j7,j8,j9,x0,x5,x6,x7,x8,x9,reduceCtorEq,↓reduceIte,zb,hlen,t0,t2,t4,t5,t10,t11,t12,t13,t61,t62,t63];exact⟨by omega,⟨by omega,by omega⟩,xs.length - 1,by omega,1,_,by omega,rfl,hnext hqa,by rw[htk,hpe];rfl,by omega,rfl,rfl⟩
        ·have hgt:(0:Int)<((i:Nat):Int):=by omega
         rw[if_neg (fun h=>hi0 (htn.1 h))] at htk;simp only[Aa,z6,z7,z8,j4,j5,j6,j7,j8,j9,x0,x5,x6,x7,x8,x9,reduceCtorEq,↓reduceIte,zb,hlen,t0,t2,t4,t5,t10,t11,t12,t13,t61,t62,t63,hgt];have hib:i*20000<=100000000:=by omega
         refine⟨by omega,?_⟩;refine Ag (LC _ (by omega) ?_);simp only[Aa,z6,z7,z8,j4,j5,j6,j7,j8,j9,x0,x5,x6,x7,x8,x9,reduceCtorEq,↓reduceIte,zb,hlen,t0,t2,t4,t5,t10,t11,t12,t13,t61,t62,t63];exact⟨by omega,⟨by omega,by omega⟩,xs.length - (i+1),by omega,i+1,_,by omega,rfl,hnext hqa,by rw[htk,hpe],by simp only[zg,zl,qp];omega,rfl,rfl⟩
      ·have hie:i=xs.length:=by omega
       subst hie;have hal2:(xs.all fun q=>q.all Cq)=true:=zj.2 (PY fun j h=>hall j h h);rw[if_neg (by rw[hal2];simp)] at hid;have hlast:xs.getLastD []=xs[xs.length - 1]:=Ux xs [] hxp;have hxn:(xs.map AV.s)[((xs.length:Int) - 1).toNat*1]? = some (.s xs[xs.length - 1]):=by
        rw[show ((xs.length:Int) - 1).toNat*1=xs.length - 1 by omega,List.getElem?_map,List.getElem?_eq_getElem (by omega)];rfl
       rw[qc] at hacc;simp only[Aa,z6,z7,z8,j4,j5,j6,j7,j8,j9,x0,x5,x6,x7,x8,x9,reduceCtorEq,↓reduceIte,zb,hlen,t0,t2,t4,t5,t10,t61,t62,t63,hlt];refine⟨⟨by omega,by omega⟩,⟨by omega,by omega,by simp⟩,?_⟩;rw[hxn];rw[hlast] at hid
       by_cases hz:xs[xs.length - 1]=[]
       ·rw[if_pos hz] at hid;rw[hid] at hk;simp only[Aa,z6,z7,z8,j4,j5,j6,j7,j8,j9,x0,x5,x6,x7,x8,x9,reduceCtorEq,↓reduceIte,zb,hlen,t0,t2,t4,t5,t10,t61,t62,t63,hz] at hk ⊢;exact hk
       ·rw[if_neg hz] at hid;rw[hid] at hk;simp only[Aa,z6,z7,z8,j4,j5,j6,j7,j8,j9,x0,x5,x6,x7,x8,x9,reduceCtorEq,↓reduceIte] at hk;simp only[Aa,z6,z7,z8,j4,j5,j6,j7,j8,j9,x0,x5,x6,x7,x8,x9,reduceCtorEq,↓reduceIte,zb,hlen,t0,t2,t4,t5,t10,t61,t62,t63,hz];refine⟨⟨by omega,by omega⟩,?_⟩;rw[hacc];exact hk
    ·simp only[c2,Aa,z6,z7,z8,j4,j5,j6,j7,j8,j9,x0,x5,x6,x7,x8,x9,reduceCtorEq,↓reduceIte] at hk ⊢;exact hk
   ·have e58:=c58.2 h58;rw[e58] at hk;have hne:((Au r [58]:Nat):Int)=((r.length:Nat):Int):=by omega
    simp only[hne,Aa,z6,z7,z8,j4,j5,j6,j7,j8,j9,x0,x5,x6,x7,x8,x9,reduceCtorEq,↓reduceIte] at hk ⊢;exact hk
  ·simp only[c1,Aa,z6,z7,z8,j4,j5,j6,j7,j8,j9,x0,x5,x6,x7,x8,x9,reduceCtorEq,↓reduceIte] at hk ⊢;exact hk
end
section
variable [Tabs Tryz.prog] {objs:List OB} {K:List OB->AV->Prop}
end
theorem Yz {u:UrlP} {r:List UInt8×List UInt8} (h:Dc u=(0,r)):r.2.length<=4096:=by
 unfold Dc at h
 split at h
 ·cases h
 ·split at h
  ·cases h
  ·split at h
   ·cases h
   ·split at h
    ·cases h
    ·rename_i g;injection h with _ h
     subst h;have:(AB B0 (Cu u)).length=(Cu u).length+8:=by simp[AB,Ch,B0]
     show (Cu u).length<=_;omega
theorem cH {m i:List UInt8} (hi:i.length<=13000) (h:(BN m i).1=0):Dr (BN m i).2:=by
 have e:BN m i=(0,(BN m i).2):=by rw[<-h]
 obtain⟨_,_,_,k4,_,k6⟩:=Mz e;rw[k6];exact Lt hi (by rw[k4])
section
variable [Tabs Tryz.prog] [Shp Tryz.prog] [Pow Tryz.prog] {objs:List OB} {K:List OB->AV->Prop}
end
theorem oX {m i:List UInt8} (h:(AU m i).1≠0):(AU m i).2=([],0):=by
 unfold AU at h ⊢
 split
 ·rfl
 ·rename_i g1;rw[if_neg g1] at h
  split
  ·rfl
  ·rename_i g2;rw[if_neg g2] at h;exact nR h
def Kj (m i:List UInt8):AV:=if m=B0/\(A0 (AB m i)).1=0 then .row (Ap 58 i).length ((Ap 58 i).map .s) else .nil
theorem Yq {m i:List UInt8} (h:(AU m i).1=0):m=B0/\(A0 (AB m i)).1=0/\∀q∈Ap 58 i,(An q).1=0:=by
 unfold AU at h
 split at h
 ·cases h
 ·rename_i g1;simp only[ne_eq,Decidable.not_not] at g1
  split at h
  ·rename_i g2;exact absurd h g2
  ·rename_i g2;simp only[ne_eq,Decidable.not_not] at g2;exact⟨g1,g2,(Nq g1 g2).2⟩
theorem Ts:∀l:List (List UInt8),AE (l.map AV.s)=true
 | []=>rfl
 | x::l=>by simp only[zr,AE,AV.plain,Ts l,Bool.and_self]
theorem aI {u:UrlP} (h:DX u=true):∀x∈ER u,x.length<=4096/\((x.all Dy=false\/(An x).2=[])->BJ x=false)/\(x.all Dy=true->(An x).2≠[]->BJ x=true/\DT x=58::Ax (An x).2):=by
 have hc:=NM h;obtain⟨m,hm,hms,hp⟩:=hc.path;have hsp:ER u=m:=by
  unfold ER;rw[hp,Li m (fun x hx=>(hms x hx).1.1)];rfl
 rw[hsp];intro x hx;have hl:x.length<=4096:=by
  have h1:=IQ u;have h2:=hc.len;have h3:x.length<=(jn m).length:=by
   obtain⟨a,b,rfl⟩:=List.append_of_mem hx;rw[Lb,Ec];simp;omega
  rw[hp] at h1;omega
 have hcn:=(hms x hx).2;have hd0:(An x).1=0:=by
  have hn:=hcn.norm (by omega);obtain⟨a,h1,_⟩:=(EJ _ _ _ hn).2.1;rw[h1]
 refine⟨hl,fun h1=>?_,fun h1 h2=>?_⟩
 ·unfold BJ
  cases hx0:decide ((Aj x []).1=0) with
  | false=>rfl
  | true=>
   rw[decide_eq_true_eq,JS (by omega)] at hx0;rcases h1 with h1|h1
   ·rw[h1] at hx0;exact absurd hx0.2 (by decide)
   ·have:=(MT hcn (by omega) hx0.2).2;rw[h1] at this;rw[<-this];rfl
 ·have hn:(Aj x []).1=0:=(JS (by omega)).2 ⟨hd0,h1⟩;have hne:x≠[]:=by
   rintro rfl;exact h2 rfl
  refine⟨by unfold BJ;rw[hn];simp[hne],?_⟩;unfold DT;rw[TD hn,N7]
def Ek (u:UrlP) (l:List (List UInt8)):List UInt8:=BY u.host u.port++(if u.path=Ci then [] else l.flatMap fun x=>58::Ax (An x).2)
theorem R6 (u:UrlP) (l:List (List UInt8)) (x:List UInt8):Ek u (l++[x])=if u.path=Ci then Ek u l else Ek u l++58::Ax (An x).2:=by
 unfold Ek
 split
 ·rfl
 ·rw[xn];simp
theorem KR (u:UrlP) (l:List (List UInt8)):(Ek u l).length<=(BY u.host u.port).length+3*(l.flatMap fun x=>(1:UInt8)::x).length:=by
 unfold Ek;rw[zg]
 split
 ·simp
 ·have:(l.flatMap fun x=>58::Ax (An x).2).length<=3*(l.flatMap fun x=>(1:UInt8)::x).length:=by
   induction l with
   | nil=>simp
   | cons x l ih=>
    have h1:=JD (An x).2;have h2:=Ge x;simp only[qq,zg,zl];omega
  omega
theorem RA:∀l:List (List UInt8),(∀x∈l,BJ x=true/\DT x=58::Ax (An x).2)->(l.flatMap fun x=>58::Ax (An x).2)=CC l
 | [],_=>rfl
 | x::l,h=>by
  unfold CC;rw[qq,qq,(h x (by simp)).2,RA l (fun y hy=>h y (by simp[hy]))];rfl
theorem Kz {u:UrlP} {l:List (List UInt8)} (h:∀x∈l,BJ x=true/\DT x=58::Ax (An x).2):Ek u l=BY u.host u.port++(if u.path=Ci then [] else CC l):=by
 unfold Ek;rw[RA l h]
theorem rD (x:List UInt8):Dz x=!(decide ((An x).2=[])||decide ((An x).2=[46])||decide ((An x).2=[46,46])):=rfl
section
variable [Tabs Tryz.prog] {objs:List OB} {K:List OB->AV->Prop}
theorem SM (m i:List UInt8) (hm:m.length<=13000) (hi:i.length<=13000) (hk:K objs (.tup [Kj m i,BC (AU m i).2.1 (AU m i).2.2,.i .i64 (AU m i).1])):Ai Tryz.prog 110 [.agg [.s m,.s i]] objs K:=by
 have hmx:maxLen=2 ^ 63 - 1:=rfl;refine AI iA rfl fun C _=>?_;unfold AU Kj at hk
 by_cases c0:m=B0
 ·subst c0;have hw:B0=[119,101,98]:=rfl;simp only[ne_eq,not_true_eq_false,if_false,true_and] at hk;simp only[hw] at hk;simp only[hw,Oo,Aa,simprocAttr];refine Ag (LD _ _ (by decide) (by omega) ?_);simp only[Aa,simprocAttr];refine Ag (TQ _ (by simp only[AB,Ch,zg,zl,qp];omega) ?_);have hf:=Nq (m:=B0) (i:=i) rfl;rw[hw] at hf;generalize A0 (AB [119,101,98] i)=q at *;obtain⟨e,d1,d2⟩:=q;simp only at hf hk ⊢
  by_cases c1:e=0
  ·subst c1;simp only[not_true_eq_false,if_false,if_true] at hk;simp only[Aa,simprocAttr];refine Ag (Nk i 58 (by omega) ?_);have hpos:=E4 58 i;have hcs:=NC 58 i;have hl2:=(Dn 58 i).1;obtain⟨p,ps,hs⟩:=Cp 58 i;rw[hs] at hcs;simp only[List.headD_cons] at hcs;rw[hcs] at hk hl2;rw[hs] at hk ⊢;simp only[Aa,simprocAttr];refine⟨by simp,?_⟩;refine Ag (IK p ?_);have hl1:=Ge p;simp only[Aa,simprocAttr];refine Ag (R8 _ (by omega) ?_);have e1:=Ts ps;simp only[zl,zr,BC] at hk;simp only[BC,e1,Aa,simprocAttr];exact hk
  ·simp only[c1,not_false_eq_true,if_true,if_false] at hk;simp only[c1,Aa,simprocAttr];exact hk
 ·have c0':¬m=[119,101,98]:=c0;simp only[c0,ne_eq,not_false_eq_true,if_true,false_and,if_false] at hk;simp only[c0',Oo,Aa,simprocAttr];exact hk
theorem aC (m i:List UInt8) (hm:m.length<=13000) (hi:i.length<=13000) (hk:K objs (.tup [BC (AU m i).2.1 (AU m i).2.2,.i .i64 (AU m i).1])):Ai Tryz.prog 79 [.agg [.s m,.s i]] objs K:=by
 refine AI jP rfl fun C _=>?_;simp only[UR,Aa,simprocAttr];refine Ag (SM m i hm hi ?_);simp only[BC,Aa,simprocAttr];exact hk
set_option maxHeartbeats 1000000 in
theorem dM (m i:List UInt8) (hm:m.length<=13000) (hi:i.length<=13000) (hk:K objs (.tup [A7 (BN m i).2,.i .i64 (BN m i).1])):Ai Tryz.prog 108 [.agg [.s m,.s i]] objs K:=by
 refine AI hP rfl fun C _=>?_;simp only[T9,Aa,simprocAttr];refine Ag (SM m i hm hi ?_);unfold BN at hk
 by_cases c0:(AU m i).1=0
 ·obtain⟨p1,p2,p3⟩:=Yq c0;have hrow:Kj m i=.row (Ap 58 i).length ((Ap 58 i).map .s):=by unfold Kj;rw[if_pos ⟨p1,p2⟩]
  have hsh:=Lt hi c0;have hpos:=E4 58 i;have htail:=Jt 58 i;have hlen:(Ap 58 i).length - 1=(Ap 58 i).tail.length:=by simp
  have hlen2:(Ap 58 i).length=(Ap 58 i).tail.length+1:=by rw[<-hlen];omega
  have hp3:∀q∈(Ap 58 i).tail,(An q).1=0:=fun q hq=>p3 q (List.mem_of_mem_tail hq);simp only[c0,ne_eq,not_true_eq_false,if_false] at hk;simp only[c0,hrow,BC,Aa,simprocAttr,qt,K5];refine⟨by omega,?_⟩;have hU:GX m i=⟨(AU m i).2.1,(AU m i).2.2,Eo (Ap 58 i).tail,[],[],false,false⟩:=rfl;rw[hlen];generalize (Ap 58 i).tail=segs at *;have hmem:∀x∈segs,x.length+1<=(segs.flatMap fun x=>(1:UInt8)::x).length:=by
   intro x hx;obtain⟨p,q,rfl⟩:=List.append_of_mem hx;simp only[xn,qq,zg,zl];omega
  have hls:=KL segs;refine BI (fun n objs tm=>∃j:Nat,j<=segs.length/\n=segs.length - j/\objs=[.box 119 [.s m,.s i],.box 79 [.s [],.i .i64 0,.s [],.s [],.s [],.b false,.b false],.box 124 [.s (AU m i).2.1,.i .i64 (AU m i).2.2]]/\(segs.take j).all Dz=true /\
   tm.length=68/\tm[2]? = some (.p 1 0)/\tm[4]? = some (.row (Ap 58 i).length ((Ap 58 i).map .s))/\tm[5]? = some (.p 2 0)/\tm[7]? = some (.s (Cf (segs.take j)))/\tm[24]? = some (.row segs.length (segs.map .s))/\tm[25]? = some (.i .i64 segs.length)/\tm[26]? = some (.i .i64 j)) segs.length
   ⟨0,ze _,rfl,rfl,by simp,rfl,rfl,rfl,rfl,rfl,rfl,rfl,rfl⟩ ?_
  rintro n o tm ⟨j,hj,rfl,rfl,hok,hl,t2,t4,t5,t7,t24,t25,t26⟩
  by_cases hlt:(j:Int)<segs.length
  ·have hlt':j<segs.length:=by omega
   have hg:(segs.map AV.s)[j]? = some (.s segs[j]):=by simp[hlt']
   have hx:=hmem segs[j] (qe hlt');have hdl:=Ge segs[j];have hsf:(Cf (segs.take j)).length<=100000:=by
    have h2:=IF (segs.take j);have h3:=congrArg qv (Jy (l:=segs) j fun x=>(1:UInt8)::x);rw[zg] at h3;omega
   have hnext:=SU hlt';have hallt:Dz segs[j]=true->(segs.take (j+1)).all Dz=true:=fun e=>by rw[M3 hlt',hok,e];rfl
   have hbad:Dz segs[j]=false->segs.all Dz=false:=Jl hlt';rw[rD] at hallt hbad;unfold FW at hnext;simp only[Aa,simprocAttr,zb,hl,t2,t4,t5,t7,t24,t25,t26,hlt,qt,zm,hg,jg];refine⟨by omega,?_⟩;refine Ag (IK segs[j] ?_);generalize (An segs[j]).2=d at *;generalize (An segs[j]).1=e
   by_cases c2:d=[]
   ·rw[hbad (by rw[c2];rfl)] at hk;simp only[c2,Aa,simprocAttr,zb,hl,t2,t4,t5,t7,t24,t25,t26];exact hk
   ·by_cases c3:d=[46]
    ·rw[hbad (by rw[c3];decide)] at hk;simp only[c3,Aa,simprocAttr,zb,hl,t2,t4,t5,t7,t24,t25,t26];exact hk
    ·by_cases c4:d=[46,46]
     ·have n1:¬([46,46]:List UInt8)=[46]:=by decide
      rw[hbad (by rw[c4];decide)] at hk;simp only[c4,n1,Aa,simprocAttr,zb,hl,t2,t4,t5,t7,t24,t25,t26];exact hk
     ·simp only[c2,c3,c4,Aa,simprocAttr,zb,hl,t2,t4,t5,t7,t24,t25,t26];refine Ag (dU d [] (by omega) (by decide) ?_);have hel:=Hu d [];simp only[Aa,simprocAttr,zb,hl,t2,t4,t5,t7,t24,t25,t26];refine⟨by omega,by omega,⟨by omega,by omega⟩,segs.length - (j+1),by omega,j+1,by omega,rfl,hallt (by simp[c2,c3,c4]),by rw[hnext],rfl⟩
  ·obtain rfl:j=segs.length:=by omega
   rw[qc] at hok t7;rw[hok] at hk;simp only[Bool.true_eq_false,if_false] at hk;have hsl:=IF segs
   by_cases ht:segs=[]
   ·subst ht;have e1:((Ap 58 i).length:Int)=1:=by rw[hlen2];rfl
    rw[show Eo []=Ci from rfl] at hU;rw[hU] at hsh hk;generalize hu:(⟨(AU m i).2.1,(AU m i).2.2,Ci,[],[],false,false⟩:UrlP)=u at hsh hk;have ez:¬((0:Nat):Int)<((0:Nat):Int):=by omega
    have hwk:([47,46,119,101,108,108,45,107,110,111,119,110]++[47,100,105,100,46,106,115,111,110]:List UInt8)=Ci:=by decide
    simp only[Aa,simprocAttr,zb,hl,t2,t4,t5,t7,t24,t25,t26,hlt,ez,e1,hwk];refine Ag (show Ai _ _ [A7 ⟨(AU m i).2.1,(AU m i).2.2,Ci,[],[],false,false⟩] _ _ from hu▸IL u hsh ?_)
    by_cases c1:(4096:Int)<(Bm u).length
    ·have c1':4096<(Bm u).length:=by omega
     rw[if_pos c1'] at hk;simp only[c1,Aa,simprocAttr,zb,hl,t2,t4,t5,t7,t24,t25,t26];exact hk
    ·have c1':¬4096<(Bm u).length:=by omega
     rw[if_neg c1'] at hk;simp only[c1,Aa,simprocAttr,zb,hl,t2,t4,t5,t7,t24,t25,t26];subst hu;exact hk
   ·have hp:=List.length_pos_iff.2 ht;have e1:¬((Ap 58 i).length:Int)=1:=by omega
    rw[show Eo segs=Cf segs++47::CO by unfold Eo;rw[if_neg ht]] at hU;rw[hU] at hsh hk;have hpa:Cf segs++[47,100,105,100,46,106,115,111,110]=Cf segs++47::CO:=rfl;simp only[Aa,simprocAttr,zb,hl,t2,t4,t5,t7,t24,t25,t26,hlt,e1,hpa];refine⟨by omega,?_⟩;refine Ag (IL _ hsh ?_);generalize hu:(⟨(AU m i).2.1,(AU m i).2.2,Cf segs++47::CO,[],[],false,false⟩:UrlP)=u at hsh hk ⊢
    by_cases c1:(4096:Int)<(Bm u).length
    ·have c1':4096<(Bm u).length:=by omega
     rw[if_pos c1'] at hk;simp only[c1,Aa,simprocAttr,zb,hl,t2,t4,t5,t7,t24,t25,t26];exact hk
    ·have c1':¬4096<(Bm u).length:=by omega
     rw[if_neg c1'] at hk;simp only[c1,Aa,simprocAttr,zb,hl,t2,t4,t5,t7,t24,t25,t26];subst hu;exact hk
 ·have hz:=oX c0;simp only[c0,ne_eq,not_false_eq_true,if_true] at hk;simp only[c0,BC,Aa,simprocAttr];exact hk
end
theorem RN {p:UInt8->Bool} {x:List UInt8} {k:Nat} (h:k<x.length):(x.take (k+1)).all p=((x.take k).all p&&p x[k]):=by
 rw[qm h,xx];simp
theorem Re {p:UInt8->Bool} {x:List UInt8} {k:Nat} (h:k<x.length) (hp:p x[k]=false):x.all p=false:=by
 rw[Bool.eq_false_iff];intro e;rw[zj.1 e _ (qe h)] at hp;cases hp
section
variable [Tabs Tryz.prog] {objs:List OB} {K:List OB->AV->Prop}
theorem Rr (c:UInt8) (hk:K objs (.b (A8 c))):Ai Tryz.prog 70 [.i .u8 c.toNat] objs K :=
 FY (vs:=[.int .u8 c.toNat]) rfl rfl (fun w=>EK c w) hk
set_option maxHeartbeats 2000000 in
theorem fQ (u:UrlP) (hu:Dr u) (hk:K objs (.tup [.agg [.s (Dc u).2.1,.s (Dc u).2.2],.i .i64 (Dc u).1])):Ai Tryz.prog 109 [A7 u] objs K:=by
 refine AI jK rfl fun C _=>?_;simp only[UA,A7,Aa,simprocAttr];refine Ag (aH u hu ?_);unfold Dc at hk
 by_cases c0:DX u=true
 ·obtain⟨init,z,hseg⟩:=Ri c0;have hsf:=aI c0;have hlen:=Sh c0;have hpl:=IQ u;have hsum:=Jt 47 u.path;have hst:(Ap 47 u.path).tail=init++[z]:=hseg;have hln:(Ap 47 u.path).length - 1=init.length+1:=by
   have:=congrArg qv hst;simpa using this
  have hpos:=E4 47 u.path;rw[hst] at hsum;rw[hseg] at hsf;have hid:Cu u=BY u.host u.port++(if u.path=Ci then [] else CC init):=by
   unfold Cu;rw[hseg];simp
  have hhl:u.host.length<=1000000:=hu.1;simp only[c0,Bool.true_eq_false,if_false,hseg,List.getLastD_concat,List.dropLast_concat,hid] at hk;simp only[c0,Aa,simprocAttr];refine Ag (Nk u.path 47 (by omega) ?_);simp only[Aa,simprocAttr,qt,K5,hst,hln];have hls:=KL (init++[z]);rw[zg,yg] at hls;refine⟨by omega,?_⟩;have e1:((init.length+1:Nat):Int) - 1=init.length:=by omega
  have hz:((init++[z]).map AV.s)[init.length]? = some (.s z):=by simp
  have htk:((init++[z]).map AV.s).take init.length=init.map AV.s:=by simp
  have hsi:(init.flatMap fun x=>(1:UInt8)::x).length<=16384:=by
   rw[xn,zg] at hsum;omega
  cases hq:u.hq with
  | true=>
   simp only[hq,true_or,if_true] at hk;simp only[Aa,simprocAttr];exact hk
  | false=>
   cases hf:u.hf with
   | true=>
    simp only[hf,true_or,or_true,if_true] at hk;simp only[Aa,simprocAttr];exact hk
   | false=>
    simp only[Aa,simprocAttr,e1,zm,qt,hz];refine⟨by omega,by simp;omega,?_⟩
    by_cases c1:z=CO
    ·simp only[hq,hf,c1,Bool.false_eq_true,not_true_eq_false,or_self,if_false] at hk;have c1':¬¬z=[100,105,100,46,106,115,111,110]:=fun h=>h c1;simp only[c1',Aa,simprocAttr,e1,zm,qt,htk];refine⟨by omega,by omega,?_⟩
     by_cases c4:init=[]
     ·subst c4;have ez:((0:Nat):Int)=0:=rfl
      by_cases c2:u.path=Ci
      ·-- a well-known path has a segment ahead of its last one
       exfalso;have:=congrArg qv hst;rw[c2] at this;have hw:(Ap 47 Ci).tail.length=2:=by decide
       rw[hw] at this;simp at this
      ·simp only[c2,not_false_eq_true,true_and,true_or,if_true] at hk;simp only[ez,Aa,simprocAttr];exact hk
     ·have c4':¬((init.length:Nat):Int)=0:=by
       have:=List.length_pos_iff.2 c4;omega
      simp only[c4,false_or] at hk;have hil:=Lib.itoa_length_le u.port hu.2.1 hu.2.2.1;have hhp:=P6 u.host u.port hu.2.1 hu.2.2.1;have hall:(¬u.path=Ci/\init.all BJ=false)↔init.all BJ=false:=by
       refine⟨fun h=>h.2,fun h=>⟨fun e=>?_,h⟩⟩;have hw:(Ap 47 Ci).tail=[GW]++[CO]:=by decide
       rw[e,hw] at hst;obtain⟨h1,_⟩:=List.append_inj' hst (by simp);rw[<-h1] at h;exact absurd h (by decide)
      simp only[hall] at hk;have hmem:∀x∈init,x.length+1<=(init.flatMap fun x=>(1:UInt8)::x).length:=by
       intro x hx;obtain⟨p,q,rfl⟩:=List.append_of_mem hx;simp only[xn,qq,zg,zl];omega
      have hls2:=KL init;have hacc0:Ek u []=BY u.host u.port:=by unfold Ek;simp
      by_cases cp:u.port=0
      ·have hp0:BY u.host u.port=u.host:=by unfold BY;rw[if_pos cp]
       rw[hp0] at hacc0;simp only[c4',cp,Aa,simprocAttr];refine BI (fun n objs tm=>∃j:Nat,j<=init.length/\n=init.length - j/\objs=[.box 79 [.s u.host,.i .i64 u.port,.s u.path,.s u.query,.s u.frag,.b false,.b false],.box 119 [.s [],.s []]]/\(∀x∈init.take j,BJ x=true/\DT x=58::Ax (An x).2) /\
        tm.length=105/\tm[1]? = some (.p 0 0)/\tm[2]? = some (.p 1 0)/\tm[5]? = some (.s (Ek u (init.take j)))/\tm[56]? = some (.row init.length (init.map .s))/\tm[57]? = some (.i .i64 init.length)/\tm[58]? = some (.i .i64 j)) init.length
        ⟨0,ze _,rfl,by rw[cp],by simp,rfl,rfl,rfl,by rw[xl,hacc0];rfl,rfl,rfl,rfl⟩ ?_
       rintro n o tm ⟨j,hj,rfl,rfl,hgood,hl,t1,t2,t5,t56,t57,t58⟩
       by_cases hlt:(j:Int)<init.length
       ·have hlt':j<init.length:=by omega
        have hg:(init.map AV.s)[j]? = some (.s init[j]):=by simp[hlt']
        have hx:=hmem init[j] (qe hlt');obtain⟨f1,f2,f3⟩:=hsf init[j] (xj _ (qe hlt'));have hbad:BJ init[j]=false->init.all BJ=false:=Jl hlt';have hacl:=KR u (init.take j);have h3:=congrArg qv (Jy (l:=init) j fun x=>(1:UInt8)::x);rw[zg] at h3;have hsn:init.take (j+1)=init.take j++[init[j]]:=qm hlt';simp only[Aa,simprocAttr,zb,hl,t1,t2,t5,t56,t57,t58,hlt,qt,zm,hg,jg];refine⟨by omega,?_⟩;generalize init[j]=x at *;refine BI (fun n objs tm=>∃k:Nat,k<=x.length/\n=x.length - k/\objs=[.box 79 [.s u.host,.i .i64 u.port,.s u.path,.s u.query,.s u.frag,.b false,.b false],.box 119 [.s [],.s []]]/\(x.take k).all Dy=true /\
         tm.length=105/\tm[1]? = some (.p 0 0)/\tm[2]? = some (.p 1 0)/\tm[5]? = some (.s (Ek u (init.take j)))/\tm[56]? = some (.row init.length (init.map .s))/\tm[57]? = some (.i .i64 init.length)/\tm[58]? = some (.i .i64 j)/\tm[7]? = some (.s x)/\tm[8]? = some (.i .i64 k)) x.length
         ⟨0,ze _,rfl,rfl,by simp,by simp only[zf,hl],by simp only[Aa,simprocAttr,zb,hl,t1],by simp only[Aa,simprocAttr,zb,hl,t2],by simp only[Aa,simprocAttr,zb,hl,t5],by simp only[Aa,simprocAttr,zb,hl,t56],by simp only[Aa,simprocAttr,zb,hl,t57],by simp only[Aa,simprocAttr,zb,hl,t58],by simp only[Aa,simprocAttr,zb,hl],by simp only[Aa,simprocAttr,zb,hl]<;>rfl⟩ ?_
        clear t1 t2 t5 t56 t57 t58 hl;rintro n o tm ⟨k,hk1,rfl,rfl,hall2,hl,t1,t2,t5,t56,t57,t58,t7,t8⟩
        by_cases hkx:(k:Int)<x.length
        ·have hkx':k<x.length:=by omega
         have hgx:=GP hkx';have hub:Dy x[k]=(A8 x[k]||x[k]==37):=rfl;have hno:Dy x[k]=false->BJ x=false:=fun e=>f2 (.inl (Re hkx' e));have hyes:Dy x[k]=true->(x.take (k+1)).all Dy=true:=fun e=>by rw[RN hkx',hall2,e];rfl
         simp only[Aa,simprocAttr,zb,hl,t1,t2,t5,t7,t8,t56,t57,t58,hkx,zm];refine⟨by omega,?_⟩;rw[hgx];refine Ag (Rr x[k] ?_)
         by_cases hu1:A8 x[k]=true
         ·simp only[hu1,Aa,simprocAttr,zb,hl,t1,t2,t5,t7,t8,t56,t57,t58];exact⟨⟨by omega,by omega⟩,x.length - (k+1),by omega,k+1,by omega,rfl,hyes (by rw[hub,hu1];rfl),rfl⟩
         ·simp only[Bool.not_eq_true] at hu1
          by_cases h37:((x[k].toNat:Nat):Int)=37
          ·have h37':x[k]=37:=UInt8.toNat_inj.1 (by show x[k].toNat=37;omega);simp only[hu1,hgx,h37,Aa,simprocAttr,zb,hl,t1,t2,t5,t7,t8,t56,t57,t58,zm];exact⟨by omega,⟨by omega,by omega⟩,x.length - (k+1),by omega,k+1,by omega,rfl,hyes (by rw[hub,h37'];rfl),rfl⟩
          ·have h37':¬x[k]=37:=fun e=>h37 (by rw[e];rfl);rw[hbad (hno (by rw[hub,hu1];simpa using h37'))] at hk;simp only[hu1,hgx,h37,Aa,simprocAttr,zb,hl,t1,t2,t5,t7,t8,t56,t57,t58,zm];exact⟨by omega,hk⟩
        ·obtain rfl:k=x.length:=by omega
         rw[qc] at hall2;simp only[Aa,simprocAttr,zb,hl,t1,t2,t5,t7,t8,t56,t57,t58,hkx];refine Ag (IK x ?_);have hdl:=Ge x;have hsnoc:=R6 u (init.take j) x;have hgd:(An x).2≠[]->∀y∈init.take (j+1),BJ y=true/\DT y=58::Ax (An y).2:=fun e y hy=>by
          rw[hsn] at hy;rcases zw.1 hy with hy|hy
          ·exact hgood y hy
          ·simp only[zv,jk,or_false] at hy;subst hy;exact f3 hall2 e
         rw[<-hsn] at hsnoc;generalize (An x).1=e at *
         by_cases hd0:(An x).2=[]
         ·rw[hbad (f2 (.inr hd0))] at hk;simp only[hd0,Aa,simprocAttr,zb,hl,t1,t2,t5,t7,t8,t56,t57,t58];exact hk
         ·have hgd2:=hgd hd0
          by_cases c2:u.path=Ci
          ·have c2':u.path=[47,46,119,101,108,108,45,107,110,111,119,110,47,100,105,100,46,106,115,111,110]:=c2;rw[if_pos c2] at hsnoc;rw[<-hsnoc] at t5;have c3':¬¬u.path=[47,46,119,101,108,108,45,107,110,111,119,110,47,100,105,100,46,106,115,111,110]:=fun h=>h c2';simp only[hd0,c3',Aa,simprocAttr,zb,hl,t1,t2,t5,t7,t8,t56,t57,t58];exact⟨⟨by omega,by omega⟩,init.length - (j+1),by omega,j+1,by omega,rfl,hgd2,rfl,rfl⟩
          ·have c2':¬u.path=[47,46,119,101,108,108,45,107,110,111,119,110,47,100,105,100,46,106,115,111,110]:=c2;rw[if_neg c2] at hsnoc;have hel:=JD (An x).2;generalize (An x).2=d at *;simp only[hd0,c2',Aa,simprocAttr,zb,hl,t1,t2,t5,t7,t8,t56,t57,t58];refine Ag (LC d (by omega) ?_);simp only[Aa,simprocAttr,zb,hl,t1,t2,t5,t7,t8,t56,t57,t58];exact⟨by omega,by omega,⟨by omega,by omega⟩,init.length - (j+1),by omega,j+1,by omega,rfl,hgd2,by rw[hsnoc],rfl⟩
       ·obtain rfl:j=init.length:=by omega
        rw[qc] at hgood t5;rw[Kz hgood] at t5;have hok:init.all BJ=true:=zj.2 fun x hx=>(hgood x hx).1;rw[hok] at hk;simp only[Bool.true_eq_false,if_false] at hk;have hal:=KR u init;rw[Kz hgood] at hal;generalize (BY u.host u.port++if u.path=Ci then [] else CC init)=l at *;simp only[Aa,simprocAttr,zb,hl,t1,t2,t5,t56,t57,t58,hlt];refine Ag (LD _ _ (by decide) (by omega) ?_);have hw:B0=[119,101,98]:=rfl;rw[hw] at hk
        by_cases c3:(4096:Int)<(AB [119,101,98] l).length
        ·have c3':4096<(AB [119,101,98] l).length:=by omega
         rw[if_pos c3'] at hk;simp only[c3,Aa,simprocAttr,zb,hl,t1,t2,t5,t56,t57,t58];exact hk
        ·have c3':¬4096<(AB [119,101,98] l).length:=by omega
         rw[if_neg c3'] at hk;simp only[c3,Aa,simprocAttr,zb,hl,t1,t2,t5,t56,t57,t58];exact hk
      ·have hp0:BY u.host u.port=u.host++([37,51,65]++Lib.itoa u.port):=by unfold BY;rw[if_neg cp]
       rw[hp0] at hacc0;simp only[c4',cp,Aa,simprocAttr];refine Ag (Tu u.port hu.2.1 hu.2.2.1 ?_);simp only[Aa,simprocAttr];refine⟨by omega,by omega,?_⟩;refine BI (fun n objs tm=>∃j:Nat,j<=init.length/\n=init.length - j/\objs=[.box 79 [.s u.host,.i .i64 u.port,.s u.path,.s u.query,.s u.frag,.b false,.b false],.box 119 [.s [],.s []]]/\(∀x∈init.take j,BJ x=true/\DT x=58::Ax (An x).2) /\
        tm.length=105/\tm[1]? = some (.p 0 0)/\tm[2]? = some (.p 1 0)/\tm[5]? = some (.s (Ek u (init.take j)))/\tm[56]? = some (.row init.length (init.map .s))/\tm[57]? = some (.i .i64 init.length)/\tm[58]? = some (.i .i64 j)) init.length
        ⟨0,ze _,rfl,rfl,by simp,rfl,rfl,rfl,by rw[xl,hacc0];rfl,rfl,rfl,rfl⟩ ?_
       rintro n o tm ⟨j,hj,rfl,rfl,hgood,hl,t1,t2,t5,t56,t57,t58⟩
       by_cases hlt:(j:Int)<init.length
       ·have hlt':j<init.length:=by omega
        have hg:(init.map AV.s)[j]? = some (.s init[j]):=by simp[hlt']
        have hx:=hmem init[j] (qe hlt');obtain⟨f1,f2,f3⟩:=hsf init[j] (xj _ (qe hlt'));have hbad:BJ init[j]=false->init.all BJ=false:=Jl hlt';have hacl:=KR u (init.take j);have h3:=congrArg qv (Jy (l:=init) j fun x=>(1:UInt8)::x);rw[zg] at h3;have hsn:init.take (j+1)=init.take j++[init[j]]:=qm hlt';simp only[Aa,simprocAttr,zb,hl,t1,t2,t5,t56,t57,t58,hlt,qt,zm,hg,jg];refine⟨by omega,?_⟩;generalize init[j]=x at *;refine BI (fun n objs tm=>∃k:Nat,k<=x.length/\n=x.length - k/\objs=[.box 79 [.s u.host,.i .i64 u.port,.s u.path,.s u.query,.s u.frag,.b false,.b false],.box 119 [.s [],.s []]]/\(x.take k).all Dy=true /\
         tm.length=105/\tm[1]? = some (.p 0 0)/\tm[2]? = some (.p 1 0)/\tm[5]? = some (.s (Ek u (init.take j)))/\tm[56]? = some (.row init.length (init.map .s))/\tm[57]? = some (.i .i64 init.length)/\tm[58]? = some (.i .i64 j)/\tm[7]? = some (.s x)/\tm[8]? = some (.i .i64 k)) x.length
         ⟨0,ze _,rfl,rfl,by simp,by simp only[zf,hl],by simp only[Aa,simprocAttr,zb,hl,t1],by simp only[Aa,simprocAttr,zb,hl,t2],by simp only[Aa,simprocAttr,zb,hl,t5],by simp only[Aa,simprocAttr,zb,hl,t56],by simp only[Aa,simprocAttr,zb,hl,t57],by simp only[Aa,simprocAttr,zb,hl,t58],by simp only[Aa,simprocAttr,zb,hl],by simp only[Aa,simprocAttr,zb,hl]<;>rfl⟩ ?_
        clear t1 t2 t5 t56 t57 t58 hl;rintro n o tm ⟨k,hk1,rfl,rfl,hall2,hl,t1,t2,t5,t56,t57,t58,t7,t8⟩
        by_cases hkx:(k:Int)<x.length
        ·have hkx':k<x.length:=by omega
         have hgx:=GP hkx';have hub:Dy x[k]=(A8 x[k]||x[k]==37):=rfl;have hno:Dy x[k]=false->BJ x=false:=fun e=>f2 (.inl (Re hkx' e));have hyes:Dy x[k]=true->(x.take (k+1)).all Dy=true:=fun e=>by rw[RN hkx',hall2,e];rfl
         simp only[Aa,simprocAttr,zb,hl,t1,t2,t5,t7,t8,t56,t57,t58,hkx,zm];refine⟨by omega,?_⟩;rw[hgx];refine Ag (Rr x[k] ?_)
         by_cases hu1:A8 x[k]=true
         ·simp only[hu1,Aa,simprocAttr,zb,hl,t1,t2,t5,t7,t8,t56,t57,t58];exact⟨⟨by omega,by omega⟩,x.length - (k+1),by omega,k+1,by omega,rfl,hyes (by rw[hub,hu1];rfl),rfl⟩
         ·simp only[Bool.not_eq_true] at hu1
          by_cases h37:((x[k].toNat:Nat):Int)=37
          ·have h37':x[k]=37:=UInt8.toNat_inj.1 (by show x[k].toNat=37;omega);simp only[hu1,hgx,h37,Aa,simprocAttr,zb,hl,t1,t2,t5,t7,t8,t56,t57,t58,zm];exact⟨by omega,⟨by omega,by omega⟩,x.length - (k+1),by omega,k+1,by omega,rfl,hyes (by rw[hub,h37'];rfl),rfl⟩
          ·have h37':¬x[k]=37:=fun e=>h37 (by rw[e];rfl);rw[hbad (hno (by rw[hub,hu1];simpa using h37'))] at hk;simp only[hu1,hgx,h37,Aa,simprocAttr,zb,hl,t1,t2,t5,t7,t8,t56,t57,t58,zm];exact⟨by omega,hk⟩
        ·obtain rfl:k=x.length:=by omega
         rw[qc] at hall2;simp only[Aa,simprocAttr,zb,hl,t1,t2,t5,t7,t8,t56,t57,t58,hkx];refine Ag (IK x ?_);have hdl:=Ge x;have hsnoc:=R6 u (init.take j) x;have hgd:(An x).2≠[]->∀y∈init.take (j+1),BJ y=true/\DT y=58::Ax (An y).2:=fun e y hy=>by
          rw[hsn] at hy;rcases zw.1 hy with hy|hy
          ·exact hgood y hy
          ·simp only[zv,jk,or_false] at hy;subst hy;exact f3 hall2 e
         rw[<-hsn] at hsnoc;generalize (An x).1=e at *
         by_cases hd0:(An x).2=[]
         ·rw[hbad (f2 (.inr hd0))] at hk;simp only[hd0,Aa,simprocAttr,zb,hl,t1,t2,t5,t7,t8,t56,t57,t58];exact hk
         ·have hgd2:=hgd hd0
          by_cases c2:u.path=Ci
          ·have c2':u.path=[47,46,119,101,108,108,45,107,110,111,119,110,47,100,105,100,46,106,115,111,110]:=c2;rw[if_pos c2] at hsnoc;rw[<-hsnoc] at t5;have c3':¬¬u.path=[47,46,119,101,108,108,45,107,110,111,119,110,47,100,105,100,46,106,115,111,110]:=fun h=>h c2';simp only[hd0,c3',Aa,simprocAttr,zb,hl,t1,t2,t5,t7,t8,t56,t57,t58];exact⟨⟨by omega,by omega⟩,init.length - (j+1),by omega,j+1,by omega,rfl,hgd2,rfl,rfl⟩
          ·have c2':¬u.path=[47,46,119,101,108,108,45,107,110,111,119,110,47,100,105,100,46,106,115,111,110]:=c2;rw[if_neg c2] at hsnoc;have hel:=JD (An x).2;generalize (An x).2=d at *;simp only[hd0,c2',Aa,simprocAttr,zb,hl,t1,t2,t5,t7,t8,t56,t57,t58];refine Ag (LC d (by omega) ?_);simp only[Aa,simprocAttr,zb,hl,t1,t2,t5,t7,t8,t56,t57,t58];exact⟨by omega,by omega,⟨by omega,by omega⟩,init.length - (j+1),by omega,j+1,by omega,rfl,hgd2,by rw[hsnoc],rfl⟩
       ·obtain rfl:j=init.length:=by omega
        rw[qc] at hgood t5;rw[Kz hgood] at t5;have hok:init.all BJ=true:=zj.2 fun x hx=>(hgood x hx).1;rw[hok] at hk;simp only[Bool.true_eq_false,if_false] at hk;have hal:=KR u init;rw[Kz hgood] at hal;generalize (BY u.host u.port++if u.path=Ci then [] else CC init)=l at *;simp only[Aa,simprocAttr,zb,hl,t1,t2,t5,t56,t57,t58,hlt];refine Ag (LD _ _ (by decide) (by omega) ?_);have hw:B0=[119,101,98]:=rfl;rw[hw] at hk
        by_cases c3:(4096:Int)<(AB [119,101,98] l).length
        ·have c3':4096<(AB [119,101,98] l).length:=by omega
         rw[if_pos c3'] at hk;simp only[c3,Aa,simprocAttr,zb,hl,t1,t2,t5,t56,t57,t58];exact hk
        ·have c3':¬4096<(AB [119,101,98] l).length:=by omega
         rw[if_neg c3'] at hk;simp only[c3,Aa,simprocAttr,zb,hl,t1,t2,t5,t56,t57,t58];exact hk
    ·simp only[hq,hf,c1,Bool.false_eq_true,not_false_eq_true,or_true,if_true] at hk;have c1':¬z=[100,105,100,46,106,115,111,110]:=c1;simp only[c1',Aa,simprocAttr];exact hk
 ·simp only[c0,Aa,simprocAttr];simp only[c0,if_true] at hk;exact hk
theorem Zb (m i:List UInt8) (hm:m.length<=13000) (hi:i.length<=13000) (hk:K objs (.tup [.agg [.s (B6 m i).2.1,.s (B6 m i).2.2],.i .i64 (B6 m i).1])):Ai Tryz.prog 78 [.agg [.s m,.s i]] objs K:=by
 refine AI jQ rfl fun C _=>?_;simp only[US,Aa,simprocAttr];refine Ag (dM m i hm hi ?_);unfold B6 at hk;have hz:=Pk (m:=m) (i:=i);have hsh:(BN m i).1=0->Dr (BN m i).2:=fun h=>cH hi h;generalize BN m i=q at *;obtain⟨e,u⟩:=q;simp only at hz hsh hk ⊢
 by_cases c0:e=0
 ·subst c0;simp only[ne_eq,not_true_eq_false,if_false] at hk;simp only[A7,Aa,simprocAttr];refine Ag (fQ u (hsh rfl) ?_);simp only[Aa,simprocAttr];exact hk
 ·have:=hz c0;subst this;simp only[c0,ne_eq,not_false_eq_true,if_true] at hk;simp only[c0,A7,Aa,simprocAttr];exact hk
end
section
variable [Tabs Tryz.prog] [Shp Tryz.prog] [Pow Tryz.prog]
end
end Go.Proofs.YtbeoijfmfkifeaaGreatDoor
namespace Go.Proofs.YtbeoijfmfkifeaaGreatDoor
open Go.RowKit
open Lib renaming containsAny->xm, hid->za
open List renaming all_eq_true->zj, eq_nil_of_length_eq_zero->qh, getElem?_eq_getElem->zq, length_cons->zl, length_drop->zt, length_take->zh, mem_cons->zv, mem_cons_of_mem->qx, mem_cons_self->jp, take_append_drop->jh, take_length->qc
open Nat renaming le_refl->zd, lt_or_ge->zo, zero_le->ze
def FD:List UInt8:=[97,99,99,116,58]
def Fm:List UInt8:=[33,36,38,39,40,41,42,43,44,59,61]
def Hi:List UInt8->Bool
 | []=>true
 | c::_=>c.toNat==37
def Bp (l:List UInt8):Int×List UInt8×List UInt8 :=
 if 4096<l.length then (5,[],[])
 else if l.length<5\/AN (l.take 5) FD=false then (60,[],[])
 else if (Af 64 (l.drop 5)).2.2=false then (6,[],[])
 else if (Aj (Af 64 (l.drop 5)).1 Fm).1≠0\/Hi (Aj (Af 64 (l.drop 5)).1 Fm).2=true then (80,[],[])
 else if (AK (Af 64 (l.drop 5)).2.1).1≠0 then ((AK (Af 64 (l.drop 5)).2.1).1,[],[])
 else (0,(Aj (Af 64 (l.drop 5)).1 Fm).2,(AK (Af 64 (l.drop 5)).2.1).2)
def Bg (u h:List UInt8):Value:=.agg #[.string (S u),.string (S h)]
def AF (r:Int×List UInt8×List UInt8):Value:=.tuple #[Bg r.2.1 r.2.2,.int .i64 r.1]
def G2 (u h:List UInt8):List UInt8:=FD++u++[64]++h
theorem IP (s:ByteArray) (w:World) (hs:s.size<=maxLen) :
  Calls Tryz.prog 135 #[.string s] w fun e w'=>e=.returned (BO (Af 64 s.data.toList))/\Qb w w':=by
 go_enter Tryz.func135,Tryz.ntmps135
 go_wp2_with fail
 refine(CD s 64 _ hs).mono ?_;rintro e w1 ⟨rfl,hq1⟩;unfold BO
 go_wp2_with fail
 go_ret3
 exact⟨rfl,hq1⟩
theorem eK (u h:List UInt8) (w:World) (hu:u.length<=9000000000000000000) (hh:h.length<=100000000000000000) :
  Calls Tryz.prog 113 #[Bg u h] w fun e w'=>e=.returned (.string (S (G2 u h)))/\Qb w w':=by
 unfold Bg
 go_enter Tryz.func113,Tryz.ntmps113
 go_wp2_with fail
 go_ret
 exact⟨GN (J2 (by unfold G2 FD;simp[ByteArray.data_append])),(Qb.refl w).alloc _⟩
theorem fP (u h:List UInt8) (w:World) (hu:u.length<=9000000000000000000) (hh:h.length<=100000000000000000) :
  Calls Tryz.prog 50 #[Bg u h] w fun e w'=>e=.returned (.string (S (G2 u h)))/\Qb w w':=by
 unfold Bg
 go_enter Tryz.func50,Tryz.ntmps50
 go_wp2_with fail
 go_ret
 exact⟨GN (J2 (by unfold G2 FD;simp[ByteArray.data_append])),(Qb.refl w).alloc _⟩
set_option maxHeartbeats 2000000 in
theorem cO (s:ByteArray) (w:World) (hs:s.size<=maxLen) :
  Calls Tryz.prog 112 #[.string s] w fun e w'=>e=.returned (AF (Bp s.data.toList))/\Qb w w':=by
 unfold maxLen at hs
 by_cases h0:4096<s.size
 ·have HF:Hid (Bp s.data.toList=(5,[],[])):=za (by unfold Bp;rw[if_pos (by rw[At];exact h0)])
  go_enter Tryz.func112,Tryz.ntmps112
  go_wp2_with fail
  exact bodyPost_ret (v:=AF (5,[],[])) (by simp[results,Tryz.results112,go_sem,AF,Bg]) rfl ⟨by rw[HF.out],(Qb.refl w).alloc _⟩
 have h0':s.size<=4096:=by omega
 by_cases h5:s.size<5
 ·have HF:Hid (Bp s.data.toList=(60,[],[])):=za (by unfold Bp;rw[if_neg (by rw[At];omega),if_pos (.inl (by rw[At];exact h5))]);clear h0
  go_enter Tryz.func112,Tryz.ntmps112
  go_wp2_with fail
  exact bodyPost_ret (v:=AF (60,[],[])) (by simp[results,Tryz.results112,go_sem,AF,Bg]) rfl ⟨by rw[HF.out],(Qb.refl w).alloc _⟩
 have h5':5<=s.size:=by omega
 have HX5:=za (FJ s 5);have hxl:(s.extract 0 5).data.toList=s.data.toList.take 5:=by rw[HX5.out]
 have HXD:=za (EI s 5);have HE:Hid (Bp s.data.toList=if AN (s.data.toList.take 5) FD=false then (60,[],[]) else if (Af 64 (s.data.toList.drop 5)).2.2=false then (6,[],[])
   else if (Aj (Af 64 (s.data.toList.drop 5)).1 Fm).1≠0\/Hi (Aj (Af 64 (s.data.toList.drop 5)).1 Fm).2=true then (80,[],[])
   else if (AK (Af 64 (s.data.toList.drop 5)).2.1).1≠0 then ((AK (Af 64 (s.data.toList.drop 5)).2.1).1,[],[])
   else (0,(Aj (Af 64 (s.data.toList.drop 5)).1 Fm).2,(AK (Af 64 (s.data.toList.drop 5)).2.1).2)):=za (by
  unfold Bp;rw[if_neg (by rw[At];omega)];have:∀p:Prop,(s.data.toList.length<5\/p)=p:=fun p=>by rw[At];exact propext ⟨fun h=>h.resolve_left h5,.inr⟩
  simp only[this])
 have hdl:(s.data.toList.drop 5).length<=4096:=by rw[zt,At];omega
 generalize s.data.toList.drop 5=d at *;obtain⟨p,q,b,hcut⟩:∃p q b,Af 64 d=(p,q,b):=⟨_,_,_,rfl⟩;obtain⟨ne,u,hn⟩:∃ne u,Aj p Fm=(ne,u):=⟨_,_,rfl⟩;obtain⟨he,h,hh⟩:∃he h,AK q=(he,h):=⟨_,_,rfl⟩;have HC:=za hcut;have HN:=za hn;have HH:=za hh;have hlens:=Dn 64 d;rw[hcut] at hlens;have hpl:p.length<=4096:=by have:=hlens.1;simp at this;omega
 have hql:q.length<=4096:=by have:=hlens.2;simp at this;omega
 have HI:Hid (Au d [64]=p.length):=za (by rw[Iw,hcut]);have HIX:Hid (Au d ({ data:=#[64] }:ByteArray).data.toList=p.length):=HI;have hE2:∀x,AN (s.data.toList.take 5) FD=x->Bp s.data.toList=if x=false then (60,[],[]) else if b=false then (6,[],[]) else if ne≠0\/Hi u=true then (80,[],[]) else if he≠0 then (he,[],[]) else (0,u,h):=fun x hx=>by
  rw[HE.out,hcut];simp only;rw[hn,hh,hx]
 have HE2:=za hE2;have hcl:=EU 64 d;rw[hcut] at hcl;simp only at hcl;have HCL:=za hcl;have hi:=Du 64 d;rw[hcut] at hi;have HCI:=za hi;clear hcut hn hh hE2 HE hlens h0 h5 hcl hi;rcases hx:AN (s.data.toList.take 5) FD with _|_
 ·have HEQ:Hid (AN (s.extract 0 5).data.toList ({ data:=#[97,99,99,116,58] }:ByteArray).data.toList=false):=za (by rw[hxl];exact hx);have HX:=za hx;clear hx hxl;have HF:Hid (Bp s.data.toList=(60,[],[])):=za (by rw[HE2.out _ HX.out];rfl)
  go_enter Tryz.func112,Tryz.ntmps112
  go_wp2_with fail
  refine(Ef _ _ _ (by unfold maxLen;rw[HX5.out,Am,zh];omega) (by decide)).mono ?_;rintro e w1 ⟨rfl,hqe⟩;rw[show AN (s.extract 0 5).data.toList ({ data:=#[97,99,99,116,58] }:ByteArray).data.toList=false from HEQ.out];have hk:=(AH.new w _ _).qb hqe;have hc0:=hk.cell 0;have hc1:=hk.cell 1;have hf0:=hk.frozen 0;have hf1:=hk.frozen 1;simp at hc0 hc1
  go_wp2_with fail
  exact bodyPost_ret (v:=AF (60,[],[])) (by simp[results,Tryz.results112,go_sem,hc0,hc1,hf0,hf1,AF,Bg]) rfl ⟨by rw[HF.out],((((Qb.refl w).alloc _).trans hqe).set (zd _) _).set (zd _) _⟩
 ·have HEQ:Hid (AN (s.extract 0 5).data.toList ({ data:=#[97,99,99,116,58] }:ByteArray).data.toList=true):=za (by rw[hxl];exact hx);have HX:=za hx;clear hx hxl;rcases b with _|_
  ·have hpd:p.length=d.length:=by rw[(HCL.out.2.2 rfl).1]
   have HF:Hid (Bp s.data.toList=(6,[],[])):=za (by rw[HE2.out _ HX.out];rfl)
   go_enter Tryz.func112,Tryz.ntmps112
   go_wp2_with fail
   refine(Ef _ _ _ (by unfold maxLen;rw[HX5.out,Am,zh];omega) (by decide)).mono ?_;rintro e w1 ⟨rfl,hqe⟩;rw[show AN (s.extract 0 5).data.toList ({ data:=#[97,99,99,116,58] }:ByteArray).data.toList=true from HEQ.out]
   go_wp2_with fail
   rw[HXD.out];refine(IP _ _ (by unfold maxLen;rw[Am];omega)).mono ?_;rintro e w2 ⟨rfl,hq2⟩;rw[Ao,HC.out];unfold BO;have hk:=(AH.new w _ _).qb (hqe.trans hq2);have hc0:=hk.cell 0;have hc1:=hk.cell 1;have hf0:=hk.frozen 0;have hf1:=hk.frozen 1;simp at hc0 hc1
   go_wp2_with fail
   exact bodyPost_ret (v:=AF (6,[],[])) (by simp[results,Tryz.results112,go_sem,hc0,hc1,hf0,hf1,AF,Bg]) rfl ⟨by rw[HF.out],((((Qb.refl w).alloc _).trans (hqe.trans hq2)).set (zd _) _).set (zd _) _⟩
  ·have hpd:=HCL.out.2.1 rfl;have hpq:p=d.take p.length/\q=d.drop (p.length+1):=by
    rcases HCI.out with ⟨_,h2,_⟩|⟨k,_,hk,h2,_⟩
    ·injection h2 with _ h2;injection h2 with _ h2;cases h2
    ·injection h2 with h2 h3;injection h3 with h3 _
     have:p.length=k:=by rw[h2,zh];omega
     rw[this];exact⟨h2,h3⟩
   have hxp:=FJ (S d) p.length;rw[Ao,<-hpq.1] at hxp;have hxq:=EI (S d) (p.length+1);rw[Ao,Am,<-hpq.2] at hxq;have HXP:=za hxp;have HXQ:=za hxq;have hpi:(p.length:Int)+1<=(d.length:Int):=by omega
   have hb1:((p.length:Int)==(d.length:Int))=false:=by rw[beq_eq_false_iff_ne];omega
   clear hpd hpq hxp hxq
   by_cases hne:ne=0
   ·subst hne;rcases u with _|⟨c,t⟩
    ·have HF:Hid (Bp s.data.toList=(80,[],[])):=za (by rw[HE2.out _ HX.out];rfl)
     go_enter Tryz.func112,Tryz.ntmps112
     go_wp2_with fail
     refine(Ef _ _ _ (by unfold maxLen;rw[HX5.out,Am,zh];omega) (by decide)).mono ?_;rintro e w1 ⟨rfl,hqe⟩;rw[show AN (s.extract 0 5).data.toList ({ data:=#[97,99,99,116,58] }:ByteArray).data.toList=true from HEQ.out]
     go_wp2_with fail
     rw[HXD.out];refine(IP _ _ (by unfold maxLen;rw[Am];omega)).mono ?_;rintro e w2 ⟨rfl,hq2⟩;rw[Ao,HC.out];unfold BO
     go_wp2_with fail
     refine(IA _ _ _).mono ?_;rintro e w3 ⟨rfl,hq3⟩;rw[Ao,show Aj p ({ data:=#[33,36,38,39,40,41,42,43,44,59,61] }:ByteArray).data.toList=_ from HN.out];unfold Bi;have hk:=(AH.new w _ _).qb ((hqe.trans hq2).trans hq3);have hc0:=hk.cell 0;have hc1:=hk.cell 1;have hf0:=hk.frozen 0;have hf1:=hk.frozen 1;simp at hc0 hc1
     go_wp2_with fail
     exact bodyPost_ret (v:=AF (80,[],[])) (by simp[results,Tryz.results112,go_sem,hc0,hc1,hf0,hf1,AF,Bg]) rfl ⟨by rw[HF.out],((((Qb.refl w).alloc _).trans ((hqe.trans hq2).trans hq3)).set (zd _) _).set (zd _) _⟩
    ·by_cases hc:c.toNat=37
     ·obtain rfl:c=37:=UInt8.toNat_inj.1 hc;clear hc;have HF:Hid (Bp s.data.toList=(80,[],[])):=za (by rw[HE2.out _ HX.out,if_neg (by simp),if_neg (by simp),if_pos (.inr rfl)])
      go_enter Tryz.func112,Tryz.ntmps112
      go_wp2_with fail
      refine(Ef _ _ _ (by unfold maxLen;rw[HX5.out,Am,zh];omega) (by decide)).mono ?_;rintro e w1 ⟨rfl,hqe⟩;rw[show AN (s.extract 0 5).data.toList ({ data:=#[97,99,99,116,58] }:ByteArray).data.toList=true from HEQ.out]
      go_wp2_with fail
      rw[HXD.out];refine(IP _ _ (by unfold maxLen;rw[Am];omega)).mono ?_;rintro e w2 ⟨rfl,hq2⟩;rw[Ao,HC.out];unfold BO
      go_wp2_with fail
      refine(IA _ _ _).mono ?_;rintro e w3 ⟨rfl,hq3⟩;rw[Ao,show Aj p ({ data:=#[33,36,38,39,40,41,42,43,44,59,61] }:ByteArray).data.toList=_ from HN.out];unfold Bi;have hk:=(AH.new w _ _).qb ((hqe.trans hq2).trans hq3);have hc0:=hk.cell 0;have hc1:=hk.cell 1;have hf0:=hk.frozen 0;have hf1:=hk.frozen 1;simp at hc0 hc1
      go_wp2_with fail
      exact bodyPost_ret (v:=AF (80,[],[])) (by simp[results,Tryz.results112,go_sem,hc0,hc1,hf0,hf1,AF,Bg]) rfl ⟨by rw[HF.out],((((Qb.refl w).alloc _).trans ((hqe.trans hq2).trans hq3)).set (zd _) _).set (zd _) _⟩
     ·have hb:((((S (c::t))[0]'(by rw[Am,zl];omega)).toNat:Int)==37)=false:=by
       show ((c.toNat:Int)==37)=false;rw[beq_eq_false_iff_ne];omega
      have hpl2:Hi (c::t)=false:=show (c.toNat==37)=false from by rw[beq_eq_false_iff_ne];exact hc
      have HPL:=za hpl2;clear hc hpl2
      by_cases hhe:he=0
      ·subst hhe;have HF:Hid (Bp s.data.toList=(0,c::t,h)):=za (by rw[HE2.out _ HX.out,if_neg (by simp),if_neg (by simp),if_neg (by rw[HPL.out];simp),if_neg (by simp)])
       go_enter Tryz.func112,Tryz.ntmps112
       go_wp2_with fail
       refine(Ef _ _ _ (by unfold maxLen;rw[HX5.out,Am,zh];omega) (by decide)).mono ?_;rintro e w1 ⟨rfl,hqe⟩;rw[show AN (s.extract 0 5).data.toList ({ data:=#[97,99,99,116,58] }:ByteArray).data.toList=true from HEQ.out]
       go_wp2_with fail
       rw[HXD.out];refine(IP _ _ (by unfold maxLen;rw[Am];omega)).mono ?_;rintro e w2 ⟨rfl,hq2⟩;rw[Ao,HC.out];unfold BO
       go_wp2_with fail
       refine(IA _ _ _).mono ?_;rintro e w3 ⟨rfl,hq3⟩;rw[Ao,show Aj p ({ data:=#[33,36,38,39,40,41,42,43,44,59,61] }:ByteArray).data.toList=_ from HN.out];unfold Bi
       go_wp2_with fail
       refine(FG (S q) _ (by unfold maxLen;rw[Am];omega)).mono ?_;rintro e w4 ⟨rfl,hq4⟩;rw[Ao,HH.out];unfold Bi;have hk:=(AH.new w _ _).qb (((hqe.trans hq2).trans hq3).trans hq4);have hc0:=hk.cell 0;have hc1:=hk.cell 1;have hf0:=hk.frozen 0;have hf1:=hk.frozen 1;simp at hc0 hc1
       go_wp2_with fail
       exact bodyPost_ret (v:=AF (0,c::t,h)) (by simp[results,Tryz.results112,go_sem,hc0,hc1,hf0,hf1,AF,Bg]) rfl ⟨by rw[HF.out],((((Qb.refl w).alloc _).trans (((hqe.trans hq2).trans hq3).trans hq4)).set (zd _) _).set (zd _) _⟩
      ·have hb2:(he != 0)=true:=bne_iff_ne.2 hhe;have HHE:=za hhe;clear hhe;have HF:Hid (Bp s.data.toList=(he,[],[])):=za (by rw[HE2.out _ HX.out,if_neg (by simp),if_neg (by simp),if_neg (by rw[HPL.out];simp),if_pos HHE.out])
       go_enter Tryz.func112,Tryz.ntmps112
       go_wp2_with fail
       refine(Ef _ _ _ (by unfold maxLen;rw[HX5.out,Am,zh];omega) (by decide)).mono ?_;rintro e w1 ⟨rfl,hqe⟩;rw[show AN (s.extract 0 5).data.toList ({ data:=#[97,99,99,116,58] }:ByteArray).data.toList=true from HEQ.out]
       go_wp2_with fail
       rw[HXD.out];refine(IP _ _ (by unfold maxLen;rw[Am];omega)).mono ?_;rintro e w2 ⟨rfl,hq2⟩;rw[Ao,HC.out];unfold BO
       go_wp2_with fail
       refine(IA _ _ _).mono ?_;rintro e w3 ⟨rfl,hq3⟩;rw[Ao,show Aj p ({ data:=#[33,36,38,39,40,41,42,43,44,59,61] }:ByteArray).data.toList=_ from HN.out];unfold Bi
       go_wp2_with fail
       refine(FG (S q) _ (by unfold maxLen;rw[Am];omega)).mono ?_;rintro e w4 ⟨rfl,hq4⟩;rw[Ao,HH.out];unfold Bi;have hk:=(AH.new w _ _).qb (((hqe.trans hq2).trans hq3).trans hq4);have hc0:=hk.cell 0;have hc1:=hk.cell 1;have hf0:=hk.frozen 0;have hf1:=hk.frozen 1;simp at hc0 hc1
       go_wp2_with fail
       exact bodyPost_ret (v:=AF (he,[],[])) (by simp[results,Tryz.results112,go_sem,hc0,hc1,hf0,hf1,AF,Bg]) rfl ⟨by rw[HF.out],((((Qb.refl w).alloc _).trans (((hqe.trans hq2).trans hq3).trans hq4)).set (zd _) _).set (zd _) _⟩
   ·have hb2:(ne != 0)=true:=bne_iff_ne.2 hne;have HNE:=za hne;clear hne;have HF:Hid (Bp s.data.toList=(80,[],[])):=za (by rw[HE2.out _ HX.out,if_neg (by simp),if_neg (by simp),if_pos (.inl HNE.out)])
    go_enter Tryz.func112,Tryz.ntmps112
    go_wp2_with fail
    refine(Ef _ _ _ (by unfold maxLen;rw[HX5.out,Am,zh];omega) (by decide)).mono ?_;rintro e w1 ⟨rfl,hqe⟩;rw[show AN (s.extract 0 5).data.toList ({ data:=#[97,99,99,116,58] }:ByteArray).data.toList=true from HEQ.out]
    go_wp2_with fail
    rw[HXD.out];refine(IP _ _ (by unfold maxLen;rw[Am];omega)).mono ?_;rintro e w2 ⟨rfl,hq2⟩;rw[Ao,HC.out];unfold BO
    go_wp2_with fail
    refine(IA _ _ _).mono ?_;rintro e w3 ⟨rfl,hq3⟩;rw[Ao,show Aj p ({ data:=#[33,36,38,39,40,41,42,43,44,59,61] }:ByteArray).data.toList=_ from HN.out];unfold Bi;have hk:=(AH.new w _ _).qb ((hqe.trans hq2).trans hq3);have hc0:=hk.cell 0;have hc1:=hk.cell 1;have hf0:=hk.frozen 0;have hf1:=hk.frozen 1;simp at hc0 hc1
    go_wp2_with fail
    exact bodyPost_ret (v:=AF (80,[],[])) (by simp[results,Tryz.results112,go_sem,hc0,hc1,hf0,hf1,AF,Bg]) rfl ⟨by rw[HF.out],((((Qb.refl w).alloc _).trans ((hqe.trans hq2).trans hq3)).set (zd _) _).set (zd _) _⟩
set_option maxHeartbeats 2000000 in
theorem eU (s:ByteArray) (w:World) (hs:s.size<=maxLen) :
  Calls Tryz.prog 49 #[.string s] w fun e w'=>e=.returned (AF (Bp s.data.toList))/\Qb w w':=by
 unfold maxLen at hs
 by_cases h0:4096<s.size
 ·have HF:Hid (Bp s.data.toList=(5,[],[])):=za (by unfold Bp;rw[if_pos (by rw[At];exact h0)])
  go_enter Tryz.func49,Tryz.ntmps49
  go_wp2_with fail
  exact bodyPost_ret (v:=AF (5,[],[])) (by simp[results,Tryz.results49,go_sem,AF,Bg]) rfl ⟨by rw[HF.out],(Qb.refl w).alloc _⟩
 have h0':s.size<=4096:=by omega
 by_cases h5:s.size<5
 ·have HF:Hid (Bp s.data.toList=(60,[],[])):=za (by unfold Bp;rw[if_neg (by rw[At];omega),if_pos (.inl (by rw[At];exact h5))]);clear h0
  go_enter Tryz.func49,Tryz.ntmps49
  go_wp2_with fail
  exact bodyPost_ret (v:=AF (60,[],[])) (by simp[results,Tryz.results49,go_sem,AF,Bg]) rfl ⟨by rw[HF.out],(Qb.refl w).alloc _⟩
 have h5':5<=s.size:=by omega
 have HX5:=za (FJ s 5);have hxl:(s.extract 0 5).data.toList=s.data.toList.take 5:=by rw[HX5.out]
 have HXD:=za (EI s 5);have HE:Hid (Bp s.data.toList=if AN (s.data.toList.take 5) FD=false then (60,[],[]) else if (Af 64 (s.data.toList.drop 5)).2.2=false then (6,[],[])
   else if (Aj (Af 64 (s.data.toList.drop 5)).1 Fm).1≠0\/Hi (Aj (Af 64 (s.data.toList.drop 5)).1 Fm).2=true then (80,[],[])
   else if (AK (Af 64 (s.data.toList.drop 5)).2.1).1≠0 then ((AK (Af 64 (s.data.toList.drop 5)).2.1).1,[],[])
   else (0,(Aj (Af 64 (s.data.toList.drop 5)).1 Fm).2,(AK (Af 64 (s.data.toList.drop 5)).2.1).2)):=za (by
  unfold Bp;rw[if_neg (by rw[At];omega)];have:∀p:Prop,(s.data.toList.length<5\/p)=p:=fun p=>by rw[At];exact propext ⟨fun h=>h.resolve_left h5,.inr⟩
  simp only[this])
 have hdl:(s.data.toList.drop 5).length<=4096:=by rw[zt,At];omega
 generalize s.data.toList.drop 5=d at *;obtain⟨p,q,b,hcut⟩:∃p q b,Af 64 d=(p,q,b):=⟨_,_,_,rfl⟩;obtain⟨ne,u,hn⟩:∃ne u,Aj p Fm=(ne,u):=⟨_,_,rfl⟩;obtain⟨he,h,hh⟩:∃he h,AK q=(he,h):=⟨_,_,rfl⟩;have HC:=za hcut;have HN:=za hn;have HH:=za hh;have hlens:=Dn 64 d;rw[hcut] at hlens;have hpl:p.length<=4096:=by have:=hlens.1;simp at this;omega
 have hql:q.length<=4096:=by have:=hlens.2;simp at this;omega
 have HI:Hid (Au d [64]=p.length):=za (by rw[Iw,hcut]);have HIX:Hid (Au d ({ data:=#[64] }:ByteArray).data.toList=p.length):=HI;have hE2:∀x,AN (s.data.toList.take 5) FD=x->Bp s.data.toList=if x=false then (60,[],[]) else if b=false then (6,[],[]) else if ne≠0\/Hi u=true then (80,[],[]) else if he≠0 then (he,[],[]) else (0,u,h):=fun x hx=>by
  rw[HE.out,hcut];simp only;rw[hn,hh,hx]
 have HE2:=za hE2;have hcl:=EU 64 d;rw[hcut] at hcl;simp only at hcl;have HCL:=za hcl;have hi:=Du 64 d;rw[hcut] at hi;have HCI:=za hi;clear hcut hn hh hE2 HE hlens h0 h5 hcl hi;rcases hx:AN (s.data.toList.take 5) FD with _|_
 ·have HEQ:Hid (AN (s.extract 0 5).data.toList ({ data:=#[97,99,99,116,58] }:ByteArray).data.toList=false):=za (by rw[hxl];exact hx);have HX:=za hx;clear hx hxl;have HF:Hid (Bp s.data.toList=(60,[],[])):=za (by rw[HE2.out _ HX.out];rfl)
  go_enter Tryz.func49,Tryz.ntmps49
  go_wp2_with fail
  refine(E2 _ _ _ (by rw[HX5.out,Am,zh];omega) (by decide)).mono ?_;rintro e w1 ⟨rfl,hqe⟩;rw[show AN (s.extract 0 5).data.toList ({ data:=#[97,99,99,116,58] }:ByteArray).data.toList=false from HEQ.out];have hk:=(AH.new w _ _).qb hqe;have hc0:=hk.cell 0;have hc1:=hk.cell 1;have hf0:=hk.frozen 0;have hf1:=hk.frozen 1;simp at hc0 hc1
  go_wp2_with fail
  exact bodyPost_ret (v:=AF (60,[],[])) (by simp[results,Tryz.results49,go_sem,hc0,hc1,hf0,hf1,AF,Bg]) rfl ⟨by rw[HF.out],((((Qb.refl w).alloc _).trans hqe).set (zd _) _).set (zd _) _⟩
 ·have HEQ:Hid (AN (s.extract 0 5).data.toList ({ data:=#[97,99,99,116,58] }:ByteArray).data.toList=true):=za (by rw[hxl];exact hx);have HX:=za hx;clear hx hxl;rcases b with _|_
  ·have hpd:p.length=d.length:=by rw[(HCL.out.2.2 rfl).1]
   have HF:Hid (Bp s.data.toList=(6,[],[])):=za (by rw[HE2.out _ HX.out];rfl);have hb1:((p.length:Int)==(d.length:Int))=true:=by rw[beq_iff_eq];omega
   clear hpd
   go_enter Tryz.func49,Tryz.ntmps49
   go_wp2_with fail
   refine(E2 _ _ _ (by rw[HX5.out,Am,zh];omega) (by decide)).mono ?_;rintro e w1 ⟨rfl,hqe⟩;rw[show AN (s.extract 0 5).data.toList ({ data:=#[97,99,99,116,58] }:ByteArray).data.toList=true from HEQ.out]
   go_wp2_with fail
   rw[HXD.out];refine(E3 _ _ _ (by unfold maxLen;rw[Am];omega) (by decide)).mono ?_;rintro e w2 ⟨rfl,rfl⟩;rw[Ao,show Au d ({ data:=#[64] }:ByteArray).data.toList=p.length from HIX.out];have hk:=(AH.new w _ _).qb hqe;have hc0:=hk.cell 0;have hc1:=hk.cell 1;have hf0:=hk.frozen 0;have hf1:=hk.frozen 1;simp at hc0 hc1
   go_wp2_with fail
   exact bodyPost_ret (v:=AF (6,[],[])) (by simp[results,Tryz.results49,go_sem,hc0,hc1,hf0,hf1,AF,Bg]) rfl ⟨by rw[HF.out],((((Qb.refl w).alloc _).trans hqe).set (zd _) _).set (zd _) _⟩
  ·have hpd:=HCL.out.2.1 rfl;have hpq:p=d.take p.length/\q=d.drop (p.length+1):=by
    rcases HCI.out with ⟨_,h2,_⟩|⟨k,_,hk,h2,_⟩
    ·injection h2 with _ h2;injection h2 with _ h2;cases h2
    ·injection h2 with h2 h3;injection h3 with h3 _
     have:p.length=k:=by rw[h2,zh];omega
     rw[this];exact⟨h2,h3⟩
   have hxp:=FJ (S d) p.length;rw[Ao,<-hpq.1] at hxp;have hxq:=EI (S d) (p.length+1);rw[Ao,Am,<-hpq.2] at hxq;have HXP:=za hxp;have HXQ:=za hxq;have hpi:(p.length:Int)+1<=(d.length:Int):=by omega
   have hb1:((p.length:Int)==(d.length:Int))=false:=by rw[beq_eq_false_iff_ne];omega
   clear hpd hpq hxp hxq
   by_cases hne:ne=0
   ·subst hne;rcases u with _|⟨c,t⟩
    ·have HF:Hid (Bp s.data.toList=(80,[],[])):=za (by rw[HE2.out _ HX.out];rfl)
     go_enter Tryz.func49,Tryz.ntmps49
     go_wp2_with fail
     refine(E2 _ _ _ (by rw[HX5.out,Am,zh];omega) (by decide)).mono ?_;rintro e w1 ⟨rfl,hqe⟩;rw[show AN (s.extract 0 5).data.toList ({ data:=#[97,99,99,116,58] }:ByteArray).data.toList=true from HEQ.out]
     go_wp2_with fail
     rw[HXD.out];refine(E3 _ _ _ (by unfold maxLen;rw[Am];omega) (by decide)).mono ?_;rintro e w2 ⟨rfl,rfl⟩;rw[Ao,show Au d ({ data:=#[64] }:ByteArray).data.toList=p.length from HIX.out]
     go_wp2_with fail
     rw[HXP.out];refine(IC _ _ _ (by decide)).mono ?_;rintro e w3 ⟨rfl,hq3⟩;rw[Ao,show Aj p ({ data:=#[33,36,38,39,40,41,42,43,44,59,61] }:ByteArray).data.toList=_ from HN.out];unfold Bi;have hk:=(AH.new w _ _).qb (hqe.trans hq3);have hc0:=hk.cell 0;have hc1:=hk.cell 1;have hf0:=hk.frozen 0;have hf1:=hk.frozen 1;simp at hc0 hc1
     go_wp2_with fail
     exact bodyPost_ret (v:=AF (80,[],[])) (by simp[results,Tryz.results49,go_sem,hc0,hc1,hf0,hf1,AF,Bg]) rfl ⟨by rw[HF.out],((((Qb.refl w).alloc _).trans (hqe.trans hq3)).set (zd _) _).set (zd _) _⟩
    ·by_cases hc:c.toNat=37
     ·obtain rfl:c=37:=UInt8.toNat_inj.1 hc;clear hc;have HF:Hid (Bp s.data.toList=(80,[],[])):=za (by rw[HE2.out _ HX.out,if_neg (by simp),if_neg (by simp),if_pos (.inr rfl)])
      go_enter Tryz.func49,Tryz.ntmps49
      go_wp2_with fail
      refine(E2 _ _ _ (by rw[HX5.out,Am,zh];omega) (by decide)).mono ?_;rintro e w1 ⟨rfl,hqe⟩;rw[show AN (s.extract 0 5).data.toList ({ data:=#[97,99,99,116,58] }:ByteArray).data.toList=true from HEQ.out]
      go_wp2_with fail
      rw[HXD.out];refine(E3 _ _ _ (by unfold maxLen;rw[Am];omega) (by decide)).mono ?_;rintro e w2 ⟨rfl,rfl⟩;rw[Ao,show Au d ({ data:=#[64] }:ByteArray).data.toList=p.length from HIX.out]
      go_wp2_with fail
      rw[HXP.out];refine(IC _ _ _ (by decide)).mono ?_;rintro e w3 ⟨rfl,hq3⟩;rw[Ao,show Aj p ({ data:=#[33,36,38,39,40,41,42,43,44,59,61] }:ByteArray).data.toList=_ from HN.out];unfold Bi;have hk:=(AH.new w _ _).qb (hqe.trans hq3);have hc0:=hk.cell 0;have hc1:=hk.cell 1;have hf0:=hk.frozen 0;have hf1:=hk.frozen 1;simp at hc0 hc1
      go_wp2_with fail
      exact bodyPost_ret (v:=AF (80,[],[])) (by simp[results,Tryz.results49,go_sem,hc0,hc1,hf0,hf1,AF,Bg]) rfl ⟨by rw[HF.out],((((Qb.refl w).alloc _).trans (hqe.trans hq3)).set (zd _) _).set (zd _) _⟩
     ·have hb:((((S (c::t))[0]'(by rw[Am,zl];omega)).toNat:Int)==37)=false:=by
       show ((c.toNat:Int)==37)=false;rw[beq_eq_false_iff_ne];omega
      have hpl2:Hi (c::t)=false:=show (c.toNat==37)=false from by rw[beq_eq_false_iff_ne];exact hc
      have HPL:=za hpl2;clear hc hpl2
      by_cases hhe:he=0
      ·subst hhe;have HF:Hid (Bp s.data.toList=(0,c::t,h)):=za (by rw[HE2.out _ HX.out,if_neg (by simp),if_neg (by simp),if_neg (by rw[HPL.out];simp),if_neg (by simp)])
       go_enter Tryz.func49,Tryz.ntmps49
       go_wp2_with fail
       refine(E2 _ _ _ (by rw[HX5.out,Am,zh];omega) (by decide)).mono ?_;rintro e w1 ⟨rfl,hqe⟩;rw[show AN (s.extract 0 5).data.toList ({ data:=#[97,99,99,116,58] }:ByteArray).data.toList=true from HEQ.out]
       go_wp2_with fail
       rw[HXD.out];refine(E3 _ _ _ (by unfold maxLen;rw[Am];omega) (by decide)).mono ?_;rintro e w2 ⟨rfl,rfl⟩;rw[Ao,show Au d ({ data:=#[64] }:ByteArray).data.toList=p.length from HIX.out]
       go_wp2_with fail
       rw[HXP.out];refine(IC _ _ _ (by decide)).mono ?_;rintro e w3 ⟨rfl,hq3⟩;rw[Ao,show Aj p ({ data:=#[33,36,38,39,40,41,42,43,44,59,61] }:ByteArray).data.toList=_ from HN.out];unfold Bi
       go_wp2_with fail
       rw[HXQ.out];refine(IB (S q) _ (by rw[Am];omega)).mono ?_;rintro e w4 ⟨rfl,hq4⟩;rw[Ao,HH.out];unfold Bi;have hk:=(AH.new w _ _).qb ((hqe.trans hq3).trans hq4);have hc0:=hk.cell 0;have hc1:=hk.cell 1;have hf0:=hk.frozen 0;have hf1:=hk.frozen 1;simp at hc0 hc1
       go_wp2_with fail
       exact bodyPost_ret (v:=AF (0,c::t,h)) (by simp[results,Tryz.results49,go_sem,hc0,hc1,hf0,hf1,AF,Bg]) rfl ⟨by rw[HF.out],((((Qb.refl w).alloc _).trans ((hqe.trans hq3).trans hq4)).set (zd _) _).set (zd _) _⟩
      ·have hb2:(he != 0)=true:=bne_iff_ne.2 hhe;have HHE:=za hhe;clear hhe;have HF:Hid (Bp s.data.toList=(he,[],[])):=za (by rw[HE2.out _ HX.out,if_neg (by simp),if_neg (by simp),if_neg (by rw[HPL.out];simp),if_pos HHE.out])
       go_enter Tryz.func49,Tryz.ntmps49
       go_wp2_with fail
       refine(E2 _ _ _ (by rw[HX5.out,Am,zh];omega) (by decide)).mono ?_;rintro e w1 ⟨rfl,hqe⟩;rw[show AN (s.extract 0 5).data.toList ({ data:=#[97,99,99,116,58] }:ByteArray).data.toList=true from HEQ.out]
       go_wp2_with fail
       rw[HXD.out];refine(E3 _ _ _ (by unfold maxLen;rw[Am];omega) (by decide)).mono ?_;rintro e w2 ⟨rfl,rfl⟩;rw[Ao,show Au d ({ data:=#[64] }:ByteArray).data.toList=p.length from HIX.out]
       go_wp2_with fail
       rw[HXP.out];refine(IC _ _ _ (by decide)).mono ?_;rintro e w3 ⟨rfl,hq3⟩;rw[Ao,show Aj p ({ data:=#[33,36,38,39,40,41,42,43,44,59,61] }:ByteArray).data.toList=_ from HN.out];unfold Bi
       go_wp2_with fail
       rw[HXQ.out];refine(IB (S q) _ (by rw[Am];omega)).mono ?_;rintro e w4 ⟨rfl,hq4⟩;rw[Ao,HH.out];unfold Bi;have hk:=(AH.new w _ _).qb ((hqe.trans hq3).trans hq4);have hc0:=hk.cell 0;have hc1:=hk.cell 1;have hf0:=hk.frozen 0;have hf1:=hk.frozen 1;simp at hc0 hc1
       go_wp2_with fail
       exact bodyPost_ret (v:=AF (he,[],[])) (by simp[results,Tryz.results49,go_sem,hc0,hc1,hf0,hf1,AF,Bg]) rfl ⟨by rw[HF.out],((((Qb.refl w).alloc _).trans ((hqe.trans hq3).trans hq4)).set (zd _) _).set (zd _) _⟩
   ·have hb2:(ne != 0)=true:=bne_iff_ne.2 hne;have HNE:=za hne;clear hne;have HF:Hid (Bp s.data.toList=(80,[],[])):=za (by rw[HE2.out _ HX.out,if_neg (by simp),if_neg (by simp),if_pos (.inl HNE.out)])
    go_enter Tryz.func49,Tryz.ntmps49
    go_wp2_with fail
    refine(E2 _ _ _ (by rw[HX5.out,Am,zh];omega) (by decide)).mono ?_;rintro e w1 ⟨rfl,hqe⟩;rw[show AN (s.extract 0 5).data.toList ({ data:=#[97,99,99,116,58] }:ByteArray).data.toList=true from HEQ.out]
    go_wp2_with fail
    rw[HXD.out];refine(E3 _ _ _ (by unfold maxLen;rw[Am];omega) (by decide)).mono ?_;rintro e w2 ⟨rfl,rfl⟩;rw[Ao,show Au d ({ data:=#[64] }:ByteArray).data.toList=p.length from HIX.out]
    go_wp2_with fail
    rw[HXP.out];refine(IC _ _ _ (by decide)).mono ?_;rintro e w3 ⟨rfl,hq3⟩;rw[Ao,show Aj p ({ data:=#[33,36,38,39,40,41,42,43,44,59,61] }:ByteArray).data.toList=_ from HN.out];unfold Bi;have hk:=(AH.new w _ _).qb (hqe.trans hq3);have hc0:=hk.cell 0;have hc1:=hk.cell 1;have hf0:=hk.frozen 0;have hf1:=hk.frozen 1;simp at hc0 hc1
    go_wp2_with fail
    exact bodyPost_ret (v:=AF (80,[],[])) (by simp[results,Tryz.results49,go_sem,hc0,hc1,hf0,hf1,AF,Bg]) rfl ⟨by rw[HF.out],((((Qb.refl w).alloc _).trans (hqe.trans hq3)).set (zd _) _).set (zd _) _⟩
def Nz:List UInt8:=[33,35,36,37,38,39,42,43,45,47,61,63,94,95,96,123,124,125,126]
def DU (c:UInt8):Bool:=Ca c||AC c||Aw c Nz
def CZ:Bool->List UInt8->Bool
 | ad,[]=>!ad
 | ad,c::t=>if c=46 then !ad&&CZ true t else DU c&&CZ false t
def CJ (l:List UInt8):Bool:=decide (l.length<=64)&&CZ true l
def En (l:List UInt8):Bool:=!l.isEmpty&&l.all DU
theorem Q1 (ad:Bool) (c:UInt8) (t:List UInt8):CZ ad (c::t)=if c=46 then !ad&&CZ true t else DU c&&CZ false t:=rfl
theorem R1:∀(l p:List UInt8) (ps:List (List UInt8)),Ap 46 l=p::ps->CZ true l=(En p&&ps.all En)/\CZ false l=(p.all DU&&ps.all En)
 | [],p,ps,h=>by
  rw[Ap] at h;injection h with h1 h2;subst h1 h2;exact⟨rfl,rfl⟩
 | c::t,p,ps,h=>by
  obtain⟨q,qs,e⟩:=Cp 46 t;obtain⟨i1,i2⟩:=R1 t q qs e;rw[C7,e] at h;rw[Q1,Q1]
  by_cases hc:c=46
  ·rw[if_pos hc] at h;rw[if_pos hc,if_pos hc,i1];injection h with h1 h2
   subst h1 h2;simp[En]
  ·rw[if_neg hc] at h;rw[if_neg hc,if_neg hc,i2];injection h with h1 h2
   subst h1 h2;simp[En,Bool.and_assoc]
theorem fE (l:List UInt8):CZ true l=(Ap 46 l).all En:=by
 obtain⟨q,qs,e⟩:=Cp 46 l;rw[(R1 l q qs e).1,e];rfl
theorem NW (c:UInt8) (s:ByteArray) (w:World) :
  Calls Tryz.prog 165 #[.int .u8 c.toNat,.string s] w fun e w'=>e=.returned (.bool (Aw c s.data.toList))/\w=w':=by
 go_enter Tryz.func165,Tryz.ntmps165
 go_wp2_with (go_at_call 169;refine(Tryz.strings_IndexByte _ _ _).mono ?_;rintro e w' ⟨rfl,rfl⟩)
 go_ret
 exact⟨AO (by unfold Aw;rw[Lib.contains_iff_indexByte]),rfl⟩
theorem Tb (c:UInt8) (w:World) :
  Calls Tryz.prog 203 #[.int .u8 c.toNat] w fun e w'=>e=.returned (.bool (DU c))/\w=w':=by
 go_enter Tryz.func203,Tryz.ntmps203
 go_wp2_with (first|(go_at_call 206;refine(EW _ _).mono ?_;rintro e w' ⟨rfl,rfl⟩)|(go_at_call 177;refine(Eg _ _).mono ?_;rintro e w' ⟨rfl,rfl⟩)|(go_at_call 165;refine(NW _ _ _).mono ?_;rintro e w' ⟨rfl,rfl⟩))
 all_goals go_ret
 all_goals exact⟨AO (by simp_all [DU,Nz]),rfl⟩
theorem St (c:UInt8) (w:World) :
  Calls Tryz.prog 96 #[.int .u8 c.toNat] w fun e w'=>e=.returned (.bool (DU c))/\w=w':=by
 go_enter Tryz.func96,Tryz.ntmps96
 go_wp2_with (first|(go_at_call 93;refine(EY _ _).mono ?_;rintro e w' ⟨rfl,rfl⟩)|(go_at_call 94;refine(EZ _ _).mono ?_;rintro e w' ⟨rfl,rfl⟩)|(go_at_call 66;refine(DY _ _ _ (by decide)).mono ?_;rintro e w' ⟨rfl,rfl⟩))
 all_goals go_ret
 all_goals exact⟨AO (by simp_all [DU,Nz]),rfl⟩
theorem R5 (s:ByteArray) (w:World) (hs:s.size<=maxLen) :
  Calls Tryz.prog 166 #[.string s] w fun e w'=>e=.returned (.bool (CJ s.data.toList))/\w=w':=by
 have hm:=hs;unfold maxLen at hm;have hsz:=At s
 by_cases h64:64<s.size
 ·have HF:Hid (CJ s.data.toList=false):=za (by unfold CJ;rw[hsz,decide_eq_false (by omega)];rfl)
  go_enter Tryz.func166,Tryz.ntmps166
  go_wp2_with fail
  go_ret
  exact⟨AO (by rw[HF.out]),rfl⟩
 ·have HF:Hid (CJ s.data.toList=CZ true s.data.toList):=za (by unfold CJ;rw[hsz,decide_eq_true (by omega)];rfl)
  go_enter Tryz.func166,Tryz.ntmps166
  go_wp2_with fail
  go_loop [3,4,5,11] (fun a _ _ i=>∃(k:Nat) (b:Bool),k<=s.size/\i=.int .i64 k/\a=.bool b/\Hid (CZ true s.data.toList=CZ b (s.data.toList.drop k))) (fun _ _ _ i=>s.size - (intOf i).toNat)
  case atStart=>exact⟨0,true,ze _,rfl,rfl,za (by simp)⟩
  case round=>
   obtain⟨k,b,hk,rfl,rfl,HT⟩:=hrel
   by_cases hlt:k<s.size
   ·have hd:Hid (CZ b (s.data.toList.drop k)=if s[k]=46 then !b&&CZ true (s.data.toList.drop (k+1)) else DU s[k]&&CZ false (s.data.toList.drop (k+1))):=za (by rw[Df s k hlt];rfl)
    by_cases hc:s[k]=46
    ·have hb:((s[k].toNat:Int)==46)=true:=by rw[hc];rfl
     rcases b with _|_
     ·have HN:Hid (CZ true s.data.toList=CZ true (s.data.toList.drop (k+1))):=za (by rw[HT.out,hd.out,if_pos hc];rfl);clear hc hd
      go_wp2_with fail
      go_round
      case rel=>exact⟨k+1,true,by omega,by go_num,rfl,HN⟩
      case measure=>simp[intOf];omega
     ·have HN:Hid (CZ true s.data.toList=false):=za (by rw[HT.out,hd.out,if_pos hc];rfl);clear hc hd
      go_wp2_with fail
      go_ret
      exact⟨AO (by rw[HF.out,HN.out]),rfl⟩
    ·have hb:((s[k].toNat:Int)==46)=false:=by
      rw[beq_eq_false_iff_ne];intro e;exact hc (UInt8.toNat_inj.1 (by have:(46:UInt8).toNat=46:=rfl;omega))
     rcases ha:DU s[k] with _|_
     ·have HN:Hid (CZ true s.data.toList=false):=za (by rw[HT.out,hd.out,if_neg hc,ha];rfl);have H1:=za ha;clear hc hd ha
      go_wp2_with fail
      refine(Tb _ _).mono ?_;rintro e w' ⟨rfl,rfl⟩;rw[H1.out]
      go_wp2_with fail
      go_ret
      exact⟨AO (by rw[HF.out,HN.out]),rfl⟩
     ·have HN:Hid (CZ true s.data.toList=CZ false (s.data.toList.drop (k+1))):=za (by rw[HT.out,hd.out,if_neg hc,ha];rfl);have H1:=za ha;clear hc hd ha
      go_wp2_with fail
      refine(Tb _ _).mono ?_;rintro e w' ⟨rfl,rfl⟩;rw[H1.out]
      go_wp2_with fail
      go_round
      case rel=>exact⟨k+1,false,by omega,by go_num,rfl,HN⟩
      case measure=>simp[intOf];omega
   ·obtain rfl:k=s.size:=by omega
    have HN:Hid (CZ true s.data.toList=!b):=za (by rw[HT.out,List.drop_of_length_le (by omega)];rfl)
    go_wp2_with fail
    go_ret
    exact⟨AO (by rw[HF.out,HN.out]),rfl⟩
theorem Lw (s:ByteArray) (w:World) (hs:s.size<=1000000) :
  Calls Tryz.prog 72 #[.string s] w fun e w'=>e=.returned (.bool (CJ s.data.toList))/\Qb w w':=by
 have hsz:=At s
 by_cases h0:s.size=0
 ·have HF:Hid (CJ s.data.toList=false):=za (by rw[qh (hsz.trans h0)];rfl);obtain rfl:s=S []:=by rw[<-G4 s,qh (hsz.trans h0)]
  go_enter Tryz.func72,Tryz.ntmps72
  go_wp2_with fail
  go_ret
  exact⟨AO (by rw[HF.out]),Qb.refl w⟩
 ·have hpos0:0<s.size:=by omega
  have hne:=Lu hpos0
  by_cases h64:64<s.size
  ·have HF:Hid (CJ s.data.toList=false):=za (by unfold CJ;rw[hsz,decide_eq_false (by omega)];rfl)
   go_enter Tryz.func72,Tryz.ntmps72
   go_wp2_with fail
   go_ret
   exact⟨AO (by rw[HF.out]),Qb.refl w⟩
  ·have HF:Hid (CJ s.data.toList=(Ap 46 s.data.toList).all En):=za (by unfold CJ;rw[hsz,decide_eq_true (by omega),fE];rfl);have hpos:=E4 46 s.data.toList;have hlen:=IM 46 s.data.toList;have hparts:∀(k:Nat) (h:k<(Ap 46 s.data.toList).length),((Ap 46 s.data.toList)[k]).length<=1000000:=fun k h=>by
    have:=Gb 46 s.data.toList _ (List.getElem_mem h);omega
   rw[At] at hlen;have HP:=za hparts;clear hparts
   go_enter Tryz.func72,Tryz.ntmps72
   go_wp2_with fail
   refine(Lx s 46 _ hs).mono ?_;rintro e w1 ⟨v,rfl,hrow,hq1⟩;generalize Ap 46 s.data.toList=ls at *;obtain⟨g,cap,rfl,hg0,hg1,hcap⟩:=hrow.form hpos;have HR:=za hrow;clear hrow
   go_wp2_with fail
   go_loop [4,5,16] (fun _ _ i=>∃k:Nat,k<=ls.length/\i=.int .i64 k/\Hid ((ls.take k).all En=true)) (fun _ _ i=>ls.length - (intOf i).toNat)
   case atStart=>exact⟨0,ze _,rfl,za rfl⟩
   case round=>
    obtain⟨k,hk,rfl,HT⟩:=hrel
    by_cases hlt:k<ls.length
    ·have hcell:=HR.out.cell k hlt;have hsx:=HP.out k hlt;have HS:=za (JI En ls k hlt);have HA:=za (JP En ls (k+1));generalize ls[k]=x at *;rcases x with _|⟨c,t⟩
     ·have HB2:Hid (CJ s.data.toList=false):=za (by rw[HF.out,HA.out (by rw[HS.out];simp[En])])
      go_wp2_with fail
      go_ret
      exact⟨AO (by rw[HB2.out]),hq1⟩
     ·obtain⟨x,hx⟩:∃x,x=c::t:=⟨_,rfl⟩;rw[<-hx] at hcell hsx HS;have hxe:x.isEmpty=false:=by rw[hx];rfl
      have HX:Hid (En x=x.all DU):=za (by unfold En;rw[hxe];rfl);clear hx
      go_wp2_with fail
      go_loop [5] (fun i=>∃j:Nat,j<=x.length/\i=.int .i64 j/\Hid ((x.take j).all DU=true)) (fun i=>x.length - (intOf i).toNat)
      case atStart=>exact⟨0,ze _,rfl,za rfl⟩
      case round=>
       obtain⟨j,hj,rfl,HJ⟩:=hrel
       by_cases hl2:j<x.length
       ·have HS2:=za (JI DU x j hl2);have HA2:=za (JP DU x (j+1));have hS:Hid (∀h,(S x)[j]'h=x[j]):=za (fun h=>rfl);rcases ha:DU x[j] with _|_
        ·have HB2:Hid (CJ s.data.toList=false):=za (by rw[HF.out,HA.out (by rw[HS.out,HX.out,HA2.out (by rw[HS2.out,ha,Bool.and_false]),Bool.and_false])]);have H1:=za ha;clear ha
         go_wp2_with fail
         refine(St _ _).mono ?_;rintro e w2 ⟨rfl,rfl⟩;rw[hS.out,H1.out]
         go_wp2_with fail
         go_ret
         exact⟨AO (by rw[HB2.out]),hq1⟩
        ·have HJ2:Hid ((x.take (j+1)).all DU=true):=za (by rw[HS2.out,ha,HJ.out];rfl);have H1:=za ha;clear ha
         go_wp2_with fail
         refine(St _ _).mono ?_;rintro e w2 ⟨rfl,rfl⟩;rw[hS.out,H1.out]
         go_wp2_with fail
         go_round
         case rel=>exact⟨j+1,by omega,by go_num,HJ2⟩
         case measure=>simp[intOf];omega
       ·obtain rfl:j=x.length:=by omega
        have HT2:Hid ((ls.take (k+1)).all En=true):=za (by
         have:=HJ.out;rw[qc] at this;rw[HS.out,HT.out,HX.out,this];rfl)
        go_wp2_with fail
        go_round
        case rel=>exact⟨k+1,by omega,by go_num,HT2⟩
        case measure=>simp[intOf];omega
    ·obtain rfl:k=ls.length:=by omega
     have HB2:Hid (CJ s.data.toList=true):=za (by
      have:=HT.out;rw[qc] at this;rw[HF.out,this])
     go_wp2_with fail
     go_ret
     exact⟨AO (by rw[HB2.out]),hq1⟩
theorem M7:∀(l:List UInt8) (n:Nat) (out:List UInt8),(Al AS n l out).2.length<=out.length+l.length
 | [],n,out=>by cases n<;>simp[Al]
 | c::t,0,out=>by
  rw[Al];have i1:=M7 t
  split
  ·split
   ·rw[if_pos (show (AS out (A1 (c::t)) true).1=0 from rfl)];exact Nat.le_trans (i1 2 _) (by simp[AS];omega)
   ·simp
  ·rw[if_pos (show (AS out c false).1=0 from rfl)];exact Nat.le_trans (i1 0 _) (by simp[AS];omega)
 | c::t,n+1,out=>by
  rw[Al];have:=M7 t n out;simp at this ⊢;omega
theorem Rl (l:List UInt8):(An l).2.length<=l.length:=by
 unfold An B3
 split
 ·simp
 ·have:=M7 l 0 [];simpa using this
def CI:List UInt8:=[33,36,39,42,43]
def C2 (c:UInt8):Bool:=A8 c||Aw c [37,33,36,39,42,43]
def BV (l:List UInt8):Int×List UInt8 :=
 if l.all C2=false then (1,[])
 else if (An l).1≠0 then ((An l).1,[])
 else if CJ (An l).2=false then (80,[])
 else (0,(An l).2)
theorem LK (s:ByteArray) (w:World) (hs:s.size<=1000000) :
  Calls Tryz.prog 139 #[.string s] w fun e w'=>e=.returned (Bi (BV s.data.toList))/\Qb w w':=by
 obtain⟨er,d,hD⟩:∃er d,An s.data.toList=(er,d):=⟨_,_,rfl⟩;have hdl:d.length<=s.size:=by have:=Rl s.data.toList;rw[hD,At] at this;exact this
 have HD:=za hD;have HL:Hid (s.data.toList.all C2=true->BV s.data.toList=if er≠0 then (er,[]) else if CJ d=false then (80,[]) else (0,d)):=za (fun h=>by unfold BV;rw[hD,h];rfl);have HL1:Hid (s.data.toList.all C2=false->BV s.data.toList=(1,[])):=za (fun h=>by unfold BV;rw[if_pos h]);clear hD
 go_enter Tryz.func139,Tryz.ntmps139
 go_wp2_with fail
 go_loop [4,9] (fun _ i=>∃k:Nat,k<=s.size/\i=.int .i64 k/\Hid ((s.data.toList.take k).all C2=true)) (fun _ i=>s.size - (intOf i).toNat)
 case atStart=>exact⟨0,ze _,rfl,za rfl⟩
 case round=>
  obtain⟨k,hk,rfl,HT⟩:=hrel
  by_cases hlt:k<s.size
  ·have hst:C2 s[k]=true->Hid ((s.data.toList.take (k+1)).all C2=true):=fun h=>za (by rw[ES _ _ _ hlt,h,HT.out];rfl);have hbad:C2 s[k]=false->Hid (s.data.toList.all C2=false):=fun h=>za (GV _ _ (k+1) (by rw[ES _ _ _ hlt,h,Bool.and_false]));rcases ha:A8 s[k] with _|_
   ·rcases hb:Aw s[k] [37,33,36,39,42,43] with _|_
    ·have HN:=hbad (by unfold C2;rw[ha,hb];rfl);have H1:=za ha;have H2:=za hb;clear ha hb hst hbad
     go_wp2_with fail
     refine(HZ _ _).mono ?_;rintro e w' ⟨rfl,rfl⟩;rw[H1.out]
     go_wp2_with fail
     refine(NW _ _ _).mono ?_;rintro e w' ⟨rfl,rfl⟩;rw[show Aw s[k] ({ data:=#[37,33,36,39,42,43] }:ByteArray).data.toList=false from H2.out]
     go_wp2_with fail
     go_ret2
     exact⟨by rw[HL1.out HN.out];rfl,Qb.refl w⟩
    ·have HN:=hst (by unfold C2;rw[ha,hb];rfl);have H1:=za ha;have H2:=za hb;clear ha hb hst hbad
     go_wp2_with fail
     refine(HZ _ _).mono ?_;rintro e w' ⟨rfl,rfl⟩;rw[H1.out]
     go_wp2_with fail
     refine(NW _ _ _).mono ?_;rintro e w' ⟨rfl,rfl⟩;rw[show Aw s[k] ({ data:=#[37,33,36,39,42,43] }:ByteArray).data.toList=true from H2.out]
     go_wp2_with fail
     go_round
     case rel=>exact⟨k+1,by omega,by go_num,HN⟩
     case measure=>simp[intOf];omega
   ·have HN:=hst (by unfold C2;rw[ha];rfl);have H1:=za ha;clear ha hst hbad
    go_wp2_with fail
    refine(HZ _ _).mono ?_;rintro e w' ⟨rfl,rfl⟩;rw[H1.out]
    go_wp2_with fail
    go_round
    case rel=>exact⟨k+1,by omega,by go_num,HN⟩
    case measure=>simp[intOf];omega
  ·obtain rfl:k=s.size:=by omega
   have HA:Hid (BV s.data.toList=if er≠0 then (er,[]) else if CJ d=false then (80,[]) else (0,d)):=za (HL.out (by
    rw[<-Ee s s.size hlt];exact HT.out))
   go_wp2_with fail
   refine(TE _ _).mono ?_;rintro e w1 ⟨rfl,hq1⟩;rw[HD.out];unfold Bi
   by_cases he:er=0
   ·subst he;rcases hl:CJ d with _|_
    ·have HR:Hid (BV s.data.toList=(80,[])):=za (by rw[HA.out,hl];rfl);have H1:=za hl;clear hl
     go_wp2_with fail
     refine(R5 _ _ (by unfold maxLen;rw[Am];omega)).mono ?_;rintro e w2 ⟨rfl,rfl⟩;rw[Ao,H1.out]
     go_wp2_with fail
     go_ret2
     exact⟨by rw[HR.out];rfl,hq1⟩
    ·have HR:Hid (BV s.data.toList=(0,d)):=za (by rw[HA.out,hl];rfl);have H1:=za hl;clear hl
     go_wp2_with fail
     refine(R5 _ _ (by unfold maxLen;rw[Am];omega)).mono ?_;rintro e w2 ⟨rfl,rfl⟩;rw[Ao,H1.out]
     go_wp2_with fail
     go_ret2
     exact⟨by rw[HR.out];rfl,hq1⟩
   ·have HR:Hid (BV s.data.toList=(er,[])):=za (by rw[HA.out,if_pos he]);have hb:(er != 0)=true:=by rw[bne_iff_ne];exact he
    go_wp2_with fail
    go_ret2
    exact⟨by rw[HR.out];rfl,hq1⟩
def Cm:List UInt8:=[109,97,105,108,116,111,58]
def Ej (u h:List UInt8):List UInt8:=Cm++AL u CI++[64]++h
theorem Qb.cellkeep {w w':World} (h:Qb w w') {g i:Nat} {v:Value} (hc:w.cell? ⟨g,i,none⟩=some v):w'.cell? ⟨g,i,none⟩=some v:=by
 have hl:g<w.heap.size:=by
  rcases zo g w.heap.size with h1|h1
  ·exact h1
  ·simp[World.cell?,Array.getElem?_eq_none h1] at hc
 rw[<-hc];simp only[World.cell?,h.block g hl]
theorem Q5 {w w1 w2:World} {g:Nat} {u v:Value} (h:w1.cell? ⟨g,0,none⟩=some u/\w1.cell? ⟨g,1,none⟩=some v/\Qb w w1) (hq:Qb w1 w2):w2.cell? ⟨g,0,none⟩=some u/\w2.cell? ⟨g,1,none⟩=some v/\Qb w w2:=⟨hq.cellkeep h.1,hq.cellkeep h.2.1,h.2.2.trans hq⟩
theorem P5 {w w1:World} {p q:Prop} (h:p/\q/\Qb w w1):Qb w w1:=h.2.2
theorem fF (u h:List UInt8) (w:World) (hu:u.length<=300000000) (hh:h.length<=100000000000000000) :
  Calls Tryz.prog 115 #[Bg u h] w fun e w'=>e=.returned (.string (S (Ej u h)))/\Qb w w':=by
 have hel:=Hu u CI;have HK:Hid (({ data:=#[33,36,39,42,43] }:ByteArray).data.toList=CI):=za rfl;have HFM:Hid (Ej u h=Cm++AL u CI++[64]++h):=za rfl;generalize hen:AL u CI=en at *;have HE:=za hen;clear hen;have b1:¬(9223372036854775807<7+en.length):=by omega
 have b2:¬(9223372036854775807<7+en.length+1):=by omega
 have b3:¬(9223372036854775807<7+en.length+1+h.length):=by omega
 unfold Bg
 go_enter Tryz.func115,Tryz.ntmps115
 go_wp2_with fail
 go_region_held3 (fun w'=>w'.cell? ⟨w.heap.size,0,none⟩=some (.string (S u))/\w'.cell? ⟨w.heap.size,1,none⟩=some (.string (S h))/\Qb w w') (first|exact⟨by assumption,by assumption,by assumption⟩|exact⟨((AH.new w _ _).drew.cell 0).trans rfl,((AH.new w _ _).drew.cell 1).trans rfl,((Qb.refl w).alloc _).drew⟩|assumption|exact Q5 (by assumption) hq1|exact⟨Qb.cellkeep hq1 (by assumption),Qb.cellkeep hq1 (by assumption),Qb.trans (by assumption) hq1⟩)
  (first|(go_at_call 141;refine(TG _ _ _ (by rw[Am];exact hu)).mono ?_;rintro e w1 ⟨rfl,hq1⟩;rw[Ao,show AL u ({ data:=#[33,36,39,42,43] }:ByteArray).data.toList=en from HE.out]))
 go_wp2_with fail
 go_ret
 exact⟨GN (J2 (by rw[HFM.out];unfold Cm;simp[ByteArray.data_append])),P5 (by assumption)⟩
theorem fG (u h:List UInt8) (w:World) (hu:u.length<=300000000) (hh:h.length<=100000000000000000) :
  Calls Tryz.prog 52 #[Bg u h] w fun e w'=>e=.returned (.string (S (Ej u h)))/\Qb w w':=by
 have hel:=Hu u CI;have HK:Hid (({ data:=#[33,36,39,42,43] }:ByteArray).data.toList=CI):=za rfl;have HFM:Hid (Ej u h=Cm++AL u CI++[64]++h):=za rfl;generalize hen:AL u CI=en at *;have HE:=za hen;clear hen;have b1:¬(9223372036854775807<7+en.length):=by omega
 have b2:¬(9223372036854775807<7+en.length+1):=by omega
 have b3:¬(9223372036854775807<7+en.length+1+h.length):=by omega
 unfold Bg
 go_enter Tryz.func52,Tryz.ntmps52
 go_wp2_with fail
 go_region_held3 (fun w'=>w'.cell? ⟨w.heap.size,0,none⟩=some (.string (S u))/\w'.cell? ⟨w.heap.size,1,none⟩=some (.string (S h))/\Qb w w') (first|exact⟨by assumption,by assumption,by assumption⟩|exact⟨((AH.new w _ _).drew.cell 0).trans rfl,((AH.new w _ _).drew.cell 1).trans rfl,((Qb.refl w).alloc _).drew⟩|assumption|exact Q5 (by assumption) hq1|exact⟨Qb.cellkeep hq1 (by assumption),Qb.cellkeep hq1 (by assumption),Qb.trans (by assumption) hq1⟩)
  (first|(go_at_call 74;refine(Tt _ _ _ (by rw[Am];exact hu) (by decide)).mono ?_;rintro e w1 ⟨rfl,hq1⟩;rw[Ao,show AL u ({ data:=#[33,36,39,42,43] }:ByteArray).data.toList=en from HE.out]))
 go_wp2_with fail
 go_ret
 exact⟨GN (J2 (by rw[HFM.out];unfold Cm;simp[ByteArray.data_append])),P5 (by assumption)⟩
theorem JQ (s:ByteArray) (w:World) (hs:s.size<=1000000) (h8:8<s.size\/∀(j:Nat) b,s.data.toList[j]? = some b->b.toNat<128) :
  Calls Tryz.prog 138 #[.string s,.string ⟨#[63,35]⟩] w fun e w'=>e=.returned (.bool (xm s.data.toList [63,35]))/\Qb w w':=by
 have hac:∀(j:Nat) b,(⟨#[63,35]⟩:ByteArray).data.toList[j]? = some b->b.toNat<128:=by
  intro j b h;rcases j with _|_|j
  ·injection h with h;subst h;decide
  ·injection h with h;subst h;decide
  ·cases h
 rcases h8 with h8|h8
 ·go_enter Tryz.func138,Tryz.ntmps138
  go_wp2_with fail
  refine(Tryz.strings_IndexAny_long (zero_of_info (n:=256) (by kernel_rfl)).1 s ⟨#[63,35]⟩ w (by decide) h8 (by omega) (by decide) hac).mono ?_;rintro e w1 ⟨rfl,rfl⟩
  go_wp2_with fail
  go_ret
  exact⟨rfl,((Qb.refl w).alloc _).alloc _⟩
 ·exact(Tryz.strings_ContainsAny_laid s ⟨#[63,35]⟩ w (by omega) (by decide) h8 hac)
def FT (l:List UInt8):Bool:=xm l [63,35]
def A3 (l:List UInt8):Int×List UInt8×List UInt8 :=
 if 4096<l.length then (5,[],[])
 else if l.length<7\/AN (l.take 7) Cm=false then (60,[],[])
 else if (Af 64 (l.drop 7)).2.2=false\/FT (l.drop 7)=true then (6,[],[])
 else if (BV (Af 64 (l.drop 7)).1).1≠0 then ((BV (Af 64 (l.drop 7)).1).1,[],[])
 else if (AK (Af 64 (l.drop 7)).2.1).1≠0 then ((AK (Af 64 (l.drop 7)).2.1).1,[],[])
 else if B8 (AK (Af 64 (l.drop 7)).2.1).2=true then (50,[],[])
 else (0,(BV (Af 64 (l.drop 7)).1).2,(AK (Af 64 (l.drop 7)).2.1).2)
theorem any_cons (c:UInt8) (l cs:List UInt8):xm (c::l) cs=(cs.contains c||xm l cs):=by
 unfold xm;have hg:=Lib.indexAny_ge cs l;rw[Lib.indexAny];rcases h:cs.contains c with _|_
 ·rw[if_neg Bool.false_ne_true]
  by_cases h1:Lib.indexAny l cs=-1
  ·rw[h1];rfl
  ·rw[if_neg (by simpa using h1),Bool.false_or];rw[Bool.eq_iff_iff];simp only[decide_eq_true_eq];omega
 ·simp
theorem Ju:∀l cs:List UInt8,xm l cs=l.any (fun c=>Aw c cs)
 | [],cs=>rfl
 | c::l,cs=>by rw[any_cons,Ju l cs];rfl
theorem P8 (l cs:List UInt8):Au l cs=l.length↔xm l cs=false:=by
 rw[Ju];unfold Au;rw[List.findIdx_eq_length];simp
theorem bT:∀n:Fin 256,Bl (UInt8.ofNat n.val)∈Cm->(UInt8.ofNat n.val).toNat<128/\Aw (UInt8.ofNat n.val) [63,35]=false:=by decide +kernel
theorem WV (c:UInt8) (h:Bl c∈Cm):c.toNat<128/\Aw c [63,35]=false:=by
 have h1:=bT ⟨c.toNat,c.toNat_lt⟩;simp only[UInt8.ofNat_toNat] at h1;exact h1 h
theorem Ss (l:List UInt8) (h:AN l Cm=true):∀c∈l,c.toNat<128/\Aw c [63,35]=false:=by
 intro c hc;refine WV c ?_;have e:Ay l=Ay Cm:=by simpa[AN] using h
 have e2:Ay Cm=Cm:=by decide +kernel
 rw[<-e2,<-e];exact List.mem_map_of_mem hc
theorem Wc (l:List UInt8) (h:AN (l.take 7) Cm=true):xm l [63,35]=FT (l.drop 7):=by
 unfold FT;rw[Ju,Ju]
 conv=>lhs;rw[<-jh 7 l]
 rw[List.any_append];have:(l.take 7).any (fun c=>Aw c [63,35])=false:=by
  rw[List.any_eq_false];intro c hc;rw[(Ss _ h c hc).2];exact Bool.false_ne_true
 rw[this,Bool.false_or]
theorem aY (s:ByteArray) (h:AN (s.data.toList.take 7) Cm=true) (h7:7<=s.size) (hc:(Af 64 (s.data.toList.drop 7)).2.2=true) :
  8<s.size\/∀(j:Nat) b,s.data.toList[j]? = some b->b.toNat<128:=by
 rcases zo 8 s.size with h8|h8
 ·exact .inl h8
 ·refine .inr fun j b hj=>?_;have hm:b∈s.data.toList:=List.mem_of_getElem? hj;rw[<-jh 7 s.data.toList] at hm;rcases List.mem_append.1 hm with hm|hm
  ·exact(Ss _ h b hm).1
  ·have hl:(s.data.toList.drop 7).length<=1:=by rw[zt,At];omega
   generalize s.data.toList.drop 7=d at *;rcases d with _|⟨x,_|⟨y,t⟩⟩
   ·cases hm
   ·rw[Gf] at hc
    by_cases hx:x=64
    ·obtain rfl:b=x:=by simpa using hm
     rw[hx];decide
    ·rw[if_neg hx] at hc;cases hc
   ·simp at hl
theorem R3 (l:List UInt8):(AK l).2.length<=l.length:=by
 unfold AK
 split
 ·simp
 ·split
  ·simp
  ·split
   ·simp[Ay]
   ·simp
set_option maxHeartbeats 2000000 in
theorem bU (s:ByteArray) (w:World) (hs:s.size<=maxLen) :
  Calls Tryz.prog 114 #[.string s] w fun e w'=>e=.returned (AF (A3 s.data.toList))/\Qb w w':=by
 unfold maxLen at hs
 by_cases h0:4096<s.size
 ·have HF:Hid (A3 s.data.toList=(5,[],[])):=za (by unfold A3;rw[if_pos (by rw[At];exact h0)])
  go_enter Tryz.func114,Tryz.ntmps114
  go_wp2_with fail
  exact bodyPost_ret (v:=AF (5,[],[])) (by simp[results,Tryz.results114,go_sem,AF,Bg]) rfl ⟨by rw[HF.out],(Qb.refl w).alloc _⟩
 have h0':s.size<=4096:=by omega
 by_cases h7:s.size<7
 ·have HF0:Hid (A3 s.data.toList=(60,[],[])):=za (by unfold A3;rw[if_neg (by rw[At];omega),if_pos (.inl (by rw[At];exact h7))]);clear h0;have HF:Hid (A3 s.data.toList=(60,[],[])):=za (by exact HF0.out)
  go_enter Tryz.func114,Tryz.ntmps114
  go_wp2_with fail
  exact bodyPost_ret (v:=AF (60,[],[])) (by simp[results,Tryz.results114,go_sem,AF,Bg]) rfl ⟨by rw[HF.out],(Qb.refl w).alloc _⟩
 have h7':7<=s.size:=by omega
 have HX7:=za (FJ s 7);have hxl:(s.extract 0 7).data.toList=s.data.toList.take 7:=by rw[HX7.out]
 have HXD:=za (EI s 7);have HE:Hid (A3 s.data.toList=if AN (s.data.toList.take 7) Cm=false then (60,[],[]) else if (Af 64 (s.data.toList.drop 7)).2.2=false\/FT (s.data.toList.drop 7)=true then (6,[],[])
   else if (BV (Af 64 (s.data.toList.drop 7)).1).1≠0 then ((BV (Af 64 (s.data.toList.drop 7)).1).1,[],[])
   else if (AK (Af 64 (s.data.toList.drop 7)).2.1).1≠0 then ((AK (Af 64 (s.data.toList.drop 7)).2.1).1,[],[])
   else if B8 (AK (Af 64 (s.data.toList.drop 7)).2.1).2=true then (50,[],[])
   else (0,(BV (Af 64 (s.data.toList.drop 7)).1).2,(AK (Af 64 (s.data.toList.drop 7)).2.1).2)):=za (by
  unfold A3;rw[if_neg (by rw[At];omega)];have:∀p:Prop,(s.data.toList.length<7\/p)=p:=fun p=>by rw[At];exact propext ⟨fun h=>h.resolve_left h7,.inr⟩
  simp only[this])
 have hAP:=Wc s.data.toList;have hPA:=fun a b=>aY s a h7' b;have hdl:(s.data.toList.drop 7).length<=4096:=by rw[zt,At];omega
 generalize s.data.toList.drop 7=d at *;obtain⟨p,q,b,hcut⟩:∃p q b,Af 64 d=(p,q,b):=⟨_,_,_,rfl⟩;obtain⟨ne,u,hn⟩:∃ne u,BV p=(ne,u):=⟨_,_,rfl⟩;obtain⟨he,h,hh⟩:∃he h,AK q=(he,h):=⟨_,_,rfl⟩;have hhl:h.length<=4096:=by have:=R3 q;rw[hh] at this;have h2:=(Dn 64 d).2;rw[hcut] at h2;simp at this h2;omega
 obtain⟨ip,hip⟩:∃ip,B8 h=ip:=⟨_,rfl⟩;obtain⟨an,han⟩:∃an,FT d=an:=⟨_,rfl⟩;have HC:=za hcut;have HN:=za hn;have HH:=za hh;have HI:=za hip;have hlens:=Dn 64 d;rw[hcut] at hlens;have hpl:p.length<=4096:=by have:=hlens.1;simp at this;omega
 have hql:q.length<=4096:=by have:=hlens.2;simp at this;omega
 have hE2:∀x,AN (s.data.toList.take 7) Cm=x->A3 s.data.toList=if x=false then (60,[],[]) else if b=false\/an=true then (6,[],[]) else if ne≠0 then (ne,[],[]) else if he≠0 then (he,[],[]) else if ip=true then (50,[],[]) else (0,u,h):=fun x hx=>by
  rw[HE.out,hcut];simp only;rw[hn,hh,hx,hip,han]
 have HE2:=za hE2;rw[hcut] at hPA;rw[han] at hAP;clear hcut hn hh hE2 HE hlens h0 h7 hip han;rcases hx:AN (s.data.toList.take 7) Cm with _|_
 ·have HEQ:Hid (AN (s.extract 0 7).data.toList ({ data:=#[109,97,105,108,116,111,58] }:ByteArray).data.toList=false):=za (by rw[hxl];exact hx);have HX:=za hx;clear hx hxl hAP hPA;have HF:Hid (A3 s.data.toList=(60,[],[])):=za (by rw[HE2.out _ HX.out];rfl)
  go_enter Tryz.func114,Tryz.ntmps114
  go_wp2_with fail
  refine(Ef _ _ _ (by unfold maxLen;rw[HX7.out,Am,zh];omega) (by decide)).mono ?_;rintro e w1 ⟨rfl,hqe⟩;rw[show AN (s.extract 0 7).data.toList ({ data:=#[109,97,105,108,116,111,58] }:ByteArray).data.toList=false from HEQ.out];have hk:=(AH.new w _ _).qb hqe;have hc0:=hk.cell 0;have hc1:=hk.cell 1;have hf0:=hk.frozen 0;have hf1:=hk.frozen 1;simp at hc0 hc1
  go_wp2_with fail
  exact bodyPost_ret (v:=AF (60,[],[])) (by simp[results,Tryz.results114,go_sem,hc0,hc1,hf0,hf1,AF,Bg]) rfl ⟨by rw[HF.out],((((Qb.refl w).alloc _).trans hqe).set (zd _) _).set (zd _) _⟩
 ·have HEQ:Hid (AN (s.extract 0 7).data.toList ({ data:=#[109,97,105,108,116,111,58] }:ByteArray).data.toList=true):=za (by rw[hxl];exact hx);have HX:=za hx;have HA:=za (hAP hx);have hP2:=hPA hx;clear hx hxl hAP hPA;rcases b with _|_
  ·clear hP2;have HF:Hid (A3 s.data.toList=(6,[],[])):=za (by rw[HE2.out _ HX.out];rfl)
   go_enter Tryz.func114,Tryz.ntmps114
   go_wp2_with fail
   refine(Ef _ _ _ (by unfold maxLen;rw[HX7.out,Am,zh];omega) (by decide)).mono ?_;rintro e w1 ⟨rfl,hqe⟩;rw[show AN (s.extract 0 7).data.toList ({ data:=#[109,97,105,108,116,111,58] }:ByteArray).data.toList=true from HEQ.out]
   go_wp2_with fail
   rw[HXD.out];refine(CD (S d) 64 _ (by unfold maxLen;rw[Am];omega)).mono ?_;rintro e w2 ⟨rfl,hq2⟩;rw[Ao,HC.out];unfold BO;have hk:=(AH.new w _ _).qb (hqe.trans hq2);have hc0:=hk.cell 0;have hc1:=hk.cell 1;have hf0:=hk.frozen 0;have hf1:=hk.frozen 1;simp at hc0 hc1
   go_wp2_with fail
   exact bodyPost_ret (v:=AF (6,[],[])) (by simp[results,Tryz.results114,go_sem,hc0,hc1,hf0,hf1,AF,Bg]) rfl ⟨by rw[HF.out],((((Qb.refl w).alloc _).trans (hqe.trans hq2)).set (zd _) _).set (zd _) _⟩
  ·have H8:=za (hP2 rfl);clear hP2;rcases an with _|_
   ·by_cases hne:ne=0
    ·subst hne
     by_cases hhe:he=0
     ·subst hhe;rcases ip with _|_
      ·have HF:Hid (A3 s.data.toList=(0,u,h)):=za (by rw[HE2.out _ HX.out];rfl)
       go_enter Tryz.func114,Tryz.ntmps114
       go_wp2_with fail
       refine(Ef _ _ _ (by unfold maxLen;rw[HX7.out,Am,zh];omega) (by decide)).mono ?_;rintro e w1 ⟨rfl,hqe⟩;rw[show AN (s.extract 0 7).data.toList ({ data:=#[109,97,105,108,116,111,58] }:ByteArray).data.toList=true from HEQ.out]
       go_wp2_with fail
       rw[HXD.out];refine(CD (S d) 64 _ (by unfold maxLen;rw[Am];omega)).mono ?_;rintro e w2 ⟨rfl,hq2⟩;rw[Ao,HC.out];unfold BO
       go_wp2_with fail
       refine(JQ s _ (by omega) H8.out).mono ?_;rintro e w3 ⟨rfl,hq3⟩;rw[HA.out]
       go_wp2_with fail
       refine(LK (S p) _ (by rw[Am];omega)).mono ?_;rintro e w4 ⟨rfl,hq4⟩;rw[Ao,HN.out];unfold Bi
       go_wp2_with fail
       refine(FG (S q) _ (by unfold maxLen;rw[Am];omega)).mono ?_;rintro e w5 ⟨rfl,hq5⟩;rw[Ao,HH.out];unfold Bi
       go_wp2_with fail
       refine(Lv (S h) _ (by unfold maxLen;rw[Am];omega)).mono ?_;rintro e w6 ⟨rfl,hq6⟩;rw[Ao,HI.out];have hk:=(AH.new w _ _).qb (((((hqe.trans hq2).trans hq3).trans hq4).trans hq5).trans hq6);have hc0:=hk.cell 0;have hc1:=hk.cell 1;have hf0:=hk.frozen 0;have hf1:=hk.frozen 1;simp at hc0 hc1
       go_wp2_with fail
       exact bodyPost_ret (v:=AF (0,u,h)) (by simp[results,Tryz.results114,go_sem,hc0,hc1,hf0,hf1,AF,Bg]) rfl ⟨by rw[HF.out],((((Qb.refl w).alloc _).trans (((((hqe.trans hq2).trans hq3).trans hq4).trans hq5).trans hq6)).set (zd _) _).set (zd _) _⟩
      ·have HF:Hid (A3 s.data.toList=(50,[],[])):=za (by rw[HE2.out _ HX.out];rfl)
       go_enter Tryz.func114,Tryz.ntmps114
       go_wp2_with fail
       refine(Ef _ _ _ (by unfold maxLen;rw[HX7.out,Am,zh];omega) (by decide)).mono ?_;rintro e w1 ⟨rfl,hqe⟩;rw[show AN (s.extract 0 7).data.toList ({ data:=#[109,97,105,108,116,111,58] }:ByteArray).data.toList=true from HEQ.out]
       go_wp2_with fail
       rw[HXD.out];refine(CD (S d) 64 _ (by unfold maxLen;rw[Am];omega)).mono ?_;rintro e w2 ⟨rfl,hq2⟩;rw[Ao,HC.out];unfold BO
       go_wp2_with fail
       refine(JQ s _ (by omega) H8.out).mono ?_;rintro e w3 ⟨rfl,hq3⟩;rw[HA.out]
       go_wp2_with fail
       refine(LK (S p) _ (by rw[Am];omega)).mono ?_;rintro e w4 ⟨rfl,hq4⟩;rw[Ao,HN.out];unfold Bi
       go_wp2_with fail
       refine(FG (S q) _ (by unfold maxLen;rw[Am];omega)).mono ?_;rintro e w5 ⟨rfl,hq5⟩;rw[Ao,HH.out];unfold Bi
       go_wp2_with fail
       refine(Lv (S h) _ (by unfold maxLen;rw[Am];omega)).mono ?_;rintro e w6 ⟨rfl,hq6⟩;rw[Ao,HI.out];have hk:=(AH.new w _ _).qb (((((hqe.trans hq2).trans hq3).trans hq4).trans hq5).trans hq6);have hc0:=hk.cell 0;have hc1:=hk.cell 1;have hf0:=hk.frozen 0;have hf1:=hk.frozen 1;simp at hc0 hc1
       go_wp2_with fail
       exact bodyPost_ret (v:=AF (50,[],[])) (by simp[results,Tryz.results114,go_sem,hc0,hc1,hf0,hf1,AF,Bg]) rfl ⟨by rw[HF.out],((((Qb.refl w).alloc _).trans (((((hqe.trans hq2).trans hq3).trans hq4).trans hq5).trans hq6)).set (zd _) _).set (zd _) _⟩
     ·have hb2:(he != 0)=true:=bne_iff_ne.2 hhe;have HHE:=za hhe;clear hhe;have HF:Hid (A3 s.data.toList=(he,[],[])):=za (by rw[HE2.out _ HX.out,if_neg (by simp),if_neg (by simp),if_neg (by simp),if_pos HHE.out])
      go_enter Tryz.func114,Tryz.ntmps114
      go_wp2_with fail
      refine(Ef _ _ _ (by unfold maxLen;rw[HX7.out,Am,zh];omega) (by decide)).mono ?_;rintro e w1 ⟨rfl,hqe⟩;rw[show AN (s.extract 0 7).data.toList ({ data:=#[109,97,105,108,116,111,58] }:ByteArray).data.toList=true from HEQ.out]
      go_wp2_with fail
      rw[HXD.out];refine(CD (S d) 64 _ (by unfold maxLen;rw[Am];omega)).mono ?_;rintro e w2 ⟨rfl,hq2⟩;rw[Ao,HC.out];unfold BO
      go_wp2_with fail
      refine(JQ s _ (by omega) H8.out).mono ?_;rintro e w3 ⟨rfl,hq3⟩;rw[HA.out]
      go_wp2_with fail
      refine(LK (S p) _ (by rw[Am];omega)).mono ?_;rintro e w4 ⟨rfl,hq4⟩;rw[Ao,HN.out];unfold Bi
      go_wp2_with fail
      refine(FG (S q) _ (by unfold maxLen;rw[Am];omega)).mono ?_;rintro e w5 ⟨rfl,hq5⟩;rw[Ao,HH.out];unfold Bi;have hk:=(AH.new w _ _).qb ((((hqe.trans hq2).trans hq3).trans hq4).trans hq5);have hc0:=hk.cell 0;have hc1:=hk.cell 1;have hf0:=hk.frozen 0;have hf1:=hk.frozen 1;simp at hc0 hc1
      go_wp2_with fail
      exact bodyPost_ret (v:=AF (he,[],[])) (by simp[results,Tryz.results114,go_sem,hc0,hc1,hf0,hf1,AF,Bg]) rfl ⟨by rw[HF.out],((((Qb.refl w).alloc _).trans ((((hqe.trans hq2).trans hq3).trans hq4).trans hq5)).set (zd _) _).set (zd _) _⟩
    ·have hb2:(ne != 0)=true:=bne_iff_ne.2 hne;have HNE:=za hne;clear hne;have HF:Hid (A3 s.data.toList=(ne,[],[])):=za (by rw[HE2.out _ HX.out,if_neg (by simp),if_neg (by simp),if_pos HNE.out])
     go_enter Tryz.func114,Tryz.ntmps114
     go_wp2_with fail
     refine(Ef _ _ _ (by unfold maxLen;rw[HX7.out,Am,zh];omega) (by decide)).mono ?_;rintro e w1 ⟨rfl,hqe⟩;rw[show AN (s.extract 0 7).data.toList ({ data:=#[109,97,105,108,116,111,58] }:ByteArray).data.toList=true from HEQ.out]
     go_wp2_with fail
     rw[HXD.out];refine(CD (S d) 64 _ (by unfold maxLen;rw[Am];omega)).mono ?_;rintro e w2 ⟨rfl,hq2⟩;rw[Ao,HC.out];unfold BO
     go_wp2_with fail
     refine(JQ s _ (by omega) H8.out).mono ?_;rintro e w3 ⟨rfl,hq3⟩;rw[HA.out]
     go_wp2_with fail
     refine(LK (S p) _ (by rw[Am];omega)).mono ?_;rintro e w4 ⟨rfl,hq4⟩;rw[Ao,HN.out];unfold Bi;have hk:=(AH.new w _ _).qb (((hqe.trans hq2).trans hq3).trans hq4);have hc0:=hk.cell 0;have hc1:=hk.cell 1;have hf0:=hk.frozen 0;have hf1:=hk.frozen 1;simp at hc0 hc1
     go_wp2_with fail
     exact bodyPost_ret (v:=AF (ne,[],[])) (by simp[results,Tryz.results114,go_sem,hc0,hc1,hf0,hf1,AF,Bg]) rfl ⟨by rw[HF.out],((((Qb.refl w).alloc _).trans (((hqe.trans hq2).trans hq3).trans hq4)).set (zd _) _).set (zd _) _⟩
   ·have HF:Hid (A3 s.data.toList=(6,[],[])):=za (by rw[HE2.out _ HX.out];rfl)
    go_enter Tryz.func114,Tryz.ntmps114
    go_wp2_with fail
    refine(Ef _ _ _ (by unfold maxLen;rw[HX7.out,Am,zh];omega) (by decide)).mono ?_;rintro e w1 ⟨rfl,hqe⟩;rw[show AN (s.extract 0 7).data.toList ({ data:=#[109,97,105,108,116,111,58] }:ByteArray).data.toList=true from HEQ.out]
    go_wp2_with fail
    rw[HXD.out];refine(CD (S d) 64 _ (by unfold maxLen;rw[Am];omega)).mono ?_;rintro e w2 ⟨rfl,hq2⟩;rw[Ao,HC.out];unfold BO
    go_wp2_with fail
    refine(JQ s _ (by omega) H8.out).mono ?_;rintro e w3 ⟨rfl,hq3⟩;rw[HA.out];have hk:=(AH.new w _ _).qb ((hqe.trans hq2).trans hq3);have hc0:=hk.cell 0;have hc1:=hk.cell 1;have hf0:=hk.frozen 0;have hf1:=hk.frozen 1;simp at hc0 hc1
    go_wp2_with fail
    exact bodyPost_ret (v:=AF (6,[],[])) (by simp[results,Tryz.results114,go_sem,hc0,hc1,hf0,hf1,AF,Bg]) rfl ⟨by rw[HF.out],((((Qb.refl w).alloc _).trans ((hqe.trans hq2).trans hq3)).set (zd _) _).set (zd _) _⟩
theorem Xz (p d:List UInt8) (k:Nat) (h:p=d.take p.length) (hk:k<p.length) (hk2:k<d.length):p[k]=d[k]:=by
 have:p[k]? = d[k]?:=by
  conv=>lhs;rw[h]
  rw[List.getElem?_take_of_lt hk]
 simpa[zq hk,zq hk2] using this
set_option maxHeartbeats 2000000 in
theorem eV (s:ByteArray) (w:World) (hs:s.size<=maxLen) :
  Calls Tryz.prog 51 #[.string s] w fun e w'=>e=.returned (AF (A3 s.data.toList))/\Qb w w':=by
 unfold maxLen at hs
 by_cases h0:4096<s.size
 ·have HF:Hid (A3 s.data.toList=(5,[],[])):=za (by unfold A3;rw[if_pos (by rw[At];exact h0)])
  go_enter Tryz.func51,Tryz.ntmps51
  go_wp2_with fail
  exact bodyPost_ret (v:=AF (5,[],[])) (by simp[results,Tryz.results51,go_sem,AF,Bg]) rfl ⟨by rw[HF.out],(Qb.refl w).alloc _⟩
 have h0':s.size<=4096:=by omega
 by_cases h7:s.size<7
 ·have HF:Hid (A3 s.data.toList=(60,[],[])):=za (by unfold A3;rw[if_neg (by rw[At];omega),if_pos (.inl (by rw[At];exact h7))]);clear h0
  go_enter Tryz.func51,Tryz.ntmps51
  go_wp2_with fail
  exact bodyPost_ret (v:=AF (60,[],[])) (by simp[results,Tryz.results51,go_sem,AF,Bg]) rfl ⟨by rw[HF.out],(Qb.refl w).alloc _⟩
 have h7':7<=s.size:=by omega
 have HX7:=za (FJ s 7);have hxl:(s.extract 0 7).data.toList=s.data.toList.take 7:=by rw[HX7.out]
 have HXD:=za (EI s 7);have HE:Hid (A3 s.data.toList=if AN (s.data.toList.take 7) Cm=false then (60,[],[]) else if (Af 64 (s.data.toList.drop 7)).2.2=false\/FT (s.data.toList.drop 7)=true then (6,[],[])
   else if (BV (Af 64 (s.data.toList.drop 7)).1).1≠0 then ((BV (Af 64 (s.data.toList.drop 7)).1).1,[],[])
   else if (AK (Af 64 (s.data.toList.drop 7)).2.1).1≠0 then ((AK (Af 64 (s.data.toList.drop 7)).2.1).1,[],[])
   else if B8 (AK (Af 64 (s.data.toList.drop 7)).2.1).2=true then (50,[],[])
   else (0,(BV (Af 64 (s.data.toList.drop 7)).1).2,(AK (Af 64 (s.data.toList.drop 7)).2.1).2)):=za (by
  unfold A3;rw[if_neg (by rw[At];omega)];have:∀p:Prop,(s.data.toList.length<7\/p)=p:=fun p=>by rw[At];exact propext ⟨fun h=>h.resolve_left h7,.inr⟩
  simp only[this])
 have hdl:(s.data.toList.drop 7).length<=4096:=by rw[zt,At];omega
 generalize s.data.toList.drop 7=d at *;obtain⟨p,q,b,hcut⟩:∃p q b,Af 64 d=(p,q,b):=⟨_,_,_,rfl⟩;obtain⟨he,h,hh⟩:∃he h,AK q=(he,h):=⟨_,_,rfl⟩;have hhl:h.length<=4096:=by have:=R3 q;rw[hh] at this;have h2:=(Dn 64 d).2;rw[hcut] at h2;simp at this h2;omega
 obtain⟨ip,hip⟩:∃ip,B8 h=ip:=⟨_,rfl⟩;obtain⟨an,han⟩:∃an,FT d=an:=⟨_,rfl⟩;have HH:=za hh;have HI:=za hip;have hlens:=Dn 64 d;rw[hcut] at hlens;have hpl:p.length<=4096:=by have:=hlens.1;simp at this;omega
 have hql:q.length<=4096:=by have:=hlens.2;simp at this;omega
 have HIX:Hid (Au d ({ data:=#[64] }:ByteArray).data.toList=p.length):=za (by
  show Au d [64]=p.length;rw[Iw,hcut])
 have hE2:∀x,AN (s.data.toList.take 7) Cm=x->A3 s.data.toList=if x=false then (60,[],[]) else if b=false\/an=true then (6,[],[]) else if (BV p).1≠0 then ((BV p).1,[],[]) else if he≠0 then (he,[],[]) else if ip=true then (50,[],[]) else (0,(BV p).2,h):=fun x hx=>by
  rw[HE.out,hcut];simp only;rw[hh,hx,hip,han]
 have HE2:=za hE2;have hcl:=EU 64 d;rw[hcut] at hcl;simp only at hcl;have HCL:=za hcl;have hi:=Du 64 d;rw[hcut] at hi;have HCI:=za hi;have HAN:=za han;clear hcut hh hE2 HE hlens h0 h7 hip hcl hi han;rcases hx:AN (s.data.toList.take 7) Cm with _|_
 ·have HEQ:Hid (AN (s.extract 0 7).data.toList ({ data:=#[109,97,105,108,116,111,58] }:ByteArray).data.toList=false):=za (by rw[hxl];exact hx);have HX:=za hx;clear hx hxl;have HF:Hid (A3 s.data.toList=(60,[],[])):=za (by rw[HE2.out _ HX.out];rfl)
  go_enter Tryz.func51,Tryz.ntmps51
  go_wp2_with fail
  refine(E2 _ _ _ (by rw[HX7.out,Am,zh];omega) (by decide)).mono ?_;rintro e w1 ⟨rfl,hqe⟩;rw[show AN (s.extract 0 7).data.toList ({ data:=#[109,97,105,108,116,111,58] }:ByteArray).data.toList=false from HEQ.out];have hk:=(AH.new w _ _).qb hqe;have hc0:=hk.cell 0;have hc1:=hk.cell 1;have hf0:=hk.frozen 0;have hf1:=hk.frozen 1;simp at hc0 hc1
  go_wp2_with fail
  exact bodyPost_ret (v:=AF (60,[],[])) (by simp[results,Tryz.results51,go_sem,hc0,hc1,hf0,hf1,AF,Bg]) rfl ⟨by rw[HF.out],((((Qb.refl w).alloc _).trans hqe).set (zd _) _).set (zd _) _⟩
 ·have HEQ:Hid (AN (s.extract 0 7).data.toList ({ data:=#[109,97,105,108,116,111,58] }:ByteArray).data.toList=true):=za (by rw[hxl];exact hx);have HX:=za hx;clear hx hxl;rcases b with _|_
  ·have hpd:p.length=d.length:=by rw[(HCL.out.2.2 rfl).1]
   have hb1:((p.length:Int)==(d.length:Int))=true:=by rw[beq_iff_eq];omega
   clear hpd;have HF:Hid (A3 s.data.toList=(6,[],[])):=za (by rw[HE2.out _ HX.out];rfl)
   go_enter Tryz.func51,Tryz.ntmps51
   go_wp2_with fail
   refine(E2 _ _ _ (by rw[HX7.out,Am,zh];omega) (by decide)).mono ?_;rintro e w1 ⟨rfl,hqe⟩;rw[show AN (s.extract 0 7).data.toList ({ data:=#[109,97,105,108,116,111,58] }:ByteArray).data.toList=true from HEQ.out];have hk:=(AH.new w _ _).qb hqe;have hc0:=hk.cell 0;have hc1:=hk.cell 1;have hf0:=hk.frozen 0;have hf1:=hk.frozen 1;simp at hc0 hc1
   go_wp2_with fail
   rw[HXD.out];refine(E3 _ _ _ (by unfold maxLen;rw[Am];omega) (by decide)).mono ?_;rintro e w2 ⟨rfl,rfl⟩;rw[Ao,show Au d ({ data:=#[64] }:ByteArray).data.toList=p.length from HIX.out]
   go_wp2_with fail
   exact bodyPost_ret (v:=AF (6,[],[])) (by simp[results,Tryz.results51,go_sem,hc0,hc1,hf0,hf1,AF,Bg]) rfl ⟨by rw[HF.out],((((Qb.refl w).alloc _).trans hqe).set (zd _) _).set (zd _) _⟩
  ·have hpd:=HCL.out.2.1 rfl;have hpq:p=d.take p.length/\q=d.drop (p.length+1):=by
    rcases HCI.out with ⟨_,h2,_⟩|⟨k,_,hk,h2,_⟩
    ·injection h2 with _ h2;injection h2 with _ h2;cases h2
    ·injection h2 with h2 h3;injection h3 with h3 _
     have:p.length=k:=by rw[h2,zh];omega
     rw[this];exact⟨h2,h3⟩
   have hxp:=FJ (S d) p.length;rw[Ao,<-hpq.1] at hxp;have hxq:=EI (S d) (p.length+1);rw[Ao,Am,<-hpq.2] at hxq;have HXP:=za hxp;have HXQ:=za hxq;have HPQ:=za hpq;have hpi:(p.length:Int)+1<=(d.length:Int):=by omega
   have hb1:((p.length:Int)==(d.length:Int))=false:=by rw[beq_eq_false_iff_ne];omega
   clear hpd hpq hxp hxq;rcases an with _|_
   ·have HIQ:Hid (Au d ({ data:=#[63,35] }:ByteArray).data.toList=d.length):=za ((P8 d [63,35]).2 HAN.out);obtain⟨er,du,hd⟩:∃er du,An p=(er,du):=⟨_,_,rfl⟩;have hdul:du.length<=4096:=by have:=Rl p;rw[hd] at this;simp at this;omega
    obtain⟨lo,hlo⟩:∃lo,CJ du=lo:=⟨_,rfl⟩;have HD:=za hd;have HL:=za hlo;have HE3:Hid (A3 s.data.toList=if (BV p).1≠0 then ((BV p).1,[],[]) else if he≠0 then (he,[],[]) else if ip=true then (50,[],[]) else (0,(BV p).2,h)):=za (by rw[HE2.out _ HX.out,if_neg (by simp),if_neg (by simp)]);clear hd hlo
    go_enter Tryz.func51,Tryz.ntmps51
    go_wp2_with fail
    refine(E2 _ _ _ (by rw[HX7.out,Am,zh];omega) (by decide)).mono ?_;rintro e w1 ⟨rfl,hqe⟩;rw[show AN (s.extract 0 7).data.toList ({ data:=#[109,97,105,108,116,111,58] }:ByteArray).data.toList=true from HEQ.out];have hk:=(AH.new w _ _).qb hqe;have hc0:=hk.cell 0;have hc1:=hk.cell 1;have hf0:=hk.frozen 0;have hf1:=hk.frozen 1;simp at hc0 hc1
    go_wp2_with fail
    rw[HXD.out];refine(E3 _ _ _ (by unfold maxLen;rw[Am];omega) (by decide)).mono ?_;rintro e w2 ⟨rfl,rfl⟩;rw[Ao,show Au d ({ data:=#[64] }:ByteArray).data.toList=p.length from HIX.out]
    go_wp2_with fail
    refine(E3 _ _ _ (by unfold maxLen;rw[Am];omega) (by decide)).mono ?_;rintro e w3 ⟨rfl,rfl⟩;rw[Ao,show Au d ({ data:=#[63,35] }:ByteArray).data.toList=d.length from HIQ.out]
    go_wp2_with fail
    go_loop [5] (fun i=>∃k:Nat,k<=p.length/\i=.int .i64 k/\Hid ((p.take k).all C2=true)) (fun i=>p.length - (intOf i).toNat)
    case atStart=>exact⟨0,ze _,rfl,za rfl⟩
    case round=>
     obtain⟨k,hk0,rfl,HT⟩:=hrel
     by_cases hlt:k<p.length
     ·have hlt2:k<d.length:=by omega
      have hpk:=Xz p d k HPQ.out.1 hlt hlt2;have hS:Hid (∀h,(S d)[k]'h=d[k]):=za (fun h=>rfl);have HS:=za (JI C2 p k hlt);have HA:=za (JP C2 p (k+1));have HM:Hid (C2 p[k]=(A8 d[k]||Aw d[k] [37,33,36,39,42,43])):=za (by rw[hpk];rfl);clear hpk;rcases ha:A8 d[k] with _|_
      ·rcases hb:Aw d[k] [37,33,36,39,42,43] with _|_
       ·have HF:Hid (A3 s.data.toList=(1,[],[])):=za (by rw[HE3.out,BV,if_pos (HA.out (by rw[HS.out,HM.out,ha,hb,HT.out];rfl))];rfl);have H1:=za ha;have H2:=za hb;clear ha hb
        go_wp2_with fail
        refine(EK _ _).mono ?_;rintro e w' ⟨rfl,rfl⟩;rw[hS.out,H1.out]
        go_wp2_with fail
        refine(DY _ _ _ (by decide)).mono ?_;rintro e w' ⟨rfl,rfl⟩;rw[hS.out,show Aw d[k] ({ data:=#[37,33,36,39,42,43] }:ByteArray).data.toList=false from H2.out]
        go_wp2_with fail
        exact bodyPost_ret (v:=AF (1,[],[])) (by simp[results,Tryz.results51,go_sem,hc0,hc1,hf0,hf1,AF,Bg]) rfl ⟨by rw[HF.out],((((Qb.refl w).alloc _).trans hqe).set (zd _) _).set (zd _) _⟩
       ·have HN:Hid ((p.take (k+1)).all C2=true):=za (by rw[HS.out,HM.out,ha,hb,HT.out];rfl);have H1:=za ha;have H2:=za hb;clear ha hb
        go_wp2_with fail
        refine(EK _ _).mono ?_;rintro e w' ⟨rfl,rfl⟩;rw[hS.out,H1.out]
        go_wp2_with fail
        refine(DY _ _ _ (by decide)).mono ?_;rintro e w' ⟨rfl,rfl⟩;rw[hS.out,show Aw d[k] ({ data:=#[37,33,36,39,42,43] }:ByteArray).data.toList=true from H2.out]
        go_wp2_with fail
        go_round
        case rel=>exact⟨k+1,by omega,by go_num,HN⟩
        case measure=>simp[intOf];omega
      ·have HN:Hid ((p.take (k+1)).all C2=true):=za (by rw[HS.out,HM.out,ha,HT.out];rfl);have H1:=za ha;clear ha
       go_wp2_with fail
       refine(EK _ _).mono ?_;rintro e w' ⟨rfl,rfl⟩;rw[hS.out,H1.out]
       go_wp2_with fail
       go_round
       case rel=>exact⟨k+1,by omega,by go_num,HN⟩
       case measure=>simp[intOf];omega
     ·obtain rfl:k=p.length:=by omega
      have HE4:Hid (A3 s.data.toList=if er≠0 then (er,[],[]) else if lo=false then (80,[],[]) else if he≠0 then (he,[],[]) else if ip=true then (50,[],[]) else (0,du,h)):=za (by
       have hT:=HT.out;rw[qc] at hT;have hLoc:BV p=if er≠0 then (er,[]) else if lo=false then (80,[]) else (0,du):=by
        unfold BV;rw[if_neg (by rw[hT];simp)];simp only[HD.out,HL.out]
       rw[HE3.out,hLoc]
       by_cases h1:er=0
       ·subst h1;rcases lo with _|_<;>rfl
       ·rw[if_pos h1];exact(if_pos h1).trans (if_pos h1).symm)
      by_cases hne:er=0
      ·subst hne;rcases lo with _|_
       ·have HF:Hid (A3 s.data.toList=(80,[],[])):=za (by rw[HE4.out];rfl)
        go_wp2_with fail
        rw[HXP.out];refine(IS _ _).mono ?_;rintro e w4 ⟨rfl,hq3⟩;rw[Ao,HD.out];unfold Bi
        go_wp2_with fail
        refine(Lw _ _ (by rw[Am];omega)).mono ?_;rintro e w5 ⟨rfl,hq4⟩;rw[Ao,HL.out];have hk:=(AH.new w _ _).qb ((hqe.trans hq3).trans hq4);have hc0:=hk.cell 0;have hc1:=hk.cell 1;have hf0:=hk.frozen 0;have hf1:=hk.frozen 1;simp at hc0 hc1
        go_wp2_with fail
        exact bodyPost_ret (v:=AF (80,[],[])) (by simp[results,Tryz.results51,go_sem,hc0,hc1,hf0,hf1,AF,Bg]) rfl ⟨by rw[HF.out],((((Qb.refl w).alloc _).trans ((hqe.trans hq3).trans hq4)).set (zd _) _).set (zd _) _⟩
       ·by_cases hhe:he=0
        ·subst hhe;rcases ip with _|_
         ·have HF:Hid (A3 s.data.toList=(0,du,h)):=za (by rw[HE4.out];rfl)
          go_wp2_with fail
          rw[HXP.out];refine(IS _ _).mono ?_;rintro e w4 ⟨rfl,hq3⟩;rw[Ao,HD.out];unfold Bi
          go_wp2_with fail
          refine(Lw _ _ (by rw[Am];omega)).mono ?_;rintro e w5 ⟨rfl,hq4⟩;rw[Ao,HL.out]
          go_wp2_with fail
          rw[HXQ.out];refine(IB (S q) _ (by rw[Am];omega)).mono ?_;rintro e w6 ⟨rfl,hq5⟩;rw[Ao,HH.out];unfold Bi
          go_wp2_with fail
          refine(JG (S h) _ (by rw[Am];omega)).mono ?_;rintro e w7 ⟨rfl,hq6⟩;rw[Ao,HI.out];have hk:=(AH.new w _ _).qb ((((hqe.trans hq3).trans hq4).trans hq5).trans hq6);have hc0:=hk.cell 0;have hc1:=hk.cell 1;have hf0:=hk.frozen 0;have hf1:=hk.frozen 1;simp at hc0 hc1
          go_wp2_with fail
          exact bodyPost_ret (v:=AF (0,du,h)) (by simp[results,Tryz.results51,go_sem,hc0,hc1,hf0,hf1,AF,Bg]) rfl ⟨by rw[HF.out],((((Qb.refl w).alloc _).trans ((((hqe.trans hq3).trans hq4).trans hq5).trans hq6)).set (zd _) _).set (zd _) _⟩
         ·have HF:Hid (A3 s.data.toList=(50,[],[])):=za (by rw[HE4.out];rfl)
          go_wp2_with fail
          rw[HXP.out];refine(IS _ _).mono ?_;rintro e w4 ⟨rfl,hq3⟩;rw[Ao,HD.out];unfold Bi
          go_wp2_with fail
          refine(Lw _ _ (by rw[Am];omega)).mono ?_;rintro e w5 ⟨rfl,hq4⟩;rw[Ao,HL.out]
          go_wp2_with fail
          rw[HXQ.out];refine(IB (S q) _ (by rw[Am];omega)).mono ?_;rintro e w6 ⟨rfl,hq5⟩;rw[Ao,HH.out];unfold Bi
          go_wp2_with fail
          refine(JG (S h) _ (by rw[Am];omega)).mono ?_;rintro e w7 ⟨rfl,hq6⟩;rw[Ao,HI.out];have hk:=(AH.new w _ _).qb ((((hqe.trans hq3).trans hq4).trans hq5).trans hq6);have hc0:=hk.cell 0;have hc1:=hk.cell 1;have hf0:=hk.frozen 0;have hf1:=hk.frozen 1;simp at hc0 hc1
          go_wp2_with fail
          exact bodyPost_ret (v:=AF (50,[],[])) (by simp[results,Tryz.results51,go_sem,hc0,hc1,hf0,hf1,AF,Bg]) rfl ⟨by rw[HF.out],((((Qb.refl w).alloc _).trans ((((hqe.trans hq3).trans hq4).trans hq5).trans hq6)).set (zd _) _).set (zd _) _⟩
        ·have hb2:(he != 0)=true:=bne_iff_ne.2 hhe;have HHE:=za hhe;clear hhe;have HF:Hid (A3 s.data.toList=(he,[],[])):=za (by rw[HE4.out,if_neg (by simp),if_neg (by simp),if_pos HHE.out])
         go_wp2_with fail
         rw[HXP.out];refine(IS _ _).mono ?_;rintro e w4 ⟨rfl,hq3⟩;rw[Ao,HD.out];unfold Bi
         go_wp2_with fail
         refine(Lw _ _ (by rw[Am];omega)).mono ?_;rintro e w5 ⟨rfl,hq4⟩;rw[Ao,HL.out]
         go_wp2_with fail
         rw[HXQ.out];refine(IB (S q) _ (by rw[Am];omega)).mono ?_;rintro e w6 ⟨rfl,hq5⟩;rw[Ao,HH.out];unfold Bi;have hk:=(AH.new w _ _).qb (((hqe.trans hq3).trans hq4).trans hq5);have hc0:=hk.cell 0;have hc1:=hk.cell 1;have hf0:=hk.frozen 0;have hf1:=hk.frozen 1;simp at hc0 hc1
         go_wp2_with fail
         exact bodyPost_ret (v:=AF (he,[],[])) (by simp[results,Tryz.results51,go_sem,hc0,hc1,hf0,hf1,AF,Bg]) rfl ⟨by rw[HF.out],((((Qb.refl w).alloc _).trans (((hqe.trans hq3).trans hq4).trans hq5)).set (zd _) _).set (zd _) _⟩
      ·have hb2:(er != 0)=true:=bne_iff_ne.2 hne;have HNE:=za hne;clear hne;have HF:Hid (A3 s.data.toList=(er,[],[])):=za (by rw[HE4.out,if_pos HNE.out])
       go_wp2_with fail
       rw[HXP.out];refine(IS _ _).mono ?_;rintro e w4 ⟨rfl,hq3⟩;rw[Ao,HD.out];unfold Bi;have hk:=(AH.new w _ _).qb (hqe.trans hq3);have hc0:=hk.cell 0;have hc1:=hk.cell 1;have hf0:=hk.frozen 0;have hf1:=hk.frozen 1;simp at hc0 hc1
       go_wp2_with fail
       exact bodyPost_ret (v:=AF (er,[],[])) (by simp[results,Tryz.results51,go_sem,hc0,hc1,hf0,hf1,AF,Bg]) rfl ⟨by rw[HF.out],((((Qb.refl w).alloc _).trans (hqe.trans hq3)).set (zd _) _).set (zd _) _⟩
   ·obtain⟨n,hn⟩:∃n,Au d [63,35]=n:=⟨_,rfl⟩;have hnl:(n:Int)<(d.length:Int):=by
     have h1:=KK d [63,35];have h2:¬Au d [63,35]=d.length:=fun e=>by have:=(P8 d [63,35]).1 e;rw[show xm d [63,35]=true from HAN.out] at this;cases this
     omega
    have HIQ:Hid (Au d ({ data:=#[63,35] }:ByteArray).data.toList=n):=za hn;clear hn;have HF:Hid (A3 s.data.toList=(6,[],[])):=za (by rw[HE2.out _ HX.out];rfl)
    go_enter Tryz.func51,Tryz.ntmps51
    go_wp2_with fail
    refine(E2 _ _ _ (by rw[HX7.out,Am,zh];omega) (by decide)).mono ?_;rintro e w1 ⟨rfl,hqe⟩;rw[show AN (s.extract 0 7).data.toList ({ data:=#[109,97,105,108,116,111,58] }:ByteArray).data.toList=true from HEQ.out];have hk:=(AH.new w _ _).qb hqe;have hc0:=hk.cell 0;have hc1:=hk.cell 1;have hf0:=hk.frozen 0;have hf1:=hk.frozen 1;simp at hc0 hc1
    go_wp2_with fail
    rw[HXD.out];refine(E3 _ _ _ (by unfold maxLen;rw[Am];omega) (by decide)).mono ?_;rintro e w2 ⟨rfl,rfl⟩;rw[Ao,show Au d ({ data:=#[64] }:ByteArray).data.toList=p.length from HIX.out]
    go_wp2_with fail
    refine(E3 _ _ _ (by unfold maxLen;rw[Am];omega) (by decide)).mono ?_;rintro e w3 ⟨rfl,rfl⟩;rw[Ao,show Au d ({ data:=#[63,35] }:ByteArray).data.toList=n from HIQ.out]
    go_wp2_with fail
    exact bodyPost_ret (v:=AF (6,[],[])) (by simp[results,Tryz.results51,go_sem,hc0,hc1,hf0,hf1,AF,Bg]) rfl ⟨by rw[HF.out],((((Qb.refl w).alloc _).trans hqe).set (zd _) _).set (zd _) _⟩
open Sx
theorem Qe (p:UInt8->Bool) (l keep:List UInt8) (h37:p 37=true) (hx:∀n:Fin 16,p (Bo n.val)=true) (hp:∀c,Bx c keep=true->p c=true):(AL l keep).all p=true:=by
 unfold AL;rw[List.all_flatMap];refine zj.2 fun c _=>?_
 split
 ·rename_i h;simp[hp c h]
 ·have hc:=UInt8.toNat_lt c;have h1:=hx ⟨c.toNat / 16,by omega⟩;have h2:=hx ⟨c.toNat % 16,by omega⟩;simp only at h1 h2;simp[Bk,h37,h1,h2]
theorem NJ (c x:UInt8):∀l:List UInt8,x∈l->x=c\/∃p∈Ap c l,x∈p
 | [],h=>by cases h
 | y::t,h=>by
  obtain⟨p,ps,e⟩:=Cp c t;rw[C7,e]
  by_cases hy:y=c
  ·rw[if_pos hy];rcases zv.1 h with rfl|h
   ·exact .inl hy
   ·rcases NJ c x t h with h|⟨q,hq,hx⟩
    ·exact .inl h
    ·exact .inr ⟨q,by rw[<-e];exact qx _ hq,hx⟩
  ·rw[if_neg hy];rcases zv.1 h with rfl|h
   ·exact .inr ⟨_,jp ..,jp ..⟩
   ·rcases NJ c x t h with h|⟨q,hq,hx⟩
    ·exact .inl h
    ·rw[e] at hq;rcases zv.1 hq with rfl|hq
     ·exact .inr ⟨_,jp ..,qx _ hx⟩
     ·exact .inr ⟨q,qx _ hq,hx⟩
theorem bW {h:List UInt8} (hn:Ce h=true) (x:UInt8) (hx:x∈h):x=46\/B1 x=true:=by
 rcases NJ 46 x h hx with h1|⟨p,hp,hxp⟩
 ·exact .inl h1
 ·unfold Ce at hn;simp only[Bool.and_eq_true,zj] at hn;have:=hn.1 p hp;unfold B4 at this;simp only[Bool.and_eq_true,zj] at this;exact .inr (this.2 x hxp)
theorem ZH {h:List UInt8} (hh:AK h=(0,h)) (h4:B8 h=false):Ce h=true/\h.length<=253:=by
 unfold AK at hh
 split at hh
 ·cases hh
 ·split at hh
  ·cases hh
  ·split at hh
   ·rename_i h1 h2 h3;rw[h4,Bool.or_false] at h3;exact⟨h3,by omega⟩
   ·cases hh
theorem WX:∀n:Fin 256,(B1 (UInt8.ofNat n.val)=true\/UInt8.ofNat n.val=46->Aw (UInt8.ofNat n.val) [63,35]=false)/\(Bx (UInt8.ofNat n.val) CI=true->C2 (UInt8.ofNat n.val)=true/\Aw (UInt8.ofNat n.val) [63,35]=false/\UInt8.ofNat n.val≠64):=by decide +kernel
theorem Kb (c:UInt8):(B1 c=true\/c=46->Aw c [63,35]=false)/\(Bx c CI=true->C2 c=true/\Aw c [63,35]=false/\c≠64):=by
 have:=WX ⟨c.toNat,UInt8.toNat_lt c⟩;simpa using this
theorem X9 {u h:List UInt8} (hu:CJ u=true) (hh:AK h=(0,h)) (h4:B8 h=false):A3 (Ej u h)=(0,u,h)/\u.length<=64/\h.length<=253:=by
 obtain⟨hn,hl⟩:=ZH hh h4;have hu64:u.length<=64:=by
  unfold CJ at hu;simp only[Bool.and_eq_true,decide_eq_true_eq] at hu;exact hu.1
 refine⟨?_,hu64,hl⟩;have he:=Hu u CI;have hr:(AL u CI).all C2=true:=Qe C2 u CI (by decide) (by decide +kernel) fun c hc=>((Kb c).2 hc).1;have hm:(AL u CI).all (fun c=>!Aw c [63,35]&&c != 64)=true:=Qe _ u CI (by decide) (by decide +kernel) fun c hc=>by simp[((Kb c).2 hc).2.1,((Kb c).2 hc).2.2]
 have h64:(64:UInt8)∉AL u CI:=fun hx=>by
  have:=zj.1 hm 64 hx;simp at this
 have hq:FT (AL u CI++64::h)=false:=by
  unfold FT;rw[Ju,List.any_append,List.any_cons];have e1:(AL u CI).any (fun c=>Aw c [63,35])=false:=by
   rw[List.any_eq_false];intro c hc;have:=zj.1 hm c hc;simp at this;simp[this.1]
  have e2:h.any (fun c=>Aw c [63,35])=false:=by
   rw[List.any_eq_false];intro c hc;rw[(Kb c).1 (Or.symm (bW hn c hc))];simp
  rw[e1,e2];rfl
 have e7:(Ej u h).take 7=Cm:=by unfold Ej Cm;simp
 have d7:(Ej u h).drop 7=AL u CI++64::h:=by unfold Ej Cm;simp
 have hlen:(Ej u h).length=7+(AL u CI).length+1+h.length:=by unfold Ej Cm;simp;omega
 have hloc:BV (AL u CI)=(0,u):=by
  unfold BV;rw[hr,VM u CI (by omega),hu];simp
 unfold A3;rw[if_neg (by omega),e7,d7,if_neg (by
  rw[not_or];refine⟨by omega,?_⟩;have:AN Cm Cm=true:=by decide
  rw[this];simp),Dx 64 _ h h64,hq,hloc]
 simp only[hh,h4];simp
theorem oE {l u:List UInt8} (h:BV l=(0,u)):CJ u=true:=by
 unfold BV at h
 split at h
 ·injection h with h1 _;cases h1
 ·split at h
  ·rename_i h0;injection h with h1 _;exact absurd h1 h0
  ·split at h
   ·injection h with h1 _;cases h1
   ·rename_i h0 h1 h2;injection h with _ h3
    rw[<-h3];simpa using h2
theorem bV {s u h:List UInt8} (hs:A3 s=(0,u,h)):CJ u=true/\AK h=(0,h)/\B8 h=false:=by
 unfold A3 at hs
 split at hs
 ·injection hs with h1 _;cases h1
 ·split at hs
  ·injection hs with h1 _;cases h1
  ·split at hs
   ·injection hs with h1 _;cases h1
   ·split at hs
    ·rename_i h3;injection hs with h4 _;exact absurd h4 h3
    ·split at hs
     ·rename_i h3;injection hs with h4 _;exact absurd h4 h3
     ·split at hs
      ·injection hs with h1 _;cases h1
      ·rename_i k0 k1 k2 k3 k4 k5;injection hs with _ hs
       injection hs with hu hh
       simp only[Decidable.not_not] at k3 k4;refine⟨oE (l:=(Af 64 (s.drop 7)).1) (by rw[<-hu,<-k3]),?_,?_⟩
       ·exact(NR (q:=(Af 64 (s.drop 7)).2.1) (by rw[<-hh,<-k4])).1
       ·rw[<-hh];simpa using k5
theorem X8 {s:List UInt8} (h:(A3 s).1≠0):(A3 s).2=([],[]):=by
 unfold A3 at h ⊢
 split
 ·rfl
 ·rename_i h1;rw[if_neg h1] at h
  split
  ·rfl
  ·rename_i h2;rw[if_neg h2] at h
   split
   ·rfl
   ·rename_i h3;rw[if_neg h3] at h
    split
    ·rfl
    ·rename_i h4;rw[if_neg h4] at h
     split
     ·rfl
     ·rename_i h5;rw[if_neg h5] at h
      split
      ·rfl
      ·rename_i h6;rw[if_neg h6] at h;exact absurd rfl h
section
variable [Tabs Tryz.prog] {objs:List OB} {K:List OB->AV->Prop}
theorem XR (s:List UInt8) (hs:s.length<=maxLen) (hk:K objs (.tup [.agg [.s (Bp s).2.1,.s (Bp s).2.2],.i .i64 (Bp s).1])):Ai Tryz.prog 112 [.s s] objs K :=
 conv (vs:=[.string (S s)]) rfl rfl (fun w=>cO (S s) w (by rw[Am];exact hs)) hk
theorem Y6 (u h:List UInt8) (hu:u.length<=9000000000000000000) (hh:h.length<=100000000000000000) (hk:K objs (.s (G2 u h))):Ai Tryz.prog 113 [.agg [.s u,.s h]] objs K :=
 conv (vs:=[Bg u h]) rfl rfl (fun w=>eK u h w hu hh) hk
theorem cD (u h:List UInt8) (hu:u.length<=9000000000000000000) (hh:h.length<=100000000000000000) (hk:K objs (.s (G2 u h))):Ai Tryz.prog 50 [.agg [.s u,.s h]] objs K :=
 conv (vs:=[Bg u h]) rfl rfl (fun w=>fP u h w hu hh) hk
theorem X7 (s:List UInt8) (hs:s.length<=maxLen) (hk:K objs (.tup [.agg [.s (A3 s).2.1,.s (A3 s).2.2],.i .i64 (A3 s).1])):Ai Tryz.prog 114 [.s s] objs K :=
 conv (vs:=[.string (S s)]) rfl rfl (fun w=>bU (S s) w (by rw[Am];exact hs)) hk
theorem bE (u h:List UInt8) (hu:u.length<=300000000) (hh:h.length<=100000000000000000) (hk:K objs (.s (Ej u h))):Ai Tryz.prog 115 [.agg [.s u,.s h]] objs K :=
 conv (vs:=[Bg u h]) rfl rfl (fun w=>fF u h w hu hh) hk
theorem dQ (u h:List UInt8) (hu:u.length<=300000000) (hh:h.length<=100000000000000000) (hk:K objs (.s (Ej u h))):Ai Tryz.prog 52 [.agg [.s u,.s h]] objs K :=
 conv (vs:=[Bg u h]) rfl rfl (fun w=>fG u h w hu hh) hk
end
structure IdP where
 kind:Int
 text:List UInt8
 host:List UInt8
 port:Int
def DP:IdP:=⟨0,[],[],0⟩
def Fb (x:IdP):AV:=.agg [.i .i64 x.kind,.s x.text,.s x.host,.i .i64 x.port]
def Ez (r:Int×IdP):AV:=.tup [Fb r.2,.i .i64 r.1]
def L7 (s:List UInt8):Int×IdP:=if (Bp s).1≠0 then ((Bp s).1,DP) else (0,⟨1,G2 (Bp s).2.1 (Bp s).2.2,(Bp s).2.2,0⟩)
def L5 (s:List UInt8):Int×IdP:=if (A3 s).1≠0 then ((A3 s).1,DP) else (0,⟨2,Ej (A3 s).2.1 (A3 s).2.2,(A3 s).2.2,0⟩)
def J5 (s:List UInt8):Int×IdP:=if (B7 s).1≠0 then ((B7 s).1,DP) else (0,⟨3,Bm (B7 s).2,(B7 s).2.host,(B7 s).2.port⟩)
def OU (c:Int×List UInt8×List UInt8):Int×IdP:=if c.1≠0 then (c.1,DP) else (0,⟨4,AB c.2.1 c.2.2,(AU c.2.1 c.2.2).2.1,(AU c.2.1 c.2.2).2.2⟩)
def J6 (s:List UInt8):Int×IdP:=if (A0 s).1≠0 then ((A0 s).1,DP) else OU (B6 (A0 s).2.1 (A0 s).2.2)
def GC:List UInt8:=[97,99,99,116]
def GD:List UInt8:=[109,97,105,108,116,111]
def Gz:List UInt8:=[104,116,116,112,115]
def Gy:List UInt8:=[100,105,100]
def Ii (k s:List UInt8):Int×IdP:=if k=GC then L7 s else if k=GD then L5 s else if k=Gz then J5 s else if k=Gy then J6 s else (60,DP)
def DH (s:List UInt8):Int×IdP :=
 if 4096<s.length then (5,DP)
 else if (Af 58 s).2.2=false then (60,DP)
 else Ii (Ay (Af 58 s).1) s
theorem R7 (s:List UInt8):(Bp s).2.1.length<=16384/\(Bp s).2.2.length<=253:=by
 unfold Bp
 split
 ·exact⟨ze _,ze _⟩
 split
 ·exact⟨ze _,ze _⟩
 split
 ·exact⟨ze _,ze _⟩
 split
 ·exact⟨ze _,ze _⟩
 split
 ·exact⟨ze _,ze _⟩
 rename_i h;simp only[ne_eq,Decidable.not_not] at h;refine⟨(FF _ _).2,?_⟩;have e:AK (Af 64 (s.drop 5)).2.1=(0,(AK (Af 64 (s.drop 5)).2.1).2):=by rw[<-h]
 exact(NR e).2.2.1
theorem Sn (s:List UInt8):(A3 s).2.1.length<=64/\(A3 s).2.2.length<=253:=by
 by_cases h:(A3 s).1=0
 ·have e:A3 s=(0,(A3 s).2.1,(A3 s).2.2):=by rw[<-h]
  obtain⟨k1,k2,k3⟩:=bV e;obtain⟨_,k4,k5⟩:=X9 k1 k2 k3;exact⟨k4,k5⟩
 ·rw[X8 h];exact⟨by simp,by simp⟩
theorem RS {s:List UInt8} (h:(A0 s).1=0):(A0 s).2.1.length<=4096/\(A0 s).2.2.length<=12300:=by
 have e:A0 s=(0,(A0 s).2.1,(A0 s).2.2):=by rw[<-h]
 obtain⟨k1,l,k2,k3,k4⟩:=Kr e;have hl:(AB (A0 s).2.1 l).length=(A0 s).2.1.length+l.length+5:=by simp[AB,Ch];omega
 rw[<-k2] at hl;have hi:=PT k3;omega
theorem Qo {m i:List UInt8} (h:(B6 m i).1≠0):(B6 m i).2=([],[]):=by
 unfold B6 at h ⊢
 split
 ·rfl
 ·rename_i g;rw[if_neg g] at h;exact Yy h
theorem Rh {m i:List UInt8} (h:(B6 m i).1=0):(AU (B6 m i).2.1 (B6 m i).2.2).1=0/\(B6 m i).2.1.length<=3/\(B6 m i).2.2.length<=4096:=by
 have e:B6 m i=(0,(B6 m i).2):=by rw[<-h]
 obtain⟨k1,k2,k3,k4,k5⟩:=oO e;obtain⟨_,_,_,k6,_⟩:=Mz k1;refine⟨by rw[k6],by rw[k5];decide,Yz k2⟩
section
variable [Tabs Tryz.prog] {objs:List OB} {K:List OB->AV->Prop}
theorem aA (s:List UInt8) (hs:s.length<=maxLen) (hk:K objs (.tup [.agg [.s (Bp s).2.1,.s (Bp s).2.2],.i .i64 (Bp s).1])):Ai Tryz.prog 49 [.s s] objs K :=
 conv (vs:=[.string (S s)]) rfl rfl (fun w=>eU (S s) w (by rw[Am];exact hs)) hk
theorem aD (s:List UInt8) (hs:s.length<=maxLen) (hk:K objs (.tup [.agg [.s (A3 s).2.1,.s (A3 s).2.2],.i .i64 (A3 s).1])):Ai Tryz.prog 51 [.s s] objs K :=
 conv (vs:=[.string (S s)]) rfl rfl (fun w=>eV (S s) w (by rw[Am];exact hs)) hk
theorem Za (s:List UInt8) (hs:s.length<=140737488351232) (hk:K objs (.s (Ay s))):Ai Tryz.prog 48 [.s s] objs K :=
 conv (vs:=[.string (S s)]) rfl rfl (fun w=>JO (S s) w (by rw[Am];exact hs)) hk
theorem Xx (s:List UInt8) (hs:s.length<=4096) (hk:K objs (Ez (L7 s))):Ai Tryz.prog 84 [.s s] objs K:=by
 refine AI jV rfl fun C _=>?_;simp only[UN,Aa,simprocAttr];refine Ag (XR s (by unfold maxLen;omega) ?_);have hl:=R7 s;unfold L7 at hk
 by_cases c:(Bp s).1=0
 ·simp only[c,ne_eq,not_true_eq_false,if_false] at hk;simp only[c,Aa,simprocAttr];refine Br (Y6 _ _ (by omega) (by omega) ⟨rfl,rfl⟩) ?_;simp only[Aa,simprocAttr];exact hk
 ·simp only[c,ne_eq,not_false_eq_true,if_true] at hk;simp only[c,Aa,simprocAttr];exact hk
theorem Xy (s:List UInt8) (hs:s.length<=4096) (hk:K objs (Ez (L5 s))):Ai Tryz.prog 85 [.s s] objs K:=by
 refine AI jW rfl fun C _=>?_;simp only[UO,Aa,simprocAttr];refine Ag (X7 s (by unfold maxLen;omega) ?_);have hl:=Sn s;unfold L5 at hk
 by_cases c:(A3 s).1=0
 ·simp only[c,ne_eq,not_true_eq_false,if_false] at hk;simp only[c,Aa,simprocAttr];refine Br (bE _ _ (by omega) (by omega) ⟨rfl,rfl⟩) ?_;simp only[Aa,simprocAttr];exact hk
 ·simp only[c,ne_eq,not_false_eq_true,if_true] at hk;simp only[c,Aa,simprocAttr];exact hk
theorem Wf [Pow Tryz.prog] (s:List UInt8) (hs:s.length<=4096) (hk:K objs (Ez (J5 s))):Ai Tryz.prog 86 [.s s] objs K:=by
 refine AI jC rfl fun C _=>?_;simp only[Uw,Aa,simprocAttr];refine Ag (RC s (by unfold maxLen;omega) ?_);have hl:=RD s;unfold J5 at hk
 by_cases c:(B7 s).1=0
 ·simp only[c,ne_eq,not_true_eq_false,if_false] at hk;generalize (B7 s).2=u at *;simp only[c,A7,Aa,simprocAttr];refine Br (JH u hl ⟨rfl,rfl⟩) ?_;simp only[Aa,simprocAttr];exact hk
 ·simp only[c,ne_eq,not_false_eq_true,if_true] at hk;simp only[c,A7,Aa,simprocAttr];exact hk
theorem We [Shp Tryz.prog] [Pow Tryz.prog] (s:List UInt8) (hs:s.length<=4096) (hk:K objs (Ez (J6 s))):Ai Tryz.prog 87 [.s s] objs K:=by
 refine AI jB rfl fun C _=>?_;simp only[Uv,Aa,simprocAttr];refine Ag (Tp s (by unfold maxLen;omega) ?_);unfold J6 OU at hk
 by_cases c:(A0 s).1=0
 ·obtain⟨l1,l2⟩:=RS c;simp only[c,ne_eq,not_true_eq_false,if_false] at hk;generalize (A0 s).2.1=m at *;generalize (A0 s).2.2=i at *;simp only[c,Aa,simprocAttr];refine Ag (VP m i (by omega) (by omega) ?_)
  by_cases c1:(B6 m i).1=0
  ·obtain⟨a1,a2,a3⟩:=Rh c1;simp only[c1,not_true_eq_false,if_false] at hk;generalize (B6 m i).2.1=cm at *;generalize (B6 m i).2.2=ci at *;simp only[c1,Aa,simprocAttr];refine Ag (QR cm ci (by omega) (by omega) ?_);simp only[a1,BC,Aa,simprocAttr];refine Br (LG cm ci (by omega) (by omega) ⟨rfl,rfl⟩) ?_;simp only[Aa,simprocAttr];exact hk
  ·have e:=Qo c1;simp only[c1,not_false_eq_true,if_true] at hk;simp only[c1,Aa,simprocAttr];exact hk
 ·simp only[c,ne_eq,not_false_eq_true,if_true] at hk;simp only[c,Aa,simprocAttr];exact hk
end
theorem KV {P:Program} [Tabs P] {f:FuncId} {args:List AV} {vs:List Value} {r:AV} {v:Value} {w:World} (ha:EN args=some vs) (hr:val r=some v) (hT:Tabs.T (P:=P) w) (h:Ai P f args [] (fun _ x=>x=r)) :
  Calls P f vs.toArray w fun e w'=>e=.returned v/\Qb w w':=by
 haveI:On P ⟨w,fun _=>False,fun g o v=>w.cell? ⟨g,o,none⟩=some v,Gh.none⟩:=⟨hT,fun _ h=>h⟩
 have hc:=h ⟨w,fun _=>False,fun g o v=>w.cell? ⟨g,o,none⟩=some v,Gh.none⟩ Gh.none (fun g o v=>w.cell? ⟨g,o,none⟩=some v) w
  ⟨rfl,rfl,rfl,zd _,fun _ _ _=>rfl,fun _ _ _ h=>h,fun _ _ _ h=>.inl h,fun b g hb=>by simp[Gh.own,Gh.none] at hb,Gh.le.refl _⟩
  ⟨fun _ _ _ h=>h,by simp,by simp,by simp,fun b b' g hb=>by simp[Gh.own,Gh.none] at hb,fun b g hb=>by simp[Gh.own,Gh.none] at hb,fun b g o v hb=>by simp[Gh.own,Gh.none] at hb,fun b _=>⟨rfl,rfl⟩⟩ vs ((Fo _ _ args vs ha vs).2 rfl)
 refine hc.mono ?_;rintro e w' ⟨y,objs',r',G',I',rfl,rfl,_,_,hin,_,hy⟩;rw[(Hm _ _ _ v hr y).1 hy];exact⟨rfl,hin.os,hin.tape,hin.output,hin.size,fun k hk=>hin.block k hk (fun h=>h)⟩
def FU (W:World) (r:Nat) (es:Array MapEntry) (c:Nat):World:={ W with heap:=W.heap.setIfInBounds r (.map es c) }
theorem K2 {W:World} {r:Nat} {es:Array MapEntry} {c:Nat} (h:r<W.heap.size):(FU W r es c).heap[r]? = some (.map es c):=by
 simp[FU,h]
theorem JL {W:World} {r g:Nat} {es:Array MapEntry} {c:Nat} (h:g≠r):(FU W r es c).heap[g]? = W.heap[g]?:=by
 simp only[FU,Array.getElem?_setIfInBounds];rw[if_neg (fun e=>h e.symm)]
theorem Fs (W:World) (r:Nat) (es:Array MapEntry) (c:Nat):(FU W r es c).heap.size=W.heap.size:=by simp[FU]
theorem Qb.map {w W:World} (h:Qb w W) (r:Nat) (es:Array MapEntry) (c:Nat) (hr:w.heap.size<=r):Qb w (FU W r es c) :=
 ⟨h.os,h.tape,h.output,by rw[Fs];exact h.size,fun k hk=>by rw[JL (by omega)];exact h.block k hk⟩
theorem KB {P:Program} {w:World} (mty kt et:TypeId) (r clock:Nat) (es:Array MapEntry) (s:ByteArray) (val:Value) (hm:P.underlying mty=some (.map kt et)) (hk:P.underlying kt=some .string) (hb:w.heap[r]? = some (.map es clock)) (hf:Instr.findNow .string (.string s) es.toList 0=some none) :
  (Instr.mapUpdate mty (.map (some r)) (.string s) val).run P w=.ok () (FU w r (es.push { key:=.string s,val:=val,born:=clock }) (clock+1)):=by
 have hc:(Instr.checkKey false 10000 kt (.string s)).run P w=.ok () w:=MapKept.run_checkKey (k:=.string s) hk (by simp[MapKept.IsKey]) false 9999;simp[Instr.mapUpdate,run_underlying hm,MapKept.run_getObj_map hb,hc,MapKept.run_findKey hk hf,MapKept.run_setObj_map _ hb,Result.andThen,FU]
theorem Zk {P:Program} {w:World} (mty kt et:TypeId) (r clock:Nat) (es:Array MapEntry) (s:ByteArray) (z:Value) (o:Option (Nat×Value)) (hm:P.underlying mty=some (.map kt et)) (hk:P.underlying kt=some .string) (hz:(zeroValue et).run P w=.ok z w) (hb:w.heap[r]? = some (.map es clock)) (hf:Instr.findNow .string (.string s) es.toList 0=some o) :
  (Instr.lookup mty (.map (some r)) (.string s) true).run P w=.ok (.tuple #[(o.map (·.2)).getD z,.bool o.isSome]) w:=by
 have hc:∀b,(Instr.checkKey b 10000 kt (.string s)).run P w=.ok () w:=fun b=>MapKept.run_checkKey (k:=.string s) hk (by simp[MapKept.IsKey]) b 9999
 cases o with
 | none=>simp[Instr.lookup,run_underlying hm,MapKept.run_getObj_map hb,hc,MapKept.run_findKey hk hf,Result.andThen,hz]
 | some p=>simp[Instr.lookup,run_underlying hm,MapKept.run_getObj_map hb,hc,MapKept.run_findKey hk hf,Result.andThen,hz]
def E8 (r:Int×IdP):Value:=.tuple #[.agg #[.int .i64 r.2.kind,.string (S r.2.text),.string (S r.2.host),.int .i64 r.2.port],.int .i64 r.1]
theorem Jg (r:Int×IdP):val (Ez r)=some (E8 r):=rfl
def L3:Array MapEntry:=#[⟨.string (S GC),.func (.func 84) #[] #[],0⟩,⟨.string (S GD),.func (.func 85) #[] #[],1⟩,⟨.string (S Gz),.func (.func 86) #[] #[],2⟩,⟨.string (S Gy),.func (.func 87) #[] #[],3⟩]
def Hb (k:List UInt8):Option (Nat×Value) :=
 if k=GC then some (0,.func (.func 84) #[] #[]) else if k=GD then some (1,.func (.func 85) #[] #[]) else if k=Gz then some (2,.func (.func 86) #[] #[]) else if k=Gy then some (3,.func (.func 87) #[] #[]) else none
theorem Ys (k:List UInt8):Instr.findNow .string (.string (S k)) L3.toList 0=some (Hb k):=by
 have key:∀x:List UInt8,Instr.sameNow .string (.string (S k)) (.string (S x))=some (decide (k=x)):=by
  intro x;have e:(S k==S x)=(k.toArray==x.toArray):=rfl;show some (S k==S x)=_;rw[e]
  by_cases h:k=x
  ·subst h;simp
  ·simp[h]
 show Instr.findNow .string (.string (S k)) [⟨.string (S GC),_,_⟩,⟨.string (S GD),_,_⟩,⟨.string (S Gz),_,_⟩,⟨.string (S Gy),_,_⟩] 0=_;unfold Hb
 by_cases h1:k=GC
 ·simp only[Instr.findNow,key,decide_eq_true h1,if_pos h1]
 ·by_cases h2:k=GD
  ·simp only[Instr.findNow,key,decide_eq_false h1,decide_eq_true h2,if_pos h2,if_neg h1]
  ·by_cases h3:k=Gz
   ·simp only[Instr.findNow,key,decide_eq_false h1,decide_eq_false h2,decide_eq_true h3,if_pos h3,if_neg h1,if_neg h2]
   ·by_cases h4:k=Gy
    ·simp only[Instr.findNow,key,decide_eq_false h1,decide_eq_false h2,decide_eq_false h3,decide_eq_true h4,if_pos h4,if_neg h1,if_neg h2,if_neg h3]
    ·simp only[Instr.findNow,key,decide_eq_false h1,decide_eq_false h2,decide_eq_false h3,decide_eq_false h4,if_neg h4,if_neg h1,if_neg h2,if_neg h3]
section
set_option maxHeartbeats 2000000 in
theorem gR [Tabs Tryz.prog] [Shp Tryz.prog] [Pow Tryz.prog] (s:ByteArray) (w:World) (hs:s.size<=140737488351232) (hT:Tabs.T (P:=Tryz.prog) w):Calls Tryz.prog 65 #[.string s] w fun e w'=>e=.returned (E8 (DH s.data.toList))/\Qb w w':=by
 by_cases h0:4096<s.size
 ·have HF:Hid (DH s.data.toList=(5,DP)):=za (by unfold DH;rw[if_pos (by rw[At];exact h0)])
  go_enter Tryz.func65,Tryz.ntmps65
  go_wp2_with fail
  exact bodyPost_ret (v:=E8 (5,DP)) (by simp[results,Tryz.results65,go_sem,E8,DP]) rfl ⟨by rw[HF.out],(Qb.refl w).alloc _⟩
 have hmm:=@run_makeMap Tryz.prog;have hk0:(Tryz.prog).underlying 9=some .string:=by kernel_rfl
 obtain⟨et,hm⟩:∃et,(Tryz.prog).underlying 138=some (.map 9 et):=⟨135,by kernel_rfl⟩;have hb0:((w.alloc (Obj.cells #[Value.int IntKind.i64 0,Value.string ⟨#[]⟩,Value.string ⟨#[]⟩,Value.int IntKind.i64 0] 36)).alloc (Obj.map #[] 0)).heap[w.heap.size+1]? = some (.map #[] 0):=by
  have e:(w.alloc (Obj.cells #[Value.int IntKind.i64 0,Value.string ⟨#[]⟩,Value.string ⟨#[]⟩,Value.int IntKind.i64 0] 36)).heap.size=w.heap.size+1:=by simp
  rw[<-e];exact heap_alloc_new _ _
 have hob:AH ((w.alloc (Obj.cells #[Value.int IntKind.i64 0,Value.string ⟨#[]⟩,Value.string ⟨#[]⟩,Value.int IntKind.i64 0] 36)).alloc (Obj.map #[] 0)) w.heap.size 36 #[Value.int IntKind.i64 0,Value.string ⟨#[]⟩,Value.string ⟨#[]⟩,Value.int IntKind.i64 0]:=(AH.new w _ _).alloc _;have hqb:Qb w ((w.alloc (Obj.cells #[Value.int IntKind.i64 0,Value.string ⟨#[]⟩,Value.string ⟨#[]⟩,Value.int IntKind.i64 0] 36)).alloc (Obj.map #[] 0)):=((Qb.refl w).alloc _).alloc _
 go_enter Tryz.func65,Tryz.ntmps65
 go_wp2_with fail
 generalize ((w.alloc (Obj.cells #[Value.int IntKind.i64 0,Value.string ⟨#[]⟩,Value.string ⟨#[]⟩,Value.int IntKind.i64 0] 36)).alloc (Obj.map #[] 0))=W0 at hb0 hob hqb ⊢;have hlt:w.heap.size+1<W0.heap.size:=by
  rcases zo (w.heap.size+1) W0.heap.size with h|h
  ·exact h
  ·rw[Array.getElem?_eq_none h] at hb0;cases hb0
 rw[KB _ 9 et (w.heap.size+1) 0 #[] ⟨#[97,99,99,116]⟩ _ hm hk0 hb0 rfl];simp only[Result.andThen];rw[Oper.upon_skip]
 go_wp2_with fail
 rw[KB _ 9 et (w.heap.size+1) 1 _ ⟨#[109,97,105,108,116,111]⟩ _ hm hk0 (K2 hlt) rfl];simp only[Result.andThen];rw[Oper.upon_skip]
 go_wp2_with fail
 rw[KB _ 9 et (w.heap.size+1) 2 _ ⟨#[104,116,116,112,115]⟩ _ hm hk0 (K2 (by rw[Fs];exact hlt)) rfl];simp only[Result.andThen];rw[Oper.upon_skip]
 go_wp2_with fail
 rw[KB _ 9 et (w.heap.size+1) 3 _ ⟨#[100,105,100]⟩ _ hm hk0 (K2 (by rw[Fs,Fs];exact hlt)) rfl];simp only[Result.andThen];rw[Oper.upon_skip]
 go_wp2_with fail
 refine(CD s 58 _ (by unfold maxLen;omega)).mono ?_;rintro e w1 ⟨rfl,hq1⟩;have hM:w1.heap[w.heap.size+1]? = some (.map L3 4):=(hq1.block _ (by rw[Fs,Fs,Fs,Fs];exact hlt)).trans (K2 (by rw[Fs,Fs,Fs];exact hlt));have hO:AH w1 w.heap.size 36 #[Value.int IntKind.i64 0,Value.string ⟨#[]⟩,Value.string ⟨#[]⟩,Value.int IntKind.i64 0]:=by
  refine AH.qb ?_ hq1;unfold AH;rw[JL (by omega),JL (by omega),JL (by omega),JL (by omega)];exact hob
 have hQ:Qb w w1:=((((hqb.map _ _ _ (by omega)).map _ _ _ (by omega)).map _ _ _ (by omega)).map _ _ _ (by omega)).trans hq1;clear hq1 hob hqb hb0 hlt;have hcl:=Dn 58 s.data.toList;rw[At] at hcl;obtain⟨p,q,b,hcut⟩:∃p q b,Af 58 s.data.toList=(p,q,b):=⟨_,_,_,rfl⟩;have HC:=za hcut;rw[hcut] at hcl ⊢;simp only[BO] at hcl ⊢
 go_wp2_with fail
 refine(NF (S p) w1 (by rw[Am];omega)).mono ?_;rintro e w2 ⟨rfl,hq2⟩;have hM2:w2.heap[w.heap.size+1]? = some (.map L3 4):=(hq2.block _ (by
  rcases zo (w.heap.size+1) w1.heap.size with h|h
  ·exact h
  ·rw[Array.getElem?_eq_none h] at hM;cases hM)).trans hM
 have hO2:=hO.qb hq2;have hQ2:=hQ.trans hq2;clear hq2 hM hO hQ;have hSp:(S p).data.toList=p:=rfl;rw[hSp];have hz:(zeroValue et).run Tryz.prog w2=.ok .nilFunc w2:=by
  have:et=135:=by
   have h2:(Tryz.prog).underlying 138=some (.map 9 135):=by kernel_rfl
   rw[hm] at h2;injection h2 with h2;injection h2
  subst this
  rfl
 go_wp2_with fail
 rw[Zk _ 9 et (w.heap.size+1) 4 L3 (S (Ay p)) .nilFunc (Hb (Ay p)) hm hk0 hz hM2 (Ys _)];simp only[Result.andThen];rw[Oper.upon_value];obtain⟨fv,hfv⟩:∃fv,((Hb (Ay p)).map (·.2)).getD Value.nilFunc=fv:=⟨_,rfl⟩;obtain⟨fb,hfb⟩:∃fb,(Hb (Ay p)).isSome=fb:=⟨_,rfl⟩;rw[hfv,hfb];clear hM2 hz hSp hmm hm hk0;have hc0:=hO2.cell 0;have hc1:=hO2.cell 1;have hc2:=hO2.cell 2;have hc3:=hO2.cell 3;have hf0:=hO2.frozen 0;have hf1:=hO2.frozen 1;have hf2:=hO2.frozen 2;have hf3:=hO2.frozen 3;simp at hc0 hc1 hc2 hc3
 cases b with
 | false=>
  have HF:Hid (DH s.data.toList=(60,DP)):=za (by unfold DH;rw[if_neg (by rw[At];exact h0),HC.out,if_pos rfl])
  go_wp2_with fail
  exact bodyPost_ret (v:=E8 (60,DP)) (by simp[results,Tryz.results65,go_sem,hc0,hc1,hc2,hc3,hf0,hf1,hf2,hf3,E8,DP]) rfl ⟨by rw[HF.out],(((hQ2.set (zd _) _).set (zd _) _).set (zd _) _).set (zd _) _⟩
 | true=>
 cases fb with
 | false=>
  have HF:Hid (DH s.data.toList=(60,DP)):=za (by
   unfold DH;rw[if_neg (by rw[At];exact h0),HC.out,if_neg (by simp)];show Ii (Ay p) _=_;unfold Hb at hfb;unfold Ii
   split at hfb
   ·cases hfb
   split at hfb
   ·cases hfb
   split at hfb
   ·cases hfb
   split at hfb
   ·cases hfb
   rename_i a1 a2 a3 a4;rw[if_neg a1,if_neg a2,if_neg a3,if_neg a4])
  go_wp2_with fail
  exact bodyPost_ret (v:=E8 (60,DP)) (by simp[results,Tryz.results65,go_sem,hc0,hc1,hc2,hc3,hf0,hf1,hf2,hf3,E8,DP]) rfl ⟨by rw[HF.out],(((hQ2.set (zd _) _).set (zd _) _).set (zd _) _).set (zd _) _⟩
 | true=>
 clear hc0 hc1 hc2 hc3 hf0 hf1 hf2 hf3;have hT2:Tabs.T (P:=Tryz.prog) w2:=Sx.Tabs.keep _ _ hT (fun k hk=>hQ2.block k hk) hQ2.size;obtain⟨fid,r,hfv2,hr,hent,hcall⟩:∃fid r,fv=.func (.func fid) #[] #[]/\DH s.data.toList=r/\(∀W,(callFunc fid #[.string s]).run Tryz.prog W=.ok (.enter fid #[.string s]) W)/\Calls Tryz.prog fid #[.string s] w2 fun e w'=>e=.returned (E8 r)/\Qb w2 w':=by
  have HF:DH s.data.toList=Ii (Ay p) s.data.toList:=by
   unfold DH;rw[if_neg (by rw[At];exact h0),HC.out,if_neg (by simp)]
  have h4:s.data.toList.length<=4096:=by rw[At];omega
  have hv:EN [AV.s s.data.toList]=some [.string s]:=rfl;unfold Hb at hfb hfv;unfold Ii at HF
  by_cases a1:Ay p=GC
  ·simp only[if_pos a1] at hfv HF;exact⟨_,_,hfv.symm,HF,fun _=>rfl,KV hv (Jg _) hT2 (Xx s.data.toList h4 rfl)⟩
  simp only[if_neg a1] at hfv hfb HF
  by_cases a2:Ay p=GD
  ·simp only[if_pos a2] at hfv HF;exact⟨_,_,hfv.symm,HF,fun _=>rfl,KV hv (Jg _) hT2 (Xy s.data.toList h4 rfl)⟩
  simp only[if_neg a2] at hfv hfb HF
  by_cases a3:Ay p=Gz
  ·simp only[if_pos a3] at hfv HF;exact⟨_,_,hfv.symm,HF,fun _=>rfl,KV hv (Jg _) hT2 (Wf s.data.toList h4 rfl)⟩
  simp only[if_neg a3] at hfv hfb HF
  by_cases a4:Ay p=Gy
  ·simp only[if_pos a4] at hfv HF;exact⟨_,_,hfv.symm,HF,fun _=>rfl,KV hv (Jg _) hT2 (We s.data.toList h4 rfl)⟩
  simp only[if_neg a4] at hfb
  cases hfb
 rw[hfv2];have HR:=za hr;clear hr hfv hfb hfv2
 go_wp2_with fail
 refine hcall.mono ?_;rintro e w3 ⟨rfl,hq3⟩;have hO3:=hO2.qb hq3;have hQ3:=hQ2.trans hq3;have hc0:=hO3.cell 0;have hc1:=hO3.cell 1;have hc2:=hO3.cell 2;have hc3:=hO3.cell 3;have hf0:=hO3.frozen 0;have hf1:=hO3.frozen 1;have hf2:=hO3.frozen 2;have hf3:=hO3.frozen 3;simp at hc0 hc1 hc2 hc3;clear hcall hent;obtain⟨er,kd,tx,ho,pt⟩:=r;simp only[E8]
 go_wp2_with fail
 exact bodyPost_ret (v:=E8 (er,⟨kd,tx,ho,pt⟩)) (by simp[results,Tryz.results65,go_sem,hc0,hc1,hc2,hc3,hf0,hf1,hf2,hf3,E8]) rfl ⟨by rw[HR.out],(((hQ3.set (zd _) _).set (zd _) _).set (zd _) _).set (zd _) _⟩
end
def JZ (x y:IdP):Bool:=decide (x.kind=y.kind)&&(decide (x.text=y.text)&&(decide (x.host=y.host)&&decide (x.port=y.port)))
theorem YJ (a b:IdP):JZ a b=true↔a=b:=by
 obtain⟨a1,a2,a3,a4⟩:=a;obtain⟨b1,b2,b3,b4⟩:=b;simp[JZ]
def Ha (x:IdP):Bool:=decide ((DH x.text).1=0)&&JZ (DH x.text).2 x
section
variable [Tabs Tryz.prog] {objs:List OB} {K:List OB->AV->Prop}
theorem Y9 (s:List UInt8) (hs:s.length<=4096) (hk:K objs (Ez (J5 s))):Ai Tryz.prog 53 [.s s] objs K:=by
 refine AI fY rfl fun C _=>?_;simp only[Ti,Aa,simprocAttr];refine Ag (Sa s (by omega) ?_);have hl:=RD s;unfold J5 at hk
 by_cases c:(B7 s).1=0
 ·simp only[c,ne_eq,not_true_eq_false,if_false] at hk;generalize (B7 s).2=u at *;simp only[c,A7,Aa,simprocAttr];refine Br (IL u hl ⟨rfl,rfl⟩) ?_;simp only[Aa,simprocAttr];exact hk
 ·simp only[c,ne_eq,not_false_eq_true,if_true] at hk;simp only[c,A7,Aa,simprocAttr];exact hk
theorem Y8 (s:List UInt8) (hs:s.length<=4096) (hk:K objs (Ez (J6 s))):Ai Tryz.prog 54 [.s s] objs K:=by
 refine AI jR rfl fun C _=>?_;simp only[UT,Aa,simprocAttr];refine Ag (TQ s (by unfold maxLen;omega) ?_);unfold J6 OU at hk
 by_cases c:(A0 s).1=0
 ·obtain⟨l1,l2⟩:=RS c;simp only[c,ne_eq,not_true_eq_false,if_false] at hk;generalize (A0 s).2.1=m at *;generalize (A0 s).2.2=i at *;simp only[c,Aa,simprocAttr];refine Ag (Zb m i (by omega) (by omega) ?_)
  by_cases c1:(B6 m i).1=0
  ·obtain⟨a1,a2,a3⟩:=Rh c1;simp only[c1,not_true_eq_false,if_false] at hk;generalize (B6 m i).2.1=cm at *;generalize (B6 m i).2.2=ci at *;simp only[c1,Aa,simprocAttr];refine Ag (aC cm ci (by omega) (by omega) ?_);simp only[a1,BC,Aa,simprocAttr];refine Br (LD cm ci (by omega) (by omega) ⟨rfl,rfl⟩) ?_;simp only[Aa,simprocAttr];exact hk
  ·have e:=Qo c1;simp only[c1,not_false_eq_true,if_true] at hk;simp only[c1,Aa,simprocAttr];exact hk
 ·simp only[c,ne_eq,not_false_eq_true,if_true] at hk;simp only[c,Aa,simprocAttr];exact hk
theorem SL (s:List UInt8) (hs:s.length<=140737488351232) (hk:K objs (Ez (DH s))):Ai Tryz.prog 34 [.s s] objs K:=by
 refine AI iB rfl fun C _=>?_;have hm:maxLen=2 ^ 63 - 1:=rfl;unfold DH at hk
 by_cases c0:(4096:Int)<↑s.length
 ·have c0':4096<s.length:=by omega
  rw[if_pos c0'] at hk;simp only[c0,Oq,Aa,simprocAttr];exact hk
 have c0':¬4096<s.length:=by omega
 rw[if_neg c0'] at hk;simp only[c0,Oq,Aa,simprocAttr];refine Ag (Gc s [58] (by omega) (by decide) ?_);have c58:=Ho 58 s;have hil:=KK s [58]
 by_cases h58:Au s [58]<s.length
 ·have e58:=c58.1 h58;rw[e58,if_neg (by simp)] at hk;have hne:¬((Au s [58]:Nat):Int)=((s.length:Nat):Int):=by omega
  have htl:(s.take (Au s [58])).length<=s.length:=by rw[zh];omega
  simp only[hne,Aa,simprocAttr];refine⟨⟨by omega,by omega⟩,?_⟩;refine Ag (Za _ (by omega) ?_);simp only at hk;generalize Ay (s.take (Au s [58]))=kd at *;unfold Ii at hk
  by_cases a1:kd=GC
  ·subst a1;rw[if_pos rfl] at hk;simp only[GC,Aa,simprocAttr];refine Ag (aA s (by omega) ?_);have hl:=R7 s;unfold L7 at hk
   by_cases c:(Bp s).1=0
   ·simp only[c,ne_eq,not_true_eq_false,if_false] at hk;simp only[c,Aa,simprocAttr];refine Br (cD _ _ (by omega) (by omega) ⟨rfl,rfl⟩) ?_;simp only[Aa,simprocAttr];exact hk
   ·simp only[c,ne_eq,not_false_eq_true,if_true] at hk;simp only[c,Aa,simprocAttr];exact hk
  rw[if_neg a1] at hk
  by_cases a2:kd=GD
  ·subst a2;rw[if_pos rfl] at hk;have n0:¬([109,97,105,108,116,111]:List UInt8)=[97,99,99,116]:=by decide
   simp only[GD,n0,Aa,simprocAttr];refine Ag (aD s (by omega) ?_);have hl:=Sn s;unfold L5 at hk
   by_cases c:(A3 s).1=0
   ·simp only[c,ne_eq,not_true_eq_false,if_false] at hk;simp only[c,Aa,simprocAttr];refine Br (dQ _ _ (by omega) (by omega) ⟨rfl,rfl⟩) ?_;simp only[Aa,simprocAttr];exact hk
   ·simp only[c,ne_eq,not_false_eq_true,if_true] at hk;simp only[c,Aa,simprocAttr];exact hk
  rw[if_neg a2] at hk
  by_cases a3:kd=Gz
  ·subst a3;rw[if_pos rfl] at hk;have n0:¬([104,116,116,112,115]:List UInt8)=[97,99,99,116]:=by decide
   have n1:¬([104,116,116,112,115]:List UInt8)=[109,97,105,108,116,111]:=by decide
   simp only[Gz,n0,n1,Aa,simprocAttr];refine Ag (Y9 s (by omega) ?_);simp only[Ez,Fb,Aa,simprocAttr];exact hk
  rw[if_neg a3] at hk
  by_cases a4:kd=Gy
  ·subst a4;rw[if_pos rfl] at hk;have n0:¬([100,105,100]:List UInt8)=[97,99,99,116]:=by decide
   have n1:¬([100,105,100]:List UInt8)=[109,97,105,108,116,111]:=by decide
   have n2:¬([100,105,100]:List UInt8)=[104,116,116,112,115]:=by decide
   simp only[Gy,n0,n1,n2,Aa,simprocAttr];refine Ag (Y8 s (by omega) ?_);simp only[Ez,Fb,Aa,simprocAttr];exact hk
  rw[if_neg a4] at hk;have b1:¬kd=[97,99,99,116]:=a1;have b2:¬kd=[109,97,105,108,116,111]:=a2;have b3:¬kd=[104,116,116,112,115]:=a3;have b4:¬kd=[100,105,100]:=a4;simp only[b1,b2,b3,b4,Aa,simprocAttr];exact hk
 ·have e58:=c58.2 h58;rw[e58,if_pos rfl] at hk;have he:((Au s [58]:Nat):Int)=((s.length:Nat):Int):=by omega
  simp only[he,Aa,simprocAttr];exact hk
theorem cC (x:IdP) (hs:x.text.length<=140737488351232) (hk:K objs (.b (Ha x))):Ai Tryz.prog 45 [Fb x] objs K:=by
 refine AI iC rfl fun C _=>?_;simp only[Ua,Fb,Aa,simprocAttr];refine Ag (SL x.text hs ?_);unfold Ha at hk;obtain⟨⟨er,y⟩,hy⟩:∃r,DH x.text=r:=⟨_,rfl⟩;rw[hy] at hk ⊢;simp only[Ez,Fb,Aa,simprocAttr]
 by_cases c:er=0
 ·simp only[c,Aa,simprocAttr];simpa[c,JZ] using hk
 ·simp only[c,Aa,simprocAttr];simpa[c] using hk
end
section
variable [Tabs Tryz.prog] [Shp Tryz.prog] [Pow Tryz.prog] {objs:List OB} {K:List OB->AV->Prop}
theorem eP (s:List UInt8) (hs:s.length<=140737488351232) (hk:K objs (Ez (DH s))):Ai Tryz.prog 65 [.s s] objs K :=
 Ma (vs:=[.string (S s)]) rfl (Jg _) (fun w hT=>gR (S s) w (by rw[Am];exact hs) hT) hk
theorem eQ (x:IdP) (hs:x.text.length<=140737488351232) (hk:K objs (.b (Ha x))):Ai Tryz.prog 44 [Fb x] objs K:=by
 refine AI gW rfl fun C _=>?_;simp only[T4,Fb,Aa,simprocAttr];refine Ag (eP x.text hs ?_);unfold Ha at hk;obtain⟨⟨er,y⟩,hy⟩:∃r,DH x.text=r:=⟨_,rfl⟩;rw[hy] at hk ⊢;simp only[Ez,Fb,Aa,simprocAttr]
 by_cases c:er=0
 ·simp only[c,Aa,simprocAttr];simpa[c,JZ] using hk
 ·simp only[c,Aa,simprocAttr];simpa[c] using hk
end
end Go.Proofs.YtbeoijfmfkifeaaGreatDoor
