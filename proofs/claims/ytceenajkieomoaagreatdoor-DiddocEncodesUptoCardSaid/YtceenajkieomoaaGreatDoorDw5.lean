/- The texts that the proofs of these statements reach, in their order, as few files. -/
import Derived.Lib.IndexAny
import Derived.Shelf.Strings.IndexAnyAll
import Derived.Lib.OthersKept
import Derived.ProofKit
import Derived.OpenShut
import Derived.ShutString
import Derived.Carry
import Derived.WideKeyArgs
import Derived.SizedLaws
import Derived.KernelRfl
import Derived.BigRegion
import Derived.Deep.RegionLaw
import Derived.Deep.RegionHeldLaw
import Derived.Deep.DrawnRows
import Derived.Lib.Join
import Derived.Test.YtceenajkieomoaaGreatDoorDw4
set_option linter.unusedVariables false
set_option linter.unusedSimpArgs false
set_option maxRecDepth 100000
namespace Go.Proofs.YtceenajkieomoaaGreatDoor
open Go.RowKit
open Int renaming eq_ofNat_of_zero_le->yf, toNat_natCast->jf
open Lib renaming hid->zb
open List renaming drop_of_length_le->xn, length_drop->qb, map_cons->zo, map_nil->zr
open Nat renaming le_refl->zd
theorem zo2 (q:Int) (h0:0<=q) (h:q<=4503599627370496):bits .and .i64 q 63=q % 64:=by
 obtain⟨n,rfl⟩:=yf h0;exact zk4 n (by omega)
theorem zm7 (q:Int) (h0:0<=q) (h:q<64):bits .or .i64 128 q=128+q:=by
 obtain⟨n,rfl⟩:=yf h0;exact or128 n (by omega)
theorem zdf (r:Int) (w:World) :
  Calls Tryz.prog 120 #[.int .i64 r] w fun e w'=>e=.returned (zls (zhn r))/\Qb w w':=by
 rcases hp:cpB r with _|_
 ·have he:zhn r=(4,[]):=by unfold zhn;rw[hp];rfl
  rw[he]
  go_enter Tryz.func120,Tryz.ntmps120
  go_wp2_with (go_at_call 133;refine(zcG _ _).mono ?_;rintro e w1 ⟨rfl,rfl⟩)
  go_ret2
  exact⟨rfl,Qb.refl _⟩
 ·obtain⟨n,rfl,hn⟩:=cpB_nat hp;have a0:=zo2 (n:Int) (by omega) (by omega);have a1:=zo2 ((n:Int) / 64) (by omega) (by omega);have a2:=zo2 ((n:Int) / 4096) (by omega) (by omega);have o0:=zm7 ((n:Int) % 64) (by omega) (by omega);have o1:=zm7 ((n:Int) / 64 % 64) (by omega) (by omega);have o2:=zm7 ((n:Int) / 4096 % 64) (by omega) (by omega)
  by_cases h1:n<128
  ·rw[encV_1 hp h1];have hst:=zei w [(n:Int)] 1 rfl;simp only[zo,zr] at hst
   go_enter Tryz.func120,Tryz.ntmps120
   go_wp2_with (go_at_call 133;refine(zcG _ _).mono ?_;rintro e w1 ⟨rfl,rfl⟩)
   go_ret2
   exact⟨rfl,(Qb.refl _).alloc _⟩
  ·by_cases h2:n<2048
   ·rw[encV_2 hp h1 h2];have hst:=zei w [192+(n:Int) / 64,128+(n:Int) % 64] 2 rfl;simp only[zo,zr] at hst;have ho:bits .or .i64 192 ((n:Int) / 64)=192+(n:Int) / 64:=or192 (n / 64) (by omega)
    go_enter Tryz.func120,Tryz.ntmps120
    go_wp2_with (go_at_call 133;refine(zcG _ _).mono ?_;rintro e w1 ⟨rfl,rfl⟩)
    go_ret2
    exact⟨rfl,(Qb.refl _).alloc _⟩
   ·by_cases h3:n<65536
    ·rw[encV_3 hp h2 h3];have hst:=zei w [224+(n:Int) / 4096,128+(n:Int) / 64 % 64,128+(n:Int) % 64] 3 rfl;simp only[zo,zr] at hst;have ho:bits .or .i64 224 ((n:Int) / 4096)=224+(n:Int) / 4096:=or224 (n / 4096) (by omega);have hb3:decide ((n:Int)<65536)=true:=decide_eq_true (by omega);have hb1:decide ((n:Int)<128)=false:=decide_eq_false (by omega);have hb2:decide ((n:Int)<2048)=false:=decide_eq_false (by omega);have H3:=zb h3;have nb:(n:Int) / 4096<16:=by omega
     clear h1 h2 h3
     go_enter Tryz.func120,Tryz.ntmps120
     go_wp2_with (go_at_call 133;refine(zcG _ _).mono ?_;rintro e w1 ⟨rfl,rfl⟩)
     go_ret2
     exact⟨rfl,(Qb.refl _).alloc _⟩
    ·rw[encV_4 hp h3];have hst:=zei w [240+(n:Int) / 262144,128+(n:Int) / 4096 % 64,128+(n:Int) / 64 % 64,128+(n:Int) % 64] 4 rfl;simp only[zo,zr] at hst;have ho:bits .or .i64 240 ((n:Int) / 262144)=240+(n:Int) / 262144:=or240 (n / 262144) (by omega);have hb3:decide ((n:Int)<65536)=false:=decide_eq_false (by omega);have nb:(n:Int) / 262144<8:=by omega
     have hb1:decide ((n:Int)<128)=false:=decide_eq_false (by omega);have hb2:decide ((n:Int)<2048)=false:=decide_eq_false (by omega);have H3:=zb h3;clear h1 h2 h3
     go_enter Tryz.func120,Tryz.ntmps120
     go_wp2_with (go_at_call 133;refine(zcG _ _).mono ?_;rintro e w1 ⟨rfl,rfl⟩)
     go_ret2
     exact⟨rfl,(Qb.refl _).alloc _⟩
def ze3:List UInt8->Nat->Nat
 | [],r=>r
 | c::t,r=>ze3 t (r*64+c.toNat % 64)
def zeN:List UInt8->Nat
 | []=>0
 | c::t=>ze3 t (firstN c (t.length+1))
theorem pow4 (i:Nat):4*64 ^ (i+1)=64*(4*64 ^ i):=by rw[Nat.pow_succ];omega
theorem zi2 {i:Nat} (h:i<=4):4*64 ^ i<=67108864:=by
 have:i=0\/i=1\/i=2\/i=3\/i=4:=by omega
 rcases this with rfl|rfl|rfl|rfl|rfl<;>decide
theorem zln (s:ByteArray) (h1:1<=s.size) (h4:s.size<=4) (w:World) :
  Calls Tryz.prog 121 #[.string s] w fun e w'=>e=.returned (.int .i64 (zeN s.data.toList))/\Qb w w':=by
 have hd:=zaV s 0 (by omega);rw[List.drop_zero] at hd;have hv:zeN s.data.toList=ze3 (s.data.toList.drop 1) (firstN s[0] s.size):=by
  conv=>lhs;rw[hd]
  rw[zeN,qb,zap,show s.size - 1+1=s.size from by omega]
 have HV:=zb hv;clear hd hv;have hc:=s[0].toNat_lt;have a1:bits .and .i64 (s[0].toNat:Int) 31=((s[0].toNat % 32:Nat):Int):=by rw[<-and31];exact zc2 s[0].toNat 31 (by omega) (by omega)
 have a2:bits .and .i64 (s[0].toNat:Int) 15=((s[0].toNat % 16:Nat):Int):=by rw[<-and15];exact zc2 s[0].toNat 15 (by omega) (by omega)
 have a3:bits .and .i64 (s[0].toNat:Int) 7=((s[0].toNat % 8:Nat):Int):=by rw[<-and7];exact zc2 s[0].toNat 7 (by omega) (by omega)
 have H:=zb (And.intro a1 (And.intro a2 a3));clear a1 a2 a3;have hn:s.size=1\/s.size=2\/s.size=3\/s.size=4:=by omega
 rcases hn with hz|hz|hz|hz
 ·have HE:Hid (zeN s.data.toList=s[0].toNat):=zb (by rw[HV.out,xn (by rw[zap];omega),hz];rfl)
  go_enter Tryz.func121,Tryz.ntmps121
  go_wp2_with fail
  go_ret
  exact⟨zde (by rw[HE.out]),Qb.refl _⟩
 ·have HE:Hid (zeN s.data.toList=ze3 (s.data.toList.drop 1) (s[0].toNat % 32)):=zb (by rw[HV.out,hz];rfl);have HA:Hid (bits .and .i64 (s[0].toNat:Int) 31=((s[0].toNat % 32:Nat):Int)):=zb H.out.1
  go_enter Tryz.func121,Tryz.ntmps121
  go_wp2_with fail
  go_quiet (fail)
  go_wp2_with fail
  rw[HA.out]
  go_loop [3,4] (fun r x=>∃i q:Nat,1<=i/\i<=s.size/\x=.int .i64 i/\r=.int .i64 q/\q<4*64 ^ i/\Hid (zeN s.data.toList=ze3 (s.data.toList.drop i) q)) (fun _ x=>s.size - (intOf x).toNat)
  case atStart=>exact⟨1,s[0].toNat % 32,zd _,h1,rfl,rfl,by omega,HE⟩
  case round=>
   obtain⟨i,q,hi1,hi,rfl,rfl,hq,HR⟩:=hrel;have hp:=zi2 (show i<=4 by omega);have hq2:q<67108864:=by omega
   have HP:=zb (pow4 i);have Hq:=zb hq;clear hp hq
   by_cases hlt:i<s.size
   ·have hcc:=s[i].toNat_lt;have HO:Hid (bits .or .i64 ((q:Int)*64) (bits .and .i64 (s[i].toNat:Int) 63)=((q*64+s[i].toNat % 64:Nat):Int)):=zb (by rw[zk4 s[i].toNat (by omega)];exact or64 q (s[i].toNat % 64) (by omega) (by omega));have HN:Hid (zeN s.data.toList=ze3 (s.data.toList.drop (i+1)) (q*64+s[i].toNat % 64)):=zb (by rw[HR.out,zaV s i hlt];rfl)
    go_wp2_with fail
    go_round
    case rel=>
     refine⟨i+1,q*64+s[i].toNat % 64,by omega,by omega,by go_num,by rw[HO.out],?_,HN⟩;rw[HP.out];have:=Hq.out;generalize 4*64 ^ i=P at *;omega
    case measure=>simp[intOf];omega
   ·have HN:Hid (zeN s.data.toList=q):=zb (by rw[HR.out,xn (by rw[zap];omega)];rfl)
    go_wp2_with fail
    go_ret
    exact⟨zde (by rw[HN.out]),(Qb.refl _).drewN _⟩
 ·have HE:Hid (zeN s.data.toList=ze3 (s.data.toList.drop 1) (s[0].toNat % 16)):=zb (by rw[HV.out,hz];rfl);have HA:Hid (bits .and .i64 (s[0].toNat:Int) 15=((s[0].toNat % 16:Nat):Int)):=zb H.out.2.1
  go_enter Tryz.func121,Tryz.ntmps121
  go_wp2_with fail
  go_quiet (fail)
  go_wp2_with fail
  rw[HA.out]
  go_loop [3,4] (fun r x=>∃i q:Nat,1<=i/\i<=s.size/\x=.int .i64 i/\r=.int .i64 q/\q<4*64 ^ i/\Hid (zeN s.data.toList=ze3 (s.data.toList.drop i) q)) (fun _ x=>s.size - (intOf x).toNat)
  case atStart=>exact⟨1,s[0].toNat % 16,zd _,h1,rfl,rfl,by omega,HE⟩
  case round=>
   obtain⟨i,q,hi1,hi,rfl,rfl,hq,HR⟩:=hrel;have hp:=zi2 (show i<=4 by omega);have hq2:q<67108864:=by omega
   have HP:=zb (pow4 i);have Hq:=zb hq;clear hp hq
   by_cases hlt:i<s.size
   ·have hcc:=s[i].toNat_lt;have HO:Hid (bits .or .i64 ((q:Int)*64) (bits .and .i64 (s[i].toNat:Int) 63)=((q*64+s[i].toNat % 64:Nat):Int)):=zb (by rw[zk4 s[i].toNat (by omega)];exact or64 q (s[i].toNat % 64) (by omega) (by omega));have HN:Hid (zeN s.data.toList=ze3 (s.data.toList.drop (i+1)) (q*64+s[i].toNat % 64)):=zb (by rw[HR.out,zaV s i hlt];rfl)
    go_wp2_with fail
    go_round
    case rel=>
     refine⟨i+1,q*64+s[i].toNat % 64,by omega,by omega,by go_num,by rw[HO.out],?_,HN⟩;rw[HP.out];have:=Hq.out;generalize 4*64 ^ i=P at *;omega
    case measure=>simp[intOf];omega
   ·have HN:Hid (zeN s.data.toList=q):=zb (by rw[HR.out,xn (by rw[zap];omega)];rfl)
    go_wp2_with fail
    go_ret
    exact⟨zde (by rw[HN.out]),(Qb.refl _).drewN _⟩
 ·have HE:Hid (zeN s.data.toList=ze3 (s.data.toList.drop 1) (s[0].toNat % 8)):=zb (by rw[HV.out,hz];rfl);have HA:Hid (bits .and .i64 (s[0].toNat:Int) 7=((s[0].toNat % 8:Nat):Int)):=zb H.out.2.2
  go_enter Tryz.func121,Tryz.ntmps121
  go_wp2_with fail
  go_quiet (fail)
  go_wp2_with fail
  rw[HA.out]
  go_loop [3,4] (fun r x=>∃i q:Nat,1<=i/\i<=s.size/\x=.int .i64 i/\r=.int .i64 q/\q<4*64 ^ i/\Hid (zeN s.data.toList=ze3 (s.data.toList.drop i) q)) (fun _ x=>s.size - (intOf x).toNat)
  case atStart=>exact⟨1,s[0].toNat % 8,zd _,h1,rfl,rfl,by omega,HE⟩
  case round=>
   obtain⟨i,q,hi1,hi,rfl,rfl,hq,HR⟩:=hrel;have hp:=zi2 (show i<=4 by omega);have hq2:q<67108864:=by omega
   have HP:=zb (pow4 i);have Hq:=zb hq;clear hp hq
   by_cases hlt:i<s.size
   ·have hcc:=s[i].toNat_lt;have HO:Hid (bits .or .i64 ((q:Int)*64) (bits .and .i64 (s[i].toNat:Int) 63)=((q*64+s[i].toNat % 64:Nat):Int)):=zb (by rw[zk4 s[i].toNat (by omega)];exact or64 q (s[i].toNat % 64) (by omega) (by omega));have HN:Hid (zeN s.data.toList=ze3 (s.data.toList.drop (i+1)) (q*64+s[i].toNat % 64)):=zb (by rw[HR.out,zaV s i hlt];rfl)
    go_wp2_with fail
    go_round
    case rel=>
     refine⟨i+1,q*64+s[i].toNat % 64,by omega,by omega,by go_num,by rw[HO.out],?_,HN⟩;rw[HP.out];have:=Hq.out;generalize 4*64 ^ i=P at *;omega
    case measure=>simp[intOf];omega
   ·have HN:Hid (zeN s.data.toList=q):=zb (by rw[HR.out,xn (by rw[zap];omega)];rfl)
    go_wp2_with fail
    go_ret
    exact⟨zde (by rw[HN.out]),(Qb.refl _).drewN _⟩
theorem valN_enc {r:Nat} (h:cpB (r:Int)=true):zeN (zec r)=r:=by
 have hr:=(of_decide_eq_true h).2.1;unfold zec
 by_cases h1:r<128
 ·rw[if_pos h1];show (u8b r).toNat=r;exact zaR (by omega)
 rw[if_neg h1]
 by_cases h2:r<2048
 ·rw[if_pos h2];show (u8b (192+r / 64)).toNat % 32*64+(u8b (128+r % 64)).toNat % 64=r;rw[zaR (by omega),zaR (by omega)];omega
 rw[if_neg h2]
 by_cases h3:r<65536
 ·rw[if_pos h3];show ((u8b (224+r / 4096)).toNat % 16*64+(u8b (128+r / 64 % 64)).toNat % 64)*64+(u8b (128+r % 64)).toNat % 64=r;rw[zaR (by omega),zaR (by omega),zaR (by omega)];omega
 ·rw[if_neg h3];show (((u8b (240+r / 262144)).toNat % 8*64+(u8b (128+r / 4096 % 64)).toNat % 64)*64+(u8b (128+r / 64 % 64)).toNat % 64)*64+(u8b (128+r % 64)).toNat % 64=r;rw[zaR (by omega),zaR (by omega),zaR (by omega),zaR (by omega)];omega
def zjf (l:List UInt8):Bool:=decide ((zhn (zeN l)).1=0)&&((zhn (zeN l)).2==l)
theorem zn0 {l:List UInt8} {n:Nat} (hn:n<=l.length) (h:zjf (l.take n)=true):zeW l=some (zeN (l.take n),n):=by
 unfold zjf at h;rw[Bool.and_eq_true,decide_eq_true_eq,beq_iff_eq] at h;rcases hc:cpB (zeN (l.take n):Int) with _|_
 ·have:=h.1;unfold zhn at this;rw[hc,if_neg Bool.false_ne_true] at this;exact absurd this (by decide)
 ·have h2:=h.2;unfold zhn at h2;rw[hc,if_pos rfl,jf] at h2;exact zjo hc h2 hn
theorem isEnc_no {l:List UInt8} {n r:Nat} (h:zeW l=some (r,n)):zjf (l.take n)=true:=by
 have hb:=zdx h;have hv:zeN (l.take n)=r:=by rw[<-hb.2.1];exact valN_enc hb.1
 unfold zjf zhn;rw[hv,hb.1,if_pos rfl,jf,hb.2.1];simp
theorem zh3 (s:ByteArray) (a:Int) (w:World) (hs:s.size<=140737488351232) :
  Calls Tryz.prog 106 #[.string s,.int .i64 a] w fun e w'=>e=.returned (triV (zdn s.data.toList a))/\Qb w w':=by
 by_cases h:a<0\/(s.size:Int)<=a
 ·rw[zlK (by rw[zap];exact h)]
  by_cases h0:a<0
  ·clear h
   go_enter Tryz.func106,Tryz.ntmps106
   go_wp2_with fail
   go_ret3
   exact⟨rfl,Qb.refl _⟩
  ·have h1:(s.size:Int)<=a:=by omega
   clear h
   go_enter Tryz.func106,Tryz.ntmps106
   go_wp2_with fail
   go_ret3
   exact⟨rfl,Qb.refl _⟩
 ·obtain⟨k,rfl⟩:=yf (show 0<=a by omega);have hk:k<s.size:=by omega
  clear h;have hb0:decide ((k:Int)<0)=false:=decide_eq_false (by omega);have hbs:decide (s.size<=k)=false:=decide_eq_false (by omega)
  go_enter Tryz.func106,Tryz.ntmps106
  go_wp2_with fail
  go_loopw [7,8,9,10] (fun x _ _ _ wr=>∃n:Nat,1<=n/\n<=5/\x=.int .i64 n/\Hid (∀r m,zeW (s.data.toList.drop k)=some (r,m)->n<=m)/\Qb w wr) (fun x _ _ _ _=>5 - (intOf x).toNat)
  case atStart=>exact⟨1,zd _,by omega,rfl,zb fun r m hd=>(zdx hd).2.2.2.1,Qb.refl w⟩
  case round=>
   obtain⟨n,h1,h5,rfl,HM,hq⟩:=hrel
   by_cases hlt:n<=4/\k+n<=s.size
   ·obtain⟨h4,hle⟩:=hlt;have hx:Hid ((s.extract k (k+n)).data.toList=(s.data.toList.drop k).take n):=zb (by rw[Lib.extract_data,Nat.add_sub_cancel_left]);have hsz:=size_extract s k (k+n) hle;have hz1:1<=(s.extract k (k+n)).size:=by omega
    have hz4:(s.extract k (k+n)).size<=4:=by omega
    clear hsz
    go_wp2_with fail
    refine(zln _ hz1 hz4 _).mono ?_;rintro e w1 ⟨rfl,hq1⟩;rw[hx.out];rcases hi:zjf ((s.data.toList.drop k).take n) with _|_
    ·have HN:Hid (∀r m,zeW (s.data.toList.drop k)=some (r,m)->n+1<=m):=zb fun r m hd=>by
      have h6:=HM.out r m hd;have h7:n≠m:=by
       rintro rfl;rw[isEnc_no hd] at hi;cases hi
      omega
     obtain⟨er,eb,hres,hor⟩:∃er eb,zls (zhn (zeN ((s.data.toList.drop k).take n)))=.tuple #[.string eb,.int .i64 er]/\((er==0)=false\/(eb.toList==(s.extract k (k+n)).toList)=false):=by
      refine⟨_,_,rfl,?_⟩;unfold zjf at hi;rw[Bool.and_eq_false_iff,decide_eq_false_iff_not,beq_eq_false_iff_ne] at hi;rcases hi with hi|hi
      ·exact .inl (beq_eq_false_iff_ne.2 hi)
      ·refine .inr (beq_eq_false_iff_ne.2 fun e=>hi ?_);rw[ByteArray.toList_eq,ByteArray.toList_eq,hx.out] at e;exact e
     have HR:=zb hres;clear hres hi;generalize zeN ((s.data.toList.drop k).take n)=q at *
     go_wp2_with fail
     refine(zdf _ _).mono ?_;rintro e w2 ⟨rfl,hq2⟩;rw[HR.out];rcases hor with ho|ho
     ·go_wp2_with fail
      go_roundw
      case rel=>exact⟨n+1,by omega,by omega,by go_num,HN,(hq.trans hq1).trans hq2⟩
      case measure=>simp[intOf];omega
     ·by_cases he:er=0
      ·subst he
       go_wp2_with fail
       go_roundw
       case rel=>exact⟨n+1,by omega,by omega,by go_num,HN,(hq.trans hq1).trans hq2⟩
       case measure=>simp[intOf];omega
      ·have he1:(er==0)=false:=beq_eq_false_iff_ne.2 he;clear he
       go_wp2_with fail
       go_roundw
       case rel=>exact⟨n+1,by omega,by omega,by go_num,HN,(hq.trans hq1).trans hq2⟩
       case measure=>simp[intOf];omega
    ·have HD:=zb (zn0 (by rw[qb,zap];omega) hi);have hres:zls (zhn (zeN ((s.data.toList.drop k).take n)))=.tuple #[.string (s.extract k (k+n)),.int .i64 0]:=by
      unfold zjf at hi;rw[Bool.and_eq_true,decide_eq_true_eq,beq_iff_eq] at hi;unfold zls;rw[hi.1,hi.2,<-hx.out]
     have HR:=zb hres;clear hres hi;generalize zeN ((s.data.toList.drop k).take n)=q at *
     go_wp2_with fail
     refine(zdf _ _).mono ?_;rintro e w2 ⟨rfl,hq2⟩;rw[HR.out]
     go_wp2_with fail
     go_ret3
     exact⟨by rw[zjq (by rw[zap];exact hk) HD.out];rfl,(hq.trans hq1).trans hq2⟩
   ·have HN:Hid (zeW (s.data.toList.drop k)=none):=zb (by
     rcases hd:zeW (s.data.toList.drop k) with _|⟨r,m⟩
     ·rfl
     ·have h6:=HM.out r m hd;have hb:=zdx hd;have hb1:=hb.2.2.1;rw[qb,zap] at hb1;omega)
    by_cases h4:n<=4
    ·have hgt:s.size<k+n:=by omega
     clear hlt
     go_wp2_with fail
     go_ret3
     exact⟨by rw[zfU (by rw[zap];exact hk) HN.out];rfl,hq⟩
    ·clear hlt
     go_wp2_with fail
     go_ret3
     exact⟨by rw[zfU (by rw[zap];exact hk) HN.out];rfl,hq⟩
open Sx
class Utf (P:Program) [Tabs P]:Prop where
 ut:∀w:World,Tabs.T (P:=P) w->UTabs w
section
variable [Tabs Tryz.prog] {objs:List OB} {K:List OB->AV->Prop}
theorem zlo (s:List UInt8) (a:Int) (hs:s.length<=140737488351232) (hk:K objs (.tup [.i .i64 (zdn s a).1,.i .i64 (zdn s a).2.1,.i .i64 (zdn s a).2.2])):zad Tryz.prog 106 [.s s,.i .i64 a] objs K :=
 conv (vs:=[.string (S s),.int .i64 a]) rfl rfl (fun w=>zh3 (S s) a w (by rw[zcQ];exact hs)) hk
end
end Go.Proofs.YtceenajkieomoaaGreatDoor
namespace Go.Proofs.YtceenajkieomoaaGreatDoor.Sx
open Go.RowKit
theorem zhw {k:IntKind} {r:Int} {K K':Int->Prop} (hk:∀v,K v->K' v) (h:arK k r K):arK k r K':=by
 cases k
 all_goals first|exact hk _ h|exact⟨h.1,hk _ h.2⟩
theorem zoW {op:BinOp} {x y:AV} {K K':AV->Prop} (hk:∀v,K v->K' v) (h:binK op x y K):binK op x y K':=by
 unfold binK at h ⊢
 split at h
 ·refine⟨h.1,?_⟩
  replace h:=h.2
  cases op
  all_goals first
   | exact h.elim
   | exact zhw (fun _ g=>hk _ g) h
   | exact⟨h.1,zhw (fun _ g=>hk _ g) h.2⟩
   | exact⟨h.1,hk _ h.2⟩
   | exact hk _ h
 all_goals
  revert h
  cases op
  all_goals first
   | exact fun h=>h.elim
   | exact fun h=>⟨h.1,hk _ h.2⟩
   | exact fun h=>hk _ h
section
variable {P:Program} [Tabs P] {C:Cx}
theorem ze6 {so:SOp} {objs:List OB} {tm:List AV} {K K':List OB->AV->Prop} (hk:∀o v,K o v->K' o v) (h:wpS P so objs tm K):wpS P so objs tm K':=by
 cases so
 all_goals simp only[wpS] at h ⊢
 all_goals try exact hk _ _ h
 all_goals try exact⟨h.1,hk _ _ h.2⟩
 all_goals try exact zoW (fun _ g=>hk _ _ g) h
 all_goals try exact h.mono hk
 all_goals try exact⟨h.1,h.2.mono fun _ _ g=>⟨g.1,hk _ _ g.2⟩⟩
 all_goals
  revert h
  repeat' split
  all_goals first
   | exact fun h=>h.elim
   | exact fun h=>hk _ _ h
   | exact fun h=>⟨h.1,hk _ _ h.2⟩
   | exact fun h=>zhw (fun _ g=>hk _ _ g) h
   | exact fun h=>⟨fun e=>hk _ _ (h.1 e),fun e=>hk _ _ (h.2 e)⟩
   | exact fun ⟨v,h1,h2⟩=>⟨v,h1,hk _ _ h2⟩
   | exact fun ⟨h0,l,h1,h2⟩=>⟨h0,l,h1,hk _ _ h2⟩
   | exact fun h=>⟨h.1,h.2.mono hk⟩
theorem za2:∀{l:List SO} {objs:List OB} {tm:List AV} {K K':List OB->List AV->Prop},(∀o t,K o t->K' o t)->wpR P l objs tm K->wpR P l objs tm K'
 | [],_,_,_,_,hk,h=>hk _ _ h
 | ⟨dst,op,none⟩::r,_,_,_,_,hk,h=>ze6 (fun _ _ g=>za2 hk g) h
 | ⟨dst,op,some (t,want)⟩::r,objs,tm,K,K',hk,h=>by
  simp only[wpR] at h ⊢
  revert h
  split
  ·exact fun h=>⟨fun e=>ze6 (fun _ _ g=>za2 hk g) (h.1 e),fun e=>za2 hk (h.2 e)⟩
  ·exact fun h=>za2 hk h
  ·exact fun h=>h.elim
theorem zcR:∀{l:List SO} {objs:List OB} {tm:List AV} {K K':List OB->List AV->Prop},(∀o t,K o t->K' o t)->wpD P l objs tm K->wpD P l objs tm K'
 | [],_,_,_,_,hk,h=>hk _ _ h
 | ⟨dst,op,none⟩::r,_,_,_,_,hk,h=>by
  simp only[wpD] at h ⊢
  revert h
  split
  ·exact fun ⟨v,h1,h2⟩=>⟨v,h1,zcR hk h2⟩
  ·exact fun h=>ze6 (fun _ _ g=>zcR hk g) h
 | ⟨dst,op,some (t,want)⟩::r,objs,tm,K,K',hk,h=>by
  simp only[wpD] at h ⊢
  revert h
  split
  ·refine fun h=>⟨fun e=>?_,fun e=>zcR hk (h.2 e)⟩;have h1:=h.1 e
   revert h1
   split
   ·exact fun ⟨v,h1,h2⟩=>⟨v,h1,zcR hk h2⟩
   ·exact fun h=>ze6 (fun _ _ g=>zcR hk g) h
  ·exact fun h=>zcR hk h
  ·exact fun h=>h.elim
theorem zli {N N':List OB->List AV->Prop} {K K':zaN} (hn:∀o t,N o t->N' o t) (hk:∀e o t,K e o t->K' e o t):∀e o t,zeZ N K e o t->zeZ N' K' e o t:=by
 intro e o t h
 cases e<;>first|exact hn _ _ h|exact hk _ _ _ h
theorem zoV {id:Nat} {K K':zaN} (hk:∀e o t,K e o t->K' e o t):∀e o t,blkK id K e o t->blkK id K' e o t:=by
 intro e o t h
 cases e
 all_goals try exact hk _ _ _ h
 rename_i i;unfold blkK at h ⊢;simp only at h ⊢
 split at h
 ·rename_i g;rw[if_pos g];exact hk _ _ _ h
 ·rename_i g;rw[if_neg g];exact hk _ _ _ h
theorem zgQ:∀(st:List (List SO×SO)) (h:List (List SO×List AV×List AV)) (last:List SO) (o:List OB) (t:List AV) {K K':List OB->List AV->Prop},(∀o t,K o t->K' o t)->wpT P st h last o t K->wpT P st h last o t K'
 | [],h,last,o,t,K,K',hk,g=>za2 hk g
 | (L,c)::st,h,last,o,t,K,K',hk,g=>za2 (fun _ _ g=>za2 (fun _ _ g=>⟨g.1,zgQ st _ last _ _ hk g.2⟩) g) g
theorem zjy (d:Nat) (T:TypeId) (z:List AV):∀(st:List (List SO×SO)) (h:List (List SO×List AV×List AV)) (last:List SO) (o:List OB) (t:List AV) {K K':List OB->List AV->Prop},(∀o t,K o t->K' o t)->wpB P d T z st h last o t K->wpB P d T z st h last o t K'
 | [],h,last,o,t,K,K',hk,g=>za2 (fun _ _ g=>⟨g.1,hk _ _ g.2⟩) g
 | (L,c)::st,h,last,o,t,K,K',hk,g=>za2 (fun _ _ g=>⟨⟨g.1.1,za2 (fun _ _ g=>⟨g.1,zgQ st _ last _ _ hk g.2⟩) g.1.2⟩,za2 (fun _ _ g=>⟨g.1,zjy d T z st _ last _ _ hk g.2⟩) g.2⟩) g
theorem zdr:∀(c:SCode) {K K':zaN} {objs:List OB} {tm:List AV},(∀e o t,K e o t->K' e o t)->wpC P C c K objs tm->wpC P C c K' objs tm
 | .skip,_,_,_,_,hk,h=>hk _ _ _ h
 | .reg l,_,_,_,_,hk,h=>za2 (fun _ _ g=>hk _ _ _ g) h
 | .drw l k ap,_,_,_,_,hk,h=>zcR (fun _ _ g=>⟨g.1,za2 (fun _ _ g=>hk _ _ _ g) g.2⟩) h
 | .crg pre cl post,_,_,_,_,hk,h=>za2 (fun _ _ g=>za2 (fun _ _ g=>⟨g.1,za2 (fun _ _ g=>hk _ _ _ g) g.2⟩) g) h
 | .crs st last,_,_,_,_,hk,h=>zgQ st [] last _ _ (fun _ _ g=>hk _ _ _ g) h
 | .cra d T z st last sr,_,_,_,_,hk,h=>⟨h.1,zjy d T z st [] last _ _ (fun _ _ g=>za2 (fun _ _ g=>hk _ _ _ g) g) h.2⟩
 | .seq x y,_,_,_,_,hk,h=>zdr x (zli (fun _ _ g=>zdr y hk g) hk) h
 | .cond c x y,_,_,_,_,hk,h=>by
  simp only[wpC] at h ⊢
  revert h
  split
  ·exact fun h=>⟨fun e=>zdr x hk (h.1 e),fun e=>zdr y hk (h.2 e)⟩
  ·exact fun h=>h.elim
 | .blk id c,_,_,_,_,hk,h=>zdr c (zoV hk) h
 | .loop c,_,_,_,_,hk,h=>fun c hc=>WP.mono (fun e o t g=>by cases e<;>first|exact hk _ _ _ g|exact g) (h c hc)
 | .exit id,_,_,_,_,hk,h=>hk _ _ _ h
 | .ret,_,_,_,_,hk,h=>hk _ _ _ h
 | .dead,_,_,_,_,hk,h=>h.elim
def cutF (P:Program) [Tabs P] (C:Cx) (J:List OB->List AV->Prop) (k:List IT) (F:zaN):zaN:=zeZ J (zfY P C F k)
variable {F:zaN} {k:List IT} {objs:List OB} {tm:List AV}
theorem zab (J:List OB->List AV->Prop):cutF P C J k F .normal objs tm=J objs tm:=Eq.trans rfl rfl
theorem za9 (J:List OB->List AV->Prop) (id:Nat):cutF P C J k F (.exit id) objs tm=xit P C id k objs tm F:=Eq.trans rfl rfl
theorem zfg (J:List OB->List AV->Prop):cutF P C J k F .ret objs tm=F .ret objs tm:=zcu k
theorem zaz {x:SCode} (J:List OB->List AV->Prop) (h:run P C [.code x] objs tm (cutF P C J k F)) (hJ:∀o t,J o t->run P C k o t F):run P C (.code x::k) objs tm F :=
 zdr x (fun e o t g=>by
  cases e
  ·exact hJ _ _ g
  all_goals exact g) h
end
section
variable {P:Program} [Tabs P] {C:Cx} {F:zaN} {k:List IT} {objs:List OB} {tm:List AV}
theorem zaa {x y:SCode} (h:∀Y,Y=y->run P C (.code x::.code Y::k) objs tm F):run P C (.code (.seq x y)::k) objs tm F:=h y rfl
theorem zco (J:List AV->Prop) (h:J tm) (hk:∀t,J t->run P C k objs t F):run P C k objs tm F:=hk tm h
end
end Go.Proofs.YtceenajkieomoaaGreatDoor.Sx
namespace Go.Proofs.YtceenajkieomoaaGreatDoor
open Go.RowKit Sx
open Int renaming toNat_natCast->jf
open Lib renaming below_iterAt->y5, hid->zb, iterAt_heap->y4, run_next_ascii_at->xz
open List renaming all_eq_true->qd, append_assoc->qc, drop_drop->jj, drop_eq_getElem_cons->jn, drop_length->xm, drop_of_length_le->xn, getElem?_drop->jm, getElem?_eq_getElem->zl, getElem?_eq_none->zv, getElem?_eq_some_iff->zf, getElem?_set->za, length_append->zp, length_cons->zx, length_drop->qb, length_nil->je, length_pos_iff->jr, length_take->qh, replicate->qo, replicate_succ->ya
open Nat renaming add_zero->jc, le_refl->zd, lt_or_ge->zm, zero_le->zh
open Option renaming getD_some->qj
theorem iv {k:IntKind} {x y:Int} (h:x=y):some (AV.i k x)=some (AV.i k y):=by rw[h]
theorem run_at (s:List UInt8) (i:Nat) (h:i<s.length):zbj (s.drop i)=if zaq s[i]=true then zbj (s.drop (i+1))+1 else 0:=by
 rw[jn h,zbj]
theorem run_end (s:List UInt8):zbj (s.drop s.length)=0:=by rw[xm];rfl
theorem get_some {s:List UInt8} {i:Nat} (h:i<s.length) {c:UInt8}:(s[i]? = some c)↔s[i]=c:=by
 rw[zl h,Option.some.injEq]
theorem zdw {s:List UInt8} {i:Nat} (h:¬i<s.length) {c:UInt8}:¬s[i]? = some c:=by
 rw[zv (by omega)];simp
theorem zel {c:UInt8} {k:Nat} (hk:k<256):(((c.toNat:Nat):Int)=((k:Nat):Int))↔c=UInt8.ofNat k:=by
 constructor
 ·intro h;have h2:c.toNat=k:=by omega
  rw[<-h2];simp
 ·rintro rfl;rw[UInt8.toNat_ofNat'];omega
theorem zlS {s:List UInt8} {i:Nat} (h:i<s.length) (k:Nat) (hk:k<256):s[i]? = some (UInt8.ofNat k)↔((s[i].toNat:Nat):Int)=((k:Nat):Int):=by
 rw[get_some h];exact(zel hk).symm
theorem zfR (s:List UInt8) (a i:Nat):(s.drop a)[i]? = s[a+i]?:=jm
section
variable [Tabs Tryz.prog] {objs:List OB} {K:List OB->AV->Prop}
end
section
variable [Tabs Tryz.prog] {objs:List OB} {K:List OB->AV->Prop}
end
theorem zdS {c:UInt8} (h:zaq c=true):c.toNat<128/\([101,69]:List UInt8).contains c=false/\c≠46:=by
 have:=zho h;refine⟨by omega,?_,?_⟩
 ·have h1:c≠101:=fun e=>by subst e;exact absurd this (by decide)
  have h2:c≠69:=fun e=>by subst e;exact absurd this (by decide)
  simp[h1,h2]
 ·rintro rfl;exact absurd this (by decide)
def NumS.body (p:NumS):List UInt8:=p.int++(frT p.fr++exT p.ex)
theorem frT_mem {f:List UInt8} (hf:f.all zaq=true):∀c∈frT f,c.toNat<128/\([101,69]:List UInt8).contains c=false:=by
 intro c hc
 cases f with
 | nil=>cases hc
 | cons a t=>
  have hc:c=46\/c∈a::t:=by simpa[frT] using hc
  rcases hc with rfl|hc
  ·exact⟨by decide,by decide⟩
  ·have:=zdS (qd.1 hf c hc);exact⟨this.1,this.2.1⟩
theorem zoK {p:NumS} (hp:p.Good):zaE 46 (p.int++frT p.fr)=(p.int,p.fr,!p.fr.isEmpty):=by
 have key:∀(u v:List UInt8),(∀c∈u,c≠46)->zaE 46 (u++v)=(u++(zaE 46 v).1,(zaE 46 v).2.1,(zaE 46 v).2.2):=by
  intro u v
  induction u with
  | nil=>intro _;rfl
  | cons c u ih=>
   intro h;rw[List.cons_append,zck,if_neg (h c (by simp)),ih (fun x hx=>h x (by simp[hx]))]
   rfl
 rw[key _ _ (fun c hc=>(zdS (qd.1 hp.i1 c hc)).2.2)]
 cases hf:p.fr with
 | nil=>simp[frT,zaE]
 | cons a t=>simp[frT,zck]
section
variable [Tabs Tryz.prog] {objs:List OB} {K:List OB->AV->Prop}
end
theorem zcB {l:List UInt8} {n:Nat} (h:zcS l=some n):6<=l.length/\n<=65535:=by
 unfold zcS at h
 split at h
 ·cases h
 ·rename_i g
  split at h
  ·injection h with h
   have:=zj3 za0 16 65535 ((l.drop 2).take 4)
   constructor
   ·apply Classical.byContradiction
    intro h1;exact g (.inl (by omega))
   ·omega
  ·cases h
section
variable [Tabs Tryz.prog] {objs:List OB} {K:List OB->AV->Prop}
end
theorem zoF {s:List UInt8} {i:Nat} (h:i<s.length):zdn s i=match zeW (s.drop i) with|none=>(0,0,7)|some (r,n)=>((r:Int),((i+n:Nat):Int),0):=by
 unfold zdn;rw[if_neg (by omega),jf]
 cases zeW (s.drop i)<;>simp
theorem zfo (s:List UInt8) (i m:Nat):(s.take (i+m)).drop i=(s.drop i).take m:=by
 rw[List.drop_take,show i+m - i=m by omega]
def zdF (n:Nat) (r:List UInt8):Nat×Nat :=
 if 55296<=n/\n<56320 then (match zcS r with
  | some m=>if 56320<=m/\m<=57343 then (65536+(n - 55296)*1024+(m - 56320),12) else (n,6)
  | none=>(n,6)) else (n,6)
theorem zog {l:List UInt8} {n:Nat} (h0:(l[1]?).bind zfs=none) (h:zcS l=some n):zeU l=if cpB ((zdF n (l.drop 6)).1:Int)=true then (0,zec (zdF n (l.drop 6)).1,(zdF n (l.drop 6)).2) else (7,[],0):=by
 have hn:=(zcB h).2;have hcp:∀k:Nat,cpB (k:Int)=decide (k<=1114111/\(k<55296\/57343<k)):=by
  intro k;unfold cpB
  by_cases h1:k<=1114111/\(k<55296\/57343<k)
  ·rw[decide_eq_true (by omega),decide_eq_true h1]
  ·rw[decide_eq_false (by omega),decide_eq_false h1]
 have hE:zeU l=(if n<55296\/57343<n then ((0:Int),zec n,6)
   else if 56319<n then (7,[],0)
   else match zcS (l.drop 6) with
    | none=>(7,[],0)
    | some m=>if m<56320\/57343<m then (7,[],0) else (0,zec (65536+(n - 55296)*1024+(m - 56320)),12)):=by
  unfold zeU;rw[h0,h]
  rfl
 rw[hE]
 by_cases c1:n<55296\/57343<n
 ·have hU:zdF n (l.drop 6)=(n,6):=by unfold zdF;rw[if_neg (show ¬(55296<=n/\n<56320) by omega)]
  rw[if_pos c1,hU,hcp,if_pos (decide_eq_true (by omega))]
 ·by_cases c2:56319<n
  ·have hU:zdF n (l.drop 6)=(n,6):=by unfold zdF;rw[if_neg (show ¬(55296<=n/\n<56320) by omega)]
   rw[if_neg c1,if_pos c2,hU,hcp,if_neg (by rw[decide_eq_true_eq];omega)]
  ·rw[if_neg c1,if_neg c2]
   cases hu:zcS (l.drop 6) with
   | none=>
    have hU:zdF n (l.drop 6)=(n,6):=by unfold zdF;rw[if_pos (show 55296<=n/\n<56320 by omega),hu]
    rw[hU,hcp,if_neg (by rw[decide_eq_true_eq];omega)]
   | some m=>
    by_cases c3:m<56320\/57343<m
    ·have hU:zdF n (l.drop 6)=(n,6):=by
      unfold zdF;rw[if_pos (show 55296<=n/\n<56320 by omega),hu];simp only;rw[if_neg (show ¬(56320<=m/\m<=57343) by omega)]
     simp only;rw[if_pos c3,hU,hcp,if_neg (by rw[decide_eq_true_eq];omega)]
    ·have hU:zdF n (l.drop 6)=(65536+(n - 55296)*1024+(m - 56320),12):=by
      unfold zdF;rw[if_pos (show 55296<=n/\n<56320 by omega),hu];simp only;rw[if_pos (show 56320<=m/\m<=57343 by omega)]
     simp only;rw[if_neg c3,hU,hcp,if_pos (decide_eq_true (by omega))]
theorem escU_ge (n:Nat) (r:List UInt8):6<=(zdF n r).2:=by
 unfold zdF
 repeat' split
 all_goals first|exact zd _|(show 6<=12;omega)
theorem escU_len {l:List UInt8} {n:Nat} (h:zcS l=some n):(zdF n (l.drop 6)).2<=l.length/\(zdF n (l.drop 6)).1<=1114111:=by
 have h1:=zcB h;unfold zdF
 split
 ·cases hu:zcS (l.drop 6) with
  | none=>simp only;omega
  | some m=>
   have h2:=zcB hu;rw[qb] at h2;simp only
   split
   ·simp only;omega
   ·simp only;omega
 ·simp only;omega
theorem zkC {l x:List UInt8} {n:Nat} (h:zeU l=(0,x,n)):x.length<=n/\1<=n/\n<=l.length:=by
 cases hse:(l[1]?).bind zfs with
 | some d=>
  have he:zeU l=(0,[d],2):=by unfold zeU;rw[hse]
  rw[he] at h;injection h with _ h;injection h with h1 h2
  subst h1 h2;obtain⟨c,h2,_⟩:=Option.bind_eq_some_iff.1 hse;have:=(zf.1 h2).1;exact⟨by simp,by omega,by omega⟩
 | none=>
  cases hu:zcS l with
  | none=>
   have he:zeU l=(130,[],0):=by unfold zeU;rw[hse,hu]
   rw[he] at h;injection h with h _;cases h
  | some k=>
   have he:=zog hse hu;have h3:=escU_len hu;have h4:=escU_ge k (l.drop 6);have h5:=encU_len (r:=(zdF k (l.drop 6)).1);rw[h] at he
   split at he
   ·injection he with _ he;injection he with h1 h2
    subst h1 h2;omega
   ·injection he with he _;cases he
section
variable [Tabs Tryz.prog] [Utf Tryz.prog] {objs:List OB} {K:List OB->AV->Prop}
end
def zbq (s:List UInt8) (a:Int):(Int×List UInt8×Int)×Int×Int :=
 if a<0\/(s.length:Int)<a then ((0,[],0),0,4)
 else if (zbH (s.drop (a.toNat+zbv (s.drop a.toNat)))).1≠0 then ((0,[],0),0,(zbH (s.drop (a.toNat+zbv (s.drop a.toNat)))).1)
 else (((zbH (s.drop (a.toNat+zbv (s.drop a.toNat)))).2.1,(zbH (s.drop (a.toNat+zbv (s.drop a.toNat)))).2.2.1,((a.toNat+zbv (s.drop a.toNat):Nat):Int)),((a.toNat+zbv (s.drop a.toNat)+(zbH (s.drop (a.toNat+zbv (s.drop a.toNat)))).2.2.2:Nat):Int),0)
def znk (r:(Int×List UInt8×Int)×Int×Int):AV:=.tup [.agg [.i .i64 r.1.1,.s r.1.2.1,.i .i64 r.1.2.2],.i .i64 r.2.1,.i .i64 r.2.2]
theorem word_at (s:List UInt8) (i:Nat) (h:i<s.length):zbW (s.drop i)=if zbu s[i]=true then zbW (s.drop (i+1))+1 else 0:=by
 rw[jn h,zbW]
theorem white_at (s:List UInt8) (i:Nat) (h:i<s.length):zbv (s.drop i)=if zhi s[i]=true then zbv (s.drop (i+1))+1 else 0:=by
 rw[jn h,zbv]
theorem zgT:∀l:List UInt8,zbW l<=l.length
 | []=>zd _
 | c::t=>by
  have:=zgT t;unfold zbW
  split<;>simp only[zx]<;>omega
theorem zfl:∀l:List UInt8,zbv l<=l.length
 | []=>zd _
 | c::t=>by
  have:=zfl t;unfold zbv
  split<;>simp only[zx]<;>omega
section
variable [Tabs Tryz.prog] [Utf Tryz.prog] {objs:List OB} {K:List OB->AV->Prop}
end
open Nat renaming reduceAdd -> z6, reduceSub -> z7, reduceLeDiff -> z8, reduceLT -> j4, reduceMul -> j5, reduceEqDiff -> j6
open Int renaming reduceToNat -> j7, reduceAdd -> j8, reduceSub -> j9, reduceMul -> x3, reduceNeg -> x4, reduceLT -> x5, reduceLE -> x6, reduceEq -> x7, reduceNe -> x8
theorem rn_condH {P:Program} [Tabs P] {C:Cx} {F:zaN} {k:List IT} {objs:List OB} {tm:List AV} {c:SV} {x y:SCode} (h:∀X,X=x->run P C (.code (.cond c X y)::k) objs tm F):run P C (.code (.cond c x y)::k) objs tm F:=h x rfl
section
variable [Tabs Tryz.prog] {objs:List OB} {K:List OB->AV->Prop}
theorem rwhite_k (c:UInt8) (hk:K objs (.b (zhi c))):zad Tryz.prog 88 [.i .u8 c.toNat] objs K:=by
 refine zaL is_ref13_white rfl fun C _=>?_;simp only[c_ref13_white,sxZ,z6,z7,z8,j4,j5,j6,j7,j8,j9,x3,x4,x5,x6,x7,x8,reduceCtorEq,↓reduceIte];refine zai (zh0 c _ (by decide) ?_);simp only[sxZ,z6,z7,z8,j4,j5,j6,j7,j8,j9,x3,x4,x5,x6,x7,x8,reduceCtorEq,↓reduceIte];exact hk
theorem ziX (s:List UInt8) (a:Nat) (hk:K objs (.s (s.drop a))):zad Tryz.prog 86 [.s s,.i .i64 (a:Nat)] objs K:=by
 refine zaL is_ref13_tail rfl fun C _=>?_
 by_cases c0:(s.length:Int)<=a
 ·rw[xn (by omega)] at hk;simp only[c0,c_ref13_tail,sxZ,z6,z7,z8,j4,j5,j6,j7,j8,j9,x3,x4,x5,x6,x7,x8,reduceCtorEq,↓reduceIte];exact hk
 ·simp only[c0,c_ref13_tail,sxZ,z6,z7,z8,j4,j5,j6,j7,j8,j9,x3,x4,x5,x6,x7,x8,reduceCtorEq,↓reduceIte];exact⟨by omega,hk⟩
theorem zmm (s:List UInt8) (hs:s.length<=9000000000000000000) (hk:K objs (.i .i64 (zbj s:Nat))):zad Tryz.prog 104 [.s s] objs K:=by
 refine zaL is_ref13_run rfl fun C _=>?_;simp only[c_ref13_run,sxZ,z6,z7,z8,j4,j5,j6,j7,j8,j9,x3,x4,x5,x6,x7,x8,reduceCtorEq,↓reduceIte];refine zaF (fun n objs tm=>∃i:Nat,i<=s.length/\n=s.length - i/\objs=[]/\zbj s=i+zbj (s.drop i)/\tm.length=17/\tm[0]? = some (.s s)/\tm[3]? = some (.i .i64 i)) s.length ⟨0,zh _,rfl,rfl,by simp,rfl,rfl,rfl⟩ ?_;rintro n _ tm ⟨i,hi,rfl,rfl,hr,hlen,t0,t3⟩
 by_cases hlt:(i:Int)<s.length
 ·have hlt':i<s.length:=by omega
  have hg:=zaW hlt';have hrn:=run_at s i hlt';simp only[sxZ,z6,z7,z8,j4,j5,j6,j7,j8,j9,x3,x4,x5,x6,x7,x8,reduceCtorEq,↓reduceIte,za,hlen,t0,t3,hlt];refine⟨by omega,?_⟩;rw[hg];refine zai (zfF s[i] ?_)
  by_cases hd:zaq s[i]=true
  ·rw[if_pos hd] at hrn;simp only[hd,sxZ,z6,z7,z8,j4,j5,j6,j7,j8,j9,x3,x4,x5,x6,x7,x8,reduceCtorEq,↓reduceIte,za,hlen,t0,t3];exact⟨⟨by omega,by omega⟩,s.length - (i+1),by omega,i+1,by omega,rfl,by omega,rfl⟩
  ·rw[if_neg hd] at hrn;simp only[Bool.not_eq_true] at hd;simp only[hd,sxZ,z6,z7,z8,j4,j5,j6,j7,j8,j9,x3,x4,x5,x6,x7,x8,reduceCtorEq,↓reduceIte,za,hlen,t0,t3];rw[hr,hrn] at hk;exact hk
 ·obtain rfl:i=s.length:=by omega
  simp only[sxZ,z6,z7,z8,j4,j5,j6,j7,j8,j9,x3,x4,x5,x6,x7,x8,reduceCtorEq,↓reduceIte,za,hlen,t0,t3,hlt];rw[hr,run_end] at hk;exact hk
set_option maxHeartbeats 4000000 in
theorem zgj (s:List UInt8) (hs:s.length<=140737488351232) (hk:K objs (.i .i64 (ze8 s:Nat))):zad Tryz.prog 84 [.s s] objs K:=by
 refine zaL is_ref13_numeral rfl fun C _=>?_;have hmx:=zey;rw[c_ref13_numeral];refine zaa fun Y1 hY1=>?_;simp only[sxZ,z6,z7,z8,j4,j5,j6,j7,j8,j9,x3,x4,x5,x6,x7,x8,reduceCtorEq,↓reduceIte];subst hY1;refine zaa fun Y1 hY1=>?_;simp only[sxZ,z6,z7,z8,j4,j5,j6,j7,j8,j9,x3,x4,x5,x6,x7,x8,reduceCtorEq,↓reduceIte];subst hY1;refine zaa fun Y1 hY1=>?_;refine zaz (fun o t=>o=[]/\t.length=99/\t[0]? = some (.s s)/\t[3]? = some (.i .i64 (zbL s:Nat))) ?_ ?_
 ·unfold zbL
  by_cases c1:(0:Int)<s.length
  ·have c1':0<s.length:=by omega
   have hg:=zaW c1';have h45:s[0]? = some 45↔((s[0].toNat:Nat):Int)=45:=zlS c1' 45 (by decide)
   by_cases c2:((s[0].toNat:Nat):Int)=45
   ·rw[if_pos (h45.2 c2)];simp only[c1,hg,c2,zab,sxZ,z6,z7,z8,j4,j5,j6,j7,j8,j9,x3,x4,x5,x6,x7,x8,reduceCtorEq,↓reduceIte]
    rfl
   ·rw[if_neg (fun h=>c2 (h45.1 h))];simp only[c1,hg,c2,zab,sxZ,z6,z7,z8,j4,j5,j6,j7,j8,j9,x3,x4,x5,x6,x7,x8,reduceCtorEq,↓reduceIte]
    rfl
  ·rw[if_neg (zdw (by omega))];simp only[c1,zab,sxZ,z6,z7,z8,j4,j5,j6,j7,j8,j9,x3,x4,x5,x6,x7,x8,reduceCtorEq,↓reduceIte]
   rfl
 rintro _ tm ⟨rfl,hlen,t0,t3⟩;subst hY1;have hsg:zbL s<=s.length:=by
  unfold zbL
  split
  ·rename_i h;have:=(zf.1 h).1;omega
  ·omega
 refine zaa fun Y1 hY1=>?_;unfold ze8 at hk;have hw:zbf s=if s[zbL s]? = some 48 then zbL s+1 else zbL s+zbj (s.drop (zbL s)):=rfl
 have hrl:0<zbj (s.drop (zbL s))->zbL s+zbj (s.drop (zbL s))<=s.length:=zbi s _;generalize zbL s=g at *
 by_cases c0:(g:Int)=s.length
 ·have hr0:zbj (s.drop g)=0:=by rw[xn (by omega)];rfl
  rw[if_pos hr0] at hk;simp only[c0,sxZ,z6,z7,z8,j4,j5,j6,j7,j8,j9,x3,x4,x5,x6,x7,x8,reduceCtorEq,↓reduceIte,za,hlen,t0,t3];exact hk
 have c1':g<s.length:=by omega
 have hg:=zaW c1';have hrun:=run_at s g c1';simp only[c0,hg,sxZ,z6,z7,z8,j4,j5,j6,j7,j8,j9,x3,x4,x5,x6,x7,x8,reduceCtorEq,↓reduceIte,za,hlen,t0,t3];refine⟨by omega,?_⟩;refine zai (zfF s[g] ?_)
 by_cases c2:zaq s[g]=true
 case neg=>
  rw[if_neg c2] at hrun;rw[if_pos hrun] at hk;simp only[Bool.not_eq_true] at c2;simp only[c2,sxZ,z6,z7,z8,j4,j5,j6,j7,j8,j9,x3,x4,x5,x6,x7,x8,reduceCtorEq,↓reduceIte,za,hlen,t0,t3];exact hk
 rw[if_pos c2] at hrun;rw[if_neg (by omega)] at hk;simp only[c2,sxZ,z6,z7,z8,j4,j5,j6,j7,j8,j9,x3,x4,x5,x6,x7,x8,reduceCtorEq,↓reduceIte,za,hlen,t0,t3];subst hY1;refine zaa fun Y1 hY1=>?_;refine zaz (fun o t=>o=[]/\t.length=99/\t[0]? = some (.s s)/\t[3]? = some (.i .i64 (zbf s:Nat))) ?_ ?_
 ·have h48:s[g]? = some 48↔((s[g].toNat:Nat):Int)=48:=zlS c1' 48 (by decide);rw[hw]
  by_cases c3:((s[g].toNat:Nat):Int)=48
  ·rw[if_pos (h48.2 c3)];simp only[hg,c3,zab,sxZ,z6,z7,z8,j4,j5,j6,j7,j8,j9,x3,x4,x5,x6,x7,x8,reduceCtorEq,↓reduceIte,za,hlen,t0,t3]
   and_intros<;>first|omega|exact iv (by omega)|rfl|assumption
  ·rw[if_neg (fun h=>c3 (h48.1 h))];simp only[hg,c3,zab,sxZ,z6,z7,z8,j4,j5,j6,j7,j8,j9,x3,x4,x5,x6,x7,x8,reduceCtorEq,↓reduceIte,za,hlen,t0,t3];refine⟨by omega,by omega,?_⟩;refine zai (zmm _ (by rw[qb];omega) ?_);have:=hrl (by omega);simp only[zab,sxZ,z6,z7,z8,j4,j5,j6,j7,j8,j9,x3,x4,x5,x6,x7,x8,reduceCtorEq,↓reduceIte,za,hlen,t0,t3]
   and_intros<;>first|omega|exact iv (by omega)|rfl|assumption
 rintro _ tm ⟨rfl,hlen,t0,t3⟩;subst hY1;refine zaa fun Y1 hY1=>?_;have hwl:zbf s<=s.length:=by
  rw[hw];have:=hrl (by omega)
  split<;>omega
 have hf:zda s (zbf s)=if s[zbf s]? = some 46/\0<zbj (s.drop (zbf s+1)) then zbf s+1+zbj (s.drop (zbf s+1)) else zbf s:=rfl
 generalize zbf s=w at *;clear hw hrl hrun hg c2 c0 c1';refine zaz (fun o t=>o=[]/\t.length=99/\t[0]? = some (.s s)/\t[3]? = some (.i .i64 (zda s w:Nat))) ?_ ?_
 ·rw[hf];simp only[sxZ,z6,z7,z8,j4,j5,j6,j7,j8,j9,x3,x4,x5,x6,x7,x8,reduceCtorEq,↓reduceIte,za,hlen,t0,t3];refine⟨by omega,?_⟩;refine zai (ziX s (w+1) ?_);simp only[sxZ,z6,z7,z8,j4,j5,j6,j7,j8,j9,x3,x4,x5,x6,x7,x8,reduceCtorEq,↓reduceIte,za,hlen,t0,t3];refine zai (zmm _ (by rw[qb];omega) ?_);have hr:=zbi s (w+1);generalize zbj (s.drop (w+1))=r at *
  by_cases c1:(w:Int)<s.length
  ·have c1':w<s.length:=by omega
   have hg:=zaW c1';have h46:s[w]? = some 46↔((s[w].toNat:Nat):Int)=46:=zlS c1' 46 (by decide)
   by_cases c2:((s[w].toNat:Nat):Int)=46
   ·by_cases c3:0<r
    ·rw[if_pos ⟨h46.2 c2,c3⟩];have c3':(0:Int)<r:=by omega
     simp only[c1,hg,c2,c3',zab,sxZ,z6,z7,z8,j4,j5,j6,j7,j8,j9,x3,x4,x5,x6,x7,x8,reduceCtorEq,↓reduceIte,za,hlen,t0,t3]
     and_intros<;>first|omega|exact iv (by omega)|rfl|assumption
    ·rw[if_neg (fun h=>c3 h.2)];have c3':¬(0:Int)<r:=by omega
     simp only[c1,hg,c2,c3',zab,sxZ,z6,z7,z8,j4,j5,j6,j7,j8,j9,x3,x4,x5,x6,x7,x8,reduceCtorEq,↓reduceIte,za,hlen,t0,t3]
     and_intros<;>first|omega|exact iv (by omega)|rfl|assumption
   ·rw[if_neg (fun h=>c2 (h46.1 h.1))];simp only[c1,hg,c2,zab,sxZ,z6,z7,z8,j4,j5,j6,j7,j8,j9,x3,x4,x5,x6,x7,x8,reduceCtorEq,↓reduceIte,za,hlen,t0,t3]
    and_intros<;>first|omega|exact iv (by omega)|rfl|assumption
  ·rw[if_neg (fun h=>zdw (by omega) h.1)];simp only[c1,zab,sxZ,z6,z7,z8,j4,j5,j6,j7,j8,j9,x3,x4,x5,x6,x7,x8,reduceCtorEq,↓reduceIte,za,hlen,t0,t3]
 rintro _ tm ⟨rfl,hlen,t0,t3⟩;subst hY1;refine zaa fun Y1 hY1=>?_;have hfl:zda s w<=s.length:=by
  rw[hf]
  split
  ·rename_i h;have:=zbi s (w+1) h.2;omega
  ·exact hwl
 generalize zda s w=f at *;clear hf;have hx:zbB s f=if s[f+1]? = some 43\/s[f+1]? = some 45 then f+2 else f+1:=rfl
 have he:expN s f=if (s[f]? = some 101\/s[f]? = some 69)/\0<zbj (s.drop (zbB s f)) then zbB s f+zbj (s.drop (zbB s f)) else f:=rfl
 have in2:∀(i:Nat) (hi:i<s.length) (x y:UInt8),zcl s[i] [x,y]=decide (s[i]? = some x\/s[i]? = some y):=by
  intro i hi x y;rw[zl hi];simp[zcl,eq_comm]
 refine zaz (fun o t=>o=[]/\t.length=99/\t[3]? = some (.i .i64 (expN s f:Nat))) ?_ ?_
 ·refine zaa fun Y2 hY2=>?_;refine zaz (fun o t=>o=[]/\t.length=99/\t[0]? = some (.s s)/\t[3]? = some (.i .i64 (f:Nat))/\t[74]? = some (.b (decide (s[f]? = some 101\/s[f]? = some 69)))) ?_ ?_
  ·by_cases c1:(f:Int)<s.length
   ·have c1':f<s.length:=by omega
    have hg:=zaW c1';simp only[c1,hg,sxZ,z6,z7,z8,j4,j5,j6,j7,j8,j9,x3,x4,x5,x6,x7,x8,reduceCtorEq,↓reduceIte,za,hlen,t0,t3];refine⟨by omega,?_⟩;refine zai (zh0 _ _ (by decide) ?_);rw[in2 f c1'];generalize decide (s[f]? = some 101\/s[f]? = some 69)=E;simp only[zab,sxZ,z6,z7,z8,j4,j5,j6,j7,j8,j9,x3,x4,x5,x6,x7,x8,reduceCtorEq,↓reduceIte,za,hlen,t0,t3]
   ·have hE:¬(s[f]? = some 101\/s[f]? = some 69):=fun h=>h.elim (zdw (by omega)) (zdw (by omega));simp only[c1,hE,zab,sxZ,z6,z7,z8,j4,j5,j6,j7,j8,j9,x3,x4,x5,x6,x7,x8,reduceCtorEq,↓reduceIte,za,hlen,t0,t3]
  rintro _ tm ⟨rfl,hlen,t0,t3,t74⟩;subst hY2;refine rn_condH fun X hX=>?_
  by_cases hE:s[f]? = some 101\/s[f]? = some 69
  case neg=>
   rw[he,if_neg (fun h=>hE h.1)];simp only[hE,zab,sxZ,z6,z7,z8,j4,j5,j6,j7,j8,j9,x3,x4,x5,x6,x7,x8,reduceCtorEq,↓reduceIte,za,hlen,t0,t3,t74]
  have c1':f<s.length:=by
   rcases hE with h|h
   all_goals exact(zf.1 h).1
  simp only[hE,sxZ,z6,z7,z8,j4,j5,j6,j7,j8,j9,x3,x4,x5,x6,x7,x8,reduceCtorEq,↓reduceIte,za,hlen,t0,t3,t74];subst hX;refine zaa fun Y2 hY2=>?_;refine zaz (fun o t=>o=[]/\t.length=99/\t[0]? = some (.s s)/\t[3]? = some (.i .i64 (f:Nat))/\t[5]? = some (.i .i64 ((f:Int)+1))) ?_ ?_
  ·simp only[zab,sxZ,z6,z7,z8,j4,j5,j6,j7,j8,j9,x3,x4,x5,x6,x7,x8,reduceCtorEq,↓reduceIte,za,hlen,t0,t3]
   and_intros<;>first|omega|exact iv (by omega)|rfl|assumption
  rintro _ tm ⟨rfl,hlen,t0,t3,t5⟩;subst hY2;refine zaa fun Y2 hY2=>?_;refine zaz (fun o t=>o=[]/\t.length=99/\t[0]? = some (.s s)/\t[3]? = some (.i .i64 (f:Nat))/\t[5]? = some (.i .i64 (zbB s f:Nat))) ?_ ?_
  ·rw[hx]
   by_cases d1:(f:Int)+1<s.length
   ·have d1':f+1<s.length:=by omega
    have hg2:=zaW d1';have e1:((f:Int)+1).toNat=f+1:=by omega
    simp only[d1,e1,hg2,sxZ,z6,z7,z8,j4,j5,j6,j7,j8,j9,x3,x4,x5,x6,x7,x8,reduceCtorEq,↓reduceIte,za,hlen,t0,t3,t5];refine⟨by omega,?_⟩;refine zai (zh0 _ _ (by decide) ?_);rw[in2 (f+1) d1']
    by_cases c4:s[f+1]? = some 43\/s[f+1]? = some 45
    ·rw[if_pos c4];simp only[c4,zab,sxZ,z6,z7,z8,j4,j5,j6,j7,j8,j9,x3,x4,x5,x6,x7,x8,reduceCtorEq,↓reduceIte,za,hlen,t0,t3,t5]
     and_intros<;>first|omega|exact iv (by omega)|rfl|assumption
    ·rw[if_neg c4];simp only[c4,zab,sxZ,z6,z7,z8,j4,j5,j6,j7,j8,j9,x3,x4,x5,x6,x7,x8,reduceCtorEq,↓reduceIte,za,hlen,t0,t3,t5]
     and_intros<;>first|omega|exact iv (by omega)|rfl|assumption
   ·rw[if_neg (fun h=>h.elim (zdw (by omega)) (zdw (by omega)))];simp only[d1,zab,sxZ,z6,z7,z8,j4,j5,j6,j7,j8,j9,x3,x4,x5,x6,x7,x8,reduceCtorEq,↓reduceIte,za,hlen,t0,t3,t5]
    and_intros<;>first|omega|exact iv (by omega)|rfl|assumption
  rintro _ tm ⟨rfl,hlen,t0,t3,t5⟩;subst hY2;have hxl:zbB s f<=s.length:=by
   rw[hx]
   split
   ·rename_i h;rcases h with h|h
    all_goals
     have:=(zf.1 h).1;omega
   ·omega
  have hrl:=zbi s (zbB s f);generalize zbB s f=x at *;simp only[sxZ,z6,z7,z8,j4,j5,j6,j7,j8,j9,x3,x4,x5,x6,x7,x8,reduceCtorEq,↓reduceIte,za,hlen,t0,t3,t5];refine zai (ziX s x ?_);simp only[sxZ,z6,z7,z8,j4,j5,j6,j7,j8,j9,x3,x4,x5,x6,x7,x8,reduceCtorEq,↓reduceIte,za,hlen,t0,t3,t5];refine zai (zmm _ (by rw[qb];omega) ?_);generalize zbj (s.drop x)=r at *;rw[he]
  by_cases c4:0<r
  ·rw[if_pos ⟨hE,c4⟩];have c4':(0:Int)<r:=by omega
   simp only[c4',zab,sxZ,z6,z7,z8,j4,j5,j6,j7,j8,j9,x3,x4,x5,x6,x7,x8,reduceCtorEq,↓reduceIte,za,hlen,t0,t3,t5]
   and_intros<;>first|omega|exact iv (by omega)|rfl|assumption
  ·rw[if_neg (fun h=>c4 h.2)];have c4':¬(0:Int)<r:=by omega
   simp only[c4',zab,sxZ,z6,z7,z8,j4,j5,j6,j7,j8,j9,x3,x4,x5,x6,x7,x8,reduceCtorEq,↓reduceIte,za,hlen,t0,t3,t5]
 rintro _ tm ⟨rfl,hlen,t3⟩;subst hY1;simp only[sxZ,z6,z7,z8,j4,j5,j6,j7,j8,j9,x3,x4,x5,x6,x7,x8,reduceCtorEq,↓reduceIte,za,hlen,t3];exact hk
end
theorem zl4 {p:NumS} (hp:p.Good):p.neg=decide (p.txt[0]? = some 45):=by
 obtain⟨c,t,e1,e2⟩:=zcM hp.i0 hp.i1;unfold NumS.txt
 cases p.neg with
 | true=>rfl
 | false=>
  rw[e1];have:c≠45:=zci e2 rfl;simp[sgT,this]
theorem num_uniq {p q:NumS} (hp:p.Good) (hq:q.Good) (h:p.txt=q.txt):p=q:=by
 have hn:p.neg=q.neg:=by rw[zl4 hp,zl4 hq,h]
 unfold NumS.txt at h;rw[hn] at h;have h:=List.append_cancel_left h;have r1:=zcn p.int _ hp.i1 (zfA hp);have r2:=zcn q.int _ hq.i1 (zfA hq);rw[h,r2] at r1;obtain⟨hi,hR⟩:=List.append_inj h r1.symm;have hx:p.fr=q.fr/\exT p.ex=exT q.ex:=by
  cases h1:p.fr with
  | nil=>
   cases h2:q.fr with
   | nil=>rw[h1,h2] at hR;exact⟨rfl,hR⟩
   | cons b u=>
    rw[h1,h2] at hR;exfalso;rcases zea hp 46 (by rw[show exT p.ex=frT (b::u)++exT q.ex from hR];rfl) with h3|h3<;>cases h3
  | cons a t=>
   cases h2:q.fr with
   | nil=>
    rw[h1,h2] at hR;exfalso;rcases zea hq 46 (by rw[show exT q.ex=frT (a::t)++exT p.ex from hR.symm];rfl) with h3|h3<;>cases h3
   | cons b u=>
    rw[h1,h2] at hR;have hR:(46:UInt8)::((a::t)++exT p.ex)=46::((b::u)++exT q.ex):=hR;injection hR with _ hR
    have hd:∀{r:NumS},r.Good->∀c,(exT r.ex)[0]? = some c->zaq c=false:=fun hr c h=>by
     rcases zea hr c h with rfl|rfl<;>rfl
    have k1:=zcn (a::t) _ (by rw[<-h1];exact hp.f1) (hd hp);have k2:=zcn (b::u) _ (by rw[<-h2];exact hq.f1) (hd hq);rw[hR,k2] at k1;exact List.append_inj hR k1.symm
 have he:p.ex=q.ex:=by
  have h3:=hx.2
  cases h1:p.ex with
  | none=>
   cases h2:q.ex with
   | none=>rfl
   | some e=>obtain⟨c,s,d⟩:=e;rw[h1,h2] at h3;cases h3
  | some e=>
   obtain⟨c,s,d⟩:=e
   cases h2:q.ex with
   | none=>rw[h1,h2] at h3;cases h3
   | some e'=>
    obtain⟨c',s',d'⟩:=e';have k1:=(zjj 0 hp h1).2;have k2:=(zjj 0 hq h2).2;rw[h1,h2] at h3;have h3:c::(s++d)=c'::(s'++d'):=h3;injection h3 with e1 e2
    rw[e2,k2] at k1;subst k1;rw[e1,List.append_cancel_right e2]
 obtain⟨pn,pi,pf,pe⟩:=p;obtain⟨qn,qi,qf,qe⟩:=q;simp only at hn hi hx he;rw[hn,hi,hx.1,he]
section
variable [Tabs Tryz.prog] {objs:List OB} {K:List OB->AV->Prop}
end
theorem minV_at (c:Nat) (l:List UInt8) (i n:Nat) (h:i<l.length):zi8 c (l.drop i) n=zi8 c (l.drop (i+1)) (min (n*10+(l[i].toNat - 48)) c):=by
 rw[jn h,zi8]
theorem zoU {p:NumS} (hp:p.Good):zlD p.body [101,69]=(p.int++frT p.fr).length:=by
 have hno:(p.int++frT p.fr).findIdx (fun c=>zcl c [101,69])=(p.int++frT p.fr).length:=by
  rw[List.findIdx_eq_length];intro c hc;rcases List.mem_append.1 hc with h|h
  ·exact(zdS (qd.1 hp.i1 c h)).2.1
  ·exact(frT_mem hp.f1 c h).2
 unfold zlD NumS.body;rw[<-qc,List.findIdx_append,hno,if_neg (by omega)]
 cases he:p.ex with
 | none=>simp[exT]
 | some e=>
  obtain⟨k,s,d⟩:=e;have:(exT (some (k,s,d))).findIdx (fun c=>zcl c [101,69])=0:=by
   unfold exT;rw[List.findIdx_cons];rcases(hp.e1 k s d he).1 with rfl|rfl<;>rfl
  rw[this,Nat.zero_add]
theorem ziD (p:NumS):p.body.take (p.int++frT p.fr).length=p.int++frT p.fr:=by
 unfold NumS.body;rw[<-qc,List.take_left]
theorem body_exp {p:NumS} (hp:p.Good) (c:Nat):expC c (p.body.drop ((p.int++frT p.fr).length+1))=zfP c p.ex/\(zen (p.body.drop ((p.int++frT p.fr).length+1))).all zaq=true:=by
 have hd:p.body.drop ((p.int++frT p.fr).length+1)=(exT p.ex).drop 1:=by
  unfold NumS.body;rw[<-qc,<-jj,List.drop_left]
 rw[hd]
 cases he:p.ex with
 | none=>exact⟨rfl,rfl⟩
 | some e=>
  obtain⟨k,s,d⟩:=e;have h:=zjj c hp he;have h4:=(hp.e1 k s d he).2.2.2;rw[he] at h;show expC c (s++d)=_/\(zen (s++d)).all zaq=true;rw[h.2];exact⟨h.1,h4⟩
theorem zR_last {l:List UInt8} (h:l≠[]) (h2:l.getLast h≠48):zR l=l:=by
 unfold zR;rw[zL_id,List.reverse_reverse];intro c hc;rw[<-List.head?_eq_getElem?,List.head?_reverse,List.getLast?_eq_some_getLast h] at hc;injection hc with hc
 rw[<-hc];exact h2
section
variable [Tabs Tryz.prog] {objs:List OB} {K:List OB->AV->Prop}
set_option maxHeartbeats 2000000 in
theorem ziY (l:List UInt8) (hl:l.length<=140737488351232) (hd:(zen l).all zaq=true) (hk:K objs (.i .i64 (expC 1073741824 l))):zad Tryz.prog 85 [.s l] objs K:=by
 refine zaL is_ref13_exponent rfl fun C _=>?_;rw[c_ref13_exponent];refine zaa fun Y1 hY1=>?_;simp only[sxZ,z6,z7,z8,j4,j5,j6,j7,j8,j9,x3,x4,x5,x6,x7,x8,reduceCtorEq,↓reduceIte];subst hY1;refine zaa fun Y1 hY1=>?_;refine zaz (fun o t=>o=[]/\t.length=41/\t[0]? = some (.s l)/\t[3]? = some (.b (negE l))) ?_ ?_
 ·unfold negE
  by_cases c0:l=[]
  ·subst c0;simp[zab,sxZ,z6,z7,z8,j4,j5,j6,j7,j8,j9,x3,x4,x5,x6,x7,x8,reduceCtorEq,↓reduceIte]
  ·have l0:0<l.length:=jr.2 c0;have g0:=zaW l0;have h45:l[0]? = some 45↔((l[0].toNat:Nat):Int)=45:=zlS l0 45 (by decide);simp only[c0,g0,zab,sxZ,z6,z7,z8,j4,j5,j6,j7,j8,j9,x3,x4,x5,x6,x7,x8,reduceCtorEq,↓reduceIte];refine⟨by omega,?_⟩
   by_cases c1:((l[0].toNat:Nat):Int)=45
   ·rw[decide_eq_true c1,decide_eq_true (h45.2 c1)]
   ·rw[decide_eq_false c1,decide_eq_false (fun h=>c1 (h45.1 h))]
 rintro _ tm ⟨rfl,hlen,t0,t3⟩;subst hY1;refine zaa fun Y1 hY1=>?_;refine zaz (fun o t=>o=[]/\t.length=41/\t[0]? = some (.s (zen l))/\t[3]? = some (.b (negE l))) ?_ ?_
 ·unfold zen
  by_cases c0:l=[]
  ·subst c0;simp only[zab,sxZ,z6,z7,z8,j4,j5,j6,j7,j8,j9,x3,x4,x5,x6,x7,x8,reduceCtorEq,↓reduceIte,za,hlen,t0,t3]
   rfl
  ·have l0:0<l.length:=jr.2 c0;have g0:=zaW l0;simp only[c0,g0,sxZ,z6,z7,z8,j4,j5,j6,j7,j8,j9,x3,x4,x5,x6,x7,x8,reduceCtorEq,↓reduceIte,za,hlen,t0,t3];refine⟨by omega,?_⟩;refine zai (zh0 _ _ (by decide) ?_);have hin:zcl l[0] [43,45]=decide (l[0]? = some 43\/l[0]? = some 45):=by
    rw[zl l0];simp[zcl,eq_comm]
   rw[hin]
   by_cases c1:l[0]? = some 43\/l[0]? = some 45
   ·rw[if_pos c1];simp only[c1,zab,sxZ,z6,z7,z8,j4,j5,j6,j7,j8,j9,x3,x4,x5,x6,x7,x8,reduceCtorEq,↓reduceIte,za,hlen,t0,t3]
    and_intros<;>first|omega|exact iv (by omega)|rfl|assumption
   ·rw[if_neg c1];simp only[c1,zab,sxZ,z6,z7,z8,j4,j5,j6,j7,j8,j9,x3,x4,x5,x6,x7,x8,reduceCtorEq,↓reduceIte,za,hlen,t0,t3]
 rintro _ tm ⟨rfl,hlen,t0,t3⟩;subst hY1;have hsl:(zen l).length<=l.length:=by unfold zen;split<;>simp
 unfold expC at hk;generalize negE l=ng at *;generalize zen l=d at *;refine zaa fun Y1 hY1=>?_;simp only[sxZ,z6,z7,z8,j4,j5,j6,j7,j8,j9,x3,x4,x5,x6,x7,x8,reduceCtorEq,↓reduceIte,za,hlen,t0,t3];subst hY1;refine zaa fun Y1 hY1=>?_;refine zaz (fun o t=>o=[]/\t.length=41/\t[3]? = some (.b ng)/\t[4]? = some (.i .i64 (zi8 1073741824 d 0:Nat))) ?_ ?_
 ·simp only[sxZ,z6,z7,z8,j4,j5,j6,j7,j8,j9,x3,x4,x5,x6,x7,x8,reduceCtorEq,↓reduceIte,za,hlen,t0,t3];refine zaF (fun k objs tm=>∃(i n:Nat),i<=d.length/\k=d.length - i/\objs=[]/\n<=1073741824/\zi8 1073741824 d 0=zi8 1073741824 (d.drop i) n/\tm.length=41/\tm[0]? = some (.s d)/\tm[3]? = some (.b ng)/\tm[4]? = some (.i .i64 (n:Nat))/\tm[5]? = some (.i .i64 (i:Nat))) d.length
   ⟨0,0,zh _,rfl,rfl,by omega,rfl,by simp[hlen],by simp[t0],by simp[t3],by simp[hlen],by simp[hlen]⟩ ?_
  rintro k _ tm ⟨i,n,hi,rfl,rfl,hn,hm,hlen,t0,t3,t4,t5⟩
  by_cases hlt:(i:Int)<d.length
  ·have hlt':i<d.length:=by omega
   have hg:=zaW hlt';have hdi:=zho (qd.1 hd _ (List.getElem_mem hlt'));have hmv:=minV_at 1073741824 d i n hlt';have hw:IntKind.u8.wrap (((d[i].toNat:Nat):Int) - 48)=((d[i].toNat - 48:Nat):Int):=by
    simp[IntKind.wrap,IntKind.bits,IntKind.signed];omega
   have hw2:IntKind.i64.wrap ((d[i].toNat - 48:Nat):Int)=((d[i].toNat - 48:Nat):Int):=by rw[IntKind.wrap_i64];omega
   simp only[hlt,hg,hw,hw2,sxZ,z6,z7,z8,j4,j5,j6,j7,j8,j9,x3,x4,x5,x6,x7,x8,reduceCtorEq,↓reduceIte,za,hlen,t0,t3,t4,t5];have hv:d[i].toNat - 48<=9:=by omega
   generalize d[i].toNat - 48=v at *;exact⟨by omega,by omega,by omega,by omega,d.length - (i+1),by omega,i+1,min (n*10+v) 1073741824,by omega,rfl,by omega,by rw[hm,hmv],iv (by split<;>omega),iv (by omega)⟩
  ·obtain rfl:i=d.length:=by omega
   rw[xm,zi8] at hm;simp only[hlt,za9,zab,sxZ,z6,z7,z8,j4,j5,j6,j7,j8,j9,x3,x4,x5,x6,x7,x8,reduceCtorEq,↓reduceIte,za,hlen,t0,t3,t4,t5];rw[hm]
 rintro _ tm ⟨rfl,hlen,t3,t4⟩;subst hY1;have hml:=minV_le 1073741824 d 0 (by omega);generalize zi8 1073741824 d 0=n at *
 cases ng with
 | true=>
  simp only[sxZ,z6,z7,z8,j4,j5,j6,j7,j8,j9,x3,x4,x5,x6,x7,x8,reduceCtorEq,↓reduceIte,za,hlen,t3,t4];rw[if_pos rfl] at hk;refine⟨by omega,?_⟩;rw[Int.zero_sub];exact hk
 | false=>
  simp only[sxZ,z6,z7,z8,j4,j5,j6,j7,j8,j9,x3,x4,x5,x6,x7,x8,reduceCtorEq,↓reduceIte,za,hlen,t3,t4];rw[if_neg (by simp)] at hk;exact hk
set_option maxHeartbeats 4000000 in
theorem zmp (s:List UInt8) (hs:s.length<=140737488351232) (h1:(s=[]\/ze8 s≠s.length)->K objs (.tup [.s [],.i .i64 130]))
  (h2:∀p:NumS,p.Good->s=p.txt->K objs (.tup [.s (canP 1073741824 p).2,.i .i64 (canP 1073741824 p).1])):zad Tryz.prog 59 [.s s] objs K:=by
 refine zaL is_ref13_Number rfl fun C _=>?_;have hmx:=zey
 by_cases c0:s=[]
 ·have h1:=h1 (.inl c0);simp only[c0,c_ref13_Number,sxZ,z6,z7,z8,j4,j5,j6,j7,j8,j9,x3,x4,x5,x6,x7,x8,reduceCtorEq,↓reduceIte];exact h1
 rw[c_ref13_Number];refine zaa fun Y1 hY1=>?_;simp only[sxZ,z6,z7,z8,j4,j5,j6,j7,j8,j9,x3,x4,x5,x6,x7,x8,reduceCtorEq,↓reduceIte];subst hY1;refine zaa fun Y1 hY1=>?_;simp only[c0,sxZ,z6,z7,z8,j4,j5,j6,j7,j8,j9,x3,x4,x5,x6,x7,x8,reduceCtorEq,↓reduceIte];refine zai (zgj s hs ?_)
 by_cases c1:ze8 s=s.length
 case neg=>
  have c1':¬((ze8 s:Nat):Int)=s.length:=by omega
  simp only[c1',sxZ,z6,z7,z8,j4,j5,j6,j7,j8,j9,x3,x4,x5,x6,x7,x8,reduceCtorEq,↓reduceIte];exact h1 (.inr c1)
 clear h1;obtain⟨p,hp,rfl⟩:=zni c0 c1;have h2:=h2 p hp rfl;simp only[c1,sxZ,z6,z7,z8,j4,j5,j6,j7,j8,j9,x3,x4,x5,x6,x7,x8,reduceCtorEq,↓reduceIte];subst hY1;refine zaa fun Y1 hY1=>?_;simp only[sxZ,z6,z7,z8,j4,j5,j6,j7,j8,j9,x3,x4,x5,x6,x7,x8,reduceCtorEq,↓reduceIte];subst hY1;refine zaa fun Y1 hY1=>?_;have hbl:p.body.length<=p.txt.length:=by unfold NumS.txt NumS.body;simp
 have htl:=zl5 p;have hml:(p.int++frT p.fr).length<=p.txt.length:=by unfold NumS.txt;simp;omega
 refine zaz (fun o t=>o=[]/\t.length=117/\t[0]? = some (.s p.body)/\t[4]? = some (.s (sgT p.neg))) ?_ ?_
 ·obtain⟨c,t,e1,e2⟩:=zcM hp.i0 hp.i1;have n45:¬((c.toNat:Nat):Int)=45:=by have:=zho e2;omega
  have hb:p.txt=sgT p.neg++p.body:=rfl;have hpos:0<p.txt.length:=jr.2 c0
  cases hn:p.neg with
  | true=>
   have g1:(((p.txt.getD 0 0).toNat:Nat):Int)=45:=by rw[hb,hn];rfl
   have g2:p.txt.drop 1=p.body:=by rw[hb,hn];rfl
   generalize p.txt=W at *;simp only[sgT,g1,g2,zab,sxZ,z6,z7,z8,j4,j5,j6,j7,j8,j9,x3,x4,x5,x6,x7,x8,reduceCtorEq,↓reduceIte]
   and_intros<;>first|omega|exact iv (by omega)|rfl|assumption
  | false=>
   have g1:(p.txt.getD 0 0)=c:=by rw[hb,hn];unfold NumS.body;rw[e1];rfl
   have g2:p.txt=p.body:=by rw[hb,hn];rfl
   rw[g2] at g1 hpos ⊢;generalize p.body=W at *;simp only[sgT,g1,n45,zab,sxZ,z6,z7,z8,j4,j5,j6,j7,j8,j9,x3,x4,x5,x6,x7,x8,reduceCtorEq,↓reduceIte]
   and_intros<;>first|omega|exact iv (by omega)|rfl|assumption
 rintro _ tm ⟨rfl,hlen,t0,t4⟩;subst hY1;clear c0 c1;have hbe:=body_exp hp 1073741824;have hbt:=ziD p;have hil:(p.int++frT p.fr).length<=p.body.length:=by
  have h:=congrArg List.length (ziD p);rw[qh] at h;omega
 have hbi:=zoU hp;generalize hG:p.int++frT p.fr=G at *;refine zaa fun Y1 hY1=>?_;simp only[sxZ,z6,z7,z8,j4,j5,j6,j7,j8,j9,x3,x4,x5,x6,x7,x8,reduceCtorEq,↓reduceIte,za,hlen,t0,t4];refine zai (zjU _ _ (by omega) (by decide) ?_);rw[hbi];simp only[sxZ,z6,z7,z8,j4,j5,j6,j7,j8,j9,x3,x4,x5,x6,x7,x8,reduceCtorEq,↓reduceIte,za,hlen,t0,t4];subst hY1;refine zaa fun Y1 hY1=>?_;refine zaz (fun o t=>o=[]/\t.length=117/\t[4]? = some (.s (sgT p.neg))/\t[6]? = some (.i .i64 (zfP 1073741824 p.ex))/\t[7]? = some (.s G)) ?_ ?_
 ·simp only[sxZ,z6,z7,z8,j4,j5,j6,j7,j8,j9,x3,x4,x5,x6,x7,x8,reduceCtorEq,↓reduceIte,za,hlen,t0,t4];refine⟨by omega,?_⟩;refine za5 (ziX p.body (G.length+1) ⟨rfl,rfl⟩) ?_;simp only[sxZ,z6,z7,z8,j4,j5,j6,j7,j8,j9,x3,x4,x5,x6,x7,x8,reduceCtorEq,↓reduceIte,za,hlen,t0,t4];refine za5 (ziY _ (by rw[qb];omega) hbe.2 ⟨rfl,rfl⟩) ?_;simp only[hbe.1,hbt,zab,sxZ,z6,z7,z8,j4,j5,j6,j7,j8,j9,x3,x4,x5,x6,x7,x8,reduceCtorEq,↓reduceIte,za,hlen,t0,t4]
  and_intros<;>first|omega|exact iv (by omega)|rfl|assumption
 rintro _ tm ⟨rfl,hlen,t4,t6,t7⟩;subst hY1;refine zaa fun Y1 hY1=>?_;have hei:=expI_le 1073741824 p.ex;have hcp:=zoK hp;rw[hG] at hcp;have hi1:zlD G [46]=p.int.length:=by rw[zkw,hcp]
 have hGt:G.take p.int.length=p.int:=by rw[<-hG,List.take_left]
 have hGd:G.drop (p.int.length+1)=p.fr:=by
  rw[<-hG,<-jj,List.drop_left]
  cases p.fr<;>rfl
 have hGl:G.length=p.int.length+(frT p.fr).length:=by rw[<-hG,zp]
 refine zaz (fun o t=>o=[]/\t.length=117/\t[4]? = some (.s (sgT p.neg))/\t[6]? = some (.i .i64 (zfP 1073741824 p.ex - (p.fr.length:Int)))/\t[7]? = some (.s (p.int++p.fr))) ?_ ?_
 ·simp only[sxZ,z6,z7,z8,j4,j5,j6,j7,j8,j9,x3,x4,x5,x6,x7,x8,reduceCtorEq,↓reduceIte,za,hlen,t4,t6,t7];refine zai (zjU _ _ (by omega) (by decide) ?_);rw[hi1]
  cases hf:p.fr with
  | nil=>
   have c2:¬((p.int.length:Nat):Int)<G.length:=by rw[hf] at hGl;simp[frT] at hGl;omega
   have hG2:G=p.int:=by rw[<-hG,hf];simp[frT]
   simp only[c2,zab,sxZ,z6,z7,z8,j4,j5,j6,j7,j8,j9,x3,x4,x5,x6,x7,x8,reduceCtorEq,↓reduceIte,za,hlen,t4,t6,t7];rw[hG2]
   and_intros<;>first|omega|exact iv (by omega)|rfl|assumption
  | cons a u=>
   rw[hf] at hGd;have c2:((p.int.length:Nat):Int)<G.length:=by rw[hf] at hGl;simp[frT] at hGl;omega
   have hfl:G.length=p.int.length+(u.length+1)+1:=by rw[hf] at hGl;simp[frT] at hGl;omega
   have e1:(((p.int.length:Nat):Int)+1).toNat=p.int.length+1:=by omega
   simp only[c2,e1,hGt,hGd,zab,sxZ,z6,z7,z8,j4,j5,j6,j7,j8,j9,x3,x4,x5,x6,x7,x8,reduceCtorEq,↓reduceIte,za,hlen,t4,t6,t7]
   and_intros<;>first|omega|exact iv (by omega)|rfl|assumption
 rintro _ tm ⟨rfl,hlen,t4,t6,t7⟩;subst hY1;clear hbe hbt hil hcp hbi hi1 hGt hGd hGl hG hml;refine zaa fun Y1 hY1=>?_;have hzl:=zL_len (p.int++p.fr);rw[zp] at hzl;refine zaz (fun o t=>o=[]/\t.length=117/\t[4]? = some (.s (sgT p.neg))/\t[6]? = some (.i .i64 (zfP 1073741824 p.ex - (p.fr.length:Int)))/\t[7]? = some (.s (zeA p))) ?_ ?_
 ·simp only[sxZ,z6,z7,z8,j4,j5,j6,j7,j8,j9,x3,x4,x5,x6,x7,x8,reduceCtorEq,↓reduceIte];refine zaF (fun k o t=>∃l:List UInt8,k=l.length/\o=[]/\zL l=zeA p/\t.length=117/\t[4]? = some (.s (sgT p.neg))/\t[6]? = some (.i .i64 (zfP 1073741824 p.ex - (p.fr.length:Int)))/\t[7]? = some (.s l)) (p.int++p.fr).length ⟨p.int++p.fr,rfl,rfl,rfl,hlen,t4,t6,t7⟩ ?_;rintro k _ tm ⟨l,rfl,rfl,hz,hlen,t4,t6,t7⟩
  cases l with
  | nil=>
   have z:¬(0:Int)<((0:Nat):Int):=by decide
   simp only[z,za9,zab,sxZ,z6,z7,z8,j4,j5,j6,j7,j8,j9,x3,x4,x5,x6,x7,x8,reduceCtorEq,↓reduceIte,za,hlen,t4,t6,t7];rw[<-hz];rfl
  | cons c u=>
   have hp1:(0:Int)<((u.length+1:Nat):Int):=by omega
   have hp2:(c::u).getD 0 0=c:=rfl;rw[zgO] at hz
   by_cases c1:((c.toNat:Nat):Int)=48
   ·have hc:c=48:=(zel (by decide)).1 c1;rw[if_pos hc] at hz;simp only[hp1,hp2,c1,za9,zab,sxZ,z6,z7,z8,j4,j5,j6,j7,j8,j9,x3,x4,x5,x6,x7,x8,reduceCtorEq,↓reduceIte,za,hlen,t4,t6,t7];exact⟨by omega,u.length,by omega,u,rfl,hz,rfl⟩
   ·have hc:¬c=48:=fun h=>c1 ((zel (by decide)).2 h);rw[if_neg hc] at hz;simp only[hp1,hp2,c1,za9,zab,sxZ,z6,z7,z8,j4,j5,j6,j7,j8,j9,x3,x4,x5,x6,x7,x8,reduceCtorEq,↓reduceIte,za,hlen,t4,t6,t7];rw[hz]
 rintro _ tm ⟨rfl,hlen,t4,t6,t7⟩;subst hY1;refine zaa fun Y1 hY1=>?_;have hmh:=znp p;unfold canP at h2;unfold expX at h2
 by_cases c2:zeA p=[]
 ·rw[if_pos c2] at h2;simp only[c2,sxZ,z6,z7,z8,j4,j5,j6,j7,j8,j9,x3,x4,x5,x6,x7,x8,reduceCtorEq,↓reduceIte,za,hlen,t4,t6,t7];exact h2
 rw[if_neg c2] at h2;have hml2:=zj6 p;simp only[c2,sxZ,z6,z7,z8,j4,j5,j6,j7,j8,j9,x3,x4,x5,x6,x7,x8,reduceCtorEq,↓reduceIte,za,hlen,t4,t6,t7];subst hY1;have hX:-(300000000000000:Int)<=zfP 1073741824 p.ex - (p.fr.length:Int)/\zfP 1073741824 p.ex - (p.fr.length:Int)<=300000000000000:=by omega
 generalize zfP 1073741824 p.ex - (p.fr.length:Int)=X at *;generalize zeA p=M at *;refine zaa fun Y1 hY1=>?_;refine zaz (fun o t=>o=[]/\t.length=117/\t[4]? = some (.s (sgT p.neg))/\t[6]? = some (.i .i64 (X+((M.length:Int) - (zR M).length)))/\t[7]? = some (.s (zR M))) ?_ ?_
 ·simp only[sxZ,z6,z7,z8,j4,j5,j6,j7,j8,j9,x3,x4,x5,x6,x7,x8,reduceCtorEq,↓reduceIte];refine zaF (fun k o t=>∃(l:List UInt8) (j:Nat),k=l.length/\o=[]/\l≠[]/\M=l++qo j 48/\t.length=117/\t[4]? = some (.s (sgT p.neg))/\t[6]? = some (.i .i64 (X+(j:Nat)))/\t[7]? = some (.s l)) M.length ⟨M,0,rfl,rfl,c2,by simp,by simp[hlen],by simp[t4],by simp[t6],by simp[t7]⟩ ?_;rintro k _ tm ⟨l,j,rfl,rfl,hl0,hM,hlen,t4,t6,t7⟩;have hl1:0<l.length:=jr.2 hl0;have hi:l.length - 1<l.length:=by omega
  have hg:=zaW hi;have e1:(((l.length:Nat):Int) - 1).toNat=l.length - 1:=by omega
  have hll:l.getLast hl0=l[l.length - 1]:=List.getLast_eq_getElem hl0;have hMl:M.length=l.length+j:=by rw[hM];simp
  by_cases c3:((l[l.length - 1].toNat:Nat):Int)=48
  ·have hc:l[l.length - 1]=48:=(zel (by decide)).1 c3;have hsp:l=l.take (l.length - 1)++[48]:=by
    have h:=List.dropLast_concat_getLast hl0;rw[hll,hc,List.dropLast_eq_take] at h;exact h.symm
   have hM2:M=l.take (l.length - 1)++qo (j+1) 48:=by
    conv=>lhs;rw[hM,hsp]
    rw[qc,ya];rfl
   have hne:¬l.take (l.length - 1)=[]:=by
    intro h;rw[h,List.nil_append,ya] at hM2;exact hmh 48 (by rw[hM2];rfl) rfl
   have htk:(l.take (l.length - 1)).length=l.length - 1:=by rw[qh];omega
   simp only[e1,hg,c3,sxZ,z6,z7,z8,j4,j5,j6,j7,j8,j9,x3,x4,x5,x6,x7,x8,reduceCtorEq,↓reduceIte,za,hlen,t4,t6,t7];exact⟨by omega,by omega,by omega,by omega,by omega,(l.take (l.length - 1)).length,by omega,l.take (l.length - 1),j+1,rfl,hne,hM2,iv (by omega),rfl⟩
  ·have hc:¬l[l.length - 1]=48:=fun h=>c3 ((zel (by decide)).2 h);have hz:zR M=l:=by rw[hM,zR_rep,zR_last hl0 (by rw[hll];exact hc)]
   simp only[e1,hg,c3,za9,zab,sxZ,z6,z7,z8,j4,j5,j6,j7,j8,j9,x3,x4,x5,x6,x7,x8,reduceCtorEq,↓reduceIte,za,hlen,t4,t6,t7];rw[hz];exact⟨by omega,by omega,iv (by omega),rfl⟩
 rintro _ tm ⟨rfl,hlen,t4,t6,t7⟩;subst hY1;have hzr:=zR_len M;generalize X+((M.length:Int) - ((zR M).length:Int))=x at *;generalize zR M=m at *
 by_cases d1:(40:Int)<m.length
 ·rw[if_pos (.inl (by omega))] at h2;simp only[d1,sxZ,z6,z7,z8,j4,j5,j6,j7,j8,j9,x3,x4,x5,x6,x7,x8,reduceCtorEq,↓reduceIte,za,hlen,t4,t6,t7];exact h2
 by_cases d3:400<x
 ·rw[if_pos (.inr (.inr d3))] at h2;simp only[d1,d3,sxZ,z6,z7,z8,j4,j5,j6,j7,j8,j9,x3,x4,x5,x6,x7,x8,reduceCtorEq,↓reduceIte,za,hlen,t4,t6,t7];exact h2
 by_cases d2:x < -400
 ·rw[if_pos (.inr (.inl d2))] at h2;simp only[d1,d2,d3,sxZ,z6,z7,z8,j4,j5,j6,j7,j8,j9,x3,x4,x5,x6,x7,x8,reduceCtorEq,↓reduceIte,za,hlen,t4,t6,t7];exact h2
 rw[if_neg (by omega)] at h2;have hsg:(sgT p.neg).length<=1:=by unfold sgT;split<;>simp
 unfold expS at h2;generalize sgT p.neg=sg at *;have hdl:(Lib.decDigits x.natAbs).length<=20:=by rw[Lib.decDigits_length];exact Lib.nDigits_le20 _ (by omega)
 by_cases d4:x<0
 ·rw[if_neg (show ¬x=0 by omega)] at h2;have hw:IntKind.u64.wrap (0 - x)=((x.natAbs:Nat):Int):=by rw[wrap_u64 _ (by omega) (by omega)];omega
  have hit:=Lib.itoa_neg x.natAbs (by omega);rw[show -((x.natAbs:Nat):Int)=x by omega] at hit;rw[hit] at h2;simp only[d1,d2,d3,d4,hw,sxZ,z6,z7,z8,j4,j5,j6,j7,j8,j9,x3,x4,x5,x6,x7,x8,reduceCtorEq,↓reduceIte,za,hlen,t4,t6,t7]
  (and_intros<;>try omega)
  refine zai (zgl _ (by omega) ?_);simp only[sxZ,z6,z7,z8,j4,j5,j6,j7,j8,j9,x3,x4,x5,x6,x7,x8,reduceCtorEq,↓reduceIte,za,hlen,t4,t6,t7]
  (and_intros<;>try omega)
  simpa using h2
 by_cases d5:0<x
 ·rw[if_neg (show ¬x=0 by omega)] at h2;have hw:IntKind.u64.wrap x=((x.natAbs:Nat):Int):=by rw[wrap_u64 _ (by omega) (by omega)];omega
  have hit:=Lib.itoa_nonneg x.natAbs;rw[show ((x.natAbs:Nat):Int)=x by omega] at hit;rw[hit] at h2;simp only[d1,d2,d3,d4,d5,hw,sxZ,z6,z7,z8,j4,j5,j6,j7,j8,j9,x3,x4,x5,x6,x7,x8,reduceCtorEq,↓reduceIte,za,hlen,t4,t6,t7]
  (and_intros<;>try omega)
  refine zai (zgl _ (by omega) ?_);simp only[sxZ,z6,z7,z8,j4,j5,j6,j7,j8,j9,x3,x4,x5,x6,x7,x8,reduceCtorEq,↓reduceIte,za,hlen,t4,t6,t7]
  (and_intros<;>try omega)
  simpa using h2
 ·rw[if_pos (show x=0 by omega)] at h2;simp only[d1,d2,d3,d4,d5,sxZ,z6,z7,z8,j4,j5,j6,j7,j8,j9,x3,x4,x5,x6,x7,x8,reduceCtorEq,↓reduceIte,za,hlen,t4,t6,t7]
  (and_intros<;>try omega)
  simpa using h2
end
theorem zld {n:Nat} (h:n<=65535):IntKind.i64.wrap ((n:Nat):Int)=n:=by rw[IntKind.wrap_i64];omega
section
variable [Tabs Tryz.prog] {objs:List OB} {K:List OB->AV->Prop}
theorem runit_k (s:List UInt8) (a:Nat) (ha:a<=9000000000000000000) (hs:s.length<=140737488351232) (hk:match zcS (s.drop a) with|some n=>K objs (.tup [.i .i64 (n:Nat),.b true])|none=>∀x,K objs (.tup [.i .i64 x,.b false])):zad Tryz.prog 119 [.s s,.i .i64 (a:Nat)] objs K:=by
 refine zaL is_ref13_unit rfl fun C _=>?_;have hb:=zj3 za0 16 65535 (((s.drop a).drop 2).take 4);unfold zcS at hk;rw[qb,zfR,zfR,jc] at hk
 by_cases c0:(s.length:Int)<(a:Int)+6
 ·rw[if_pos (.inl (by omega))] at hk;simp only[c0,c_ref13_unit,sxZ,z6,z7,z8,j4,j5,j6,j7,j8,j9,x3,x4,x5,x6,x7,x8,reduceCtorEq,↓reduceIte];exact⟨by omega,hk 0⟩
 have l0:a<s.length:=by omega
 have l1:a+1<s.length:=by omega
 have g0:=zaW l0;have g1:=zaW l1;have e2:((a:Int)+1).toNat=a+1:=by omega
 have e0:s[a]? = some 92↔((s[a].toNat:Nat):Int)=92:=zlS l0 92 (by decide);have e1:s[a+1]? = some 117↔((s[a+1].toNat:Nat):Int)=117:=zlS l1 117 (by decide);have e3:((a:Int)+2).toNat=a+2:=by omega
 have e4:((a:Int)+6).toNat=a+6:=by omega
 by_cases c1:((s[a].toNat:Nat):Int)=92
 ·by_cases c2:((s[a+1].toNat:Nat):Int)=117
  ·rw[if_neg (by rintro(h|h|h);exact absurd h (by omega);exact h (e0.2 c1);exact h (e1.2 c2))] at hk;simp only[c0,c1,c2,e2,e3,e4,g0,g1,c_ref13_unit,sxZ,z6,z7,z8,j4,j5,j6,j7,j8,j9,x3,x4,x5,x6,x7,x8,reduceCtorEq,↓reduceIte];refine⟨by omega,by omega,by omega,by omega,by omega,by omega,by omega,?_⟩;have hx:(s.take (a+6)).drop (a+2)=((s.drop a).drop 2).take 4:=by
    rw[jj,show a+6=(a+2)+4 by omega,zfo]
   rw[hx];refine zai (rnHex_k _ 65535 (by rw[qh,qb,zey];omega) (by decide) ?_);simp only[sxZ,z6,z7,z8,j4,j5,j6,j7,j8,j9,x3,x4,x5,x6,x7,x8,reduceCtorEq,↓reduceIte];generalize ze2 za0 16 65535 (((s.drop a).drop 2).take 4)=q at *;obtain⟨e,n⟩:=q;simp only at hk hb ⊢;rw[zld hb]
   by_cases c3:e=0
   ·rw[if_pos c3] at hk;rw[decide_eq_true c3];exact hk
   ·rw[if_neg c3] at hk;rw[decide_eq_false c3];exact hk _
  ·rw[if_pos (.inr (.inr (fun h=>c2 (e1.1 h))))] at hk;simp only[c0,c1,c2,e2,g0,g1,c_ref13_unit,sxZ,z6,z7,z8,j4,j5,j6,j7,j8,j9,x3,x4,x5,x6,x7,x8,reduceCtorEq,↓reduceIte];refine⟨by omega,by omega,by omega,by omega,hk 0⟩
 ·rw[if_pos (.inr (.inl (fun h=>c1 (e0.1 h))))] at hk;simp only[c0,c1,g0,g1,c_ref13_unit,sxZ,z6,z7,z8,j4,j5,j6,j7,j8,j9,x3,x4,x5,x6,x7,x8,reduceCtorEq,↓reduceIte];refine⟨by omega,by omega,hk 0⟩
end
theorem ziN {P:Program} [Tabs P] {f:FuncId} {args:List AV} {vs:List Value} {Q:Value->Prop} {w:World} (ha:vals args=some vs) (hT:Tabs.T (P:=P) w) (h:zad P f args [] (fun _ r=>∃v,val r=some v/\Q v)) :
  Calls P f vs.toArray w fun e w'=>∃v,e=.returned v/\Q v/\Qb w w':=by
 haveI:On P ⟨w,fun _=>False,fun g o v=>w.cell? ⟨g,o,none⟩=some v,Gh.none⟩:=⟨hT,fun _ h=>h⟩
 have hd:=(zbX Gh.none (fun g o v=>w.cell? ⟨g,o,none⟩=some v) args vs ha vs).2 rfl;have hc:=h ⟨w,fun _=>False,fun g o v=>w.cell? ⟨g,o,none⟩=some v,Gh.none⟩ Gh.none (fun g o v=>w.cell? ⟨g,o,none⟩=some v) w
  ⟨rfl,rfl,rfl,zd _,fun _ _ _=>rfl,fun _ _ _ h=>h,fun _ _ _ h=>.inl h,fun b g hb=>by simp[Gh.own,Gh.none] at hb,Gh.le.refl _⟩
  ⟨fun _ _ _ h=>h,by simp,by simp,by simp,fun b b' g hb=>by simp[Gh.own,Gh.none] at hb,fun b g hb=>by simp[Gh.own,Gh.none] at hb,fun b g o v hb=>by simp[Gh.own,Gh.none] at hb,fun b _=>⟨rfl,rfl⟩⟩ vs hd
 refine hc.mono ?_;rintro e w' ⟨y,objs',r,G',I',rfl,⟨v,hv,hq⟩,_,_,hin,_,hy⟩;rw[(zfm _ _ r v hv y).1 hy];exact⟨v,rfl,hq,hin.os,hin.tape,hin.output,hin.size,fun k hk=>hin.block k hk (fun h=>h)⟩
def zlf (l:List UInt8) (v:Value):Prop:=match zcS l with|some n=>v=.tuple #[.int .i64 (n:Nat),.bool true] | none=>∃x,v=.tuple #[.int .i64 x,.bool false]
theorem zmk [Tabs Tryz.prog] (s:List UInt8) (a:Nat) (ha:a<=9000000000000000000) (hs:s.length<=140737488351232) (w:World) (hT:Tabs.T (P:=Tryz.prog) w) :
  Calls Tryz.prog 119 #[.string (S s),.int .i64 (a:Nat)] w fun e w'=>∃v,e=.returned v/\zlf (s.drop a) v/\Qb w w' :=
 ziN (args:=[.s s,.i .i64 (a:Nat)]) rfl hT (runit_k s a ha hs (by
  unfold zlf
  cases zcS (s.drop a) with
  | some n=>exact⟨_,rfl,rfl⟩
  | none=>exact fun x=>⟨_,rfl,x,rfl⟩))
def zbs (s:List UInt8) (a:Nat):List UInt8×Int×Int:=if (zeU (s.drop a)).1=0 then ((zeU (s.drop a)).2.1,((a+(zeU (s.drop a)).2.2:Nat):Int),0) else ([],0,(zeU (s.drop a)).1)
def tokEscV (r:List UInt8×Int×Int):Value:=.tuple #[.string (S r.1),.int .i64 r.2.1,.int .i64 r.2.2]
def zaQ:ByteArray:=⟨#[34,92,47,98,102,110,114,116]⟩
theorem ziV [Tabs Tryz.prog] (b:ByteArray) (a:Nat) (x:Int) (hx:x=(a:Nat)) (ha:a<=9000000000000000000) (hs:b.size<=140737488351232) (w:World) (hT:Tabs.T (P:=Tryz.prog) w) :
  Calls Tryz.prog 119 #[.string b,.int .i64 x] w fun e w'=>∃v,e=.returned v/\zlf (b.data.toList.drop a) v/\Qb w w':=by
 subst hx;have h:=zmk b.data.toList a ha (by rw[zap];exact hs) w hT;rw[S_of b] at h;exact h
def zgH:List UInt8:=[34,92,47,98,102,110,114,116]
def zoS:List UInt8:=[34,92,47,8,12,10,13,9]
theorem codes_ok:∀i:Fin 8,zfs (zgH.getD i.val 0)=some (zoS.getD i.val 0):=by decide +kernel
theorem codes_no (c:UInt8) (h:∀j,j<8->zgH.getD j 0≠c):zfs c=none:=by
 have key:∀n:Fin 256,zfs (UInt8.ofNat n.val)=none\/∃i:Fin 8,zgH.getD i.val 0=UInt8.ofNat n.val:=by decide +kernel
 have h2:=key ⟨c.toNat,c.toNat_lt⟩;simp only[UInt8.ofNat_toNat] at h2;rcases h2 with h2|⟨i,h2⟩
 ·exact h2
 ·exact absurd h2 (h i.val i.isLt)
theorem zdk (b:ByteArray) (a k:Nat) (hk:k<8) (h:a+1<b.size) (hx:zgH.getD k 0=b[a+1]):zbs b.data.toList a=([zoS.getD k 0],((a+2:Nat):Int),0):=by
 have he:zeU (b.data.toList.drop a)=(0,[zoS.getD k 0],2):=by
  unfold zeU;rw[zfR,zl (by rw[zap];exact h),Option.bind_some,show b.data.toList[a+1]'(by rw[zap];exact h)=zgH.getD k 0 from(zju b (a+1) h).symm.trans hx.symm,codes_ok ⟨k,hk⟩]
 unfold zbs;rw[he];rfl
theorem zo4 [Tabs Tryz.prog] {w w':World} (hT:Tabs.T (P:=Tryz.prog) w) (hq:Qb w w'):Tabs.T (P:=Tryz.prog) w' :=
 Tabs.keep w w' hT (fun k hk=>hq.block k hk) hq.size
set_option maxRecDepth 1000000 in
set_option maxHeartbeats 4000000 in
theorem ziW [Tabs Tryz.prog] (b:ByteArray) (a:Nat) (ha:a<b.size) (hs:b.size<=140737488351232) (w:World) (hT:Tabs.T (P:=Tryz.prog) w) :
  Calls Tryz.prog 105 #[.string b,.int .i64 (a:Nat)] w fun e w'=>e=.returned (tokEscV (zbs b.data.toList a))/\Qb w w':=by
 by_cases c0:(a:Int)+1<b.size
 ·have c0':a+1<b.size:=by omega
  have HC:Hid (b[a+1]=b.data.toList[a+1]'(by rw[zap];exact c0')):=zb (zju b (a+1) c0');have HG:Hid (b.data.toList[a+1]? = some b[a+1]):=zb (by rw[zl (by rw[zap];exact c0'),zju b (a+1) c0']);have q1:IntKind.i64.wrap ((a:Int)+1)=(a:Int)+1:=IntWalk.i64_in _ (by omega);have q2:(0:Int)<=(a:Int)+1:=by omega
  have q3:((a:Int)+1).toNat=a+1:=by omega
  have q4:(a:Int)+1<b.size:=by omega
  go_enter Tryz.func105,Tryz.ntmps105
  go_wp2_with fail
  go_loopg [7] 8 (fun g _ wx=>∃i:Nat,i+g=8/\wx.heap[w.heap.size]? = some (.stringIter zaQ i)/\Qb w wx/\Hid (∀j,j<i->zgH.getD j 0≠b[a+1]))
  case atStart=>exact⟨0,rfl,World.iter_heap _ _ _,(Qb.refl w).alloc _,zb (fun j hj=>absurd hj (by omega))⟩
  case round=>
   obtain⟨i,hig,hk,hq,HN⟩:=hrel
   by_cases hi:i<8
   ·obtain⟨g,rfl⟩:∃g,gk=g+1:=⟨gk - 1,by omega⟩;have hcases:i=0\/i=1\/i=2\/i=3\/i=4\/i=5\/i=6\/i=7:=by omega
    rcases hcases with rfl|rfl|rfl|rfl|rfl|rfl|rfl|rfl
    ·have hnx:=fun ty=>xz (P:=Tryz.prog) wr w.heap.size zaQ 0 ty hk (by decide) (by decide);have hk':=zb (y4 wr w.heap.size zaQ 0 1 hk);have hq':Qb w (wr.iterAt w.heap.size zaQ 1):=y5 hq (zd _) zaQ 1;clear hk
     by_cases hx:(34:UInt8)=b[a+1]
     ·have HE:=zb (zdk b a 0 (by decide) c0' hx);have hd:∀x:Int,x=34->(x==((b[a+1].toNat:Nat):Int))=true:=by
       rintro x rfl;rw[<-hx];rfl
      clear hx
      go_wp2_with fail
      go_quiet (fail)
      rw[hd]
      rotate_left
      ·rfl
      go_wp2_with fail
      go_ret3
      exact⟨by rw[HE.out];rfl,hq'.drewN _⟩
     ·have HX:=zb hx;have hd:∀x:Int,x=34->(x==((b[a+1].toNat:Nat):Int))=false:=by
       rintro x rfl;rw[beq_eq_false_iff_ne];intro h;have h2:(34:UInt8).toNat=b[a+1].toNat:=by
        have:(34:UInt8).toNat=34:=rfl;omega
       exact hx (UInt8.toNat_inj.1 h2)
      clear hx
      go_wp2_with fail
      go_quiet (fail)
      rw[hd]
      rotate_left
      ·rfl
      go_wp2_with fail
      go_roundg g
      case measure=>omega
      case rel=>exact⟨1,by omega,hk'.out,hq'.drewN _,zb (fun j hj=>by
       rcases zm j 0 with h|h
       ·exact HN.out j h
       ·obtain rfl:j=0:=by omega
        exact HX.out)⟩
    ·have hnx:=fun ty=>xz (P:=Tryz.prog) wr w.heap.size zaQ 1 ty hk (by decide) (by decide);have hk':=zb (y4 wr w.heap.size zaQ 1 2 hk);have hq':Qb w (wr.iterAt w.heap.size zaQ 2):=y5 hq (zd _) zaQ 2;clear hk
     by_cases hx:(92:UInt8)=b[a+1]
     ·have HE:=zb (zdk b a 1 (by decide) c0' hx);have hd:∀x:Int,x=92->(x==((b[a+1].toNat:Nat):Int))=true:=by
       rintro x rfl;rw[<-hx];rfl
      clear hx
      go_wp2_with fail
      go_quiet (fail)
      rw[hd]
      rotate_left
      ·rfl
      go_wp2_with fail
      go_ret3
      exact⟨by rw[HE.out];rfl,hq'.drewN _⟩
     ·have HX:=zb hx;have hd:∀x:Int,x=92->(x==((b[a+1].toNat:Nat):Int))=false:=by
       rintro x rfl;rw[beq_eq_false_iff_ne];intro h;have h2:(92:UInt8).toNat=b[a+1].toNat:=by
        have:(92:UInt8).toNat=92:=rfl;omega
       exact hx (UInt8.toNat_inj.1 h2)
      clear hx
      go_wp2_with fail
      go_quiet (fail)
      rw[hd]
      rotate_left
      ·rfl
      go_wp2_with fail
      go_roundg g
      case measure=>omega
      case rel=>exact⟨2,by omega,hk'.out,hq'.drewN _,zb (fun j hj=>by
       rcases zm j 1 with h|h
       ·exact HN.out j h
       ·obtain rfl:j=1:=by omega
        exact HX.out)⟩
    ·have hnx:=fun ty=>xz (P:=Tryz.prog) wr w.heap.size zaQ 2 ty hk (by decide) (by decide);have hk':=zb (y4 wr w.heap.size zaQ 2 3 hk);have hq':Qb w (wr.iterAt w.heap.size zaQ 3):=y5 hq (zd _) zaQ 3;clear hk
     by_cases hx:(47:UInt8)=b[a+1]
     ·have HE:=zb (zdk b a 2 (by decide) c0' hx);have hd:∀x:Int,x=47->(x==((b[a+1].toNat:Nat):Int))=true:=by
       rintro x rfl;rw[<-hx];rfl
      clear hx
      go_wp2_with fail
      go_quiet (fail)
      rw[hd]
      rotate_left
      ·rfl
      go_wp2_with fail
      go_ret3
      exact⟨by rw[HE.out];rfl,hq'.drewN _⟩
     ·have HX:=zb hx;have hd:∀x:Int,x=47->(x==((b[a+1].toNat:Nat):Int))=false:=by
       rintro x rfl;rw[beq_eq_false_iff_ne];intro h;have h2:(47:UInt8).toNat=b[a+1].toNat:=by
        have:(47:UInt8).toNat=47:=rfl;omega
       exact hx (UInt8.toNat_inj.1 h2)
      clear hx
      go_wp2_with fail
      go_quiet (fail)
      rw[hd]
      rotate_left
      ·rfl
      go_wp2_with fail
      go_roundg g
      case measure=>omega
      case rel=>exact⟨3,by omega,hk'.out,hq'.drewN _,zb (fun j hj=>by
       rcases zm j 2 with h|h
       ·exact HN.out j h
       ·obtain rfl:j=2:=by omega
        exact HX.out)⟩
    ·have hnx:=fun ty=>xz (P:=Tryz.prog) wr w.heap.size zaQ 3 ty hk (by decide) (by decide);have hk':=zb (y4 wr w.heap.size zaQ 3 4 hk);have hq':Qb w (wr.iterAt w.heap.size zaQ 4):=y5 hq (zd _) zaQ 4;clear hk
     by_cases hx:(98:UInt8)=b[a+1]
     ·have HE:=zb (zdk b a 3 (by decide) c0' hx);have hd:∀x:Int,x=98->(x==((b[a+1].toNat:Nat):Int))=true:=by
       rintro x rfl;rw[<-hx];rfl
      clear hx
      go_wp2_with fail
      go_quiet (fail)
      rw[hd]
      rotate_left
      ·rfl
      go_wp2_with fail
      go_ret3
      exact⟨by rw[HE.out];rfl,hq'.drewN _⟩
     ·have HX:=zb hx;have hd:∀x:Int,x=98->(x==((b[a+1].toNat:Nat):Int))=false:=by
       rintro x rfl;rw[beq_eq_false_iff_ne];intro h;have h2:(98:UInt8).toNat=b[a+1].toNat:=by
        have:(98:UInt8).toNat=98:=rfl;omega
       exact hx (UInt8.toNat_inj.1 h2)
      clear hx
      go_wp2_with fail
      go_quiet (fail)
      rw[hd]
      rotate_left
      ·rfl
      go_wp2_with fail
      go_roundg g
      case measure=>omega
      case rel=>exact⟨4,by omega,hk'.out,hq'.drewN _,zb (fun j hj=>by
       rcases zm j 3 with h|h
       ·exact HN.out j h
       ·obtain rfl:j=3:=by omega
        exact HX.out)⟩
    ·have hnx:=fun ty=>xz (P:=Tryz.prog) wr w.heap.size zaQ 4 ty hk (by decide) (by decide);have hk':=zb (y4 wr w.heap.size zaQ 4 5 hk);have hq':Qb w (wr.iterAt w.heap.size zaQ 5):=y5 hq (zd _) zaQ 5;clear hk
     by_cases hx:(102:UInt8)=b[a+1]
     ·have HE:=zb (zdk b a 4 (by decide) c0' hx);have hd:∀x:Int,x=102->(x==((b[a+1].toNat:Nat):Int))=true:=by
       rintro x rfl;rw[<-hx];rfl
      clear hx
      go_wp2_with fail
      go_quiet (fail)
      rw[hd]
      rotate_left
      ·rfl
      go_wp2_with fail
      go_ret3
      exact⟨by rw[HE.out];rfl,hq'.drewN _⟩
     ·have HX:=zb hx;have hd:∀x:Int,x=102->(x==((b[a+1].toNat:Nat):Int))=false:=by
       rintro x rfl;rw[beq_eq_false_iff_ne];intro h;have h2:(102:UInt8).toNat=b[a+1].toNat:=by
        have:(102:UInt8).toNat=102:=rfl;omega
       exact hx (UInt8.toNat_inj.1 h2)
      clear hx
      go_wp2_with fail
      go_quiet (fail)
      rw[hd]
      rotate_left
      ·rfl
      go_wp2_with fail
      go_roundg g
      case measure=>omega
      case rel=>exact⟨5,by omega,hk'.out,hq'.drewN _,zb (fun j hj=>by
       rcases zm j 4 with h|h
       ·exact HN.out j h
       ·obtain rfl:j=4:=by omega
        exact HX.out)⟩
    ·have hnx:=fun ty=>xz (P:=Tryz.prog) wr w.heap.size zaQ 5 ty hk (by decide) (by decide);have hk':=zb (y4 wr w.heap.size zaQ 5 6 hk);have hq':Qb w (wr.iterAt w.heap.size zaQ 6):=y5 hq (zd _) zaQ 6;clear hk
     by_cases hx:(110:UInt8)=b[a+1]
     ·have HE:=zb (zdk b a 5 (by decide) c0' hx);have hd:∀x:Int,x=110->(x==((b[a+1].toNat:Nat):Int))=true:=by
       rintro x rfl;rw[<-hx];rfl
      clear hx
      go_wp2_with fail
      go_quiet (fail)
      rw[hd]
      rotate_left
      ·rfl
      go_wp2_with fail
      go_ret3
      exact⟨by rw[HE.out];rfl,hq'.drewN _⟩
     ·have HX:=zb hx;have hd:∀x:Int,x=110->(x==((b[a+1].toNat:Nat):Int))=false:=by
       rintro x rfl;rw[beq_eq_false_iff_ne];intro h;have h2:(110:UInt8).toNat=b[a+1].toNat:=by
        have:(110:UInt8).toNat=110:=rfl;omega
       exact hx (UInt8.toNat_inj.1 h2)
      clear hx
      go_wp2_with fail
      go_quiet (fail)
      rw[hd]
      rotate_left
      ·rfl
      go_wp2_with fail
      go_roundg g
      case measure=>omega
      case rel=>exact⟨6,by omega,hk'.out,hq'.drewN _,zb (fun j hj=>by
       rcases zm j 5 with h|h
       ·exact HN.out j h
       ·obtain rfl:j=5:=by omega
        exact HX.out)⟩
    ·have hnx:=fun ty=>xz (P:=Tryz.prog) wr w.heap.size zaQ 6 ty hk (by decide) (by decide);have hk':=zb (y4 wr w.heap.size zaQ 6 7 hk);have hq':Qb w (wr.iterAt w.heap.size zaQ 7):=y5 hq (zd _) zaQ 7;clear hk
     by_cases hx:(114:UInt8)=b[a+1]
     ·have HE:=zb (zdk b a 6 (by decide) c0' hx);have hd:∀x:Int,x=114->(x==((b[a+1].toNat:Nat):Int))=true:=by
       rintro x rfl;rw[<-hx];rfl
      clear hx
      go_wp2_with fail
      go_quiet (fail)
      rw[hd]
      rotate_left
      ·rfl
      go_wp2_with fail
      go_ret3
      exact⟨by rw[HE.out];rfl,hq'.drewN _⟩
     ·have HX:=zb hx;have hd:∀x:Int,x=114->(x==((b[a+1].toNat:Nat):Int))=false:=by
       rintro x rfl;rw[beq_eq_false_iff_ne];intro h;have h2:(114:UInt8).toNat=b[a+1].toNat:=by
        have:(114:UInt8).toNat=114:=rfl;omega
       exact hx (UInt8.toNat_inj.1 h2)
      clear hx
      go_wp2_with fail
      go_quiet (fail)
      rw[hd]
      rotate_left
      ·rfl
      go_wp2_with fail
      go_roundg g
      case measure=>omega
      case rel=>exact⟨7,by omega,hk'.out,hq'.drewN _,zb (fun j hj=>by
       rcases zm j 6 with h|h
       ·exact HN.out j h
       ·obtain rfl:j=6:=by omega
        exact HX.out)⟩
    ·have hnx:=fun ty=>xz (P:=Tryz.prog) wr w.heap.size zaQ 7 ty hk (by decide) (by decide);have hk':=zb (y4 wr w.heap.size zaQ 7 8 hk);have hq':Qb w (wr.iterAt w.heap.size zaQ 8):=y5 hq (zd _) zaQ 8;clear hk
     by_cases hx:(116:UInt8)=b[a+1]
     ·have HE:=zb (zdk b a 7 (by decide) c0' hx);have hd:∀x:Int,x=116->(x==((b[a+1].toNat:Nat):Int))=true:=by
       rintro x rfl;rw[<-hx];rfl
      clear hx
      go_wp2_with fail
      go_quiet (fail)
      rw[hd]
      rotate_left
      ·rfl
      go_wp2_with fail
      go_ret3
      exact⟨by rw[HE.out];rfl,hq'.drewN _⟩
     ·have HX:=zb hx;have hd:∀x:Int,x=116->(x==((b[a+1].toNat:Nat):Int))=false:=by
       rintro x rfl;rw[beq_eq_false_iff_ne];intro h;have h2:(116:UInt8).toNat=b[a+1].toNat:=by
        have:(116:UInt8).toNat=116:=rfl;omega
       exact hx (UInt8.toNat_inj.1 h2)
      clear hx
      go_wp2_with fail
      go_quiet (fail)
      rw[hd]
      rotate_left
      ·rfl
      go_wp2_with fail
      go_roundg g
      case measure=>omega
      case rel=>exact⟨8,by omega,hk'.out,hq'.drewN _,zb (fun j hj=>by
       rcases zm j 7 with h|h
       ·exact HN.out j h
       ·obtain rfl:j=7:=by omega
        exact HX.out)⟩
   ·have hnx:=fun ty=>Lib.run_next_end_at (P:=Tryz.prog) wr w.heap.size zaQ i ty hk (by show ¬i<8;exact hi);have HS:Hid ((b.data.toList.drop a)[1]?.bind zfs=none):=zb (by
     rw[zfR,HG.out,Option.bind_some];exact codes_no _ (fun j hj=>HN.out j (by omega)))
    go_wp2_with fail
    refine(ziV b a a rfl (by omega) hs _ (zo4 hT hq)).mono ?_;rintro e w1 ⟨v,rfl,hv,hq1⟩;have hq2:=hq.trans hq1;unfold zlf at hv
    cases hu:zcS (b.data.toList.drop a) with
    | none=>
     rw[hu] at hv;obtain⟨x,rfl⟩:=hv;have hE:zbs b.data.toList a=([],0,130):=by
      have:zeU (b.data.toList.drop a)=(130,[],0):=by unfold zeU;rw[HS.out,hu]
      unfold zbs;rw[this];rfl
     go_wp2_with fail
     go_ret3
     exact⟨by rw[hE];rfl,hq2⟩
    | some n=>
     rw[hu] at hv;subst hv;have hul:=zcB hu;rw[qb,zap] at hul;have HU:=zb hu;clear hu;have okE:∀(U Z:Nat),zdF n ((b.data.toList.drop a).drop 6)=(U,Z)->cpB (U:Int)=true->zbs b.data.toList a=(zec U,((a+Z:Nat):Int),0):=by
      intro U Z h1 h2;have:=zog HS.out HU.out;rw[h1] at this;simp only at this;rw[if_pos h2] at this;unfold zbs;rw[this];rfl
     have noE:∀(U Z:Nat),zdF n ((b.data.toList.drop a).drop 6)=(U,Z)->cpB (U:Int)=false->zbs b.data.toList a=([],0,7):=by
      intro U Z h1 h2;have:=zog HS.out HU.out;rw[h1] at this;simp only at this;rw[if_neg (by rw[h2];simp)] at this;unfold zbs;rw[this];rfl
     have HO:=zb okE;have HNo:=zb noE;clear okE noE;have hq3:=zo4 hT hq2;have HQ2:=zb hq2;have b1:IntKind.i64.wrap ((a:Int)+6)=(a:Int)+6:=IntWalk.i64_in _ (by omega);have b2:IntKind.i64.wrap ((a:Int)+12)=(a:Int)+12:=IntWalk.i64_in _ (by omega);have encOk:∀U:Nat,cpB (U:Int)=true->∀wz,Calls Tryz.prog 120 #[.int .i64 (U:Nat)] wz fun e w'=>e=.returned (.tuple #[.string (S (zec U)),.int .i64 0])/\Qb wz w':=by
      intro U hU wz;have:=zdf (U:Nat) wz;unfold zhn at this;rw[if_pos hU,jf] at this;exact this
     by_cases c1:n<55296\/57343<n
     ·have hU:zdF n ((b.data.toList.drop a).drop 6)=(n,6):=by unfold zdF;rw[if_neg (show ¬(55296<=n/\n<56320) by omega)]
      have hcp:cpB (n:Int)=true:=decide_eq_true (by omega);have hE:=zb (HO.out n 6 hU hcp);have hEn:=zb (encOk n hcp);clear hU hcp encOk
      by_cases c2:n<55296
      ·have d1:decide ((n:Int)<55296)=true:=decide_eq_true (by omega);clear c1 c2 hul
       go_wp2_with fail
       refine(hEn.out _).mono ?_;rintro e w2 ⟨rfl,hq4⟩;have HE2:=hE.out;clear hE hEn;generalize zec n=X at *;have HE3:=zb HE2;clear HE2
       go_wp2_with fail
       go_ret3
       exact⟨by rw[HE3.out];rfl,HQ2.out.trans hq4⟩
      ·have d1:decide ((n:Int)<55296)=false:=decide_eq_false (by omega);have d2:decide ((57343:Int)<(n:Int))=true:=decide_eq_true (by omega);clear c1 c2 hul
       go_wp2_with fail
       refine(hEn.out _).mono ?_;rintro e w2 ⟨rfl,hq4⟩;have HE2:=hE.out;clear hE hEn;generalize zec n=X at *;have HE3:=zb HE2;clear HE2
       go_wp2_with fail
       go_ret3
       exact⟨by rw[HE3.out];rfl,HQ2.out.trans hq4⟩
     ·have d1:decide ((n:Int)<55296)=false:=decide_eq_false (by omega);have d2:decide ((57343:Int)<(n:Int))=false:=decide_eq_false (by omega);have C1:=zb c1;have HL:=zb hul;clear c1 hul
      go_wp2_with fail
      refine(ziV b (a+6) _ (by omega) (by omega) hs _ hq3).mono ?_;rintro e w2 ⟨v,rfl,hv,hq4⟩;have HQ5:=zb (HQ2.out.trans hq4);unfold zlf at hv;have hdd:(b.data.toList.drop a).drop 6=b.data.toList.drop (a+6):=jj;have hcn:=C1.out;have hln:=HL.out;have hne:cpB (n:Int)=false:=decide_eq_false (by omega)
      cases hu2:zcS (b.data.toList.drop (a+6)) with
      | none=>
       rw[hu2] at hv;obtain⟨x,rfl⟩:=hv;have hU:zdF n ((b.data.toList.drop a).drop 6)=(n,6):=by unfold zdF;rw[hdd,hu2];simp
       have hE:=zb (HNo.out n 6 hU hne);clear hU hcn hln hne hdd encOk
       by_cases c3:(56319:Int)<n
       ·have d3:decide ((56319:Int)<(n:Int))=true:=decide_eq_true c3;clear c3
        go_wp2_with fail
        go_ret3
        exact⟨by rw[hE.out];rfl,HQ5.out⟩
       ·have d3:decide ((56319:Int)<(n:Int))=false:=decide_eq_false c3;clear c3
        go_wp2_with fail
        go_ret3
        exact⟨by rw[hE.out];rfl,HQ5.out⟩
      | some m=>
       rw[hu2] at hv;subst hv;have hml:=(zcB hu2).2
       by_cases c3:(56319:Int)<n
       ·have hU:zdF n ((b.data.toList.drop a).drop 6)=(n,6):=by unfold zdF;rw[if_neg (show ¬(55296<=n/\n<56320) by omega)]
        have hE:=zb (HNo.out n 6 hU hne);have d3:decide ((56319:Int)<(n:Int))=true:=decide_eq_true c3;clear hU hcn hln hne hdd encOk c3 hml hu2
        go_wp2_with fail
        go_ret3
        exact⟨by rw[hE.out];rfl,HQ5.out⟩
       have d3:decide ((56319:Int)<(n:Int))=false:=decide_eq_false c3
       by_cases c4:(m:Int)<56320
       ·have hU:zdF n ((b.data.toList.drop a).drop 6)=(n,6):=by
         unfold zdF;rw[hdd,hu2,if_pos (show 55296<=n/\n<56320 by omega)];simp only;rw[if_neg (by omega)]
        have hE:=zb (HNo.out n 6 hU hne);have d4:decide ((m:Int)<56320)=true:=decide_eq_true c4;clear hU hcn hln hne hdd encOk c3 c4 hml hu2
        go_wp2_with fail
        go_ret3
        exact⟨by rw[hE.out];rfl,HQ5.out⟩
       have d4:decide ((m:Int)<56320)=false:=decide_eq_false c4
       by_cases c5:(57343:Int)<m
       ·have hU:zdF n ((b.data.toList.drop a).drop 6)=(n,6):=by
         unfold zdF;rw[hdd,hu2,if_pos (show 55296<=n/\n<56320 by omega)];simp only;rw[if_neg (by omega)]
        have hE:=zb (HNo.out n 6 hU hne);have d5:decide ((57343:Int)<(m:Int))=true:=decide_eq_true c5;clear hU hcn hln hne hdd encOk c3 c4 c5 hml hu2
        go_wp2_with fail
        go_ret3
        exact⟨by rw[hE.out];rfl,HQ5.out⟩
       have d5:decide ((57343:Int)<(m:Int))=false:=decide_eq_false c5;have hU:zdF n ((b.data.toList.drop a).drop 6)=(65536+(n - 55296)*1024+(m - 56320),12):=by
        unfold zdF;rw[hdd,hu2,if_pos (show 55296<=n/\n<56320 by omega)];simp only;rw[if_pos (by omega)]
       have hcp:cpB ((65536+(n - 55296)*1024+(m - 56320):Nat):Int)=true:=decide_eq_true (by omega);have hE:=zb (HO.out _ 12 hU hcp);have hEn:=zb (encOk _ hcp);have e1:(n:Int) - 55296=((n - 55296:Nat):Int):=by omega
       have e2:((n - 55296:Nat):Int)*1024=(((n - 55296)*1024:Nat):Int):=by omega
       have e3:(65536:Int)+(((n - 55296)*1024:Nat):Int)=((65536+(n - 55296)*1024:Nat):Int):=by omega
       have e4:((65536+(n - 55296)*1024:Nat):Int)+(m:Int)=((65536+(n - 55296)*1024+m:Nat):Int):=by omega
       have e5:((65536+(n - 55296)*1024+m:Nat):Int) - 56320=((65536+(n - 55296)*1024+(m - 56320):Nat):Int):=by omega
       have hz:(65536:Int)+((n:Int) - 55296)*1024+(m:Int) - 56320=((65536+(n - 55296)*1024+(m - 56320):Nat):Int):=by omega
       have HZ:=zb hz;clear hU hne hdd encOk c3 c4 c5 hu2 hcp e1 e2 e3 e4 e5 hz
       go_wp2_with fail
       rw[HZ.out];refine(hEn.out _).mono ?_;rintro e w3 ⟨rfl,hq6⟩;have HE2:=hE.out;clear hE hEn HZ;generalize zec (65536+(n - 55296)*1024+(m - 56320))=X at *;have HE3:=zb HE2;clear HE2 hcn hln hml
       go_wp2_with fail
       go_ret3
       exact⟨by rw[HE3.out];rfl,HQ5.out.trans hq6⟩
 ·go_enter Tryz.func105,Tryz.ntmps105
  have hu:zcS (b.data.toList.drop a)=none:=by
   cases hu:zcS (b.data.toList.drop a) with
   | none=>rfl
   | some n=>have:=(zcB hu).1;rw[qb,zap] at this;omega
  have hE:zbs b.data.toList a=([],0,130):=by
   have:zeU (b.data.toList.drop a)=(130,[],0):=by
    unfold zeU;rw[zfR,zv (by rw[zap];omega),hu];rfl
   unfold zbs;rw[this];rfl
  rw[hE]
  go_wp2_with fail
  refine(ziV b a a rfl (by omega) hs _ hT).mono ?_;rintro e w1 ⟨v,rfl,hv,hq⟩;unfold zlf at hv;rw[hu] at hv;obtain⟨x,rfl⟩:=hv
  go_wp2_with fail
  go_ret3
  exact⟨rfl,hq⟩
section
variable [Tabs Tryz.prog] {objs:List OB} {K:List OB->AV->Prop}
theorem zml (s:List UInt8) (a:Nat) (ha:a<s.length) (hs:s.length<=140737488351232) (hk:K objs (.tup [.s (zbs s a).1,.i .i64 (zbs s a).2.1,.i .i64 (zbs s a).2.2])):zad Tryz.prog 105 [.s s,.i .i64 (a:Nat)] objs K :=
 convT (vs:=[.string (S s),.int .i64 (a:Nat)]) rfl rfl (fun w hT=>ziW (S s) a (by rw[zcQ];exact ha) (by rw[zcQ];exact hs) w hT) hk
set_option maxHeartbeats 4000000 in
theorem zlp (s:List UInt8) (a:Nat) (hs:s.length<=140737488351232) (ha:a<s.length) (R:Int×List UInt8×Nat) (hR:zfn ((s.drop (a+1)).length+1) (s.drop (a+1)) [] 0=R)
  (h1:R.1≠0->K objs (.tup [.s [],.i .i64 0,.i .i64 R.1])) (h0:R.1=0->K objs (.tup [.s R.2.1,.i .i64 ((a+1+R.2.2:Nat):Int),.i .i64 0])):zad Tryz.prog 89 [.s s,.i .i64 (a:Nat)] objs K:=by
 refine zaL is_ref13_text rfl fun C _=>?_;simp only[c_ref13_text,sxZ,z6,z7,z8,j4,j5,j6,j7,j8,j9,x3,x4,x5,x6,x7,x8,reduceCtorEq,↓reduceIte];refine⟨by omega,?_⟩;refine zaF (fun n o tm=>∃(i:Nat) (out:List UInt8) (m:Nat),i<=s.length/\a+1<=i/\n=s.length - i/\o=[]/\out.length<=i/\s.length - i<m/\zfn m (s.drop i) out (i - (a+1))=R/\tm.length=70/\tm[0]? = some (.s s)/\tm[7]? = some (.s out)/\tm[8]? = some (.i .i64 (i:Nat))) (s.length - (a+1))
  ⟨a+1,[],(s.drop (a+1)).length+1,ha,zd _,rfl,rfl,zh _,by rw[qb];omega,by rw[Nat.sub_self];exact hR,rfl,rfl,rfl,rfl⟩ ?_
 rintro n _ tm ⟨i,out,m,hi,hai,rfl,rfl,ho,hm,hT,hlen,t0,t7,t8⟩;obtain⟨m,rfl⟩:∃m',m=m'+1:=⟨m - 1,by omega⟩
 by_cases hlt:(i:Int)<s.length
 ·have hlt':i<s.length:=by omega
  have hg:=zaW hlt';have hdc:=jn hlt'
  by_cases c1:((s[i].toNat:Nat):Int)=34
  ·have hc:s[i]=34:=(zel (by decide)).1 c1;rw[hdc,zfn,if_pos hc] at hT;subst hT;have h0:=h0 rfl;rw[show a+1+(i - (a+1)+1)=i+1 by omega] at h0;simp only[hlt,hg,c1,sxZ,z6,z7,z8,j4,j5,j6,j7,j8,j9,x3,x4,x5,x6,x7,x8,reduceCtorEq,↓reduceIte,za,hlen,t0,t7,t8];exact⟨by omega,by omega,h0⟩
  ·have hc:¬s[i]=34:=fun h=>c1 ((zel (by decide)).2 h)
   by_cases c2:((s[i].toNat:Nat):Int)=92
   ·have hc2:s[i]=92:=(zel (by decide)).1 c2;rw[hdc,zfn,if_neg hc,if_pos hc2,<-hdc] at hT;simp only[hlt,hg,c1,c2,sxZ,z6,z7,z8,j4,j5,j6,j7,j8,j9,x3,x4,x5,x6,x7,x8,reduceCtorEq,↓reduceIte,za,hlen,t0,t7,t8];refine⟨by omega,by omega,?_⟩;refine zai (zml s i hlt' hs ?_);unfold zbs;generalize hq:zeU (s.drop i)=q at *;obtain⟨e,x,m'⟩:=q;simp only at hT
    by_cases c3:e=0
    ·subst c3;rw[if_neg (by simp)] at hT;have hl:=zkC hq;rw[qb] at hl;simp only[sxZ,z6,z7,z8,j4,j5,j6,j7,j8,j9,x3,x4,x5,x6,x7,x8,reduceCtorEq,↓reduceIte,za,hlen,t0,t7,t8];exact⟨by omega,s.length - (i+m'),by omega,i+m',out++x,m,by omega,by omega,rfl,by rw[zp];omega,by omega,by rw[<-jj,show i+m' - (a+1)=i - (a+1)+m' by omega];exact hT,rfl,rfl⟩
    ·rw[if_pos c3] at hT;subst hT;simp only[c3,sxZ,z6,z7,z8,j4,j5,j6,j7,j8,j9,x3,x4,x5,x6,x7,x8,reduceCtorEq,↓reduceIte,za,hlen,t0,t7,t8];exact h1 c3
   ·have hc2:¬s[i]=92:=fun h=>c2 ((zel (by decide)).2 h);rw[hdc,zfn,if_neg hc,if_neg hc2,<-hdc] at hT
    by_cases c4:((s[i].toNat:Nat):Int)<32
    ·rw[if_pos (by omega)] at hT;subst hT;simp only[hlt,hg,c1,c2,c4,sxZ,z6,z7,z8,j4,j5,j6,j7,j8,j9,x3,x4,x5,x6,x7,x8,reduceCtorEq,↓reduceIte,za,hlen,t0,t7,t8];exact⟨by omega,by omega,by omega,h1 (by decide)⟩
    ·rw[if_neg (by omega)] at hT;simp only[hlt,hg,c1,c2,c4,sxZ,z6,z7,z8,j4,j5,j6,j7,j8,j9,x3,x4,x5,x6,x7,x8,reduceCtorEq,↓reduceIte,za,hlen,t0,t7,t8];refine⟨by omega,by omega,by omega,?_⟩;refine zai (zlo s i hs ?_);rw[zoF hlt']
     cases hd:zeW (s.drop i) with
     | none=>
      rw[hd] at hT;simp only at hT;subst hT;simp only[sxZ,z6,z7,z8,j4,j5,j6,j7,j8,j9,x3,x4,x5,x6,x7,x8,reduceCtorEq,↓reduceIte,za,hlen,t0,t7,t8];exact h1 (by decide)
     | some q=>
      obtain⟨r,m'⟩:=q;rw[hd] at hT;simp only at hT;have gg:m'<=(s.drop i).length/\1<=m':=⟨(zdx hd).2.2.1,(zdx hd).2.2.2.1⟩;have hxl:((s.drop i).take m').length<=m':=by rw[qh];omega
      rw[qb] at gg;simp only[sxZ,z6,z7,z8,j4,j5,j6,j7,j8,j9,x3,x4,x5,x6,x7,x8,reduceCtorEq,↓reduceIte,za,hlen,t0,t7,t8];rw[zfo];exact⟨by omega,by omega,s.length - (i+m'),by omega,i+m',out++(s.drop i).take m',m,by omega,by omega,rfl,by rw[zp];omega,by omega,by rw[<-jj,show i+m' - (a+1)=i - (a+1)+m' by omega];exact hT,rfl,rfl⟩
 ·obtain rfl:i=s.length:=by omega
  rw[xm,zfn] at hT;subst hT;simp only[sxZ,z6,z7,z8,j4,j5,j6,j7,j8,j9,x3,x4,x5,x6,x7,x8,reduceCtorEq,↓reduceIte,za,hlen,t0,t7,t8,hlt];exact h1 (by decide)
end
theorem zg4 {P:Program} [Tabs P] {C:Cx} {F:zaN} {k:List IT} {objs:List OB} {tm:List AV} {c:SV} {x y:SCode} (h:c.ev tm=.b true) (hr:run P C (.code x::k) objs tm F):run P C (.code (.cond c x y)::k) objs tm F:=by
 rw[zg6,h,kC_t];exact hr
theorem zg5 {P:Program} [Tabs P] {C:Cx} {F:zaN} {k:List IT} {objs:List OB} {tm:List AV} {c:SV} {x y:SCode} (h:c.ev tm=.b false) (hr:run P C (.code y::k) objs tm F):run P C (.code (.cond c x y)::k) objs tm F:=by
 rw[zg6,h,kC_f];exact hr
section
variable [Tabs Tryz.prog] {objs:List OB} {K:List OB->AV->Prop}
set_option maxHeartbeats 4000000 in
theorem zlq (s:List UInt8) (a:Int) (hs:s.length<=140737488351232) (hk:K objs (znk (zbq s a))):zad Tryz.prog 63 [.s s,.i .i64 a] objs K:=by
 refine zaL is_ref13_Next rfl fun C _=>?_;unfold zbq znk at hk
 by_cases c0:a<0
 ·rw[if_pos (.inl c0)] at hk;simp only[c0,c_ref13_Next,sxZ,z6,z7,z8,j4,j5,j6,j7,j8,j9,x3,x4,x5,x6,x7,x8,reduceCtorEq,↓reduceIte];exact hk
 by_cases c1:(s.length:Int)<a
 ·rw[if_pos (.inr c1)] at hk;simp only[c0,c1,c_ref13_Next,sxZ,z6,z7,z8,j4,j5,j6,j7,j8,j9,x3,x4,x5,x6,x7,x8,reduceCtorEq,↓reduceIte];exact hk
 rw[if_neg (by omega)] at hk;obtain⟨a,rfl⟩:∃n:Nat,a=n:=⟨a.toNat,by omega⟩;rw[jf] at hk;rw[c_ref13_Next];refine zaa fun Y1 hY1=>?_;simp only[sxZ,z6,z7,z8,j4,j5,j6,j7,j8,j9,x3,x4,x5,x6,x7,x8,reduceCtorEq,↓reduceIte];subst hY1;refine zaa fun Y1 hY1=>?_;simp only[c0,c1,sxZ,z6,z7,z8,j4,j5,j6,j7,j8,j9,x3,x4,x5,x6,x7,x8,reduceCtorEq,↓reduceIte];subst hY1;refine zaa fun Y1 hY1=>?_;have hwl:=zfl (s.drop a);rw[qb] at hwl;refine zaz (fun o t=>o=[.box 56 [.i .i64 0,.s [],.i .i64 0]]/\t.length=139/\t[0]? = some (.s s)/\t[1]? = some (.i .i64 ((a+zbv (s.drop a):Nat):Int))/\t[4]? = some (.p 0 0)) ?_ ?_
 ·simp only[sxZ,z6,z7,z8,j4,j5,j6,j7,j8,j9,x3,x4,x5,x6,x7,x8,reduceCtorEq,↓reduceIte];refine zaF (fun n objs tm=>∃i:Nat,i<=s.length/\n=s.length - i/\objs=[.box 56 [.i .i64 0,.s [],.i .i64 0]]/\a+zbv (s.drop a)=i+zbv (s.drop i)/\tm.length=139/\tm[0]? = some (.s s)/\tm[1]? = some (.i .i64 i)/\tm[4]? = some (.p 0 0)) (s.length - a) ⟨a,by omega,rfl,rfl,rfl,rfl,rfl,rfl,rfl⟩ ?_;rintro n _ tm ⟨i,hil,rfl,rfl,hr,hlen,t0,t1,t4⟩
  by_cases hlt2:(i:Int)<s.length
  ·have hlt':i<s.length:=by omega
   have hg2:=zaW hlt';have hrn:=white_at s i hlt';simp only[sxZ,z6,z7,z8,j4,j5,j6,j7,j8,j9,x3,x4,x5,x6,x7,x8,reduceCtorEq,↓reduceIte,za,hlen,t0,t1,t4,hlt2];refine⟨by omega,?_⟩;rw[hg2];refine zai (rwhite_k s[i] ?_)
   by_cases hd:zhi s[i]=true
   ·rw[if_pos hd] at hrn;simp only[hd,sxZ,z6,z7,z8,j4,j5,j6,j7,j8,j9,x3,x4,x5,x6,x7,x8,reduceCtorEq,↓reduceIte,za,hlen,t0,t1,t4];exact⟨⟨by omega,by omega⟩,s.length - (i+1),by omega,i+1,by omega,rfl,by omega,rfl⟩
   ·rw[if_neg hd] at hrn;simp only[Bool.not_eq_true] at hd;simp only[hd,za9,zab,sxZ,z6,z7,z8,j4,j5,j6,j7,j8,j9,x3,x4,x5,x6,x7,x8,reduceCtorEq,↓reduceIte,za,hlen,t0,t1,t4];rw[hr,hrn];rfl
  ·obtain rfl:i=s.length:=by omega
   have hw:zbv (s.drop s.length)=0:=by rw[xm];rfl
   simp only[hlt2,za9,zab,sxZ,z6,z7,z8,j4,j5,j6,j7,j8,j9,x3,x4,x5,x6,x7,x8,reduceCtorEq,↓reduceIte,za,hlen,t0,t1,t4];rw[hr,hw];rfl
 rintro _ tm ⟨rfl,hlen,t0,t1,t4⟩;subst hY1;have ha:a+zbv (s.drop a)<=s.length:=by omega
 generalize a+zbv (s.drop a)=i at *;have h1:∀e x n k,zbH (s.drop i)=(e,k,x,n)->e≠0->K objs (.tup [.agg [.i .i64 0,.s [],.i .i64 0],.i .i64 0,.i .i64 e]):=by
  intro e x n k h he;rw[h,if_pos he] at hk;exact hk
 have h0:∀x n k,zbH (s.drop i)=(0,k,x,n)->K objs (.tup [.agg [.i .i64 k,.s x,.i .i64 (i:Nat)],.i .i64 ((i+n:Nat):Int),.i .i64 0]):=by
  intro x n k h;rw[h,if_neg (by simp)] at hk;exact hk
 clear hk c0 c1;refine zaa fun Y1 hY1=>?_
 by_cases c0:(i:Int)=s.length
 ·obtain rfl:i=s.length:=by omega
  have:=h0 [] 0 1 (by rw[xm];rfl);simp only[c0,sxZ,z6,z7,z8,j4,j5,j6,j7,j8,j9,x3,x4,x5,x6,x7,x8,reduceCtorEq,↓reduceIte,za,hlen,t0,t1,t4];exact this
 have hlt:i<s.length:=by omega
 have hg:=zaW hlt;have hdc:=jn hlt;simp only[c0,sxZ,z6,z7,z8,j4,j5,j6,j7,j8,j9,x3,x4,x5,x6,x7,x8,reduceCtorEq,↓reduceIte,za,hlen,t0,t1,t4];subst hY1;refine zaa fun Y1 hY1=>?_;refine zaa fun Y2 hY2=>?_;refine zaz (fun o t=>o=[.box 56 [.i .i64 0,.s [],.i .i64 0]]/\t.length=139/\t[0]? = some (.s s)/\t[1]? = some (.i .i64 (i:Nat))/\t[4]? = some (.p 0 0)/\t[7]? = some (.i .u8 (s[i].toNat:Nat))) ?_ ?_
 ·simp only[hg,zab,sxZ,z6,z7,z8,j4,j5,j6,j7,j8,j9,x3,x4,x5,x6,x7,x8,reduceCtorEq,↓reduceIte,za,hlen,t0,t1,t4]
  and_intros<;>first|omega|exact iv (by omega)|rfl|assumption
 rintro _ tm ⟨rfl,hlen,t0,t1,t4,t7⟩;subst hY2;rw[zaO];refine zaa fun Y2 hY2=>?_;refine zaz (fun o t=>o=[.box 56 [.i .i64 0,.s [],.i .i64 0]]/\t.length=139/\t[0]? = some (.s s)/\t[1]? = some (.i .i64 (i:Nat))/\t[4]? = some (.p 0 0)/\t[7]? = some (.i .u8 (s[i].toNat:Nat))/\t[45]? = some (.b (zcl s[i] [123,125,91,93,58,44]))) ?_ ?_
 ·simp only[sxZ,z6,z7,z8,j4,j5,j6,j7,j8,j9,x3,x4,x5,x6,x7,x8,reduceCtorEq,↓reduceIte,za,hlen,t0,t1,t4,t7];refine zai (zh0 s[i] _ (by decide) ?_);simp only[zab,sxZ,z6,z7,z8,j4,j5,j6,j7,j8,j9,x3,x4,x5,x6,x7,x8,reduceCtorEq,↓reduceIte,za,hlen,t0,t1,t4,t7]
 rintro _ tm ⟨rfl,hlen,t0,t1,t4,t7,t45⟩;subst hY2
 by_cases c1:zcl s[i] [123,125,91,93,58,44]=true
 ·have hx:(s.take (i+1)).drop i=[s[i]]:=by rw[zfo,hdc];rfl
  have e1:((i:Int)+1).toNat=i+1:=by omega
  have:=h0 [s[i]] 1 2 (by rw[hdc,zbH,if_pos c1]);refine zg4 (by simp only[SV.ev,t45,qj,c1]) ?_;simp only[e1,hx,sxZ,z6,z7,z8,j4,j5,j6,j7,j8,j9,x3,x4,x5,x6,x7,x8,reduceCtorEq,↓reduceIte,za,hlen,t0,t1,t4,t7]
  (and_intros<;>try omega)
  exact this
 refine zg5 (by rw[Bool.not_eq_true] at c1;simp only[SV.ev,t45,qj,c1]) ?_;refine zaa fun Y2 hY2=>?_;refine zaz (fun o t=>o=[.box 56 [.i .i64 0,.s [],.i .i64 0]]/\t.length=139/\t[0]? = some (.s s)/\t[1]? = some (.i .i64 (i:Nat))/\t[4]? = some (.p 0 0)/\t[7]? = some (.i .u8 (s[i].toNat:Nat))/\t[57]? = some (.b (decide (((s[i].toNat:Nat):Int)=34)))) ?_ ?_
 ·simp only[zab,sxZ,z6,z7,z8,j4,j5,j6,j7,j8,j9,x3,x4,x5,x6,x7,x8,reduceCtorEq,↓reduceIte,za,hlen,t0,t1,t4,t7]
 rintro _ tm ⟨rfl,hlen,t0,t1,t4,t7,t57⟩;subst hY2
 by_cases c2:((s[i].toNat:Nat):Int)=34
 ·have hc:s[i]=34:=(zel (by decide)).1 c2;refine zg4 (by simp only[SV.ev,t57,qj,c2,decide_true]) ?_;have he:zbH (s.drop i)=if (zfn ((s.drop (i+1)).length+1) (s.drop (i+1)) [] 0).1≠0 then ((zfn ((s.drop (i+1)).length+1) (s.drop (i+1)) [] 0).1,0,[],0) else (0,3,(zfn ((s.drop (i+1)).length+1) (s.drop (i+1)) [] 0).2.1,(zfn ((s.drop (i+1)).length+1) (s.drop (i+1)) [] 0).2.2+1):=by
   rw[hdc,zbH,if_neg c1,if_pos hc]
  obtain⟨TT,hTT⟩:∃TT,zfn ((s.drop (i+1)).length+1) (s.drop (i+1)) [] 0=TT:=⟨_,rfl⟩;rw[hTT] at he;simp only[sxZ,z6,z7,z8,j4,j5,j6,j7,j8,j9,x3,x4,x5,x6,x7,x8,reduceCtorEq,↓reduceIte,za,hlen,t0,t1,t4,t7];refine zai (zlp s i hs hlt TT hTT (fun hR=>?_) (fun hR=>?_))
  ·rw[if_pos hR] at he;have:=h1 _ _ _ _ he hR;simp only[hR,sxZ,z6,z7,z8,j4,j5,j6,j7,j8,j9,x3,x4,x5,x6,x7,x8,reduceCtorEq,↓reduceIte,za,hlen,t0,t1,t4,t7];exact this
  ·rw[if_neg (by rw[hR];simp)] at he;have:=h0 _ _ _ he;simp only[sxZ,z6,z7,z8,j4,j5,j6,j7,j8,j9,x3,x4,x5,x6,x7,x8,reduceCtorEq,↓reduceIte,za,hlen,t0,t1,t4,t7];rw[show i+(TT.2.2+1)=i+1+TT.2.2 by omega] at this;exact this
 have hc:¬s[i]=34:=fun h=>c2 ((zel (by decide)).2 h);refine zg5 (by simp only[SV.ev,t57,qj,c2,decide_false]) ?_;refine zaa fun Y2 hY2=>?_;refine zaz (fun o t=>o=[.box 56 [.i .i64 0,.s [],.i .i64 0]]/\t.length=139/\t[0]? = some (.s s)/\t[1]? = some (.i .i64 (i:Nat))/\t[4]? = some (.p 0 0)/\t[7]? = some (.i .u8 (s[i].toNat:Nat))/\t[75]? = some (.b (decide (s[i]=45\/zaq s[i]=true)))) ?_ ?_
 ·by_cases c3:((s[i].toNat:Nat):Int)=45
  ·have hc3:s[i]=45\/zaq s[i]=true:=.inl ((zel (by decide)).1 c3);simp only[c3,hc3,zab,sxZ,z6,z7,z8,j4,j5,j6,j7,j8,j9,x3,x4,x5,x6,x7,x8,reduceCtorEq,↓reduceIte,za,hlen,t0,t1,t4,t7]
  ·have hc3:¬s[i]=45:=fun h=>c3 ((zel (by decide)).2 h);simp only[c3,sxZ,z6,z7,z8,j4,j5,j6,j7,j8,j9,x3,x4,x5,x6,x7,x8,reduceCtorEq,↓reduceIte,za,hlen,t0,t1,t4,t7];refine zai (zfF s[i] ?_);have e3:decide (s[i]=45\/zaq s[i]=true)=zaq s[i]:=by
    cases zaq s[i]<;>simp[hc3]
   rw[e3];generalize zaq s[i]=dg;simp only[zab,sxZ,z6,z7,z8,j4,j5,j6,j7,j8,j9,x3,x4,x5,x6,x7,x8,reduceCtorEq,↓reduceIte,za,hlen,t0,t1,t4,t7]
 rintro _ tm ⟨rfl,hlen,t0,t1,t4,t7,t75⟩;subst hY2
 by_cases c3:s[i]=45\/zaq s[i]=true
 ·refine zg4 (by simp only[SV.ev,t75,qj,c3,decide_true]) ?_;have he:zbH (s.drop i)=if ze8 (s.drop i)=0 then (130,0,[],0) else (0,4,(s.drop i).take (ze8 (s.drop i)),ze8 (s.drop i)):=by
   conv=>lhs;rw[hdc]
   rw[zbH,if_neg c1,if_neg hc,if_pos c3,<-hdc]
  have hnl:=znj (s.drop i);rw[qb] at hnl;simp only[sxZ,z6,z7,z8,j4,j5,j6,j7,j8,j9,x3,x4,x5,x6,x7,x8,reduceCtorEq,↓reduceIte,za,hlen,t0,t1,t4,t7];refine⟨by omega,?_⟩;refine zai (zgj _ (by rw[qb];omega) ?_);generalize ze8 (s.drop i)=n at *
  by_cases c4:((n:Nat):Int)=0
  ·rw[if_pos (by omega)] at he;have:=h1 _ _ _ _ he (by decide);simp only[c4,sxZ,z6,z7,z8,j4,j5,j6,j7,j8,j9,x3,x4,x5,x6,x7,x8,reduceCtorEq,↓reduceIte,za,hlen,t0,t1,t4,t7];exact this
  ·rw[if_neg (by omega)] at he;have:=h0 _ _ _ he;have e2:((i:Int)+(n:Int)).toNat=i+n:=by omega
   simp only[c4,e2,sxZ,z6,z7,z8,j4,j5,j6,j7,j8,j9,x3,x4,x5,x6,x7,x8,reduceCtorEq,↓reduceIte,za,hlen,t0,t1,t4,t7];rw[zfo]
   (and_intros<;>try omega)
   exact this
 refine zg5 (by simp only[SV.ev,t75,qj,c3,decide_false]) ?_;have he:zbH (s.drop i)=if (s.drop i).take (zbW (s.drop i))=[116,114,117,101]\/(s.drop i).take (zbW (s.drop i))=[102,97,108,115,101]\/(s.drop i).take (zbW (s.drop i))=[110,117,108,108] then (0,5,(s.drop i).take (zbW (s.drop i)),zbW (s.drop i)) else (130,0,[],0):=by
  conv=>lhs;rw[hdc]
  rw[zbH,if_neg c1,if_neg hc,if_neg c3,<-hdc]
 have hwl2:=zgT (s.drop i);rw[qb] at hwl2;simp only[sxZ,z6,z7,z8,j4,j5,j6,j7,j8,j9,x3,x4,x5,x6,x7,x8,reduceCtorEq,↓reduceIte];subst hY1;refine zaa fun Y1 hY1=>?_;simp only[sxZ,z6,z7,z8,j4,j5,j6,j7,j8,j9,x3,x4,x5,x6,x7,x8,reduceCtorEq,↓reduceIte];subst hY1;refine zaa fun Y1 hY1=>?_;refine zaz (fun o t=>o=[.box 56 [.i .i64 0,.s [],.i .i64 0]]/\t.length=139/\t[0]? = some (.s s)/\t[1]? = some (.i .i64 (i:Nat))/\t[4]? = some (.p 0 0)/\t[12]? = some (.i .i64 (zbW (s.drop i):Nat))) ?_ ?_
 ·simp only[sxZ,z6,z7,z8,j4,j5,j6,j7,j8,j9,x3,x4,x5,x6,x7,x8,reduceCtorEq,↓reduceIte];refine zaF (fun n o t=>∃k:Nat,i+k<=s.length/\n=s.length - (i+k)/\zbW (s.drop i)=k+zbW (s.drop (i+k))/\o=[.box 56 [.i .i64 0,.s [],.i .i64 0]]/\t.length=139/\t[0]? = some (.s s)/\t[1]? = some (.i .i64 (i:Nat))/\t[4]? = some (.p 0 0)/\t[12]? = some (.i .i64 (k:Nat))) (s.length - i) ⟨0,by omega,rfl,by simp,rfl,by simp[hlen],by simp[t0],by simp[t1],by simp[t4],by simp[hlen]⟩ ?_;rintro n _ tm ⟨k,hk,rfl,hr,rfl,hlen,t0,t1,t4,t12⟩;have e1:((i:Int)+(k:Int)).toNat=i+k:=by omega
  by_cases hlt2:(i:Int)+(k:Int)<s.length
  ·have hlt':i+k<s.length:=by omega
   have hg2:=zaW hlt';have hrn:=word_at s (i+k) hlt';simp only[e1,hg2,hlt2,sxZ,z6,z7,z8,j4,j5,j6,j7,j8,j9,x3,x4,x5,x6,x7,x8,reduceCtorEq,↓reduceIte,za,hlen,t0,t1,t4,t12];refine⟨by omega,by omega,by omega,?_⟩;refine zai (zmP s[i+k] ?_)
   by_cases hd:zbu s[i+k]=true
   ·rw[if_pos hd] at hrn;simp only[hd,sxZ,z6,z7,z8,j4,j5,j6,j7,j8,j9,x3,x4,x5,x6,x7,x8,reduceCtorEq,↓reduceIte,za,hlen,t0,t1,t4,t12];exact⟨by omega,s.length - (i+(k+1)),by omega,k+1,by omega,rfl,by rw[<-Nat.add_assoc];omega,rfl⟩
   ·rw[if_neg hd] at hrn;simp only[Bool.not_eq_true] at hd;simp only[hd,za9,zab,sxZ,z6,z7,z8,j4,j5,j6,j7,j8,j9,x3,x4,x5,x6,x7,x8,reduceCtorEq,↓reduceIte,za,hlen,t0,t1,t4,t12];rw[hr,hrn];rfl
  ·have hie:i+k=s.length:=by omega
   have hw:zbW (s.drop (i+k))=0:=by rw[hie,xm];rfl
   simp only[hlt2,za9,zab,sxZ,z6,z7,z8,j4,j5,j6,j7,j8,j9,x3,x4,x5,x6,x7,x8,reduceCtorEq,↓reduceIte,za,hlen,t0,t1,t4,t12];refine⟨by omega,?_⟩;rw[hr,hw];rfl
 rintro _ tm ⟨rfl,hlen,t0,t1,t4,t12⟩;subst hY1;have hx:=zfo s i (zbW (s.drop i));generalize zbW (s.drop i)=n at *;rw[<-hx] at he;have e2:((i:Int)+(n:Int)).toNat=i+n:=by omega
 have n1:¬([102,97,108,115,101]:List UInt8)=[116,114,117,101]:=by decide
 have n2:¬([110,117,108,108]:List UInt8)=[116,114,117,101]:=by decide
 have n3:¬([110,117,108,108]:List UInt8)=[102,97,108,115,101]:=by decide
 refine zaa fun Y1 hY1=>?_;refine zaa fun Y2 hY2=>?_;refine zaz (fun o t=>o=[.box 56 [.i .i64 0,.s [],.i .i64 0]]/\t.length=139/\t[1]? = some (.i .i64 (i:Nat))/\t[4]? = some (.p 0 0)/\t[12]? = some (.i .i64 (n:Nat))/\t[13]? = some (.s ((s.take (i+n)).drop i))) ?_ ?_
 ·simp only[e2,zab,sxZ,z6,z7,z8,j4,j5,j6,j7,j8,j9,x3,x4,x5,x6,x7,x8,reduceCtorEq,↓reduceIte,za,hlen,t0,t1,t4,t12]
  and_intros<;>first|omega|exact iv (by omega)|rfl|assumption
 rintro _ tm ⟨rfl,hlen,t1,t4,t12,t13⟩;subst hY2;generalize (s.take (i+n)).drop i=x at *
 by_cases hw:x=[116,114,117,101]\/x=[102,97,108,115,101]\/x=[110,117,108,108]
 ·rw[if_pos hw] at he;have:=h0 _ _ _ he;rcases hw with rfl|rfl|rfl
  ·simp only[sxZ,z6,z7,z8,j4,j5,j6,j7,j8,j9,x3,x4,x5,x6,x7,x8,reduceCtorEq,↓reduceIte,za,hlen,t1,t4,t12,t13]
   (and_intros<;>try omega)
   exact this
  ·simp only[n1,sxZ,z6,z7,z8,j4,j5,j6,j7,j8,j9,x3,x4,x5,x6,x7,x8,reduceCtorEq,↓reduceIte,za,hlen,t1,t4,t12,t13]
   (and_intros<;>try omega)
   exact this
  ·simp only[n2,n3,sxZ,z6,z7,z8,j4,j5,j6,j7,j8,j9,x3,x4,x5,x6,x7,x8,reduceCtorEq,↓reduceIte,za,hlen,t1,t4,t12,t13]
   (and_intros<;>try omega)
   exact this
 ·rw[if_neg hw] at he;have:=h1 _ _ _ _ he (by decide);have d1:¬x=[116,114,117,101]:=fun h=>hw (.inl h);have d2:¬x=[102,97,108,115,101]:=fun h=>hw (.inr (.inl h));have d3:¬x=[110,117,108,108]:=fun h=>hw (.inr (.inr h));simp only[d1,d2,d3,sxZ,z6,z7,z8,j4,j5,j6,j7,j8,j9,x3,x4,x5,x6,x7,x8,reduceCtorEq,↓reduceIte,za,hlen,t1,t4,t12,t13];subst hY1;simp only[sxZ,z6,z7,z8,j4,j5,j6,j7,j8,j9,x3,x4,x5,x6,x7,x8,reduceCtorEq,↓reduceIte,za,hlen,t1,t4,t12,t13];exact this
end
section
attribute [local irreducible] run
def intN (l:List UInt8):List UInt8:=if l[zbL l]? = some 48 then [48] else (l.drop (zbL l)).take (zbj (l.drop (zbL l)))
def frN (l:List UInt8) (t:Nat):List UInt8:=if l[t]? = some 46/\0<zbj (l.drop (t+1)) then (l.drop (t+1)).take (zbj (l.drop (t+1))) else []
def sgnX (l:List UInt8) (f:Nat):List UInt8:=if l[f+1]? = some 43 then [43] else if l[f+1]? = some 45 then [45] else []
def exN (l:List UInt8) (f:Nat):Option (UInt8×List UInt8×List UInt8) :=
 if (l[f]? = some 101\/l[f]? = some 69)/\0<zbj (l.drop (zbB l f)) then some (if l[f]? = some 101 then 101 else 69,sgnX l f,l.drop (zbB l f)) else none
def zjY (l:List UInt8):NumS:=⟨decide (l[0]? = some 45),intN l,frN l (zbf l),exN l (zda l (zbf l))⟩
theorem zm0 {l:List UInt8} (h0:l≠[]) (h:ze8 l=l.length):(zjY l).Good/\l=(zjY l).txt:=by
 have hl:0<l.length:=jr.2 h0;unfold ze8 at h
 by_cases hr:zbj (l.drop (zbL l))=0
 ·rw[if_pos hr] at h;omega
 rw[if_neg hr] at h;have hsg:l=sgT (decide (l[0]? = some 45))++l.drop (zbL l):=by
  unfold zbL sgT
  by_cases hc:l[0]? = some 45
  ·rw[if_pos hc,if_pos (by rw[hc];rfl)]
   conv=>lhs;rw[<-List.drop_zero (l:=l),zbr hc]
   rfl
  ·rw[if_neg hc,if_neg (by rw[decide_eq_false hc];exact Bool.false_ne_true)];simp
 have hrl:=zbi l (zbL l) (by omega);obtain⟨I,hIe,hI0,hI1,hI2,hIl,hI⟩:∃I:List UInt8,I=intN l/\I≠[]/\I.all zaq=true/\(I[0]? = some 48->I=[48])/\zbf l<=l.length/\l.drop (zbL l)=I++l.drop (zbf l):=by
  have hd:=zet (l.drop (zbL l)) 0 (by omega);obtain⟨c,hc1,hc2⟩:=hd;rw[jm,jc] at hc1;have hdc:=zbr hc1;unfold zbf
  by_cases hz:l[zbL l]? = some 48
  ·rw[if_pos hz];refine⟨[48],by unfold intN;rw[if_pos hz],by simp,rfl,fun _=>rfl,?_,?_⟩
   ·have:=(zf.1 hz).1;omega
   ·exact zbr hz
  ·rw[if_neg hz];refine⟨(l.drop (zbL l)).take (zbj (l.drop (zbL l))),by unfold intN;rw[if_neg hz],zgW (by omega) (zes _),zb9 _,?_,hrl,?_⟩
   ·intro h1;exfalso;rw[List.getElem?_take,if_pos (by omega),jm,jc] at h1;exact hz h1
   ·have:=zfd l (show zbL l<=zbL l+zbj (l.drop (zbL l)) by omega);rw[show zbL l+zbj (l.drop (zbL l)) - zbL l=zbj (l.drop (zbL l)) by omega] at this;exact this
 unfold zjY;rw[<-hIe];clear hIe;generalize zbf l=t at *;obtain⟨F,hFe,hF1,hFl,hF⟩:∃F:List UInt8,F=frN l t/\F.all zaq=true/\zda l t<=l.length/\l.drop t=frT F++l.drop (zda l t):=by
  unfold zda
  by_cases hc:l[t]? = some 46/\0<zbj (l.drop (t+1))
  ·rw[if_pos hc];have hb:=zbi l (t+1) hc.2;refine⟨(l.drop (t+1)).take (zbj (l.drop (t+1))),by unfold frN;rw[if_pos hc],zb9 _,hb,?_⟩;have h1:=zfd l (show t+1<=t+1+zbj (l.drop (t+1)) by omega);rw[show t+1+zbj (l.drop (t+1)) - (t+1)=zbj (l.drop (t+1)) by omega] at h1;have hne:=zgW hc.2 (zes (l.drop (t+1)));rw[zbr hc.1];generalize (l.drop (t+1)).take (zbj (l.drop (t+1)))=F at *
   cases F with
   | nil=>exact absurd rfl hne
   | cons a F=>
    show 46::l.drop (t+1)=46::(a::F++_);rw[<-h1]
  ·rw[if_neg hc];exact⟨[],by unfold frN;rw[if_neg hc],rfl,hIl,rfl⟩
 rw[<-hFe];clear hFe;generalize zda l t=f at *;obtain⟨E,hEe,hE1,hE⟩:∃E:Option (UInt8×List UInt8×List UInt8),E=exN l f/\(∀c s d,E=some (c,s,d)->(c=101\/c=69)/\(s=[]\/s=[43]\/s=[45])/\d≠[]/\d.all zaq=true)/\l.drop f=exT E:=by
  unfold expN at h
  by_cases hc:(l[f]? = some 101\/l[f]? = some 69)/\0<zbj (l.drop (zbB l f))
  ·rw[if_pos hc] at h;have hex:exN l f=some (if l[f]? = some 101 then 101 else 69,sgnX l f,l.drop (zbB l f)):=by unfold exN;rw[if_pos hc]
   obtain⟨c,hc1,hc2,hc3⟩:∃c,l[f]? = some c/\(c=101\/c=69)/\(if l[f]? = some 101 then 101 else 69)=c:=by
    rcases hc.1 with h1|h1
    ·exact⟨_,h1,.inl rfl,by rw[if_pos h1]⟩
    ·exact⟨_,h1,.inr rfl,by rw[h1];rfl⟩
   rw[hc3] at hex;have hdig:l.drop (zbB l f)≠[]/\(l.drop (zbB l f)).all zaq=true:=by
    have h1:=zb9 (l.drop (zbB l f));have h2:zbj (l.drop (zbB l f))=(l.drop (zbB l f)).length:=by rw[qb];omega
    rw[h2,List.take_length] at h1;refine⟨fun e=>?_,h1⟩;rw[e] at hc;exact absurd hc.2 (by simp[zbj])
   rw[zbr hc1];unfold zbB at hdig hc hex
   by_cases hs:l[f+1]? = some 43\/l[f+1]? = some 45
   ·rw[if_pos hs] at hdig hex;obtain⟨s,hs1,hs2,hs3⟩:∃s,l[f+1]? = some s/\(s=43\/s=45)/\sgnX l f=[s]:=by
     unfold sgnX;rcases hs with h1|h1
     ·exact⟨_,h1,.inl rfl,by rw[if_pos h1]⟩
     ·exact⟨_,h1,.inr rfl,by rw[h1];rfl⟩
    refine⟨some (c,[s],l.drop (f+2)),by rw[hex,hs3],?_,?_⟩
    ·intro c' s' d' e;injection e with e;injection e with e1 e2;injection e2 with e2 e3
     subst e1 e2 e3;exact⟨hc2,by rcases hs2 with rfl|rfl<;>simp,hdig.1,hdig.2⟩
    ·rw[zbr hs1];rfl
   ·rw[if_neg hs] at hdig hex;have hs3:sgnX l f=[]:=by
     unfold sgnX;rw[if_neg (fun h=>hs (.inl h)),if_neg (fun h=>hs (.inr h))]
    refine⟨some (c,[],l.drop (f+1)),by rw[hex,hs3],?_,rfl⟩;intro c' s' d' e;injection e with e;injection e with e1 e2;injection e2 with e2 e3
    subst e1 e2 e3;exact⟨hc2,.inl rfl,hdig.1,hdig.2⟩
  ·rw[if_neg hc] at h;subst h;exact⟨none,by unfold exN;rw[if_neg hc],fun _ _ _ e=>(by cases e),by simp[exT]⟩
 rw[<-hEe];refine⟨⟨hI0,hI1,hI2,hF1,hE1⟩,?_⟩;show l=sgT _++(I++(frT F++exT E));rw[<-hE,<-hF,<-hI,<-hsg]
def zcH (l:List UInt8):Int×List UInt8:=if l=[]\/¬ze8 l=l.length then (130,[]) else canP 1099511627776 (zjY l)
theorem numE_of {p:NumS} (hp:p.Good):zcH p.txt=canP 1099511627776 p:=by
 obtain⟨h1,h2⟩:=num_txt hp;unfold zcH;rw[if_neg (fun h=>h.elim h2 (fun h=>h h1))];obtain⟨q1,q2⟩:=zm0 h2 h1;exact congrArg _ (num_uniq hp q1 q2).symm
theorem can_cut2 (p:NumS) (h:p.txt.length<=1048576):canP 1099511627776 p=canP 1073741824 p:=by
 have h1:=zl5 p;have h2:=zj6 p;have h3:=zR_len (zeA p);unfold canP
 by_cases hm:zeA p=[]
 ·rw[if_pos hm,if_pos hm]
 rw[if_neg hm,if_neg hm]
 by_cases he:zfP 1099511627776 p.ex=zfP 1073741824 p.ex
 ·have:expX 1099511627776 p=expX 1073741824 p:=by unfold expX;rw[he]
  rw[this]
 ·have key:(zfP 1099511627776 p.ex < -100000000/\zfP 1073741824 p.ex < -100000000)\/(100000000<zfP 1099511627776 p.ex/\100000000<zfP 1073741824 p.ex):=by
   cases hx:p.ex with
   | none=>rw[hx] at he;exact absurd rfl he
   | some e=>
    obtain⟨c,s,d⟩:=e;rw[hx] at he;simp only[zfP] at he ⊢
    by_cases hs:s=[45]
    ·rw[if_pos hs,if_pos hs] at he ⊢;left;omega
    ·rw[if_neg hs,if_neg hs] at he ⊢;right;omega
  rw[if_pos,if_pos]
  ·unfold expX;omega
  ·unfold expX;omega
theorem zgV:∀(n:Nat) (l out x:List UInt8) (k m:Nat),zfn n l out k=(0,x,m)->k<m/\m<=k+l.length/\x.length<=out.length+(m - k)
 | 0,l,out,x,k,m,h=>by rw[zfn] at h;cases h
 | n+1,[],out,x,k,m,h=>by rw[zfn] at h;cases h
 | n+1,c::t,out,x,k,m,h=>by
  rw[zfn] at h;have hl:(c::t).length=t.length+1:=rfl
  split at h
  ·cases h;exact⟨by omega,by omega,by omega⟩
  ·split at h
   ·split at h
    ·rename_i g;injection h with h _;exact absurd h g
    ·rename_i g;have g:(zeU (c::t)).1=0:=by simpa using g
     obtain⟨⟨e,y,j⟩,hE⟩:∃r,zeU (c::t)=r:=⟨_,rfl⟩;rw[hE] at h g;simp only at g h;subst g;have hl2:=zkC hE;have:=zgV n _ _ _ _ _ h;rw[qb,zp] at this;omega
   ·split at h
    ·cases h
    ·split at h
     ·cases h
     ·rename_i r j hd;have hd':=zdx hd;have:=zgV n _ _ _ _ _ h;rw[qb,zp,qh] at this;omega
theorem zmN {l:List UInt8} (h:(zbH l).1=0):(zbH l).2.2.2<=l.length/\(¬(zbH l).2.1=1->1<=(zbH l).2.2.2)/\((zbH l).2.1=1->l=[])/\(zbH l).2.2.1.length<=l.length/\1<=(zbH l).2.1/\(zbH l).2.1<=5:=by
 cases l with
 | nil=>exact⟨by simp[zbH],fun h=>absurd rfl h,fun _=>rfl,by simp[zbH],by decide,by decide⟩
 | cons c t=>
  have hl:(c::t).length=t.length+1:=rfl;rw[zbH] at h ⊢
  by_cases c1:zcl c [123,125,91,93,58,44]=true
  ·simp only[if_pos c1];exact⟨by simp,fun _=>by simp,fun h=>by simp at h,by simp,by decide,by decide⟩
  simp only[if_neg c1] at h ⊢
  by_cases c2:c=34
  ·simp only[if_pos c2] at h ⊢
   by_cases c3:(zfn (t.length+1) t [] 0).1≠0
   ·simp only[if_pos c3] at h;exact absurd h c3
   ·simp only[if_neg c3] at h ⊢;obtain⟨⟨e,x,m⟩,hE⟩:∃r,zfn (t.length+1) t [] 0=r:=⟨_,rfl⟩;have c3:e=0:=by rw[hE] at c3;simpa using c3
    subst c3;have:=zgV _ _ _ _ _ _ hE;rw[je] at this;rw[hE];exact⟨by show m+1<=_;omega,fun _=>by show 1<=m+1;omega,fun h=>by simp at h,by show x.length<=_;omega,by decide,by decide⟩
  simp only[if_neg c2] at h ⊢
  by_cases c3:c=45\/zaq c=true
  ·simp only[if_pos c3] at h ⊢
   by_cases c4:ze8 (c::t)=0
   ·simp only[if_pos c4] at h;cases h
   ·simp only[if_neg c4] at h ⊢;have:=znj (c::t);exact⟨by show ze8 (c::t)<=_;omega,fun _=>by show 1<=ze8 (c::t);omega,fun h=>by simp at h,by show (List.take _ _).length<=_;rw[qh];omega,by decide,by decide⟩
  simp only[if_neg c3] at h ⊢
  split at h
  ·rename_i c4;rw[if_pos c4];have hw:=zgT (c::t);refine⟨hw,fun _=>?_,fun h=>by simp at h,by show (List.take _ _).length<=_;rw[qh];omega,by show (1:Int)<=5;decide,by show (5:Int)<=5;decide⟩;show 1<=zbW (c::t);rcases Nat.eq_zero_or_pos (zbW (c::t)) with h0|h0
   ·rw[h0] at c4;simp at c4
   ·exact h0
  ·cases h
theorem zj4 {s:List UInt8} {a:Int} (h0:0<=a) (h:(zbq s a).2.2=0) :
  (a<=(zbq s a).2.1/\(zbq s a).2.1<=s.length/\((zbq s a).1.1≠1->a<(zbq s a).2.1)/\((zbq s a).1.1=1->(zbq s a).2.1=s.length))/\(zbq s a).1.2.1.length<=s.length/\1<=(zbq s a).1.1/\(zbq s a).1.1<=5/\0<=(zbq s a).1.2.2/\(zbq s a).1.2.2<=s.length:=by
 unfold zbq at h ⊢
 by_cases c1:a<0\/(s.length:Int)<a
 ·simp only[if_pos c1] at h;cases h
 simp only[if_neg c1] at h ⊢;obtain⟨x,hx⟩:=Int.eq_ofNat_of_zero_le h0;subst hx;simp only[jf] at h ⊢;have hw:=zfl (s.drop x);rw[qb] at hw;generalize hA:x+zbv (s.drop x)=A at *
 by_cases c2:(zbH (s.drop A)).1≠0
 ·simp only[if_pos c2] at h;exact absurd h c2
 simp only[if_neg c2];have c2:(zbH (s.drop A)).1=0:=by simpa using c2
 obtain⟨r1,r2,r3,r4,r5,r6⟩:=zmN c2;rw[qb] at r1 r4;refine⟨⟨?_,?_,?_,?_⟩,?_,r5,r6,?_,?_⟩
 ·show (x:Int)<=((A+_:Nat):Int);omega
 ·show ((A+_:Nat):Int)<=_;omega
 ·intro h;have:=r2 h;show (x:Int)<((A+_:Nat):Int);omega
 ·intro h;have h1:=r3 h;have h2:=congrArg List.length h1;rw[qb,je] at h2;show ((A+_:Nat):Int)=_;omega
 ·show (zbH (s.drop A)).2.2.1.length<=_;omega
 ·show (0:Int)<=((A:Nat):Int);omega
 ·show ((A:Nat):Int)<=_;omega
theorem next_lt {s:List UInt8} {a:Int} (h0:0<=a) (h:(zbq s a).2.2=0):a<=(zbq s a).2.1/\(zbq s a).2.1<=s.length/\((zbq s a).1.1≠1->a<(zbq s a).2.1)/\((zbq s a).1.1=1->(zbq s a).2.1=s.length):=(zj4 h0 h).1
section
variable [Tabs Tryz.prog] [Pow Tryz.prog] {objs:List OB} {K:List OB->AV->Prop}
omit [Pow Tryz.prog] in
theorem zmq (s:List UInt8) (hs:s.length<=1048576) (hk:K objs (.tup [.s (zcH s).2,.i .i64 (zcH s).1])):zad Tryz.prog 59 [.s s] objs K :=
 zmp s (by omega) (fun h=>by unfold zcH at hk;rw[if_pos (by simpa using h)] at hk;exact hk) (fun p hp e=>by subst e;rw[numE_of hp,can_cut2 p hs] at hk;exact hk)
end
end
section
attribute [local irreducible] run
inductive JV where
 | mk (k:Int) (t:List UInt8) (ks:List (List UInt8)) (its:List JV)
def jvZ:JV:=.mk 0 [] [] []
abbrev Tk:=Int×List UInt8×Int
def tkZ:Tk:=(0,[],0)
def isP (t:Tk) (c:UInt8):Bool:=decide (t.1=2)&&decide (t.2.1=[c])
def trueL:List UInt8:=[116,114,117,101]
def zoe:List UInt8:=[102,97,108,115,101]
def zf5 (l:List UInt8):Int:=if l=trueL then 3 else if l=zoe then 2 else 1
def vkE (t:Tk):Int :=
 if t.1=3 then 5 else if t.1=4 then 4 else if isP t 91=true then 6 else if isP t 123=true then 7 else if ¬t.1=5 then 0 else zf5 t.2.1
structure Fr where
 obj:Bool
 ks:List (List UInt8)
 its:List JV
structure Ms where
 st:Int
 stk:List Fr
 nodes:Nat
 root:JV
def Fr.val (f:Fr):JV:=.mk (if f.obj=true then 7 else 6) [] f.ks f.its
structure Rs where
 pos:Int
 nodes:Nat
 fail:Int
 wh:Int
def zaY (ρ:Rs) (a e:Int):Rs:=if ρ.fail=0 then ⟨ρ.pos,ρ.nodes,e,a⟩ else ρ
def zar (s:List UInt8) (ρ:Rs):Tk×Rs :=
 if ¬ρ.fail=0 then (tkZ,ρ)
 else if ¬(zbq s ρ.pos).2.2=0 then (tkZ,zaY ρ ρ.pos (zbq s ρ.pos).2.2)
 else ((zbq s ρ.pos).1,⟨(zbq s ρ.pos).2.1,ρ.nodes,ρ.fail,ρ.wh⟩)
def zbb (ρ:Rs) (t:Tk) (c:UInt8):Rs:=if ρ.fail=0/\isP t c=false then zaY ρ t.2.2 140 else ρ
def zdM (s:List UInt8) (val:Rs->Tk->JV×Rs):Nat->Rs->Tk->List JV->List JV×Rs
 | 0,ρ,_,acc=>(acc,ρ)
 | n+1,ρ,t,acc=>
  if ¬ρ.fail=0 then (acc,ρ) else
  let a:=val ρ t
  let b:=zar s a.2
  if isP b.1 93=true then (acc++[a.1],b.2) else
  let c:=zar s (zbb b.2 b.1 44)
  zdM s val n c.2 c.1 (acc++[a.1])
def zmJ (ρ:Rs) (t:Tk) (ks:List (List UInt8)):Rs :=
 let ρ:=if ¬t.1=3 then zaY ρ t.2.2 140 else ρ
 if t.2.1∈ks then zaY ρ t.2.2 143 else ρ
def zdd (s:List UInt8) (val:Rs->Tk->JV×Rs):Nat->Rs->Tk->List (List UInt8)->List JV->(List (List UInt8)×List JV)×Rs
 | 0,ρ,_,ks,its=>((ks,its),ρ)
 | n+1,ρ,t,ks,its=>
  if ¬ρ.fail=0 then ((ks,its),ρ) else
  let a:=zar s (zmJ ρ t ks)
  let b:=zar s (zbb a.2 a.1 58)
  let v:=val b.2 b.1
  let c:=zar s v.2
  if isP c.1 125=true then ((ks++[t.2.1],its++[v.1]),c.2) else
  let d:=zar s (zbb c.2 c.1 44)
  zdd s val n d.2 d.1 (ks++[t.2.1]) (its++[v.1])
def zg7 (s:List UInt8) (val:Rs->Tk->JV×Rs) (ρ:Rs):JV×Rs :=
 let a:=zar s ρ
 if isP a.1 93=true then (.mk 6 [] [] [],a.2) else
 let b:=zdM s val (s.length+2) a.2 a.1 []
 (.mk 6 [] [] b.1,b.2)
def zhz (s:List UInt8) (val:Rs->Tk->JV×Rs) (ρ:Rs):JV×Rs :=
 let a:=zar s ρ
 if isP a.1 125=true then (.mk 7 [] [] [],a.2) else
 let b:=zdd s val (s.length+2) a.2 a.1 [] []
 (.mk 7 [] b.1.1 b.1.2,b.2)
def zbE (ρ:Rs) (t:Tk):Rs :=
 let ρ:=if t.1=4/\¬(zcH t.2.1).1=0 then zaY ρ t.2.2 (zcH t.2.1).1 else ρ
 if 20000<ρ.nodes+1 then zaY ⟨ρ.pos,ρ.nodes+1,ρ.fail,ρ.wh⟩ t.2.2 142 else ⟨ρ.pos,ρ.nodes+1,ρ.fail,ρ.wh⟩
def zaB (s:List UInt8):Nat->Rs->Tk->Nat->JV×Rs
 | 0,ρ,_,_=>(jvZ,ρ)
 | f+1,ρ,t,d=>
  if ¬ρ.fail=0 then (jvZ,ρ)
  else if vkE t=0 then (jvZ,zaY ρ t.2.2 140)
  else if t.1=2/\d=64 then (jvZ,zaY ρ t.2.2 141)
  else if t.1=5 then (.mk (zf5 t.2.1) [] [] [],zbE ρ t)
  else if isP t 91=true then zg7 s (fun ρ t=>zaB s f ρ t (d+1)) (zbE ρ t)
  else if isP t 123=true then zhz s (fun ρ t=>zaB s f ρ t (d+1)) (zbE ρ t)
  else if t.1=4 then (.mk 4 (zcH t.2.1).2 [] [],zbE ρ t)
  else (.mk 5 t.2.1 [] [],zbE ρ t)
def rs0:Rs:=⟨0,0,0,0⟩
def zeP (s:List UInt8):JV×Int×Int :=
 if 1048576<s.length then (jvZ,0,142) else
 let a:=zar s rs0
 let v:=zaB s 65 a.2 a.1 0
 let b:=zar s v.2
 let ρ:=if b.2.fail=0/\¬b.1.1=1 then zaY b.2 b.1.2.2 140 else b.2
 if ¬ρ.fail=0 then (jvZ,ρ.wh,ρ.fail) else (v.1,s.length,0)
def zlT (ρ ρ':Rs):Prop:=¬ρ.fail=0->ρ'.fail=ρ.fail/\ρ'.wh=ρ.wh
theorem zlT.refl (ρ:Rs):zlT ρ ρ:=fun _=>⟨rfl,rfl⟩
theorem zlT.trans {a b c:Rs} (h:zlT a b) (k:zlT b c):zlT a c:=fun ha=>by
 obtain⟨h1,h2⟩:=h ha;obtain⟨k1,k2⟩:=k (by rw[h1];exact ha);exact⟨k1.trans h1,k2.trans h2⟩
theorem zlr (ρ:Rs) (a e:Int):zlT ρ (zaY ρ a e):=fun h=>by unfold zaY;rw[if_neg h];exact⟨rfl,rfl⟩
theorem zb3 (s:List UInt8) (ρ:Rs):zlT ρ (zar s ρ).2:=fun h=>by unfold zar;rw[if_pos h];exact⟨rfl,rfl⟩
theorem zeq (ρ:Rs) (t:Tk) (c:UInt8):zlT ρ (zbb ρ t c):=by
 unfold zbb;split
 ·exact zlr _ _ _
 ·exact zlT.refl _
theorem ziU (s:List UInt8) (f:Nat) (ρ:Rs) (t:Tk) (d:Nat):zlT ρ (zaB s f ρ t d).2:=fun h=>by
 cases f with
 | zero=>exact⟨rfl,rfl⟩
 | succ f=>rw[zaB,if_pos h];exact⟨rfl,rfl⟩
theorem vk_val (t:Tk):vkE t=0\/vkE t=1\/vkE t=2\/vkE t=3\/vkE t=4\/vkE t=5\/vkE t=6\/vkE t=7:=by
 unfold vkE zf5
 repeat' split
 all_goals simp
theorem vk_kind {t:Tk}:(vkE t=5↔t.1=3)/\(vkE t=4↔t.1=4)/\((vkE t=1\/vkE t=2\/vkE t=3)↔t.1=5)/\(vkE t=6↔isP t 91=true)/\(vkE t=7↔isP t 123=true)/\(t.1=5->vkE t=zf5 t.2.1):=by
 have e1:∀c,isP t c=true↔t.1=2/\t.2.1=[c]:=fun c=>by simp[isP]
 have hw:zf5 t.2.1=1\/zf5 t.2.1=2\/zf5 t.2.1=3:=by
  unfold zf5
  by_cases a1:t.2.1=trueL
  ·rw[if_pos a1];exact .inr (.inr rfl)
  ·rw[if_neg a1]
   by_cases a2:t.2.1=zoe
   ·rw[if_pos a2];exact .inr (.inl rfl)
   ·rw[if_neg a2];exact .inl rfl
 unfold vkE;simp only[e1]
 by_cases h3:t.1=3
 ·simp[h3]
 by_cases h4:t.1=4
 ·simp[h4]
 by_cases h6:t.1=2/\t.2.1=[91]
 ·simp[h6]
 by_cases h7:t.1=2/\t.2.1=[123]
 ·simp[h7]
 by_cases h5:t.1=5
 ·simp only[h5];rcases hw with h|h|h<;>simp[h]
 ·simp only[h3,h4,h6,h7,h5];simp
def ValFroz (val:Rs->Tk->JV×Rs):Prop:=∀ρ t,zlT ρ (val ρ t).2
theorem zkv {t:Tk} {c:UInt8} (h:isP t c=true):t.1=2/\t.2.1=[c]:=by
 simpa[isP] using h
end
end Go.Proofs.YtceenajkieomoaaGreatDoor
namespace Go.Proofs.YtceenajkieomoaaGreatDoor.Sx
open Go.RowKit
def zbc (b gen n:Nat) (xs:List AV):AV->AV
 | .orow b' g'=>if b'=b/\g'=gen then .row n xs else .orow b' g'
 | x=>x
def zf6 (b gen n:Nat) (xs:List AV):OB->OB
 | .box T cs=>.box T (cs.map (zbc b gen n xs))
 | x=>x
def zc9 (objs:List OB) (b gen n:Nat) (xs:List AV):List OB:=(objs.map (zf6 b gen n xs)).set b .dead
def zhA (G:Gh) (b gen:Nat):Gh:=⟨G.blk,fun x=>if x=b then some (gen+1,.slice none 0 0) else G.cur x⟩
theorem zfH {G:Gh} {b gen:Nat} {v:Value} (h:G.cur b=some (gen,v)):G.le (zhA G b gen) where
 blk:=fun _ _ h=>h
 cur:=fun x n w hx=>by
  by_cases hb:x=b
  ·subst hb;rw[h] at hx;injection hx with hx;injection hx with h1 h2
   exact⟨gen+1,.slice none 0 0,by simp[zhA],.inr (by omega)⟩
  ·exact⟨n,w,by simp[zhA,hb,hx],.inl ⟨rfl,rfl⟩⟩
theorem zd6 {G:Gh} {b gen:Nat} (hb:G.blk b=none) {x g:Nat} (h:(zhA G b gen).own x=some g):x≠b/\G.own x=some g:=by
 by_cases hx:x=b
 ·subst hx;exfalso;unfold Gh.own zhA at h;simp only[hb] at h;simp[Value.ownBlock] at h
 ·refine⟨hx,?_⟩;unfold Gh.own zhA at h;simp only[if_neg hx] at h;exact h
def zjV (I:Imm) (G:Gh) (b:Nat) (w:World):Imm:=fun g o v=>I g o v\/(w.cell? ⟨g,o,none⟩=some v/\G.own b=some g)
theorem zjl {G:Gh} {I:Imm} {objs:List OB} {w:World} (hm:MemOk G I objs w) {b E sz gen n:Nat} {xs:List AV} (hb:objs[b]? = some (.orow E sz gen n xs)) (x:AV) (y:Value) (h:Den G I x y):Den (zhA G b gen) (zjV I G b w) (zbc b gen n xs x) y:=by
 obtain⟨v',vs,m1,m2,m3,m4,m5⟩:=hm.row b E sz gen n xs hb;have hG:=zfH m1;have hI:Imm.le I (zjV I G b w):=fun _ _ _ h=>.inl h;have other:zbc b gen n xs x=x->Den (zhA G b gen) (zjV I G b w) (zbc b gen n xs x) y:=fun e=>by rw[e];exact Den.mono hG hI x y h
 cases x with
 | orow b' g'=>
  by_cases hh:b'=b/\g'=gen
  ·obtain⟨rfl,rfl⟩:=hh;have e:zbc b' g' n xs (.orow b' g')=.row n xs:=by simp[zbc]
   rw[e];simp only[Den] at h ⊢;obtain⟨g0,v,k1,k2,k3,_⟩:=h;rw[k1] at m1;injection m1 with m1;injection m1 with m1 m6
   have hv:=k3 m1.symm;subst m1 m6 hv;have hown:=zbw m5 k1;have q1:=zah.mono hG hI xs vs m3;rcases m2.2 with ⟨rfl,rfl⟩|⟨g,cap,cur,rfl,hx1,hx2,hx3,hx4⟩
   ·have hvs:vs=[]:=List.eq_nil_of_length_eq_zero (by simpa using m2.1);subst hvs;exact⟨none,0,[],rfl,⟨Nat.le_refl _,by intro _ e;cases e⟩,q1,by simp,by simp⟩
   ·refine⟨some ⟨g,0,none⟩,cap,vs,rfl,⟨hx3,by rintro _ ⟨⟩ _;rfl⟩,q1,m4,fun j u hj=>⟨g,0,rfl,.inr ⟨?_,hown⟩⟩⟩;have:=m2.cells (g:=g) rfl j u hj
    rwa [zay] at this
  ·exact other (by simp only[zbc,if_neg hh])
 | _=>exact other rfl
theorem zee {G:Gh} {I:Imm} {objs:List OB} {w:World} (hm:MemOk G I objs w) {b E sz gen n:Nat} {xs:List AV} (hb:objs[b]? = some (.orow E sz gen n xs)):∀(l:List AV) (ys:List Value),zah G I l ys->zah (zhA G b gen) (zjV I G b w) (l.map (zbc b gen n xs)) ys
 | [],ys,h=>by simpa[zah] using h
 | x::l,ys,h=>by
  simp only[zah] at h;obtain⟨y,ys',rfl,h1,h2⟩:=h;exact zah.cons (zjl hm hb x y h1) (zee hm hb l ys' h2)
theorem zi9 {P:Program} [Tabs P] {C:Cx} {G:Gh} {I:Imm} {w:World} {objs:List OB} {b E sz gen n:Nat} {xs:List AV} (hb:objs[b]? = some (.orow E sz gen n xs)) (hin:In C G I w) (hm:MemOk G I objs w) :
  In C (zhA G b gen) (zjV I G b w) w/\MemOk (zhA G b gen) (zjV I G b w) (zc9 objs b gen n xs) w:=by
 obtain⟨v',vs,m1,m2,m3,m4,m5⟩:=hm.row b E sz gen n xs hb;have hlt:b<objs.length:=by
  by_cases h:b<objs.length
  ·exact h
  ·rw[List.getElem?_eq_none (by omega)] at hb;cases hb
 have hG:=zfH m1;have hI:Imm.le I (zjV I G b w):=fun _ _ _ h=>.inl h;have hin':In C (zhA G b gen) (zjV I G b w) w:={
  os:=hin.os,tape:=hin.tape,output:=hin.output,size:=hin.size,block:=hin.block
  imm:=fun g o v h=>.inl (hin.imm g o v h)
  news:=fun g o v h=>by
   rcases h with h|⟨_,h⟩
   ·exact hin.news g o v h
   ·exact .inr (hin.blk b g h)
  blk:=fun x g h=>hin.blk x g (zd6 m5 h).2
  gh:=hin.gh.trans hG }
 have hat:∀x o,(zc9 objs b gen n xs)[x]? = some o->o=.dead\/(x≠b/\∃o',objs[x]? = some o'/\zf6 b gen n xs o'=o):=by
  intro x o h;unfold zc9 at h
  by_cases hx:x=b
  ·subst hx;rw[List.getElem?_set_self (by simpa using hlt)] at h;injection h with h;exact .inl h.symm
  ·rw[List.getElem?_set_ne (Ne.symm hx),List.getElem?_map] at h;obtain⟨o',h1,h2⟩:=Option.map_eq_some_iff.1 h;exact .inr ⟨hx,o',h1,h2⟩
 have hm':MemOk (zhA G b gen) (zjV I G b w) (zc9 objs b gen n xs) w:={
  imm:=fun g o v h=>by
   rcases h with h|⟨h,_⟩
   ·exact hm.imm g o v h
   ·exact h
  box:=fun x T cs h=>by
   rcases hat x _ h with h|⟨hx,o',h1,h2⟩
   ·cases h
   ·cases o' with
    | box T' cs'=>
     injection h2 with e1 e2
     subst e1 e2;obtain⟨g,ys,k1,k2,k3,k4⟩:=hm.box x _ _ h1;exact⟨g,ys,k1,k2,zee hm hb _ _ k3,k4⟩
    | orow=>cases h2
    | mp=>cases h2
    | dead=>cases h2
  row:=fun x E' sz' gen' n' xs' h=>by
   rcases hat x _ h with h|⟨hx,o',h1,h2⟩
   ·cases h
   ·cases o' with
    | box T' cs'=>cases h2
    | orow=>
     injection h2 with e1 e2 e3 e4 e5
     subst e1 e2 e3 e4 e5;obtain⟨v,ys,k1,k2,k3,k4,k5⟩:=hm.row x _ _ _ _ _ h1;exact⟨v,ys,by simp[zhA,hx,k1],k2,zah.mono hG hI _ _ k3,k4,k5⟩
    | mp=>cases h2
    | dead=>cases h2
  map:=fun x es h=>by
   rcases hat x _ h with h|⟨hx,o',h1,h2⟩
   ·cases h
   ·cases o' with
    | box T' cs'=>cases h2
    | orow=>cases h2
    | mp=>
     injection h2 with e1
     subst e1;obtain⟨g,en,ck,k1,k2,k3⟩:=hm.map x _ h1;exact⟨g,en,ck,k1,k2,k3.mono hG hI⟩
    | dead=>cases h2
  inj:=fun x x' g h h'=>hm.inj x x' g (zd6 m5 h).2 (zd6 m5 h').2
  lt:=fun x g h=>hm.lt x g (zd6 m5 h).2
  apart:=fun x g o v h h'=>by
   obtain⟨hx,h1⟩:=zd6 m5 h;rcases h' with h' | ⟨_,h'⟩
   ·exact hm.apart x g o v h1 h'
   ·exact hx (hm.inj x b g h1 h')
  fresh:=fun x hx=>by
   have hx':objs.length<=x:=by simpa[zc9] using hx
   obtain⟨k1,k2⟩:=hm.fresh x hx';exact⟨k1,by simp[zhA,k2];omega⟩ }
 exact⟨hin',hm'⟩
theorem zeJ {P:Program} [Tabs P] {f:FuncId} {args:List AV} {objs:List OB} {K:List OB->AV->Prop} {b E sz gen n:Nat} {xs:List AV} (hb:objs[b]? = some (.orow E sz gen n xs)) (hc:zad P f (args.map (zbc b gen n xs)) (zc9 objs b gen n xs) K):zad P f args objs K:=by
 intro C _ G I w hin hm ys hd;obtain⟨v',vs,m1,m2,m3,m4,m5⟩:=hm.row b E sz gen n xs hb;have hG:=zfH m1;have hI:Imm.le I (zjV I G b w):=fun _ _ _ h=>.inl h;obtain⟨hin',hm'⟩:=zi9 (P:=P) hb hin hm;refine(hc C _ _ w hin' hm' ys (zee hm hb _ _ hd)).mono ?_;rintro e w' ⟨y,objs',r,G',I',he,hk,h1,h2,h3,h4,hy⟩;exact⟨y,objs',r,G',I',he,hk,hG.trans h1,fun g o v h=>h2 g o v (hI g o v h),h3,h4,hy⟩
section
variable {P:Program} [Tabs P] {C:Cx} [On P C] {F:zaN} {objs:List OB} {tm:List AV}
end
section
variable {P:Program} [Tabs P]
end
end Go.Proofs.YtceenajkieomoaaGreatDoor.Sx
namespace Go.Proofs.YtceenajkieomoaaGreatDoor
open Go.RowKit Sx
open List renaming getElem?_eq_some_iff->zf, getElem?_set_ne->ze, map_append->qy, map_cons->zo, mem_append->zw, mem_append_left->jq, mem_append_right->x9, mem_cons->zu, mem_cons_of_mem->qq, mem_map_of_mem->y7, nodup_cons->xy
section
variable [Tabs Tryz.prog] {objs:List OB} {K:List OB->AV->Prop}
end
section
attribute [local irreducible] run
mutual
/-- a JSON value, cell for cell -/
def zae:JV->List AV
 | .mk k t ks its=>[.i .i64 k,.s t,.row ks.length (ks.map .s),.row its.length (zac its)]
def zac:List JV->List AV
 | []=>[]
 | v::l=>zae v++zac l
end
def JV.kind:JV->Int | .mk k _ _ _=>k
def JV.text:JV->List UInt8 | .mk _ t _ _=>t
def JV.keys:JV->List (List UInt8) | .mk _ _ ks _=>ks
def JV.items:JV->List JV | .mk _ _ _ its=>its
theorem zaf (v:JV):zae v=[.i .i64 v.kind,.s v.text,.row v.keys.length (v.keys.map .s),.row v.items.length (zac v.items)]:=by cases v;rw[zae];rfl
theorem zak:zac []=[]:=by rw[zac]
theorem zao (v:JV) (l:List JV):zac (v::l)=zae v++zac l:=by rw[zac]
theorem zcK (v:JV):(zae v).length=4:=by rw[zaf];rfl
theorem zav (l:List JV):(zac l).length=l.length*4:=by
 induction l with
 | nil=>rw[zak];rfl
 | cons v l ih=>rw[zao,List.length_append,zcK,ih,List.length_cons];omega
theorem za4 (a b:List JV):zac (a++b)=zac a++zac b:=by
 induction a with
 | nil=>rw[zak];rfl
 | cons v l ih=>rw[List.cons_append,zao,zao,ih,List.append_assoc]
theorem zfM:∀{l:List JV} {i:Nat} (hi:i<l.length),((zac l).drop (i*4)).take 4=zae l[i]
 | a::l,0,hi=>by
  rw[zao,Nat.zero_mul,List.drop_zero];exact List.take_left' (zcK a)
 | a::l,i+1,hi=>by
  rw[zao,show (i+1)*4=4+i*4 by omega,<-List.drop_drop,List.drop_left' (zcK a)];simpa using zfM (l:=l) (i:=i) (by simpa using hi)
theorem zaS (l:List (List UInt8)):zal (l.map AV.s)=true:=by
 induction l with
 | nil=>rfl
 | cons a l ih=>simp[zal,AV.plain,ih]
theorem zcg (a b:List AV):zal (a++b)=(zal a&&zal b):=by
 induction a with
 | nil=>simp[zal]
 | cons x a ih=>simp[zal,ih,Bool.and_assoc]
mutual
theorem zaP:∀v:JV,zal (zae v)=true
 | .mk k t ks its=>by
  rw[zae];simp only[zal,AV.plain,zaS,zaG its,Bool.and_self]
theorem zaG:∀l:List JV,zal (zac l)=true
 | []=>by rw[zac];rfl
 | v::l=>by rw[zac,zcg,zaP v,zaG l];rfl
end
mutual
/-- equal field by field -/
def zdD:JV->JV->Bool
 | .mk k t ks its,.mk k' t' ks' its'=>decide (k=k')&&(decide (t=t')&&(decide (ks=ks')&&zbO its its'))
def zbO:List JV->List JV->Bool
 | [],[]=>true
 | v::l,w::m=>zdD v w&&zbO l m
 | _,_=>false
end
mutual
theorem zgh:∀v,zdD v v=true
 | .mk k t ks its=>by rw[zdD,zfu its];simp
theorem zfu:∀l,zbO l l=true
 | []=>by rw[zbO]
 | v::l=>by rw[zbO,zgh v,zfu l];rfl
end
mutual
/-- how many values there are in a value -/
def JV.size:JV->Nat
 | .mk _ _ _ its=>JV.sizes its+1
def JV.sizes:List JV->Nat
 | []=>0
 | v::l=>JV.size v+JV.sizes l
end
theorem zmd:∀{l:List JV} {i:Nat} (hi:i<l.length),JV.size l[i]<=JV.sizes l
 | a::l,0,hi=>by rw[JV.sizes];simp
 | a::l,i+1,hi=>by
  rw[JV.sizes];have:=zmd (l:=l) (i:=i) (by simpa using hi);simp only[List.getElem_cons_succ];omega
theorem zhK {v:JV} {i:Nat} (hi:i<v.items.length):JV.size v.items[i]<JV.size v:=by
 cases v with
 | mk k t ks its=>
  have:=zmd (l:=its) (i:=i) hi;rw[JV.size.eq_def (.mk k t ks its)];show JV.size its[i]<_;simp only;omega
def zaK {α:Type} (L:List (Nat×α)) (o:List α):Prop:=(L.map (·.1)).Nodup/\∀x∈L,o[x.1]? = some x.2
theorem zaK.get {α:Type} {L:List (Nat×α)} {o:List α} (h:zaK L o) {i:Nat} {x:α} (hx:(i,x)∈L):o[i]? = some x:=h.2 _ hx
theorem zaK.perm {α:Type} {L L':List (Nat×α)} {o:List α} (h:zaK L o) (p:L.Perm L'):zaK L' o :=
 ⟨(p.map _).nodup_iff.1 h.1,fun x hx=>h.2 x (p.mem_iff.2 hx)⟩
theorem zaK.sub {α:Type} {L L':List (Nat×α)} {o:List α} (h:zaK L o) (p:L'.Sublist L):zaK L' o :=
 ⟨(p.map _).nodup h.1,fun x hx=>h.2 x (p.subset hx)⟩
theorem zaK.set {α:Type} {A B:List (Nat×α)} {o:List α} {i:Nat} {x:α} (y:α) (h:zaK (A++(i,x)::B) o):zaK (A++(i,y)::B) (o.set i y):=by
 obtain⟨h1,h2⟩:=h;simp only[qy,zo] at h1;have hi:o[i]? = some x:=h2 (i,x) (by simp);have hlt:=(zf.1 hi).1;have hne:∀z∈A++B,z.1≠i:=by
  intro z hz e;rw[List.nodup_append] at h1;obtain⟨n1,n2,n3⟩:=h1;rcases zw.1 hz with hz|hz
  ·exact n3 z.1 (y7 hz) i (by simp) e
  ·rw[xy] at n2;exact n2.1 (e▸y7 hz)
 refine⟨by simpa only[qy,zo] using h1,fun z hz=>?_⟩;rcases zw.1 hz with hz|hz
 ·rw[ze (hne z (jq _ hz)).symm];exact h2 z (jq _ hz)
 ·rcases zu.1 hz with rfl|hz
  ·exact List.getElem?_set_self hlt
  ·rw[ze (hne z (x9 _ hz)).symm];exact h2 z (x9 _ (qq _ hz))
theorem zaK.lt {α:Type} {L:List (Nat×α)} {o:List α} (h:zaK L o) {i:Nat} {x:α} (hx:(i,x)∈L):i<o.length:=(zf.1 (h.get hx)).1
theorem zaK.app {α:Type} {L:List (Nat×α)} {o:List α} (h:zaK L o) (more:List α):zaK L (o++more) :=
 ⟨h.1,fun x hx=>by rw[List.getElem?_append_left (h.lt (i:=x.1) (x:=x.2) hx)];exact h.2 x hx⟩
theorem zaK.new {α:Type} {L:List (Nat×α)} {o:List α} (h:zaK L o) (x:α):zaK ((o.length,x)::L) (o++[x]):=by
 refine⟨?_,fun z hz=>?_⟩
 ·rw[zo,xy];refine⟨fun hm=>?_,h.1⟩;obtain⟨z,hz,e⟩:=List.mem_map.1 hm;have:=h.lt (i:=z.1) (x:=z.2) hz;simp only at e;omega
 ·rcases zu.1 hz with rfl|hz
  ·simp
  ·exact(h.app [x]).2 z hz
theorem zaK.mapset {α:Type} {L:List (Nat×α)} {o:List α} {b:Nat} {x d:α} (f:α->α) (h:zaK ((b,x)::L) o) (hf:∀z∈L,f z.2=z.2):zaK L ((o.map f).set b d):=by
 obtain⟨h1,h2⟩:=h;rw[zo,xy] at h1;refine⟨h1.2,fun z hz=>?_⟩;have hne:¬b=z.1:=fun e=>h1.1 (by show b∈_;rw[e];exact y7 hz);rw[ze hne,List.getElem?_map,h2 z (qq _ hz),Option.map_some,hf z hz]
theorem jnil_row {G:Gh} {I:Imm} {y:Value} (h:Den G I .nil y):Den G I (.row 0 []) y:=by
 simp only[Den] at h ⊢;exact⟨none,0,[],h,⟨Nat.le_refl _,fun ad h=>by cases h⟩,zah.nil,by simp,by simp⟩
def subD (b gen n:Nat) (xs:List AV):AV->AV
 | .agg cs=>.agg (cs.map (zbc b gen n xs))
 | x=>zbc b gen n xs x
theorem den_subD {G:Gh} {I:Imm} {objs:List OB} {w:World} (hm:MemOk G I objs w) {b E sz gen n:Nat} {xs:List AV} (hb:objs[b]? = some (.orow E sz gen n xs)) (x:AV) (y:Value) (h:Den G I x y):Den (zhA G b gen) (zjV I G b w) (subD b gen n xs x) y:=by
 cases x with
 | agg cs=>
  simp only[Den,subD] at h ⊢;obtain⟨ys,h1,h2,h3⟩:=h;exact⟨ys,h1,zee hm hb _ _ h2,h3⟩
 | _=>exact zjl hm hb _ _ h
theorem zcC {b gen n:Nat} {xs:List AV} {x:AV} (h:x.plain=true):zbc b gen n xs x=x:=by
 cases x<;>first|rfl|(simp[AV.plain] at h)
end
end Go.Proofs.YtceenajkieomoaaGreatDoor
namespace Go.Proofs.YtceenajkieomoaaGreatDoor.Sx
open Go.RowKit Go.WideShapes Go.ChangeShapes Go.ChangeAt
open List renaming append_nil->ji, flatten_cons->y8, getElem?_eq_getElem->zl, getElem?_eq_some_iff->zf, getElem?_map->qm, mem_append->zw, mem_append_left->jq, mem_append_right->x9, mem_cons->zu, mem_cons_of_mem->qq, mem_cons_self->ju
open Option renaming bind_eq_some_iff->yb
inductive TT where
 | s
 | b
 | i (k:IntKind)
 | st (ts:List TT)
 | sl (t:TT)
 | rv
inductive RV where
 | mk (k:Int) (t:List UInt8) (ks:List (List UInt8)) (its:List RV)
mutual
def zfE:RV->List AV
 | .mk k t ks its=>[.i .i64 k,.s t,.row ks.length (ks.map .s),.row its.length (zfD its)]
def zfD:List RV->List AV
 | []=>[]
 | v::l=>zfE v++zfD l
end
mutual
def RVok:RV->Prop
 | .mk k t ks its=>(Lit.int .i64 k).wf=true/\t.length<=140737488351232/\ks.length<=140737488351232/\(∀k∈ks,k.length<=140737488351232)/\its.length<=140737488351232/\zo6 its
def zo6:List RV->Prop
 | []=>True
 | v::l=>RVok v/\zo6 l
end
mutual
def ShT:TT->List AV->Prop
 | .s,xs=>∃l:List UInt8,xs=[.s l]/\l.length<=140737488351232
 | .b,xs=>∃b,xs=[.b b]
 | .i k,xs=>∃n,xs=[.i k n]/\(Lit.int k n).wf=true
 | .st ts,xs=>ShTs ts xs
 | .sl t,xs=>∃gs:List (List AV),xs=[.row gs.length gs.flatten]/\gs.length<=140737488351232/\∀g∈gs,ShT t g
 | .rv,xs=>∃r:RV,xs=zfE r/\RVok r
def ShTs:List TT->List AV->Prop
 | [],xs=>xs=[]
 | t::ts,xs=>∃a b,xs=a++b/\ShT t a/\ShTs ts b
end
def trTs (P:Program) (rc:TypeId->Option TT):Nat->List Field->Option (List TT)
 | o,[]=>some []
 | o,f::fs=>match rc f.type,trTs P rc (o+P.cellsOf f.type) fs with
  | some t,some ts=>if f.offset=o then some (t::ts) else none
  | _,_=>none
def zf0 (P:Program):List Field->Nat
 | []=>0
 | f::fs=>P.cellsOf f.type+zf0 P fs
def isRV (P:Program) (t:TypeId):List Field->Bool
 | [a,b,c,d]=>(a.offset==0&&b.offset==1&&c.offset==2&&d.offset==3)&&(P.cellsOf t==4&&P.cellsOf a.type==1&&P.cellsOf b.type==1&&P.cellsOf c.type==1&&P.cellsOf d.type==1)&&decide (0<P.bytesOf t)&&(match P.underlying a.type,P.underlying b.type,P.underlying c.type,P.underlying d.type with
  | some (.int .i64),some .string,some (.slice e),some (.slice f)=>f==t&&P.cellsOf e==1&&decide (0<P.bytesOf e)&&(match P.underlying e with|some .string=>true|_=>false)
  | _,_,_,_=>false)
 | _=>false
def trT (P:Program):Nat->TypeId->Option TT
 | 0,_=>none
 | d+1,t=>match P.underlying t with
  | some .string=>some .s
  | some .bool=>some .b
  | some (.int k)=>some (.i k)
  | some (.struct fs)=>if isRV P t fs.toList=true then some .rv else if P.cellsOf t=zf0 P fs.toList then (trTs P (trT P d) 0 fs.toList).map .st else none
  | some (.slice e)=>if 0<P.cellsOf e/\0<P.bytesOf e then (trT P d e).map .sl else none
  | _=>none
theorem zb6 {H:Type} {P:Program} {e:TypeId}:∀{ds:List (DataW H)} {d:DataW H},d∈ds->∀n∈d.weights P e,n∈DataW.weightsAll P e ds
 | [],d,hd,n,hn=>by cases hd
 | d0::ds,d,hd,n,hn=>by
  simp only[DataW.weightsAll,zw];rcases zu.1 hd with rfl|hd
  ·exact .inl hn
  ·exact .inr (zb6 hd n hn)
theorem zjH {w:World} {G:Gh} {I:Imm} {t:TT} (a:Addr) (c:Nat) (hI:∀g o v,w.cell? ⟨g,o,none⟩=some v->I g o v):∀k:Nat,
  (∀i,i<k->∃(g:List AV) (ys:List Value),ys.length=c/\(∀j,j<c->w.cell? ((a.add (i*c)).add j)=ys[j]?)/\zah G I g ys/\ShT t g/\∀u∈ys,u.oneCell'=true) ->
  ∃(gs:List (List AV)) (ys:List Value),gs.length=k/\ys.length=k*c/\zah G I gs.flatten ys/\(∀g∈gs,ShT t g)/\(∀u∈ys,u.oneCell'=true)/\∀j,j<k*c->w.cell? (a.add j)=ys[j]?
 | 0,_=>⟨[],[],rfl,by simp,zah.nil,by simp,by simp,fun j hj=>by simp at hj⟩
 | k+1,h=>by
  obtain⟨gs,ys,h1,h2,h3,h4,h5,h6⟩:=zjH a c hI k (fun i hi=>h i (by omega));obtain⟨g,zs,k1,k2,k3,k4,k5⟩:=h k (by omega);have hm:(k+1)*c=k*c+c:=Nat.succ_mul k c;refine⟨gs++[g],ys++zs,by simp[h1],by rw[List.length_append,h2,k1,hm],?_,?_,?_,?_⟩
  ·rw[List.flatten_append,y8,List.flatten_nil,ji];exact zah.append h3 k3
  ·intro x hx;rcases zw.1 hx with hx|hx
   ·exact h4 x hx
   ·rw[List.mem_singleton] at hx;subst hx;exact k4
  ·intro u hu;rcases zw.1 hu with hu|hu
   ·exact h5 u hu
   ·exact k5 u hu
  ·intro j hj
   by_cases hjk:j<k*c
   ·rw[h6 j hjk,List.getElem?_append_left (by omega)]
   ·have:=k2 (j - k*c) (by omega);rw[Addr.add_add,show k*c+(j - k*c)=j by omega] at this;rw[this,List.getElem?_append_right (by omega),h2]
theorem zk7 {a:Addr} {j:Nat} (ha:a.spot=none):a.add j=⟨a.block,a.off+j,none⟩:=by
 cases a
 simp only at ha;subst ha;unfold Addr.add
 split
 ·rename_i h;subst h;rfl
 ·rfl
section
variable {H:Type} {enc:TypeId×Value->H} {P:Program} {w:World} {base:Nat} {spare:Nat->Bool} {held:Bool} {G:Gh} {I:Imm}
theorem zgq (hI:∀g o v,w.cell? ⟨g,o,none⟩=some v->I g o v) (hspa:∀b,spare b=true) {t e:TypeId} {te:TT} {fuel:Nat} {cs:List Value} {x:DataW H×List MemPlace} (hu:P.underlying t=some (.slice e)) (hc:0<P.cellsOf e/\0<P.bytesOf e)
  (ih:∀(n:Nat) (ys:List Value) (x:DataW H×List MemPlace),n<fuel->DataW.trod enc P w base spare held n e ys=some x->(∀n∈x.1.weights P e,n<=reachBytes)->∃g,zah G I g ys/\ShT te g/\∀u∈ys,u.oneCell'=true)
  (h:DataW.trod enc P w base spare held fuel t cs=some x) (hwt:∀n∈x.1.weights P t,n<=reachBytes):∃xs,zah G I xs cs/\ShT (.sl te) xs/\∀u∈cs,u.oneCell'=true:=by
 rcases DataW.trod_slice hu h with ⟨rfl,rfl⟩|⟨a,len,cap,elems,rest,n,hfu,rfl,rfl,hb,hl,hm,hlen,hel,hsr,_⟩
 ·exact⟨[.row 0 []],zah.cons (by simp only[Den];exact⟨none,0,[],rfl,⟨Nat.le_refl _,fun ad h=>by cases h⟩,zah.nil,by simp,by simp⟩) zah.nil,⟨[],rfl,by simp,by simp⟩,by simp;rfl⟩
 ·have hw2:(elems.length+rest.length)*P.bytesOf e<=reachBytes:=by
   have:=hwt ((elems.map (·.1)).length+(rest.map (·.1)).length |> (·*P.bytesOf e)) (by simp[DataW.weights,hu]);simpa using this
  have hel2:elems.length<=140737488351232:=by
   have h1:elems.length*1<=(elems.length+rest.length)*P.bytesOf e:=Nat.mul_le_mul (by omega) hc.2;have:reachBytes=140737488351232:=rfl;omega
  have hel3:∀i,i<len->∃(g:List AV) (ys:List Value),ys.length=P.cellsOf e/\(∀j,j<P.cellsOf e->w.cell? ((a.add (i*P.cellsOf e)).add j)=ys[j]?)/\zah G I g ys/\ShT te g/\∀u∈ys,u.oneCell'=true:=by
   intro i hi;have h1:=hel i hi;have hil:i<elems.length:=by omega
   rw[zl hil,yb] at h1;obtain⟨ys,y1,y2⟩:=h1;obtain⟨_,z1,z2⟩:=World.cells?_some y1;obtain⟨g,g1,g2,g3⟩:=ih n ys _ (by omega) y2 (fun m hm=>hwt m (by
    simp only[DataW.weights,hu,zu,zw];exact .inr (.inl (zb6 (List.mem_map.2 ⟨_,List.getElem_mem hil,rfl⟩) m hm))))
   exact⟨g,ys,z1,z2,g1,g2,g3⟩
  obtain⟨gs,ys,k1,k2,k3,k4,k5,k6⟩:=zjH (G:=G) a (P.cellsOf e) hI len hel3;have hsp0:cap≠0->a.spot=none:=by
   intro hcap
   by_cases hl0:0<len
   ·have hp:0<len*P.cellsOf e:=Nat.mul_pos hl0 hc.1;have h2:=k6 0 hp;rw[zl (by omega)] at h2;have:=World.cell?_spot h2;simpa[Addr.add] using this
   ·have hr:=(hsr (hspa _)).2 0 (by omega);have hrl:=(hsr (hspa _)).1;rw[zl (by omega),yb] at hr;obtain⟨zs,y1,_⟩:=hr;obtain⟨_,z1,z2⟩:=World.cells?_some y1;have h2:=z2 0 hc.1;rw[zl (by omega)] at h2;have:=World.cell?_spot h2;have hl1:len=0:=by omega
    subst hl1;simpa[Addr.add] using this
  refine⟨[.row gs.length gs.flatten],zah.cons ?_ zah.nil,⟨gs,rfl,by omega,k4⟩,by simp;rfl⟩;simp only[Den];refine⟨some a,cap,ys,by rw[k1],⟨by omega,fun ad h hc0=>by injection h with h;subst h;exact hsp0 hc0⟩,k3,k5,fun j u hj=>?_⟩;have hjl:=(zf.1 hj).1;have hlp:len≠0:=by rintro rfl;rw[k2,Nat.zero_mul] at hjl;omega
  have hs:=hsp0 (by omega);refine⟨a.block,a.off,by cases a;simp only at hs;subst hs;rfl,hI _ _ _ ?_⟩;have h2:=k6 j (k2▸hjl);rw[zk7 hs] at h2;rw[h2,hj]
theorem isRV_of {t:TypeId} {fs:List Field} (h:isRV P t fs=true):∃a b c d e,fs=[a,b,c,d]/\(a.offset=0/\b.offset=1/\c.offset=2/\d.offset=3)/\(P.cellsOf t=4/\P.cellsOf a.type=1/\P.cellsOf b.type=1/\P.cellsOf c.type=1/\P.cellsOf d.type=1)/\0<P.bytesOf t /\
  P.underlying a.type=some (.int .i64)/\P.underlying b.type=some .string/\P.underlying c.type=some (.slice e)/\P.underlying d.type=some (.slice t)/\P.cellsOf e=1/\0<P.bytesOf e/\P.underlying e=some .string:=by
 unfold isRV at h
 split at h
 ·rename_i a b c d;simp only[Bool.and_eq_true,beq_iff_eq,decide_eq_true_eq] at h;obtain⟨⟨⟨h1,h2⟩,h3⟩,h4⟩:=h
  split at h4
  ·rename_i e f u1 u2 u3 u4;simp only[Bool.and_eq_true,beq_iff_eq,decide_eq_true_eq] at h4;obtain⟨⟨⟨k1,k2⟩,k3⟩,k4⟩:=h4;subst k1
   split at k4
   ·rename_i u5;exact⟨a,b,c,d,e,rfl,⟨h1.1.1.1,h1.1.1.2,h1.1.2,h1.2⟩,⟨h2.1.1.1.1,h2.1.1.1.2,h2.1.1.2,h2.1.2,h2.2⟩,h3,u1,u2,u3,u4,k2,k3,u5⟩
   ·cases k4
  ·cases h4
 ·cases h
theorem zmj:∀gs:List (List AV),(∀g∈gs,ShT .s g)->∃ks:List (List UInt8),gs.flatten=ks.map .s/\ks.length=gs.length/\∀k∈ks,k.length<=140737488351232
 | [],_=>⟨[],rfl,rfl,by simp⟩
 | g::gs,h=>by
  obtain⟨ks,h1,h2,h3⟩:=zmj gs (fun g hg=>h g (qq _ hg));obtain⟨l,hl,hl2⟩:=h g (ju ..);refine⟨l::ks,by rw[y8,hl,h1];rfl,by simp[h2],fun k hk=>?_⟩;rcases zu.1 hk with rfl|hk
  ·exact hl2
  ·exact h3 k hk
theorem zjG:∀gs:List (List AV),(∀g∈gs,ShT .rv g)->∃rs:List RV,gs.flatten=zfD rs/\rs.length=gs.length/\zo6 rs
 | [],_=>⟨[],by rw[zfD];rfl,rfl,by rw[zo6];trivial⟩
 | g::gs,h=>by
  obtain⟨rs,h1,h2,h3⟩:=zjG gs (fun g hg=>h g (qq _ hg));obtain⟨r,hr,hr2⟩:=h g (ju ..);exact⟨r::rs,by rw[y8,hr,h1,zfD],by simp[h2],by rw[zo6];exact⟨hr2,h3⟩⟩
theorem open_rv (hI:∀g o v,w.cell? ⟨g,o,none⟩=some v->I g o v) (hspa:∀b,spare b=true) {t:TypeId} {fs:Array Field} (hu:P.underlying t=some (.struct fs)) (hrv:isRV P t fs.toList=true):∀(m fuel:Nat) (cs:List Value) (x:DataW H×List MemPlace),fuel<m->DataW.trod enc P w base spare held fuel t cs=some x->(∀n∈x.1.weights P t,n<=reachBytes)->∃xs,zah G I xs cs/\ShT .rv xs/\∀u∈cs,u.oneCell'=true:=by
 intro m
 induction m with
 | zero=>intro fuel cs x hm;omega
 | succ m ih=>
  intro fuel cs x hm h hwt;obtain⟨a,b,c,d,e,hfs,⟨o1,o2,o3,o4⟩,⟨c0,c1,c2,c3,c4⟩,hb,u1,u2,u3,u4,e1,e2,e3⟩:=isRV_of hrv;obtain⟨xs,n,hfu,rfl,hlen,hxl,hf⟩:=DataW.trod_struct hu h;have hsz:fs.size=4:=by rw[<-Array.length_toList,hfs];rfl
  have gf:∀j,fs[j]? = [a,b,c,d][j]?:=fun j=>by rw[<-hfs,Array.getElem?_toList]
  have hall:∀(j:Nat) (f:Field),[a,b,c,d][j]? = some f->∃x,DataW.trod enc P w base spare held n f.type ((cs.drop f.offset).take (P.cellsOf f.type))=some x/\∀m∈x.1.weights P f.type,m<=reachBytes:=by
   intro j f hj;have h1:=hf j f (by rw[gf];exact hj);have hjl:j<xs.length:=by
    rw[hxl,hsz];exact(zf.1 hj).1
   rw[zl hjl] at h1;refine⟨_,h1,fun m hm=>hwt m ?_⟩;have hj2:(fs.toList.map (·.type))[j]? = some f.type:=by rw[qm,hfs,hj];rfl
   have:=DataW.weights_mem_each hj2 (show (xs.map (·.1))[j]? = some xs[j].1 by rw[qm,zl hjl];rfl) m hm;simpa[DataW.weights,hu] using this
  obtain⟨xa,ha,wa⟩:=hall 0 a rfl;obtain⟨xb,hb',wb⟩:=hall 1 b rfl;obtain⟨xc,hc',wc⟩:=hall 2 c rfl;obtain⟨xd,hd',wd⟩:=hall 3 d rfl;rw[o1,c1] at ha;rw[o2,c2] at hb';rw[o3,c3] at hc';rw[o4,c4] at hd';rw[c0] at hlen;obtain⟨v0,v1,v2,v3,rfl⟩:∃v0 v1 v2 v3,cs=[v0,v1,v2,v3]:=by
   match cs,hlen with
   | [v0,v1,v2,v3],_=>exact⟨v0,v1,v2,v3,rfl⟩
  simp only[List.drop_zero,List.drop_succ_cons,List.take_succ_cons,List.take_zero] at ha hb' hc' hd';obtain⟨i0,r0,_,w0⟩:=DataW.trod_int u1 ha;injection r0 with r0 _
  obtain⟨s0,r1,rx1,_⟩:=DataW.trod_string u2 hb';injection r1 with r1 _
  subst r0 r1;obtain⟨ys2,d2,⟨g2,q2,l2,m2⟩,oc2⟩:=zgq (te:=.s) (G:=G) (I:=I) hI hspa u3 ⟨by omega,e2⟩ (fun n' ys y hn' hy hyw=>by
   obtain⟨s,rfl,rfl,hs⟩:=DataW.trod_string e3 hy;exact⟨[.s s.data.toList],zah.cons (by simp[Den]) zah.nil,⟨_,rfl,hyw _ (by simp[DataW.weights])⟩,by simp;rfl⟩) hc' wc
  obtain⟨ys3,d3,⟨g3,q3,l3,m3⟩,oc3⟩:=zgq (te:=.rv) (G:=G) (I:=I) hI hspa u4 ⟨by omega,hb⟩ (fun n' ys y hn' hy hyw=>ih n' ys y (by omega) hy hyw) hd' wd;subst q2 q3;obtain⟨ks,k1,k2,k3⟩:=zmj g2 m2;obtain⟨rs,j1,j2,j3⟩:=zjG g3 m3;refine⟨zfE (.mk i0 s0.data.toList ks rs),?_,⟨_,rfl,?_⟩,?_⟩
  ·rw[zfE,k2,j2,<-k1,<-j1];exact zah.cons (by simp[Den]) (zah.cons (by simp[Den]) (zah.append d2 d3))
  ·rw[RVok];refine⟨w0,?_,by omega,k3,by omega,j3⟩;subst rx1;exact wb _ (by simp[DataW.weights])
  ·intro u hu';simp only[zu,List.not_mem_nil,or_false] at hu';rcases hu' with rfl|rfl|rfl|rfl
   ·rfl
   ·rfl
   ·exact oc2 _ (by simp)
   ·exact oc3 _ (by simp)
theorem zdZ (hl:laidOutB P=true) {W W':World} {sp':Nat->Bool}:∀(ts:List TypeId) (vs:List Value) (ds:List (DataW H)) (ps:List MemPlace),(∀t∈ts,P.readableRec t=true/\t<P.types.size)->DataW.TrodAll enc P W 0 (fun _=>true) true ts vs ds ps->Below W.heap.size W W'->(∀p∈ps,p.block<W.heap.size)->(∀p∈ps,sp' p.block=true)->DataW.TrodAll enc P W' 0 sp' true ts vs ds ps
 | [],vs,ds,ps,hr,h,hb,hlt,hs=>by
  obtain⟨rfl,rfl,rfl⟩:=trodAll_nil h;exact trodAll_mk0
 | t::ts,vs,ds,ps,hr,h,hb,hlt,hs=>by
  obtain⟨v,vs',d,ds',p,q,rfl,rfl,rfl,k1,k2⟩:=trodAll_cons h;have h1:=hr t (ju ..);exact trodAll_cons_mk (WideElems.Trod_stays hl h1.1 h1.2 k1 (fun x hx=>hb.same (hlt x (jq _ hx))) (fun x hx=>hs x (jq _ hx)))
   (zdZ hl ts vs' ds' q (fun t ht=>hr t (qq _ ht)) k2 hb (fun x hx=>hlt x (x9 _ hx)) (fun x hx=>hs x (x9 _ hx)))
end
theorem post_true {H:Type} {enc:TypeId×Value->H} {P:Program} {f:Func} {s:ChangeSpec} {apart fresh handsOn again:Bool} {W W':World} {args:Array Value} {ds gs:List (DataW H)} {before:List MemPlace}
  (hl:laidOutB P=true) (hts:∀t∈f.params.toList,P.readableRec t=true/\t<P.types.size) {tb:TypeId} (hrt:f.resultTypes=#[tb]) (hub:P.underlying tb=some .bool) (hsv:s.vars=[])
  (hW:DataW.Whole enc P f.params.toList s.vars apart W args.toList ds gs before) (hfn:s.fn H (ds++gs)={ results:=[.lit (.bool true)],args:=ds }) (hb:Below W.heap.size W W'):s.post enc P f apart fresh handsOn again W args (.bool true) W':=by
 have hlt:∀p∈before,p.block<W.heap.size:=fun p hp=>hW.lt p hp;have hold:∀p∈before,(fun b=>decide (b<W.heap.size)) p.block=true:=fun p hp=>by simpa using hlt p hp
 have hW':=hW;obtain⟨p,q,hA,hV,rfl,hz,hn⟩:=hW';rw[hsv] at hV;have hvars:gs=[]/\q=[]:=by
  cases gs with
  | nil=>exact⟨rfl,hV⟩
  | cons g gs=>exact hV.elim
 obtain⟨rfl,rfl⟩:=hvars;simp only[ji] at *;have hres:∀(b:Nat) (sp:Nat->Bool) (hd:Bool),DataW.TrodAll enc P W' b sp hd f.resultTypes.toList ((Value.bool true).resultList f.resultTypes.size) (s.fn H ds).results []:=by
  intro b sp hd;rw[hfn,hrt];exact trodAll_cons_mk (shut_bool hub _) trodAll_mk0
 have hargs:∀sp:Nat->Bool,(∀x∈p,sp x.block=true)->DataW.TrodAll enc P W' 0 sp true f.params.toList args.toList (s.fn H ds).args p:=by
  intro sp hsp;rw[hfn];exact zdZ hl _ _ _ _ hts hA hb hlt hsp
 have hvs:∀sp:Nat->Bool,DataW.TrodVars enc P W' sp s.vars (s.fn H ds).vars []:=by
  intro sp;rw[hsv,hfn];rfl
 refine⟨ds,[],p,[],p,[],hW,by simpa using hres _ _ _,by simpa using hargs _ hold,by simpa using hvs _,World.keptBut_mono (fun x hx=>⟨hx,?_⟩) (hb.frame (·∈p)),fun _=>?_⟩
 ·exact Or.inr (Or.inl hx)
 ·refine⟨?_,_,_,([]++p)++[],⟨[]++p,[],trodAll_append (by simpa using hargs _ (fun _ _=>rfl)) (by simpa using hres _ _ _),by simpa using hvs _,rfl,?_,?_⟩,?_⟩
  ·intro j t r hj hr;rw[hrt] at hj hr
   cases j with
   | zero=>
    simp at hj;subst hj;have:r=.bool true:=by simpa[Value.resultList] using hr.symm
    subst this;exact okWide_bool_mk hub _
   | succ j=>simp at hj
  ·intro b off hp;have hin:MemPlace.cell b off∈p:=by simpa using hp
   rw[hb.frozen (hlt _ hin)];exact hz b off hin
  ·intro ha;simpa using hn ha
  ·intro x hx _;simpa using hx
section
variable {H:Type} {enc:TypeId×Value->H}
end
end Go.Proofs.YtceenajkieomoaaGreatDoor.Sx
namespace Go.Proofs.YtceenajkieomoaaGreatDoor
open Nat renaming reduceAdd -> z6, reduceSub -> z7, reduceLeDiff -> z8, reduceLT -> j4, reduceMul -> j5, reduceEqDiff -> j6
open Int renaming reduceToNat -> j7, reduceAdd -> j8, reduceSub -> j9, reduceMul -> x3, reduceNeg -> x4, reduceLT -> x5, reduceLE -> x6, reduceEq -> x7, reduceNe -> x8
open Go.RowKit Sx
open Int renaming cast_ofNat_Int->y6
open List renaming Perm->qz, cons_append->qw, getElem?_append_left->zj, getElem?_eq_getElem->zl, getElem?_eq_none->zv, getElem?_eq_some_iff->zf, getElem?_map->qm, getElem?_set->za, getElem?_set_ne->ze, getElem?_set_self->zk, getElem_cons_succ->yd, length_cons->zx, length_map->qg, length_set->zi, map_cons->zo, map_nil->zr, mem_append->zw, mem_append_left->jq, mem_append_right->x9, mem_cons->zu, nodup_cons->xy, sublist_cons_self->jk, take_append_drop->xf
open Nat renaming le_refl->zd, mul_one->jz, zero_add->zq, zero_le->zh
open Option renaming map_some->ja
section
attribute [local irreducible] run
mutual
def JOk:JV->Prop
 | .mk k t ks its=>(Lit.int .i64 k).wf=true/\t.length<=140737488351232/\ks.length<=140737488351232/\(∀k∈ks,k.length<=140737488351232)/\its.length<=140737488351232/\zeY its
def zeY:List JV->Prop
 | []=>True
 | v::l=>JOk v/\zeY l
end
theorem znT:∀{l:List JV} (h:zeY l) {i:Nat} (hi:i<l.length),JOk l[i]
 | a::l,h,0,hi=>by rw[zeY] at h;exact h.1
 | a::l,h,i+1,hi=>by rw[zeY] at h;exact znT h.2 (by simpa using hi)
theorem JOk.its {v:JV} (h:JOk v) {i:Nat} (hi:i<v.items.length):JOk v.items[i]:=by
 cases v with
 | mk k t ks its=>rw[JOk] at h;exact znT h.2.2.2.2.2 hi
theorem JOk.lens {v:JV} (h:JOk v):v.keys.length<=140737488351232/\v.items.length<=140737488351232/\v.text.length<=140737488351232/\∀k∈v.keys,k.length<=140737488351232:=by
 cases v with
 | mk k t ks its=>rw[JOk] at h;exact⟨h.2.2.1,h.2.2.2.2.1,h.2.1,h.2.2.2.1⟩
mutual
/-- not too many keys and items, wherever -/
def JBd:JV->Prop
 | .mk k t ks its=>ks.length<=1099511627780/\its.length<=1099511627776/\zdX its
def zdX:List JV->Prop
 | []=>True
 | v::l=>JBd v/\zdX l
end
theorem znY:∀{l:List JV},(∀(i:Nat) (h:i<l.length),JBd l[i])->zdX l
 | [],_=>by rw[zdX];trivial
 | v::l,h=>by
  rw[zdX];exact⟨h 0 (by simp),znY fun i hi=>by have:=h (i+1) (by simpa using hi);simpa only[yd] using this⟩
theorem zjd:∀{l:List JV} (h:zdX l) {i:Nat} (hi:i<l.length),JBd l[i]
 | a::l,h,0,hi=>by rw[zdX] at h;exact h.1
 | a::l,h,i+1,hi=>by rw[zdX] at h;exact zjd h.2 (by simpa using hi)
theorem JBd.lens {v:JV} (h:JBd v):v.keys.length<=1099511627780/\v.items.length<=1099511627776:=by
 cases v;rw[JBd] at h;exact⟨h.1,h.2.1⟩
theorem JBd.its {v:JV} (h:JBd v) {i:Nat} (hi:i<v.items.length):JBd v.items[i]:=by
 cases v with
 | mk k t ks its=>rw[JBd] at h;exact zjd h.2.2 hi
theorem JBd.of {v:JV} (h1:v.keys.length<=1099511627780) (h2:v.items.length<=1099511627776) (h3:∀(i:Nat) (h:i<v.items.length),JBd v.items[i]):JBd v:=by
 cases v;rw[JBd];exact⟨h1,h2,znY h3⟩
theorem zcV (v w:JV):zdD v w=(decide (v.kind=w.kind)&&(decide (v.text=w.text)&&(decide (v.keys=w.keys)&&zbO v.items w.items))):=by
 cases v;cases w;rw[zdD];rfl
theorem zgg:∀{l m:List JV},l.length≠m.length->zbO l m=false
 | [],[],h=>absurd rfl h
 | [],_::_,_=>by rw[zbO];all_goals simp
 | _::_,[],_=>by rw[zbO];all_goals simp
 | v::l,w::m,h=>by rw[zbO,zgg (l:=l) (m:=m) (by simpa using h)];simp
theorem zhM:∀{l m:List JV} {i:Nat} (h1:i<l.length) (h2:i<m.length),zdD l[i] m[i]=false->zbO l m=false
 | v::l,w::m,0,_,_,h=>by rw[zbO];simp only[List.getElem_cons_zero] at h;rw[h];rfl
 | v::l,w::m,i+1,h1,h2,h=>by
  rw[zbO,zhM (l:=l) (m:=m) (i:=i) (by simpa using h1) (by simpa using h2) (by simpa using h)];simp
theorem zgf:∀{l m:List JV},l.length=m.length->(∀(i:Nat) (h1:i<l.length) (h2:i<m.length),zdD l[i] m[i]=true)->zbO l m=true
 | [],[],_,_=>by rw[zbO]
 | [],_::_,h,_=>by simp at h
 | _::_,[],h,_=>by simp at h
 | v::l,w::m,h,k=>by
  rw[zbO,zgf (l:=l) (m:=m) (by simpa using h) (fun i h1 h2=>by have:=k (i+1) (by simpa using h1) (by simpa using h2);simp only[yd] at this;exact this)];have:=k 0 (by simp) (by simp);simp only[List.getElem_cons_zero] at this;rw[this];rfl
mutual
/-- short texts, not too many keys and items, wherever -/
def JKp:JV->Prop
 | .mk k t ks its=>ks.length<=1099511627780/\its.length<=1099511627776/\t.length<=300/\(∀k∈ks,k.length<=300)/\zjv its
def zjv:List JV->Prop
 | []=>True
 | v::l=>JKp v/\zjv l
end
theorem znW:∀{l:List JV},(∀(i:Nat) (h:i<l.length),JKp l[i])->zjv l
 | [],_=>by rw[zjv];trivial
 | v::l,h=>by
  rw[zjv];exact⟨h 0 (by simp),znW fun i hi=>by have:=h (i+1) (by simpa using hi);simpa only[yd] using this⟩
theorem znX:∀{l:List JV} (h:zjv l) {i:Nat} (hi:i<l.length),JKp l[i]
 | a::l,h,0,hi=>by rw[zjv] at h;exact h.1
 | a::l,h,i+1,hi=>by rw[zjv] at h;exact znX h.2 (by simpa using hi)
theorem JKp.lens {v:JV} (h:JKp v):v.keys.length<=1099511627780/\v.items.length<=1099511627776/\v.text.length<=300/\∀k∈v.keys,k.length<=300:=by
 cases v;rw[JKp] at h;exact⟨h.1,h.2.1,h.2.2.1,h.2.2.2.1⟩
theorem JKp.its {v:JV} (h:JKp v) {i:Nat} (hi:i<v.items.length):JKp v.items[i]:=by
 cases v with
 | mk k t ks its=>rw[JKp] at h;exact znX h.2.2.2.2 hi
theorem JKp.of {v:JV} (h1:v.keys.length<=1099511627780) (h2:v.items.length<=1099511627776) (h3:v.text.length<=300) (h4:∀k∈v.keys,k.length<=300) (h5:∀(i:Nat) (h:i<v.items.length),JKp v.items[i]):JKp v:=by
 cases v;rw[JKp];exact⟨h1,h2,h3,h4,znW h5⟩
mutual
theorem JKp.bd:∀{v:JV},JKp v->JBd v
 | .mk k t ks its,h=>by rw[JKp] at h;rw[JBd];exact⟨h.1,h.2.1,zjv.bd h.2.2.2.2⟩
theorem zjv.bd:∀{l:List JV},zjv l->zdX l
 | [],_=>by rw[zdX];trivial
 | v::l,h=>by rw[zjv] at h;rw[zdX];exact⟨JKp.bd h.1,zjv.bd h.2⟩
end
mutual
/-- no slice too long, wherever -/
def JLn:JV->Prop
 | .mk k t ks its=>ks.length<=140737488351232/\its.length<=140737488351232/\zo7 its
def zo7:List JV->Prop
 | []=>True
 | v::l=>JLn v/\zo7 l
end
mutual
theorem JOk.ln:∀{v:JV},JOk v->JLn v
 | .mk k t ks its,h=>by rw[JOk] at h;rw[JLn];exact⟨h.2.2.1,h.2.2.2.2.1,zeY.ln h.2.2.2.2.2⟩
theorem zeY.ln:∀{l:List JV},zeY l->zo7 l
 | [],_=>by rw[zo7];trivial
 | v::l,h=>by rw[zeY] at h;rw[zo7];exact⟨JOk.ln h.1,zeY.ln h.2⟩
end
mutual
theorem JBd.ln:∀{v:JV},JBd v->JLn v
 | .mk k t ks its,h=>by rw[JBd] at h;rw[JLn];exact⟨by omega,by omega,zdX.ln h.2.2⟩
theorem zdX.ln:∀{l:List JV},zdX l->zo7 l
 | [],_=>by rw[zo7];trivial
 | v::l,h=>by rw[zdX] at h;rw[zo7];exact⟨JBd.ln h.1,zdX.ln h.2⟩
end
theorem znV:∀{l:List JV} (h:zo7 l) {i:Nat} (hi:i<l.length),JLn l[i]
 | a::l,h,0,hi=>by rw[zo7] at h;exact h.1
 | a::l,h,i+1,hi=>by rw[zo7] at h;exact znV h.2 (by simpa using hi)
theorem JLn.its {v:JV} (h:JLn v) {i:Nat} (hi:i<v.items.length):JLn v.items[i]:=by
 cases v with
 | mk k t ks its=>rw[JLn] at h;exact znV h.2.2 hi
theorem JLn.lens {v:JV} (h:JLn v):v.keys.length<=140737488351232/\v.items.length<=140737488351232:=by
 cases v with
 | mk k t ks its=>rw[JLn] at h;exact⟨h.1,h.2.1⟩
section
variable [Tabs Tryz.prog]
theorem same14_l:∀(m:Nat) (v w:JV),v.size<m->JLn v->∀{objs:List OB} {K:List OB->AV->Prop},K objs (.b (zdD v w))->zad Tryz.prog 15 [.agg (zae v),.agg (zae w)] objs K:=by
 intro m
 induction m with
 | zero=>intro v w h;omega
 | succ m ih=>
  intro v w hm hv objs K hk;obtain⟨l1,l2⟩:=hv.lens;refine zaL is_ref14_Same (by simp only[zal,AV.plain,zaP,Bool.and_self]) fun C _=>?_;rw[c_ref14_Same];refine zaa fun Y hY=>?_;simp only[sxZ,z6,z7,z8,j4,j5,j6,j7,j8,j9,x3,x4,x5,x6,x7,x8,reduceCtorEq,↓reduceIte];have e0:OB.box 25 (zae v)=OB.box 25 [.i .i64 v.kind,.s v.text,.row v.keys.length (v.keys.map .s),.row v.items.length (zac v.items)]:=by rw[zaf]
  have e1:OB.box 25 (zae w)=OB.box 25 [.i .i64 w.kind,.s w.text,.row w.keys.length (w.keys.map .s),.row w.items.length (zac w.items)]:=by rw[zaf]
  rw[e0,e1];subst hY;refine zaa fun Y hY=>?_;have no:zdD v w=false->K objs (.b false):=fun h=>by rw[h] at hk;exact hk
  by_cases c1:v.kind=w.kind
  rotate_left
  ·simp only[sxZ,z6,z7,z8,j4,j5,j6,j7,j8,j9,x3,x4,x5,x6,x7,x8,reduceCtorEq,↓reduceIte,c1,decide_false,Bool.not_false];exact no (by rw[zcV,decide_eq_false c1];rfl)
  by_cases c2:v.text=w.text
  rotate_left
  ·simp only[sxZ,z6,z7,z8,j4,j5,j6,j7,j8,j9,x3,x4,x5,x6,x7,x8,reduceCtorEq,↓reduceIte,c1,c2,decide_false,decide_true,Bool.not_false,Bool.not_true];exact no (by rw[zcV,decide_eq_false c2];simp)
  by_cases c3:v.items.length=w.items.length
  rotate_left
  ·have c3':¬(v.items.length:Int)=w.items.length:=by omega
   simp only[sxZ,z6,z7,z8,j4,j5,j6,j7,j8,j9,x3,x4,x5,x6,x7,x8,reduceCtorEq,↓reduceIte,c1,c2,c3',decide_false,decide_true,Bool.not_false,Bool.not_true];exact no (by rw[zcV,zgg c3];simp)
  by_cases c4:v.keys.length=w.keys.length
  rotate_left
  ·have c4':¬(v.keys.length:Int)=w.keys.length:=by omega
   simp only[sxZ,z6,z7,z8,j4,j5,j6,j7,j8,j9,x3,x4,x5,x6,x7,x8,reduceCtorEq,↓reduceIte,c1,c2,c3,c4',decide_false,decide_true,Bool.not_false,Bool.not_true];exact no (by rw[zcV,decide_eq_false (p:=v.keys=w.keys) (fun h=>c4 (by rw[h]))];simp)
  simp only[sxZ,z6,z7,z8,j4,j5,j6,j7,j8,j9,x3,x4,x5,x6,x7,x8,reduceCtorEq,↓reduceIte,c1,c2,c3,c4,decide_false,decide_true,Bool.not_false,Bool.not_true];subst hY;refine zaa fun Y hY=>?_;simp only[sxZ,z6,z7,z8,j4,j5,j6,j7,j8,j9,x3,x4,x5,x6,x7,x8,reduceCtorEq,↓reduceIte];have q1:v.items.length=w.items.length:=c3;have q2:v.keys.length=w.keys.length:=c4;refine zaF (fun n o tm=>∃i:Nat,i<=w.items.length/\n=w.items.length - i/\o=[OB.box 25 [.i .i64 w.kind,.s w.text,.row w.keys.length (v.keys.map .s),.row w.items.length (zac v.items)],OB.box 25 [.i .i64 w.kind,.s w.text,.row w.keys.length (w.keys.map .s),.row w.items.length (zac w.items)]]/\(∀(j:Nat) (h1:j<v.items.length) (h2:j<w.items.length),j<i->zdD v.items[j] w.items[j]=true)/\tm.length=74/\tm[2]? = some (.p 0 0)/\tm[3]? = some (.p 1 0)/\tm[38]? = some (.row w.items.length (zac v.items))/\tm[39]? = some (.i .i64 (w.items.length:Int))/\tm[40]? = some (.i .i64 (i:Int))) w.items.length ⟨0,zh _,rfl,rfl,fun j _ _ h=>by omega,rfl,rfl,rfl,rfl,rfl,rfl⟩ ?_;rintro n _ tm ⟨i,hi,rfl,rfl,hall,hlen,t2,t3,t38,t39,t40⟩;refine zaa fun Z hZ=>?_
  by_cases hlt:(i:Int)<(w.items.length:Int)
  ·have hw':i<w.items.length:=by omega
   have hv':i<v.items.length:=by omega
   have jv:=zfM hv';have jw:=zfM hw';have jvl:=zav v.items;have jwl:=zav w.items;have hit:=hv.its hv';have hsz:=zhK hv';have hcall:=fun {objs:List OB} {K:List OB->AV->Prop} (h:K objs (.b (zdD v.items[i] w.items[i])))=>ih v.items[i] w.items[i] (by omega) hit (objs:=objs) (K:=K) h;simp only[sxZ,z6,z7,z8,j4,j5,j6,j7,j8,j9,x3,x4,x5,x6,x7,x8,reduceCtorEq,↓reduceIte,za,hlen,t2,t3,t38,t39,t40,hlt];subst hZ;refine zaa fun Z hZ=>?_;simp only[sxZ,z6,z7,z8,j4,j5,j6,j7,j8,j9,x3,x4,x5,x6,x7,x8,reduceCtorEq,↓reduceIte,za,hlen];subst hZ;refine zaa fun W hW=>?_;rw[zaO];refine zaa fun Z hZ=>?_;simp only[sxZ,z6,z7,z8,j4,j5,j6,j7,j8,j9,x3,x4,x5,x6,x7,x8,reduceCtorEq,↓reduceIte,za,hlen,t40];subst hZ;refine zaa fun Z hZ=>?_;simp only[sxZ,z6,z7,z8,j4,j5,j6,j7,j8,j9,x3,x4,x5,x6,x7,x8,reduceCtorEq,↓reduceIte,za,hlen,t2,t3,jv,jw];refine⟨⟨by omega,by omega,by omega⟩,by omega,⟨by omega,by omega,by omega⟩,by omega,?_⟩;refine za5 (hcall ⟨rfl,rfl⟩) ?_;have hno:=zhM hv' hw';have hall2:zdD v.items[i] w.items[i]=true->∀(j:Nat) (h1:j<v.items.length) (h2:j<w.items.length),j<i+1->zdD v.items[j] w.items[j]=true:=by
    intro hs j h1 h2 hj
    by_cases e:j=i
    ·subst e;exact hs
    ·exact hall j h1 h2 (by omega)
   generalize zdD v.items[i] w.items[i]=sm at hno hall2;simp only[sxZ,z6,z7,z8,j4,j5,j6,j7,j8,j9,x3,x4,x5,x6,x7,x8,reduceCtorEq,↓reduceIte,za,hlen,t2,t3];subst hZ
   cases sm with
   | false=>
    simp only[sxZ,z6,z7,z8,j4,j5,j6,j7,j8,j9,x3,x4,x5,x6,x7,x8,reduceCtorEq,↓reduceIte,za,hlen,Bool.not_false,Bool.not_true];exact no (by rw[zcV,hno rfl];simp)
   | true=>
    simp only[sxZ,z6,z7,z8,j4,j5,j6,j7,j8,j9,x3,x4,x5,x6,x7,x8,reduceCtorEq,↓reduceIte,za,hlen,Bool.not_false,Bool.not_true];subst hW;simp only[sxZ,z6,z7,z8,j4,j5,j6,j7,j8,j9,x3,x4,x5,x6,x7,x8,reduceCtorEq,↓reduceIte,za,hlen,t2,t3,t38,t39,t40];exact⟨by omega,w.items.length - (i+1),by omega,i+1,by omega,rfl,hall2 rfl,rfl⟩
  simp only[sxZ,z6,z7,z8,j4,j5,j6,j7,j8,j9,x3,x4,x5,x6,x7,x8,reduceCtorEq,↓reduceIte,za,hlen,t2,t3,t38,t39,t40,hlt];subst hZ;simp only[sxZ,z6,z7,z8,j4,j5,j6,j7,j8,j9,x3,x4,x5,x6,x7,x8,reduceCtorEq,↓reduceIte,za,hlen,t2,t3,t38,t39,t40,hlt];refine zco (fun t=>t.length=74/\t[2]? = some (.p 0 0)/\t[3]? = some (.p 1 0)) ?_ ?_
  ·simp only[sxZ,z6,z7,z8,j4,j5,j6,j7,j8,j9,x3,x4,x5,x6,x7,x8,reduceCtorEq,↓reduceIte,zi,za,hlen,t2,t3,and_self]
  have hyes:zbO v.items w.items=true:=zgf c3 fun j h1 h2=>hall j h1 h2 (by omega);clear hlen t2 t3 t38 t39 t40 hlt;rintro tm ⟨hlen,t2,t3⟩;subst hY;refine zaa fun Y hY=>?_;simp only[sxZ,z6,z7,z8,j4,j5,j6,j7,j8,j9,x3,x4,x5,x6,x7,x8,reduceCtorEq,↓reduceIte,za,hlen,t2,t3];refine zaF (fun n o tm=>∃i:Nat,i<=w.keys.length/\n=w.keys.length - i/\o=[OB.box 25 [.i .i64 w.kind,.s w.text,.row w.keys.length (v.keys.map .s),.row w.items.length (zac v.items)],OB.box 25 [.i .i64 w.kind,.s w.text,.row w.keys.length (w.keys.map .s),.row w.items.length (zac w.items)]]/\(∀j:Nat,j<i->v.keys[j]? = w.keys[j]?)/\tm.length=74/\tm[2]? = some (.p 0 0)/\tm[3]? = some (.p 1 0)/\tm[58]? = some (.i .i64 (w.keys.length:Int))/\tm[59]? = some (.i .i64 (i:Int))) w.keys.length ⟨0,zh _,rfl,rfl,fun j h=>by omega,?_⟩ ?_
  ·simp only[sxZ,z6,z7,z8,j4,j5,j6,j7,j8,j9,x3,x4,x5,x6,x7,x8,reduceCtorEq,↓reduceIte,zi,za,hlen,t2,t3,y6,and_self]
  clear hlen t2 t3 hall hi i;rintro n _ tm ⟨i,hi,rfl,rfl,hall,hlen,t2,t3,t58,t59⟩;refine zaa fun Z hZ=>?_
  by_cases hlt:(i:Int)<(w.keys.length:Int)
  ·have hw':i<w.keys.length:=by omega
   have hv':i<v.keys.length:=by omega
   have kv:(v.keys.map AV.s)[i*1]? = some (.s v.keys[i]):=by rw[jz,qm,zl hv'];rfl
   have kw:(w.keys.map AV.s)[i*1]? = some (.s w.keys[i]):=by rw[jz,qm,zl hw'];rfl
   have hne:¬v.keys[i]=w.keys[i]->¬v.keys=w.keys:=fun h e=>h (by simp only[e]);have hall2:v.keys[i]=w.keys[i]->∀j:Nat,j<i+1->v.keys[j]? = w.keys[j]?:=by
    intro hs j hj
    by_cases e:j=i
    ·subst e;rw[zl hv',zl hw',hs]
    ·exact hall j (by omega)
   generalize v.keys[i]=x at kv hne hall2;generalize w.keys[i]=y at kw hne hall2;simp only[sxZ,z6,z7,z8,j4,j5,j6,j7,j8,j9,x3,x4,x5,x6,x7,x8,reduceCtorEq,↓reduceIte,za,hlen,t2,t3,t58,t59,hlt];subst hZ;refine zaa fun Z hZ=>?_;simp only[sxZ,z6,z7,z8,j4,j5,j6,j7,j8,j9,x3,x4,x5,x6,x7,x8,reduceCtorEq,↓reduceIte,za,hlen];subst hZ;refine zaa fun W hW=>?_;rw[zaO];refine zaa fun Z hZ=>?_;simp only[sxZ,z6,z7,z8,j4,j5,j6,j7,j8,j9,x3,x4,x5,x6,x7,x8,reduceCtorEq,↓reduceIte,za,hlen,t59];subst hZ;refine zaa fun Z hZ=>?_;simp only[sxZ,z6,z7,z8,j4,j5,j6,j7,j8,j9,x3,x4,x5,x6,x7,x8,reduceCtorEq,↓reduceIte,za,hlen,t2,t3,kv,kw,qg];refine⟨⟨by omega,by omega,by omega⟩,⟨by omega,by omega,by omega⟩,?_⟩;subst hZ
   by_cases c5:x=y
   rotate_left
   ·simp only[sxZ,z6,z7,z8,j4,j5,j6,j7,j8,j9,x3,x4,x5,x6,x7,x8,reduceCtorEq,↓reduceIte,za,hlen,c5,decide_false,decide_true,Bool.not_false,Bool.not_true];exact no (by rw[zcV,decide_eq_false (hne c5)];simp)
   ·simp only[sxZ,z6,z7,z8,j4,j5,j6,j7,j8,j9,x3,x4,x5,x6,x7,x8,reduceCtorEq,↓reduceIte,za,hlen,c5,decide_false,decide_true,Bool.not_false,Bool.not_true];subst hW;simp only[sxZ,z6,z7,z8,j4,j5,j6,j7,j8,j9,x3,x4,x5,x6,x7,x8,reduceCtorEq,↓reduceIte,za,hlen,t2,t3,t58,t59];exact⟨by omega,w.keys.length - (i+1),by omega,i+1,by omega,rfl,hall2 c5,rfl⟩
  simp only[sxZ,z6,z7,z8,j4,j5,j6,j7,j8,j9,x3,x4,x5,x6,x7,x8,reduceCtorEq,↓reduceIte,za,hlen,t2,t3,t58,t59,hlt];subst hZ;subst hY;simp only[sxZ,z6,z7,z8,j4,j5,j6,j7,j8,j9,x3,x4,x5,x6,x7,x8,reduceCtorEq,↓reduceIte,za,hlen,t2,t3,t58,t59,hlt];have hkeys:v.keys=w.keys:=List.ext_getElem? fun j=>by
   by_cases h:j<i
   ·exact hall j h
   ·rw[zv (by omega),zv (by omega)]
  have:zdD v w=true:=by rw[zcV,hyes,decide_eq_true c1,decide_eq_true c2,decide_eq_true hkeys];rfl
  rw[<-this];exact hk
theorem same14_k (m:Nat) (v w:JV) (hm:v.size<m) (h:JOk v) {objs:List OB} {K:List OB->AV->Prop} (hk:K objs (.b (zdD v w))):zad Tryz.prog 15 [.agg (zae v),.agg (zae w)] objs K:=same14_l m v w hm h.ln hk
end
end
section
attribute [local irreducible] run
def zhj (key:List UInt8):List (List UInt8)->Nat
 | []=>0
 | k::l=>if k=key then 0 else zhj key l+1
theorem zjg {key:List UInt8}:∀{l:List (List UInt8)},zhj key l<l.length->l[zhj key l]? = some key
 | [],h=>by simp[zhj] at h
 | k::l,h=>by
  unfold zhj at h ⊢
  by_cases c:k=key
  ·rw[if_pos c,c];rfl
  ·rw[if_neg c] at h ⊢;simpa using zjg (l:=l) (by simpa using h)
theorem zn4 {key:List UInt8}:∀{l:List (List UInt8)} {i:Nat},l[i]? = some key->zhj key l<=i
 | [],i,h=>by simp at h
 | k::l,0,h=>by
  simp only[List.getElem?_cons_zero,Option.some.injEq] at h;unfold zhj;rw[if_pos h];omega
 | k::l,i+1,h=>by
  unfold zhj
  split
  ·omega
  ·have:=zn4 (l:=l) (i:=i) (by simpa using h);omega
def zbA (v:JV) (key:List UInt8):JV×Bool :=
 if v.kind=7/\zhj key v.keys<v.keys.length then (match v.items[zhj key v.keys]? with|some x=>(x,true)|none=>(jvZ,false)) else (jvZ,false)
def zbS (R:JV×Bool):AV:=.tup [.agg (zae R.1),.b R.2]
theorem zn7 {v:JV} {key:List UInt8} (h:¬v.kind=7):zbA v key=(jvZ,false):=by unfold zbA;rw[if_neg (fun k=>h k.1)]
theorem den_zv2 {b:Bool} {G:Gh} {I:Imm} {y:Value} (h:Den G I (.tup [.agg [.i .i64 0,.s [],.nil,.nil],.b b]) y):Den G I (zbS (jvZ,b)) y:=by
 unfold zbS jvZ;rw[zae,zak];simp only[zah,Den] at h ⊢;obtain⟨ys,h1,y0,l0,rfl,⟨zs,rfl,⟨z0,m0,rfl,q0,z1,m1,rfl,q1,z2,m2,rfl,q2,z3,m3,rfl,q3,q4⟩,hz⟩,h2⟩:=h;refine⟨_,h1,_,_,rfl,⟨_,rfl,⟨_,_,rfl,q0,_,_,rfl,q1,_,_,rfl,?_,_,_,rfl,?_,q4⟩,hz⟩,h2⟩
 ·exact⟨none,0,[],q2,⟨zd _,fun ad h=>by cases h⟩,rfl,by simp,by simp⟩
 ·exact⟨none,0,[],q3,⟨zd _,fun ad h=>by cases h⟩,rfl,by simp,by simp⟩
theorem jres2 {P:Program} [Tabs P] {f:FuncId} {args:List AV} {objs:List OB} {K:List OB->AV->Prop} (r':AV) (hc:zad P f args objs (fun o r=>(∀G I y,Den G I r y->Den G I r' y)/\K o r')):zad P f args objs K:=by
 intro C _ G I w hin hm ys hd;refine(hc C G I w hin hm ys hd).mono ?_;rintro e w' ⟨y,objs',r,G',I',he,⟨hr,hk⟩,h1,h2,h3,h4,hy⟩;exact⟨y,objs',r',G',I',he,hk,h1,h2,h3,h4,hr _ _ _ hy⟩
section
variable [Tabs Tryz.prog] {objs:List OB} {K:List OB->AV->Prop}
theorem znU (ks:List (List UInt8)) (key:List UInt8) (hl:ks.length<=140737488351232) (hk:K objs (.i .i64 (if zhj key ks<ks.length then (zhj key ks:Int) else -1))):zad Tryz.prog 77 [.row ks.length (ks.map .s),.s key] objs K:=by
 refine zaL is_slices_Index__string_string (by simp only[zal,AV.plain,zaS,Bool.and_self]) fun C _=>?_;rw[c_slices_Index__string_string];refine zaa fun Y hY=>?_;simp only[sxZ,z6,z7,z8,j4,j5,j6,j7,j8,j9,x3,x4,x5,x6,x7,x8,reduceCtorEq,↓reduceIte];subst hY;refine zaa fun Y hY=>?_;simp only[sxZ,z6,z7,z8,j4,j5,j6,j7,j8,j9,x3,x4,x5,x6,x7,x8,reduceCtorEq,↓reduceIte];refine zaF (fun n o tm=>∃i:Nat,i<=ks.length/\n=ks.length - i/\o=[]/\(∀j,j<i->ks[j]?≠some key)/\tm.length=19/\tm[0]? = some (.row ks.length (ks.map .s))/\tm[1]? = some (.s key)/\tm[7]? = some (.i .i64 (ks.length:Int))/\tm[8]? = some (.i .i64 (i:Int))) ks.length ⟨0,zh _,rfl,rfl,fun j h=>by omega,rfl,rfl,rfl,rfl,rfl⟩ ?_;rintro n _ tm ⟨i,hi,rfl,rfl,hall,hlen,t0,t1,t7,t8⟩;refine zaa fun Z hZ=>?_
 by_cases hlt:(i:Int)<(ks.length:Int)
 ·have hi':i<ks.length:=by omega
  have kv:(ks.map AV.s)[i*1]? = some (.s ks[i]):=by rw[jz,qm,zl hi'];rfl
  have kv2:ks[i]? = some ks[i]:=zl hi';generalize ks[i]=x at kv kv2;simp only[sxZ,z6,z7,z8,j4,j5,j6,j7,j8,j9,x3,x4,x5,x6,x7,x8,reduceCtorEq,↓reduceIte,za,hlen,t0,t1,t7,t8,hlt];subst hZ;refine zaa fun Z hZ=>?_;simp only[sxZ,z6,z7,z8,j4,j5,j6,j7,j8,j9,x3,x4,x5,x6,x7,x8,reduceCtorEq,↓reduceIte,za,hlen];subst hZ;refine zaa fun W hW=>?_;rw[zaO];refine zaa fun Z hZ=>?_;simp only[sxZ,z6,z7,z8,j4,j5,j6,j7,j8,j9,x3,x4,x5,x6,x7,x8,reduceCtorEq,↓reduceIte,za,hlen,t8];subst hZ;refine zaa fun Z hZ=>?_
  by_cases c2:key=x
  ·have h2:zhj key ks=i:=by
    have h1:=zn4 (key:=key) (l:=ks) (i:=i) (by rw[kv2,c2]);rcases Nat.lt_or_ge (zhj key ks) i with h3|h3
    ·exact absurd (zjg (by omega)) (hall _ h3)
    ·omega
   rw[if_pos (by omega),h2] at hk;simp only[sxZ,z6,z7,z8,j4,j5,j6,j7,j8,j9,x3,x4,x5,x6,x7,x8,reduceCtorEq,↓reduceIte,za,hlen,t0,t1,kv,qg,c2,decide_true];refine⟨by omega,?_⟩;subst hZ;simp only[sxZ,z6,z7,z8,j4,j5,j6,j7,j8,j9,x3,x4,x5,x6,x7,x8,reduceCtorEq,↓reduceIte,za,hlen];exact hk
  ·simp only[sxZ,z6,z7,z8,j4,j5,j6,j7,j8,j9,x3,x4,x5,x6,x7,x8,reduceCtorEq,↓reduceIte,za,hlen,t0,t1,kv,qg,c2,decide_false];refine⟨by omega,?_⟩;subst hZ;simp only[sxZ,z6,z7,z8,j4,j5,j6,j7,j8,j9,x3,x4,x5,x6,x7,x8,reduceCtorEq,↓reduceIte,za,hlen];subst hW;simp only[sxZ,z6,z7,z8,j4,j5,j6,j7,j8,j9,x3,x4,x5,x6,x7,x8,reduceCtorEq,↓reduceIte,za,hlen,t0,t1,t7,t8];refine⟨by omega,ks.length - (i+1),by omega,i+1,by omega,rfl,fun j hj=>?_,rfl⟩
   by_cases e:j=i
   ·subst e;rw[kv2];intro h;injection h with h;exact c2 h.symm
   ·exact hall j (by omega)
 simp only[sxZ,z6,z7,z8,j4,j5,j6,j7,j8,j9,x3,x4,x5,x6,x7,x8,reduceCtorEq,↓reduceIte,za,hlen,t0,t1,t7,t8,hlt];subst hZ;subst hY;simp only[sxZ,z6,z7,z8,j4,j5,j6,j7,j8,j9,x3,x4,x5,x6,x7,x8,reduceCtorEq,↓reduceIte,za,hlen,t0,t1,t7,t8,hlt];rw[if_neg (fun h=>hall _ (by omega) (zjg h))] at hk;exact hk
end
end
section
attribute [local irreducible] run
theorem ziz {P:Program} [Tabs P] {f:FuncId} {objs:List OB} {K:List OB->AV->Prop} (h:∀b,zad P f [.zn b] objs K):zad P f [.row 0 []] objs K:=by
 intro C _ G I w hin hm ys hd;have hd':=hd;simp only[zah,Den] at hd';obtain⟨y,l,rfl,⟨a,c,cells,rfl,hq,hc⟩,hl⟩:=hd';refine h a.isNone C G I w hin hm _ ?_;simp only[zah,Den];exact⟨_,_,rfl,⟨a,c,by simp,rfl,by simpa using hq.2⟩,hl⟩
theorem den_nil0 {G:Gh} {I:Imm} {y:Value} (h:Den G I .nil y):Den G I (.row 0 []) y:=by
 simp only[zah,Den] at h ⊢;exact⟨none,0,[],h,⟨zd _,fun ad h=>by cases h⟩,rfl,by simp,by simp⟩
theorem zh4:∀(ks:List (List UInt8)) (o:List OB) (d:Nat),ze0 o (d+1) (ks.map AV.s)=some (ks.map AV.s)
 | [],o,d=>by simp only[zr,ze0]
 | k::ks,o,d=>by simp only[zo,ze0,pub,AV.plain,if_true,zh4 ks o d]
theorem zmR:∀(l:List JV) (o:List OB) (d:Nat),ze0 o (d+1) (zac l)=some (zac l)
 | [],o,d=>by rw[zak];simp only[ze0]
 | v::l,o,d=>by
  rw[zao,zaf];simp only[qw,List.nil_append,ze0,pub,AV.plain,zaS,zaG,if_true,zmR l o d]
theorem jc_back {l:List JV} {i:Nat} (hi:i<l.length):List.take (i*4) (zac l)++zae l[i]++List.drop (i*4+4) (zac l)=zac l:=by
 rw[<-zfM hi,<-List.drop_drop,List.append_assoc,xf,xf]
theorem den_it0 {a b c:AV} {G:Gh} {I:Imm} {y:Value} (h:Den G I (.agg [a,b,c,.nil]) y):Den G I (.agg [a,b,c,.row 0 []]) y:=by
 simp only[Den,zah] at h ⊢;obtain⟨zs,rfl,⟨z0,m0,rfl,q0,z1,m1,rfl,q1,z2,m2,rfl,q2,z3,m3,rfl,q3,q4⟩,hz⟩:=h;exact⟨_,rfl,⟨_,_,rfl,q0,_,_,rfl,q1,_,_,rfl,q2,_,_,rfl,⟨none,0,[],q3,⟨zd _,fun ad h=>by cases h⟩,rfl,by simp,by simp⟩,q4⟩,hz⟩
section
variable [Tabs Tryz.prog] {objs:List OB} {K:List OB->AV->Prop}
theorem cloneS_k (ks:List (List UInt8)) (hl:ks.length<=1099511627780) (hk:K objs (.row ks.length (ks.map .s))):zad Tryz.prog 98 [.row ks.length (ks.map .s)] objs K:=by
 cases ks with
 | nil=>
  refine ziz fun b=>?_;refine jres2 (.row 0 []) ?_;refine zaL is_slices_Clone__string_string rfl fun C _=>?_;rw[c_slices_Clone__string_string]
  cases b with
  | true=>
   simp only[sxZ,z6,z7,z8,j4,j5,j6,j7,j8,j9,x3,x4,x5,x6,x7,x8,reduceCtorEq,↓reduceIte,Bool.false_eq_true];exact⟨fun G I y hy=>den_nil0 hy,hk⟩
  | false=>
   simp only[sxZ,z6,z7,z8,j4,j5,j6,j7,j8,j9,x3,x4,x5,x6,x7,x8,reduceCtorEq,↓reduceIte,Bool.false_eq_true];exact⟨by decide,fun G I y hy=>hy,hk⟩
 | cons k ks=>
  refine zaL is_slices_Clone__string_string (by simp only[zal,AV.plain,zaS,Bool.and_self]) fun C _=>?_;rw[c_slices_Clone__string_string];have hp:∀(o:List OB) (d:Nat),ze0 o (d+1) (ks.map AV.s)=some (ks.map AV.s):=fun o d=>zh4 ks o d;simp only[zo,sxZ,z6,z7,z8,j4,j5,j6,j7,j8,j9,x3,x4,x5,x6,x7,x8,reduceCtorEq,↓reduceIte,hp,qg];simp only[zx] at hl;refine⟨by omega,⟨by omega,by omega,by omega⟩,?_⟩;rw[zq];exact hk
theorem cloneV_k (v:JV) (l:List JV) (hl:(v::l).length<=1099511627776) (hk:K (objs++[.orow 25 4 1 (v::l).length (zac (v::l))]) (.orow objs.length 1)):zad Tryz.prog 99 [.row (v::l).length (zac (v::l))] objs K:=by
 have hjl:=zav (v::l);have e0:zac (v::l)=.i .i64 v.kind::(.s v.text::.row v.keys.length (v.keys.map .s)::.row v.items.length (zac v.items)::zac l):=by rw[zao,zaf];rfl
 generalize hX:AV.s v.text::.row v.keys.length (v.keys.map .s)::.row v.items.length (zac v.items)::zac l=X at e0;rw[e0] at hk hjl ⊢;generalize (v::l).length=n at hk hl hjl ⊢;refine zcN is_slices_Clone__api_Value_api_Value fun C _=>?_;rw[c_slices_Clone__api_Value_api_Value];simp only[sxZ,z6,z7,z8,j4,j5,j6,j7,j8,j9,x3,x4,x5,x6,x7,x8,reduceCtorEq,↓reduceIte];refine⟨by omega,?_⟩;simp only[sxZ,z6,z7,z8,j4,j5,j6,j7,j8,j9,x3,x4,x5,x6,x7,x8,reduceCtorEq,↓reduceIte,gn1,sn1];rw[zq];exact⟨⟨by simp only[zx] at hjl;omega,by omega,by omega⟩,hk⟩
theorem zoN (h1:K objs .nil) (h2:K (objs++[.orow 25 4 1 0 []]) (.orow objs.length 1)):zad Tryz.prog 99 [.row 0 []] objs K:=by
 refine ziz fun b=>?_;refine zcN is_slices_Clone__api_Value_api_Value fun C _=>?_;rw[c_slices_Clone__api_Value_api_Value]
 cases b with
 | true=>
  simp only[sxZ,z6,z7,z8,j4,j5,j6,j7,j8,j9,x3,x4,x5,x6,x7,x8,reduceCtorEq,↓reduceIte,Bool.false_eq_true];exact h1
 | false=>
  simp only[sxZ,z6,z7,z8,j4,j5,j6,j7,j8,j9,x3,x4,x5,x6,x7,x8,reduceCtorEq,↓reduceIte,Bool.false_eq_true];refine⟨by decide,?_⟩;simp only[sxZ,z6,z7,z8,j4,j5,j6,j7,j8,j9,x3,x4,x5,x6,x7,x8,reduceCtorEq,↓reduceIte,gn1,sn1];exact h2
theorem zoO:∀(m:Nat) (v:JV),v.size<m->JBd v->∀{objs:List OB} {K:List OB->AV->Prop},K objs (.agg (zae v))->zad Tryz.prog 78 [.agg (zae v)] objs K:=by
 intro m
 induction m with
 | zero=>intro v h;omega
 | succ m ih=>
  intro v hm hv objs K hk;obtain⟨l1,l2⟩:=hv.lens;refine jres2 (.agg (zae v)) ?_;refine zaL is_jsondoc_clone (by simp only[zal,AV.plain,zaP,Bool.and_self]) fun C _=>?_;rw[c_jsondoc_clone];refine zaa fun Y hY=>?_;simp only[sxZ,z6,z7,z8,j4,j5,j6,j7,j8,j9,x3,x4,x5,x6,x7,x8,reduceCtorEq,↓reduceIte];have e0:OB.box 25 (zae v)=OB.box 25 [.i .i64 v.kind,.s v.text,.row v.keys.length (v.keys.map .s),.row v.items.length (zac v.items)]:=by rw[zaf]
  rw[e0];subst hY;refine zaa fun Y hY=>?_;simp only[sxZ,z6,z7,z8,j4,j5,j6,j7,j8,j9,x3,x4,x5,x6,x7,x8,reduceCtorEq,↓reduceIte];refine zai (cloneS_k v.keys l1 ?_);simp only[sxZ,z6,z7,z8,j4,j5,j6,j7,j8,j9,x3,x4,x5,x6,x7,x8,reduceCtorEq,↓reduceIte];subst hY;refine zaa fun Y hY=>?_;have tailA:∀tm:List AV,tm.length=30->tm[1]? = some (.p 0 0)->tm[2]? = some (.p 1 0)->run Tryz.prog C [.code Y] [OB.box 25 [.i .i64 v.kind,.s v.text,.row v.keys.length (v.keys.map .s),.orow 2 1],OB.box 25 [.i .i64 0,.s [],.nil,.nil],.orow 25 4 1 v.items.length (zac v.items)] tm (endK [.celln 2 4] fun r=>(∀G I y,Den G I r y->Den G I (.agg (zae v)) y)/\K objs (.agg (zae v))):=by
   intro tm hlen t1 t2;subst hY;refine zaa fun Y hY=>?_;simp only[sxZ,z6,z7,z8,j4,j5,j6,j7,j8,j9,x3,x4,x5,x6,x7,x8,reduceCtorEq,↓reduceIte,za,hlen,t1,t2];refine zaF (fun n o tm=>∃i:Nat,i<=v.items.length/\n=v.items.length - i/\o=[OB.box 25 [.i .i64 v.kind,.s v.text,.row v.keys.length (v.keys.map .s),.orow 2 1],OB.box 25 [.i .i64 0,.s [],.nil,.nil],.orow 25 4 1 v.items.length (zac v.items)]/\tm.length=30/\tm[1]? = some (.p 0 0)/\tm[2]? = some (.p 1 0)/\tm[14]? = some (.i .i64 (v.items.length:Int))/\tm[15]? = some (.i .i64 (i:Int))) v.items.length ⟨0,zh _,rfl,rfl,?_⟩ ?_
   ·simp only[sxZ,z6,z7,z8,j4,j5,j6,j7,j8,j9,x3,x4,x5,x6,x7,x8,reduceCtorEq,↓reduceIte,zi,za,hlen,t1,t2,y6,and_self]
   clear hlen t1 t2;rintro n _ tm ⟨i,hi,rfl,rfl,hlen,t1,t2,t14,t15⟩;refine zaa fun Z hZ=>?_
   by_cases hlt:(i:Int)<(v.items.length:Int)
   ·have hi':i<v.items.length:=by omega
    have hjc:=zfM hi';have hjl:=zav v.items;have hit:=hv.its hi';have hsz:=zhK hi';have hcall:=fun {objs:List OB} {K:List OB->AV->Prop} (h:K objs (.agg (zae v.items[i])))=>ih v.items[i] (by omega) hit (objs:=objs) (K:=K) h;simp only[sxZ,z6,z7,z8,j4,j5,j6,j7,j8,j9,x3,x4,x5,x6,x7,x8,reduceCtorEq,↓reduceIte,za,hlen,t1,t2,t14,t15,hlt];subst hZ;refine zaa fun Z hZ=>?_;simp only[sxZ,z6,z7,z8,j4,j5,j6,j7,j8,j9,x3,x4,x5,x6,x7,x8,reduceCtorEq,↓reduceIte,za,hlen];subst hZ;refine zaa fun W hW=>?_;rw[zaO];refine zaa fun Z hZ=>?_;simp only[sxZ,z6,z7,z8,j4,j5,j6,j7,j8,j9,x3,x4,x5,x6,x7,x8,reduceCtorEq,↓reduceIte,za,hlen,t15];subst hZ;have hbk:=jc_back hi';have hcl:=zcK v.items[i];simp only[sxZ,z6,z7,z8,j4,j5,j6,j7,j8,j9,x3,x4,x5,x6,x7,x8,reduceCtorEq,↓reduceIte,za,hlen,t1,hjc];refine⟨⟨by omega,by omega⟩,by omega,?_⟩;refine za5 (hcall ⟨rfl,rfl⟩) ?_;simp only[sxZ,z6,z7,z8,j4,j5,j6,j7,j8,j9,x3,x4,x5,x6,x7,x8,reduceCtorEq,↓reduceIte,za,hlen,t1,t2];refine⟨by omega,?_⟩;simp only[sxZ,z6,z7,z8,j4,j5,j6,j7,j8,j9,x3,x4,x5,x6,x7,x8,reduceCtorEq,↓reduceIte,za,hlen,t1,t2,hbk,hcl];refine⟨by omega,?_⟩;subst hW;simp only[sxZ,z6,z7,z8,j4,j5,j6,j7,j8,j9,x3,x4,x5,x6,x7,x8,reduceCtorEq,↓reduceIte,za,hlen,t1,t2,t14,t15];exact⟨by omega,v.items.length - (i+1),by omega,i+1,by omega,rfl,rfl⟩
   simp only[sxZ,z6,z7,z8,j4,j5,j6,j7,j8,j9,x3,x4,x5,x6,x7,x8,reduceCtorEq,↓reduceIte,za,hlen,t1,t2,t14,t15,hlt];subst hZ;subst hY;simp only[sxZ,z6,z7,z8,j4,j5,j6,j7,j8,j9,x3,x4,x5,x6,x7,x8,reduceCtorEq,↓reduceIte,za,hlen,t1,t2,t14,t15,hlt];simp only[zaS,zmR,pub,sxZ,z6,z7,z8,j4,j5,j6,j7,j8,j9,x3,x4,x5,x6,x7,x8,reduceCtorEq,↓reduceIte];refine⟨fun G I y hy=>?_,hk⟩;rw[zaf];exact hy
  simp only[sxZ,z6,z7,z8,j4,j5,j6,j7,j8,j9,x3,x4,x5,x6,x7,x8,reduceCtorEq,↓reduceIte]
  cases hits:v.items with
  | nil=>
   rw[hits] at tailA;rw[zak] at tailA ⊢;refine zoN ?_ ?_
   ·simp only[sxZ,z6,z7,z8,j4,j5,j6,j7,j8,j9,x3,x4,x5,x6,x7,x8,reduceCtorEq,↓reduceIte];subst hY;refine zaa fun Y hY=>?_;simp only[sxZ,z6,z7,z8,j4,j5,j6,j7,j8,j9,x3,x4,x5,x6,x7,x8,reduceCtorEq,↓reduceIte];refine zaF (fun n o tm=>n=0/\o=[OB.box 25 [.i .i64 v.kind,.s v.text,.row v.keys.length (v.keys.map .s),.nil],OB.box 25 [.i .i64 0,.s [],.nil,.nil]]/\tm.length=30/\tm[1]? = some (.p 0 0)/\tm[2]? = some (.p 1 0)/\tm[14]? = some (.i .i64 0)/\tm[15]? = some (.i .i64 0)) 0 ⟨rfl,rfl,rfl,rfl,rfl,rfl,rfl⟩ ?_;rintro n _ tm ⟨rfl,rfl,hlen,t1,t2,t14,t15⟩;refine zaa fun Z hZ=>?_;simp only[sxZ,z6,z7,z8,j4,j5,j6,j7,j8,j9,x3,x4,x5,x6,x7,x8,reduceCtorEq,↓reduceIte,za,hlen,t1,t2,t14,t15];subst hZ;subst hY;simp only[sxZ,z6,z7,z8,j4,j5,j6,j7,j8,j9,x3,x4,x5,x6,x7,x8,reduceCtorEq,↓reduceIte,za,hlen,t1,t2,t14,t15];simp only[zaS,pub,sxZ,z6,z7,z8,j4,j5,j6,j7,j8,j9,x3,x4,x5,x6,x7,x8,reduceCtorEq,↓reduceIte];refine⟨fun G I y hy=>?_,hk⟩;rw[zaf,hits,zak];exact den_it0 hy
   ·simp only[sxZ,z6,z7,z8,j4,j5,j6,j7,j8,j9,x3,x4,x5,x6,x7,x8,reduceCtorEq,↓reduceIte];exact tailA _ rfl rfl rfl
  | cons a l=>
   rw[hits] at tailA;refine zai (cloneV_k a l (by rw[<-hits];exact l2) ?_);simp only[sxZ,z6,z7,z8,j4,j5,j6,j7,j8,j9,x3,x4,x5,x6,x7,x8,reduceCtorEq,↓reduceIte];exact tailA _ rfl rfl rfl
end
end
section
attribute [local irreducible] run
end
section
attribute [local irreducible] run
structure WfM (σ:Ms) (a:Nat):Prop where
 top:(σ.st=1\/σ.st=2\/σ.st=3\/σ.st=4\/σ.st=5)->σ.stk≠[]
 obj:(σ.st=2\/σ.st=3\/σ.st=4)->∀f r,σ.stk=f::r->f.obj=true
 len:∀f∈σ.stk,f.ks.length<=a/\f.its.length<=a
 deep:σ.stk.length<=64
 few:σ.nodes<=20000
end
section
attribute [local irreducible] run
def tkC (t:Tk):List AV:=[.i .i64 t.1,.s t.2.1,.i .i64 t.2.2]
def zhE (t:Tk):AV:=.agg (tkC t)
def SlO (E sz n:Nat) (xs:List AV) (X:AV) (L:List (Nat×OB)):Prop :=
 (n=0/\xs=[]/\X=.nil/\L=[])\/∃b g,X=.orow b g/\L=[(b,.orow E sz g n xs)]
section
variable [Tabs Tryz.prog] {objs:List OB} {K:List OB->AV->Prop}
end
end
section
attribute [local irreducible] run
theorem zmc {α:Type} (a l ys:List α) (n j:Nat) (h:a.length=n):zaU (a++l) (n+j) ys=a++zaU l j ys:=by
 subst h;unfold zaU;rw[List.take_append,List.drop_append,List.take_of_length_le (by omega),List.drop_eq_nil_of_le (by omega),show a.length+j - a.length=j by omega,show a.length+j+ys.length - a.length=j+ys.length by omega];simp
theorem zlm {α:Type} (a l ys:List α) (n:Nat) (h:a.length=n) (h2:l.length=ys.length):zaU (a++l) n ys=a++ys:=by
 have:=zmc a l ys n 0 h;rw[Nat.add_zero] at this;rw[this];unfold zaU;rw[List.take_zero,zq,<-h2,List.drop_length];simp
theorem spE {α:Type} (l:List α) (n:Nat) (a b c d e f g i:α) (h:l.length=n*4):List.take (n*4) (l++[a,b,c,d])++[e,f,g,i]++List.drop (n*4+4) (l++[a,b,c,d])=l++[e,f,g,i]:=zlm l [a,b,c,d] [e,f,g,i] (n*4) h rfl
section
variable [Tabs Tryz.prog] {objs:List OB} {K:List OB->AV->Prop}
end
end
section
attribute [local irreducible] run
theorem zaK.set0 {α:Type} {B:List (Nat×α)} {o:List α} {i:Nat} {x:α} (y:α) (h:zaK ((i,x)::B) o):zaK ((i,y)::B) (o.set i y):=zaK.set (A:=[]) y h
theorem zaK.set1 {α:Type} {a:Nat×α} {B:List (Nat×α)} {o:List α} {i:Nat} {x:α} (y:α) (h:zaK (a::(i,x)::B) o):zaK (a::(i,y)::B) (o.set i y):=zaK.set (A:=[a]) y h
theorem zaK.set2 {α:Type} {a b:Nat×α} {B:List (Nat×α)} {o:List α} {i:Nat} {x:α} (y:α) (h:zaK (a::b::(i,x)::B) o):zaK (a::b::(i,y)::B) (o.set i y):=zaK.set (A:=[a,b]) y h
theorem zaK.ne {α:Type} {a b:Nat×α} {A B C:List (Nat×α)} {o:List α} (h:zaK (A++a::(B++b::C)) o):a.1≠b.1:=by
 have:=h.1;simp only[List.map_append,zo] at this;rw[List.nodup_append] at this;obtain⟨_,h2,_⟩:=this;rw[xy] at h2;intro e;exact h2.1 (by rw[e];simp)
theorem sub_self {b g n:Nat} {xs:List AV}:zbc b g n xs (.orow b g)=.row n xs:=by simp[zbc]
section
variable {P:Program} [Tabs P] {f:FuncId} {o:List OB} {K:List OB->AV->Prop} {p rr g st' nodes E sz n E' g' n' sz':Nat} {st k:Int} {txt:List UInt8} {xs cs ys:List AV} {X Y r0 r1 r2 r3:AV} {Lx L:List (Nat×OB)}
end
section
variable [Tabs Tryz.prog] {objs:List OB} {K:List OB->AV->Prop}
end
end
section
attribute [local irreducible] run
def zaX (t:Tk):OB:=.box 56 (tkC t)
section
variable [Tabs Tryz.prog] [Pow Tryz.prog] {objs:List OB} {K:List OB->AV->Prop} {M:List (Nat×OB)}
end
end
section
attribute [local irreducible] run
theorem WfM.mono {σ:Ms} {a b:Nat} (h:WfM σ a) (hab:a<=b):WfM σ b:=⟨h.top,h.obj,fun f hf=>by have:=h.len f hf;omega,h.deep,h.few⟩
theorem jres {P:Program} [Tabs P] {f:FuncId} {args:List AV} {objs:List OB} {K:List OB->AV->Prop} (r':AV) (hc:zad P f args objs (fun o r=>(∀G I y,Den G I r y->Den G I r' y)/\K o r')):zad P f args objs K:=by
 intro C _ G I w hin hm ys hd;refine(hc C G I w hin hm ys hd).mono ?_;rintro e w' ⟨y,objs',r,G',I',he,⟨hr,hk⟩,h1,h2,h3,h4,hy⟩;exact⟨y,objs',r',G',I',he,hk,h1,h2,h3,h4,hr _ _ _ hy⟩
def zvC:List AV:=[.i .i64 0,.s [],.nil,.nil]
def zh6 (R:JV×Int×Int):AV:=.tup [.agg (zae R.1),.i .i64 R.2.1,.i .i64 R.2.2]
theorem den_zv {a e:Int} {G:Gh} {I:Imm} {y:Value} (h:Den G I (.tup [.agg zvC,.i .i64 a,.i .i64 e]) y):Den G I (zh6 (jvZ,a,e)) y:=by
 unfold zh6 jvZ;rw[zae,zak];unfold zvC at h;simp only[zah,Den] at h ⊢;obtain⟨ys,h1,y0,l0,rfl,⟨zs,rfl,⟨z0,m0,rfl,q0,z1,m1,rfl,q1,z2,m2,rfl,q2,z3,m3,rfl,q3,q4⟩,hz⟩,h2⟩:=h;refine⟨_,h1,_,_,rfl,⟨_,rfl,⟨_,_,rfl,q0,_,_,rfl,q1,_,_,rfl,?_,_,_,rfl,?_,q4⟩,hz⟩,h2⟩
 ·exact⟨none,0,[],q2,⟨zd _,fun ad h=>by cases h⟩,rfl,by simp,by simp⟩
 ·exact⟨none,0,[],q3,⟨zd _,fun ad h=>by cases h⟩,rfl,by simp,by simp⟩
section
variable [Tabs Tryz.prog] [Pow Tryz.prog] [Utf Tryz.prog] {objs:List OB} {K:List OB->AV->Prop}
end
end
section
attribute [local irreducible] run
section
variable [Tabs Tryz.prog] [Pow Tryz.prog] [Utf Tryz.prog] {objs:List OB} {K:List OB->AV->Prop}
end
end
section
attribute [local irreducible] run
section
variable [Tabs Tryz.prog] {objs:List OB} {K:List OB->AV->Prop}
theorem zku (v:JV) (key:List UInt8) (hv:JOk v) (hb:JBd v) (hk:K objs (zbS (zbA v key))):zad Tryz.prog 40 [.agg (zae v),.s key] objs K:=by
 obtain⟨l1,l2,l3,l4⟩:=hv.lens;refine jres2 (zbS (zbA v key)) ?_;refine zaL is_jsondoc_Get (by simp only[zal,AV.plain,zaP,Bool.and_self]) fun C _=>?_;have fin:∀{o:List OB},zbA v key=(jvZ,false)->((∀G I y,Den G I (.tup [.agg [.i .i64 0,.s [],.nil,.nil],.b false]) y->Den G I (zbS (zbA v key)) y)/\K objs (zbS (zbA v key))):=fun {o} h=>⟨fun G I y hy=>by rw[h];exact den_zv2 hy,hk⟩;rw[c_jsondoc_Get];refine zaa fun Y hY=>?_;simp only[sxZ,z6,z7,z8,j4,j5,j6,j7,j8,j9,x3,x4,x5,x6,x7,x8,reduceCtorEq,↓reduceIte];have e0:OB.box 25 (zae v)=OB.box 25 [.i .i64 v.kind,.s v.text,.row v.keys.length (v.keys.map .s),.row v.items.length (zac v.items)]:=by rw[zaf]
 rw[e0];subst hY;refine zaa fun Y hY=>?_
 by_cases c1:v.kind=7
 rotate_left
 ·simp only[sxZ,z6,z7,z8,j4,j5,j6,j7,j8,j9,x3,x4,x5,x6,x7,x8,reduceCtorEq,↓reduceIte,c1,decide_false,Bool.not_false];exact fin (o:=[]) (zn7 c1)
 simp only[sxZ,z6,z7,z8,j4,j5,j6,j7,j8,j9,x3,x4,x5,x6,x7,x8,reduceCtorEq,↓reduceIte,c1,decide_true,Bool.not_true];subst hY;refine zaa fun Y hY=>?_;simp only[sxZ,z6,z7,z8,j4,j5,j6,j7,j8,j9,x3,x4,x5,x6,x7,x8,reduceCtorEq,↓reduceIte];refine zai (znU v.keys key l1 ?_);have hg:zbA v key=if zhj key v.keys<v.keys.length then (match v.items[zhj key v.keys]? with|some x=>(x,true)|none=>(jvZ,false)) else (jvZ,false):=by
  unfold zbA
  by_cases c:zhj key v.keys<v.keys.length
  ·rw[if_pos ⟨c1,c⟩,if_pos c];try (cases v.items[zhj key v.keys]?<;>rfl)
  ·rw[if_neg (fun h=>c h.2),if_neg c]
 generalize zhj key v.keys=i at hg ⊢;simp only[sxZ,z6,z7,z8,j4,j5,j6,j7,j8,j9,x3,x4,x5,x6,x7,x8,reduceCtorEq,↓reduceIte];subst hY;refine zaa fun Y hY=>?_
 by_cases c2:i<v.keys.length
 rotate_left
 ·rw[if_neg c2] at hg;simp only[if_neg c2,sxZ,z6,z7,z8,j4,j5,j6,j7,j8,j9,x3,x4,x5,x6,x7,x8,reduceCtorEq,↓reduceIte,decide_true];exact fin (o:=[]) hg
 have c2':¬(i:Int)<0:=by omega
 simp only[if_pos c2] at hg ⊢
 by_cases c3:(v.items.length:Int)<=i
 ·have:v.items[i]? = none:=zv (by omega);rw[this] at hg;simp only[sxZ,z6,z7,z8,j4,j5,j6,j7,j8,j9,x3,x4,x5,x6,x7,x8,reduceCtorEq,↓reduceIte,c2',c3,decide_true];exact fin (o:=[]) hg
 have hi:i<v.items.length:=by omega
 rw[zl hi] at hg;have jv:=zfM hi;have jvl:=zav v.items;have hbi:=hb.its hi;have hq:=zaf v.items[i];have hcl:=fun {objs:List OB} {K:List OB->AV->Prop} (h:K objs (.agg (zae v.items[i])))=>zoO (v.items[i].size+1) v.items[i] (Nat.lt_succ_self _) hbi (objs:=objs) (K:=K) h;simp only[sxZ,z6,z7,z8,j4,j5,j6,j7,j8,j9,x3,x4,x5,x6,x7,x8,reduceCtorEq,↓reduceIte,c2',c3,decide_true];subst hY;simp only[sxZ,z6,z7,z8,j4,j5,j6,j7,j8,j9,x3,x4,x5,x6,x7,x8,reduceCtorEq,↓reduceIte,jv];refine⟨⟨by omega,by omega,by omega⟩,by omega,?_⟩;refine zai (hcl ?_);rw[hq];simp only[sxZ,z6,z7,z8,j4,j5,j6,j7,j8,j9,x3,x4,x5,x6,x7,x8,reduceCtorEq,↓reduceIte];simp only[pub,AV.plain,zaS,zaG,sxZ,z6,z7,z8,j4,j5,j6,j7,j8,j9,x3,x4,x5,x6,x7,x8,reduceCtorEq,↓reduceIte];refine⟨fun G I y hy=>?_,hk⟩;rw[hg,zbS,hq];exact hy
end
section
variable [Tabs Tryz.prog] [Pow Tryz.prog] [Utf Tryz.prog]
end
end
section
attribute [local irreducible] run
structure GB (s:List UInt8) (ρ:Rs):Prop where
 p0:0<=ρ.pos
 p1:ρ.pos<=s.length
 n0:ρ.fail=0->(ρ.nodes:Int)<=ρ.pos
 n1:(ρ.nodes:Int)<=s.length+1
def GT (ρ:Rs) (t:Tk):Prop:=ρ.fail=0->t.1=1\/(ρ.nodes:Int)+1<=ρ.pos
theorem zdQ {s:List UInt8} {ρ:Rs} (h:GB s ρ) (a e:Int) (he:¬e=0):GB s (zaY ρ a e):=by
 unfold zaY
 split
 ·exact⟨h.p0,h.p1,fun h'=>absurd h' he,h.n1⟩
 ·exact h
theorem zbl {s:List UInt8} {ρ:Rs} (h:GB s ρ):GB s (zar s ρ).2/\GT (zar s ρ).2 (zar s ρ).1:=by
 unfold zar
 by_cases c1:ρ.fail=0
 ·rw[if_neg (fun h=>h c1)]
  by_cases c2:(zbq s ρ.pos).2.2=0
  ·rw[if_neg (fun h=>h c2)];obtain⟨n1,n2,n3,n4⟩:=next_lt h.p0 c2;have hn:=h.n0 c1;refine⟨⟨by have:=h.p0;show 0<=(zbq s ρ.pos).2.1;omega,n2,fun _=>by show (ρ.nodes:Int)<=(zbq s ρ.pos).2.1;omega,h.n1⟩,fun _=>?_⟩
   by_cases c3:(zbq s ρ.pos).1.1=1
   ·exact .inl c3
   ·have:=n3 c3;exact .inr (by show (ρ.nodes:Int)+1<=(zbq s ρ.pos).2.1;omega)
  ·rw[if_pos c2];refine⟨zdQ h _ _ c2,fun hf=>?_⟩;exfalso;unfold zaY at hf;rw[if_pos c1] at hf;exact c2 hf
 ·rw[if_pos c1];exact⟨h,fun hf=>absurd hf c1⟩
theorem zeC {s:List UInt8} {ρ:Rs} (h:GB s ρ) (t:Tk) (c:UInt8):GB s (zbb ρ t c):=by
 unfold zbb
 split
 ·exact zdQ h _ _ (by decide)
 ·exact h
theorem gb_key {s:List UInt8} {ρ:Rs} (h:GB s ρ) (t:Tk) (ks:List (List UInt8)):GB s (zmJ ρ t ks):=by
 unfold zmJ;have h1:GB s (if ¬t.1=3 then zaY ρ t.2.2 140 else ρ):=by
  split
  ·exact zdQ h _ _ (by decide)
  ·exact h
 dsimp only
 split
 ·exact zdQ h1 _ _ (by decide)
 ·exact h1
def GV (s:List UInt8) (val:Rs->Tk->JV×Rs):Prop:=∀ρ t,GB s ρ->GT ρ t->GB s (val ρ t).2
theorem zoa {s:List UInt8} {val:Rs->Tk->JV×Rs} (hv:GV s val):∀(n:Nat) (ρ:Rs) (t:Tk) (acc:List JV),GB s ρ->GT ρ t->GB s (zdM s val n ρ t acc).2
 | 0,ρ,t,acc,h,_=>h
 | n+1,ρ,t,acc,h,ht=>by
  rw[zdM]
  split
  ·exact h
  dsimp only;have h1:=hv ρ t h ht;generalize val ρ t=a at h1 ⊢;have h2:=(zbl h1).1;generalize zar s a.2=b at h2 ⊢
  split
  ·exact h2
  ·obtain⟨h3,h4⟩:=zbl (zeC h2 b.1 44);exact zoa hv n _ _ _ h3 h4
theorem zn9 {s:List UInt8} {val:Rs->Tk->JV×Rs} (hv:GV s val):∀(n:Nat) (ρ:Rs) (t:Tk) (ks:List (List UInt8)) (its:List JV),GB s ρ->GB s (zdd s val n ρ t ks its).2
 | 0,ρ,t,ks,its,h=>h
 | n+1,ρ,t,ks,its,h=>by
  rw[zdd]
  split
  ·exact h
  dsimp only;have h1:=(zbl (gb_key h t ks)).1;generalize zar s (zmJ ρ t ks)=a at h1 ⊢;obtain⟨h2,h2'⟩:=zbl (zeC h1 a.1 58);generalize zar s (zbb a.2 a.1 58)=b at h2 h2' ⊢;have h3:=hv _ _ h2 h2';generalize val b.2 b.1=v at h3 ⊢;have h4:=(zbl h3).1;generalize zar s v.2=c at h4 ⊢
  split
  ·exact h4
  ·have h5:=(zbl (zeC h4 c.1 44)).1;exact zn9 hv n _ _ _ _ h5
theorem zky {s:List UInt8} {ρ:Rs} {t:Tk} (h:GB s ρ) (ht:GT ρ t) (h1:¬t.1=1) (hf:ρ.fail=0):GB s (zbE ρ t):=by
 have hn:=(ht hf).resolve_left h1;have hp1:=h.p1;unfold zbE;dsimp only;have h2:∃fa wa,(if t.1=4/\¬(zcH t.2.1).1=0 then zaY ρ t.2.2 (zcH t.2.1).1 else ρ)=⟨ρ.pos,ρ.nodes,fa,wa⟩:=by
  split
  ·unfold zaY;rw[if_pos hf];exact⟨_,_,rfl⟩
  ·exact⟨_,_,rfl⟩
 obtain⟨fa,wa,h2⟩:=h2;rw[h2];have h3:∀f w,GB s ⟨ρ.pos,ρ.nodes+1,f,w⟩:=fun f w=>⟨h.p0,h.p1,fun _=>by show ((ρ.nodes+1:Nat):Int)<=ρ.pos;omega,by show ((ρ.nodes+1:Nat):Int)<=_;omega⟩
 split
 ·exact zdQ (h3 _ _) _ _ (by decide)
 ·exact h3 _ _
theorem gb_arr {s:List UInt8} {val:Rs->Tk->JV×Rs} (hv:GV s val) {ρ:Rs} (h:GB s ρ):GB s (zg7 s val ρ).2:=by
 unfold zg7;dsimp only;obtain⟨h1,h2⟩:=zbl h
 split
 ·exact h1
 ·exact zoa hv _ _ _ _ h1 h2
theorem gb_obj {s:List UInt8} {val:Rs->Tk->JV×Rs} (hv:GV s val) {ρ:Rs} (h:GB s ρ):GB s (zhz s val ρ).2:=by
 unfold zhz;dsimp only;have h1:=(zbl h).1
 split
 ·exact h1
 ·exact zn9 hv _ _ _ _ _ h1
theorem vk_end {t:Tk} (h:¬vkE t=0):¬t.1=1:=by
 intro h1
 apply h
 have e1:∀c,isP t c=false:=fun c=>by simp[isP,h1]
 simp[vkE,h1,e1]
theorem zfb (s:List UInt8):∀(f:Nat) (d:Nat),GV s (fun ρ t=>zaB s f ρ t d)
 | 0,d=>fun ρ t h _=>h
 | f+1,d=>fun ρ t h ht=>by
  dsimp only;rw[zaB]
  by_cases c0:ρ.fail=0
  ·rw[if_neg (fun h=>h c0)]
   split
   ·exact zdQ h _ _ (by decide)
   rename_i c1;have hc:=zky h ht (vk_end c1) c0
   split
   ·exact zdQ h _ _ (by decide)
   split
   ·exact hc
   split
   ·exact gb_arr (zfb s f (d+1)) hc
   split
   ·exact gb_obj (zfb s f (d+1)) hc
   split
   ·exact hc
   ·exact hc
  ·rw[if_pos c0];exact h
end
section
attribute [local irreducible] run
theorem zkt:∀{a b:List JV},zdX a->zdX b->zdX (a++b)
 | [],b,_,hb=>hb
 | v::l,b,ha,hb=>by
  rw[zdX] at ha;rw[qw,zdX];exact⟨ha.1,zkt ha.2 hb⟩
theorem jbd_leaf (k:Int) (t:List UInt8):JBd (.mk k t [] []):=by rw[JBd];exact⟨by simp,by simp,by rw[zdX];trivial⟩
theorem zdJ (ρ:Rs) (a e:Int):(zaY ρ a e).nodes=ρ.nodes:=by unfold zaY;split<;>rfl
theorem zbe (s:List UInt8) (ρ:Rs):(zar s ρ).2.nodes=ρ.nodes:=by
 unfold zar
 split
 ·rfl
 split
 ·exact zdJ _ _ _
 ·rfl
theorem zep (ρ:Rs) (t:Tk) (c:UInt8):(zbb ρ t c).nodes=ρ.nodes:=by
 unfold zbb
 split
 ·exact zdJ _ _ _
 ·rfl
theorem rkey_n (ρ:Rs) (t:Tk) (ks:List (List UInt8)):(zmJ ρ t ks).nodes=ρ.nodes:=by
 unfold zmJ;dsimp only
 split<;>split<;>simp only[zdJ]
theorem rcount_n (ρ:Rs) (t:Tk):(zbE ρ t).nodes=ρ.nodes+1:=by
 unfold zbE;dsimp only;generalize hx:(if t.1=4/\¬(zcH t.2.1).1=0 then zaY ρ t.2.2 (zcH t.2.1).1 else ρ)=x;have h:x.nodes=ρ.nodes:=by
  rw[<-hx]
  split
  ·exact zdJ _ _ _
  ·rfl
 by_cases c:20000<x.nodes+1
 ·rw[if_pos c,zdJ];show x.nodes+1=_;omega
 ·rw[if_neg c];show x.nodes+1=_;omega
def MonV (val:Rs->Tk->JV×Rs):Prop:=∀ρ t,ρ.nodes<=(val ρ t).2.nodes
theorem zmO {s:List UInt8} {val:Rs->Tk->JV×Rs} (hv:MonV val):∀(n:Nat) (ρ:Rs) (t:Tk) (acc:List JV),ρ.nodes<=(zdM s val n ρ t acc).2.nodes
 | 0,ρ,t,acc=>zd _
 | n+1,ρ,t,acc=>by
  rw[zdM]
  split
  ·exact zd _
  dsimp only;have h1:=hv ρ t;generalize val ρ t=a at h1 ⊢
  split
  ·rw[zbe];exact h1
  ·have h2:=zmO (s:=s) hv n (zar s (zbb (zar s a.2).2 (zar s a.2).1 44)).2 (zar s (zbb (zar s a.2).2 (zar s a.2).1 44)).1 (acc++[a.1]);rw[zbe,zep,zbe] at h2;omega
theorem zmo {s:List UInt8} {val:Rs->Tk->JV×Rs} (hv:MonV val):∀(n:Nat) (ρ:Rs) (t:Tk) (ks:List (List UInt8)) (its:List JV),ρ.nodes<=(zdd s val n ρ t ks its).2.nodes
 | 0,ρ,t,ks,its=>zd _
 | n+1,ρ,t,ks,its=>by
  rw[zdd]
  split
  ·exact zd _
  dsimp only;have e1:=zbe s (zmJ ρ t ks);rw[rkey_n] at e1;generalize zar s (zmJ ρ t ks)=a at e1 ⊢;have e2:=zbe s (zbb a.2 a.1 58);rw[zep] at e2;generalize zar s (zbb a.2 a.1 58)=b at e2 ⊢;have h1:=hv b.2 b.1;generalize val b.2 b.1=v at h1 ⊢;have e3:=zbe s v.2;generalize zar s v.2=c at e3 ⊢
  split
  ·show _<=c.2.nodes;omega
  ·have e4:=zbe s (zbb c.2 c.1 44);rw[zep] at e4;generalize zar s (zbb c.2 c.1 44)=d at e4 ⊢;have h2:=zmo (s:=s) hv n d.2 d.1 (ks++[t.2.1]) (its++[v.1]);omega
theorem zg1 (s:List UInt8):∀(f d:Nat),MonV (fun ρ t=>zaB s f ρ t d)/\∀ρ t,0<f->(zaB s f ρ t d).2.fail=0->ρ.nodes+1<=(zaB s f ρ t d).2.nodes
 | 0,d=>⟨fun ρ t=>zd _,fun ρ t h=>absurd h (Nat.lt_irrefl 0)⟩
 | f+1,d=>by
  have hm:=(zg1 s f (d+1)).1;have key:∀ρ t,((zaB s (f+1) ρ t d).2.nodes=ρ.nodes/\¬(zaB s (f+1) ρ t d).2.fail=0)\/ρ.nodes+1<=(zaB s (f+1) ρ t d).2.nodes:=by
   intro ρ t;rw[zaB]
   by_cases c0:ρ.fail=0
   rotate_left
   ·rw[if_pos c0];exact .inl ⟨rfl,c0⟩
   rw[if_neg (fun h=>h c0)];have hst:∀a e:Int,¬e=0->(zaY ρ a e).nodes=ρ.nodes/\¬(zaY ρ a e).fail=0:=fun a e he=>⟨zdJ _ _ _,by unfold zaY;rw[if_pos c0];exact he⟩
   split
   ·exact .inl (hst _ _ (by decide))
   split
   ·exact .inl (hst _ _ (by decide))
   have hc:=rcount_n ρ t
   split
   ·right;show _<=(zbE ρ t).nodes;omega
   split
   ·right;unfold zg7;dsimp only
    split
    ·rw[zbe];omega
    ·have h:=zmO (s:=s) hm (s.length+2) (zar s (zbE ρ t)).2 (zar s (zbE ρ t)).1 [];rw[zbe] at h;show _<=(zdM s _ _ _ _ []).2.nodes;omega
   split
   ·right;unfold zhz;dsimp only
    split
    ·rw[zbe];omega
    ·have h:=zmo (s:=s) hm (s.length+2) (zar s (zbE ρ t)).2 (zar s (zbE ρ t)).1 [] [];rw[zbe] at h;show _<=(zdd s _ _ _ _ [] []).2.nodes;omega
   split
   ·right;show _<=(zbE ρ t).nodes;omega
   ·right;show _<=(zbE ρ t).nodes;omega
  refine⟨fun ρ t=>?_,fun ρ t _ hf=>?_⟩
  ·rcases key ρ t with h|h
   ·exact Nat.le_of_eq h.1.symm
   ·show ρ.nodes<=(zaB s (f+1) ρ t d).2.nodes;omega
  ·rcases key ρ t with h|h
   ·exact absurd hf h.2
   ·exact h
end
section
attribute [local irreducible] run
def zaI (s:List UInt8) (ρ:Rs):OB:=.box 53 [.s s,.i .i64 ρ.pos,.i .i64 (ρ.nodes:Int),.i .i64 ρ.fail,.i .i64 ρ.wh]
section
variable [Tabs Tryz.prog] {objs:List OB} {K:List OB->AV->Prop} {L:List (Nat×OB)} {p:Nat} {s:List UInt8} {ρ:Rs}
theorem zfy (t:Tk) (c:UInt8) (hk:K objs (.b (isP t c))):zad Tryz.prog 58 [zhE t,.s [c]] objs K:=by
 refine zaL is_ref14_is rfl fun C _=>?_;unfold isP at hk
 by_cases c1:t.1=2
 ·by_cases c2:t.2.1=[c]
  ·simp only[c1,c2,decide_true,Bool.and_self] at hk;simp only[c_ref14_is,zhE,tkC,sxZ,z6,z7,z8,j4,j5,j6,j7,j8,j9,x3,x4,x5,x6,x7,x8,reduceCtorEq,↓reduceIte,c1,c2];exact hk
  ·simp only[c1,c2,decide_true,decide_false,Bool.and_false] at hk;simp only[c_ref14_is,zhE,tkC,sxZ,z6,z7,z8,j4,j5,j6,j7,j8,j9,x3,x4,x5,x6,x7,x8,reduceCtorEq,↓reduceIte,c1,c2];exact hk
 ·simp only[c1,decide_false,Bool.false_and] at hk;simp only[c_ref14_is,zhE,tkC,sxZ,z6,z7,z8,j4,j5,j6,j7,j8,j9,x3,x4,x5,x6,x7,x8,reduceCtorEq,↓reduceIte,c1];exact hk
theorem rword_k (l:List UInt8) (hk:K objs (.i .i64 (zf5 l))):zad Tryz.prog 60 [.s l] objs K:=by
 refine zaL is_ref14_word rfl fun C _=>?_;unfold zf5 trueL zoe at hk
 by_cases c1:l=[116,114,117,101]
 ·rw[if_pos c1] at hk;simp only[c_ref14_word,sxZ,z6,z7,z8,j4,j5,j6,j7,j8,j9,x3,x4,x5,x6,x7,x8,reduceCtorEq,↓reduceIte,c1];exact hk
 rw[if_neg c1] at hk
 by_cases c2:l=[102,97,108,115,101]
 ·rw[if_pos c2] at hk;have n1:¬([102,97,108,115,101]:List UInt8)=[116,114,117,101]:=by decide
  simp only[c_ref14_word,sxZ,z6,z7,z8,j4,j5,j6,j7,j8,j9,x3,x4,x5,x6,x7,x8,reduceCtorEq,↓reduceIte,c2,n1];exact hk
 ·rw[if_neg c2] at hk;simp only[c_ref14_word,sxZ,z6,z7,z8,j4,j5,j6,j7,j8,j9,x3,x4,x5,x6,x7,x8,reduceCtorEq,↓reduceIte,c1,c2];exact hk
theorem zca (hO:zaK ((p,zaI s ρ)::L) objs) (a e:Int) (hk:∀o,zaK ((p,zaI s (zaY ρ a e))::L) o->K o (.tup [])):zad Tryz.prog 22 [.p p 0,.i .i64 a,.i .i64 e] objs K:=by
 refine zcN is_ref14_parser_stop fun C _=>?_;have e1:=hO.get (i:=p) (x:=zaI s ρ) (by simp);have hlt:=hO.lt (i:=p) (x:=zaI s ρ) (by simp);have gs:∀x,(objs.set p x)[p]? = some x:=fun x=>zk hlt;unfold zaI at e1;unfold zaY at hk
 by_cases c1:ρ.fail=0
 ·rw[if_pos c1] at hk;simp only[c_ref14_parser_stop,sxZ,z6,z7,z8,j4,j5,j6,j7,j8,j9,x3,x4,x5,x6,x7,x8,reduceCtorEq,↓reduceIte,e1,c1,gs,List.set_set];exact hk _ (hO.set0 _)
 ·rw[if_neg c1] at hk;simp only[c_ref14_parser_stop,sxZ,z6,z7,z8,j4,j5,j6,j7,j8,j9,x3,x4,x5,x6,x7,x8,reduceCtorEq,↓reduceIte,e1,c1];exact hk _ hO
theorem zcx [Utf Tryz.prog] (hs:s.length<=140737488351232) (hO:zaK ((p,zaI s ρ)::L) objs) (hk:∀o,zaK ((p,zaI s (zar s ρ).2)::L) o->K o (zhE (zar s ρ).1)):zad Tryz.prog 21 [.p p 0] objs K:=by
 refine zcN is_ref14_parser_next fun C _=>?_;have hO1:=hO.new (.box 56 [.i .i64 0,.s [],.i .i64 0]);have e1:=hO1.get (i:=p) (x:=zaI s ρ) (by simp);unfold zaI at e1;unfold zar at hk;rw[c_ref14_parser_next];refine zaa fun Y hY=>?_;simp only[sxZ,z6,z7,z8,j4,j5,j6,j7,j8,j9,x3,x4,x5,x6,x7,x8,reduceCtorEq,↓reduceIte];have hlen:objs.length<(objs++[OB.box 56 [.i .i64 0,.s [],.i .i64 0]]).length:=by simp
 generalize hq:objs.length=q at hO1 hlen ⊢;generalize objs++[OB.box 56 [.i .i64 0,.s [],.i .i64 0]]=o1 at hO1 e1 hlen ⊢;have e0:=hO1.get (i:=q) (x:=.box 56 [.i .i64 0,.s [],.i .i64 0]) (by simp);have gs:∀x,(o1.set q x)[q]? = some x:=fun x=>zk hlen;subst hY;refine zaa fun Y hY=>?_
 by_cases c1:ρ.fail=0
 rotate_left
 ·rw[if_pos c1] at hk;simp only[sxZ,z6,z7,z8,j4,j5,j6,j7,j8,j9,x3,x4,x5,x6,x7,x8,reduceCtorEq,↓reduceIte,e1,c1,e0,gs];exact hk _ ((hO1.set0 (.box 56 [.i .i64 0,.s [],.i .i64 0])).sub (jk _ _))
 rw[if_neg (fun h=>h c1)] at hk;simp only[sxZ,z6,z7,z8,j4,j5,j6,j7,j8,j9,x3,x4,x5,x6,x7,x8,reduceCtorEq,↓reduceIte,e1,c1];subst hY;refine zaa fun Y hY=>?_;have hne:¬p=o1.length:=fun h=>by
  have:=hO1.lt (i:=p) (x:=zaI s ρ) (by simp);omega
 simp only[sxZ,z6,z7,z8,j4,j5,j6,j7,j8,j9,x3,x4,x5,x6,x7,x8,reduceCtorEq,↓reduceIte,e1];refine zka (zlq s ρ.pos hs rfl) rfl rfl ?_;generalize zbq s ρ.pos=N at hk ⊢;obtain⟨T,too,e⟩:=N;simp only at hk;unfold znk;simp only[sxZ,z6,z7,z8,j4,j5,j6,j7,j8,j9,x3,x4,x5,x6,x7,x8,reduceCtorEq,↓reduceIte,gn1,sn1,hne];have f1:∀x y z,OB.box 56 [.i .i64 x,.s y,.i .i64 z]=zaX (x,y,z):=fun _ _ _=>rfl;rw[f1];have hO2:=hO1.new (zaX T);have g0:=hO2.get (i:=o1.length) (x:=zaX T) (by simp);have g1:=hO2.get (i:=p) (x:=zaI s ρ) (by simp);have g2:=hO2.get (i:=q) (x:=.box 56 [.i .i64 0,.s [],.i .i64 0]) (by simp);have hq2:=hO2.lt (i:=q) (x:=.box 56 [.i .i64 0,.s [],.i .i64 0]) (by simp);generalize o1++[zaX T]=o2 at hO2 g0 g1 g2 hq2 ⊢;unfold zaX tkC at g0;unfold zaI at g1;have gs2:∀x,(o2.set q x)[q]? = some x:=fun x=>zk hq2;subst hY;refine zaa fun Y hY=>?_
 by_cases c2:e=0
 rotate_left
 ·rw[if_pos c2] at hk;simp only[sxZ,z6,z7,z8,j4,j5,j6,j7,j8,j9,x3,x4,x5,x6,x7,x8,reduceCtorEq,↓reduceIte,c2,g1];refine zai (zca (L:=(o1.length,zaX T)::(q,.box 56 [.i .i64 0,.s [],.i .i64 0])::L) (hO2.perm (qz.trans (qz.cons _ (qz.swap _ _ _)) (qz.swap _ _ _))) ρ.pos e fun o ho=>?_);have k2:=ho.get (i:=q) (x:=.box 56 [.i .i64 0,.s [],.i .i64 0]) (by simp);have kq:=ho.lt (i:=q) (x:=.box 56 [.i .i64 0,.s [],.i .i64 0]) (by simp);have gs3:∀x,(o.set q x)[q]? = some x:=fun x=>zk kq;simp only[sxZ,z6,z7,z8,j4,j5,j6,j7,j8,j9,x3,x4,x5,x6,x7,x8,reduceCtorEq,↓reduceIte,k2,gs3];exact hk _ ((zaK.set2 (.box 56 [.i .i64 0,.s [],.i .i64 0]) ho).sub (((jk _ _).trans (jk _ _)).cons_cons _))
 subst c2;rw[if_neg (fun h=>h rfl)] at hk;have hne2:¬p=q:=fun h=>hO2.ne (A:=[_]) (B:=[]) h.symm;have hne3:¬p=o1.length:=fun h=>hO2.ne (A:=[]) (B:=[_]) h.symm;have gx0:∀x,(o2.set p x)[o1.length]? = some (.box 56 [.i .i64 T.1,.s T.2.1,.i .i64 T.2.2]):=fun x=>by rw[ze hne3];exact g0
 have gx2:∀x,(o2.set p x)[q]? = some (.box 56 [.i .i64 0,.s [],.i .i64 0]):=fun x=>by rw[ze hne2];exact g2
 have gx3:∀x y,((o2.set p x).set q y)[q]? = some y:=fun x y=>zk (by rw[zi];exact hq2);simp only[sxZ,z6,z7,z8,j4,j5,j6,j7,j8,j9,x3,x4,x5,x6,x7,x8,reduceCtorEq,↓reduceIte];subst hY;simp only[sxZ,z6,z7,z8,j4,j5,j6,j7,j8,j9,x3,x4,x5,x6,x7,x8,reduceCtorEq,↓reduceIte,g1,gx0,gx2,gx3];have hF:=(zaK.set1 (zaX T) (zaK.set2 (zaI s ⟨too,ρ.nodes,ρ.fail,ρ.wh⟩) hO2)).sub (L':=(p,zaI s ⟨too,ρ.nodes,ρ.fail,ρ.wh⟩)::L) ((jk _ _).trans (jk _ _));exact hk _ hF
end
end
section
attribute [local irreducible] run
def zvB:OB:=.box 25 [.i .i64 0,.s [],.nil,.nil]
def jvB (k:Int) (X Y:AV):OB:=.box 25 [.i .i64 k,.s [],X,Y]
def zaJ (L:List (Nat×OB)):Prop:=∀z∈L,∀b g n xs,(∀y∈L,y.1≠b)->zf6 b g n xs z.2=z.2
theorem zdH {b g n:Nat} {xs:List AV}:∀{l:List AV},zal l=true->l.map (zbc b g n xs)=l
 | [],_=>rfl
 | x::l,h=>by
  simp only[zal,Bool.and_eq_true] at h;rw[zo,zcC h.1,zdH h.2]
theorem zjs {z:Nat×OB} {L:List (Nat×OB)} (h:zaJ L) (hz:∀b g n xs,(∀y∈z::L,y.1≠b)->zf6 b g n xs z.2=z.2):zaJ (z::L):=by
 intro y hy b g n xs hb;rcases zu.1 hy with rfl|hy
 ·exact hz b g n xs hb
 ·exact h y hy b g n xs fun y hy=>hb y (List.mem_cons_of_mem _ hy)
theorem zdo {i:Nat} {T:Nat} {cs:List AV} {L:List (Nat×OB)} (h:zaJ L) (hp:zal cs=true):zaJ ((i,.box T cs)::L) :=
 zjs h fun b g n xs _=>by show OB.box T _=_;rw[zdH hp]
theorem zlP {E sz n:Nat} {xs:List AV} {X:AV} {R A B:List (Nat×OB)} (hs:SlO E sz n xs X R) (h:zaJ (A++B)):zaJ (A++(R++B)):=by
 intro y hy b g m ys hb;have hAB:∀y∈A++B,y.1≠b:=fun y hy=>hb y (by
  rcases zw.1 hy with h|h
  ·exact jq _ h
  ·exact x9 _ (x9 _ h))
 rcases zw.1 hy with hy|hy
 ·exact h y (jq _ hy) b g m ys hAB
 rcases zw.1 hy with hy|hy
 ·rcases hs with ⟨_,_,_,rfl⟩|⟨b',g',_,rfl⟩
  ·cases hy
  ·simp only[zu,List.not_mem_nil,or_false] at hy;subst hy;rfl
 ·exact h y (x9 _ hy) b g m ys hAB
theorem ziR {E sz n:Nat} {xs:List AV} {X:AV} {R:List (Nat×OB)} (hs:SlO E sz n xs X R) {b g m:Nat} {ys:List AV} (hb:∀y∈R,y.1≠b):zbc b g m ys X=X:=by
 rcases hs with ⟨_,_,rfl,_⟩|⟨b',g',rfl,rfl⟩
 ·rfl
 ·exact if_neg (fun h=>hb (b',.orow E sz g' n xs) (by simp) h.1)
def giv (n:Nat) (xs:List AV) (X:AV):Prop:=(n=0/\xs=[]/\X=.nil)\/X=.row n xs
theorem zoE {n:Nat} {xs:List AV} {X:AV} (h:giv n xs X) {G:Gh} {I:Imm} {y:Value} (hd:Den G I X y):Den G I (.row n xs) y:=by
 rcases h with ⟨rfl,rfl,rfl⟩|rfl
 ·exact jnil_row hd
 ·exact hd
section
variable {P:Program} [Tabs P] {f:FuncId} {args:List AV} {objs:List OB} {K:List OB->AV->Prop}
theorem zc4 (hc:zad P f args objs (fun o r=>K o r\/∃b E sz gen n xs,o[b]? = some (.orow E sz gen n xs)/\K (zc9 o b gen n xs) (subD b gen n xs r))):zad P f args objs K:=by
 intro C _ G I w hin hm ys hd;refine(hc C G I w hin hm ys hd).mono ?_;rintro e w' ⟨y,objs',r,G',I',he,hk,h1,h2,h3,h4,hy⟩;rcases hk with hk|⟨b,E,sz,gen,n,xs,hb,hk⟩
 ·exact⟨y,objs',r,G',I',he,hk,h1,h2,h3,h4,hy⟩
 ·obtain⟨v',vs,m1,m2,m3,m4,m5⟩:=h4.row b E sz gen n xs hb;obtain⟨hin',hm'⟩:=zi9 (P:=P) hb h3 h4;exact⟨y,_,_,_,_,he,hk,h1.trans (zfH m1),fun g o v h=>.inl (h2 g o v h),hin',hm',den_subD h4 hb r y hy⟩
end
theorem zm4 {E sz n:Nat} {xs:List AV} {X:AV} {R A B:List (Nat×OB)} {o:List OB} (hs:SlO E sz n xs X R) (hO:zaK (A++(R++B)) o) (hA:zaJ (A++B)) :
  (R=[]/\giv n xs X)\/∃b g,X=.orow b g/\o[b]? = some (.orow E sz g n xs)/\zaK (A++B) (zc9 o b g n xs)/\∀y∈A++B,y.1≠b:=by
 rcases hs with ⟨h1,h2,h3,rfl⟩|⟨b,g,rfl,rfl⟩
 ·exact .inl ⟨rfl,.inl ⟨h1,h2,h3⟩⟩
 ·right;have hP:zaK ((b,.orow E sz g n xs)::(A++B)) o:=hO.perm (by simp);have hne:∀y∈A++B,y.1≠b:=by
   have:=hP.1;rw[zo,xy] at this;exact fun y hy e=>this.1 (by show b∈_;rw[<-e];exact List.mem_map_of_mem hy)
  exact⟨b,g,rfl,hP.get (by simp),hP.mapset (zf6 b g n xs) (fun z hz=>hA z hz b g n xs hne),hne⟩
theorem zmK {P:Program} [Tabs P] {f:FuncId} {args:List AV} {objs:List OB} {K:List OB->AV->Prop} {E1 s1 E2 s2:Nat} (v:JV) {z:Nat×OB} {L:List (Nat×OB)} (hC:zaJ (z::L)) (hk:∀o,zaK (z::L) o->K o (.agg (zae v)))
  (hc:zad P f args objs (fun o r=>∃X R1 Y R2,SlO E1 s1 v.keys.length (v.keys.map .s) X R1/\SlO E2 s2 v.items.length (zac v.items) Y R2/\zaK (z::(R1++(R2++L))) o/\r=.agg [.i .i64 v.kind,.s v.text,X,Y])):zad P f args objs K:=by
 refine jres (.agg (zae v)) ?_;refine zc4 ?_;refine zc4 ?_;refine hc.mono ?_;rintro o r ⟨X,R1,Y,R2,hX,hY,hO,rfl⟩;have fin:∀{X' Y':AV},giv v.keys.length (v.keys.map .s) X'->giv v.items.length (zac v.items) Y'->∀G I y,Den G I (.agg [.i .i64 v.kind,.s v.text,X',Y']) y->Den G I (.agg (zae v)) y:=by
  intro X' Y' h1 h2 G I y hy;rw[zaf];simp only[zah,Den] at hy ⊢;obtain⟨zs,rfl,⟨z0,m0,rfl,q0,z1,m1,rfl,q1,z2,m2,rfl,q2,z3,m3,rfl,q3,q4⟩,hz⟩:=hy;exact⟨_,rfl,⟨_,_,rfl,q0,_,_,rfl,q1,_,_,rfl,zoE h1 q2,_,_,rfl,zoE h2 q3,q4⟩,hz⟩
 have hC2:zaJ ([z]++(R2++L)):=zlP (A:=[z]) hY hC;have step2:∀(o:List OB) (X':AV),giv v.keys.length (v.keys.map .s) X'->zaK ([z]++(R2++L)) o ->
   (((∀G I y,Den G I (.agg [.i .i64 v.kind,.s v.text,X',Y]) y->Den G I (.agg (zae v)) y)/\K o (.agg (zae v)))\/∃b E sz gen n xs,o[b]? = some (.orow E sz gen n xs)/\(∀G I y,Den G I (subD b gen n xs (.agg [.i .i64 v.kind,.s v.text,X',Y])) y->Den G I (.agg (zae v)) y)/\K (zc9 o b gen n xs) (.agg (zae v))):=by
  intro o X' h1 hO;rcases zm4 hY hO hC with ⟨rfl,h2⟩|⟨b,g,rfl,hb,hO2,hne⟩
  ·exact .inl ⟨fin h1 h2,hk _ hO⟩
  ·refine .inr ⟨b,_,_,g,_,_,hb,fun G I y hy=>?_,hk _ hO2⟩;refine fin h1 (.inr rfl) G I y ?_;have e1:zbc b g v.items.length (zac v.items) (.orow b g)=.row v.items.length (zac v.items):=if_pos ⟨rfl,rfl⟩;have e2:zbc b g v.items.length (zac v.items) X'=X':=by
    rcases h1 with ⟨_,_,rfl⟩|rfl<;>rfl
   simp only[subD,zo,zr,e1,e2] at hy;exact hy
 rcases zm4 (A:=[z]) hX hO hC2 with ⟨rfl,h1⟩|⟨b,g,rfl,hb,hO2,hne⟩
 ·exact .inl (step2 o X h1 hO)
 ·refine .inr ⟨b,_,_,g,_,_,hb,?_⟩;have h1:giv v.keys.length (v.keys.map .s) (.row v.keys.length (v.keys.map AV.s)):=.inr rfl;have e1:zbc b g v.keys.length (v.keys.map .s) (.orow b g)=.row v.keys.length (v.keys.map .s):=if_pos ⟨rfl,rfl⟩;have e2:zbc b g v.keys.length (v.keys.map .s) Y=Y:=ziR hY fun y hy=>hne y (by simp[hy]);have e3:subD b g v.keys.length (v.keys.map .s) (.agg [.i .i64 v.kind,.s v.text,.orow b g,Y])=.agg [.i .i64 v.kind,.s v.text,.row v.keys.length (v.keys.map .s),Y]:=by
   simp only[subD,zo,zr,e1,e2];rfl
  rw[e3];exact step2 _ _ h1 hO2
end
section
attribute [local irreducible] run
structure PrP where
 name:List UInt8
 val:List UInt8
 nul:Bool
structure LkP where
 rel:List UInt8
 typ:List UInt8
 href:List UInt8
 tmp:List UInt8
 tit:List PrP
 pro:List PrP
end
section
attribute [local irreducible] run
theorem za3 {G:Gh} {I:Imm} {y:Value} (h:Den G I .nil y):Den G I (.row 0 []) y:=by
 simp only[zah,Den] at h ⊢;exact⟨none,0,[],h,⟨zd _,fun ad h=>by cases h⟩,rfl,by simp,by simp⟩
theorem zew {P:Program} [Tabs P] {f:FuncId} {args:List AV} {objs:List OB} {K:List OB->AV->Prop} (r':AV) (hc:zad P f args objs (fun o r=>(∀G I y,Den G I r y->Den G I r' y)/\K o r')):zad P f args objs K:=by
 intro C _ G I w hin hm ys hd;refine(hc C G I w hin hm ys hd).mono ?_;rintro e w' ⟨y,objs',r,G',I',he,⟨hr,hk⟩,h1,h2,h3,h4,hy⟩;exact⟨y,objs',r',G',I',he,hk,h1,h2,h3,h4,hr _ _ _ hy⟩
theorem set_same {α:Type} {l:List α} {i:Nat} {x:α} (h:l[i]? = some x):l.set i x=l:=by
 obtain⟨h1,h2⟩:=zf.1 h;rw[<-h2,List.set_getElem_self]
theorem gn2 {α:Type} (l:List α) (a z:α):(l++[a]++[z])[l.length+1]? = some z:=by
 rw[List.getElem?_append_right (by simp)];simp
theorem zaD:∀l:List (List UInt8),zal (l.map AV.s)=true
 | []=>rfl
 | _::l=>zaD l
mutual
theorem zh5 {o:List OB}:∀{d:Nat} {x:AV},x.plain=true->pub o d x=some x
 | d,.agg cs,h=>by
  simp only[pub];rw[zdN (show zal cs=true from h)];rfl
 | d,.tup cs,h=>by
  simp only[pub];rw[zdN (show zal cs=true from h)];rfl
 | d,.s l,h=>by cases d<;>(simp only[pub];rfl)
 | d,.i k n,h=>by cases d<;>(simp only[pub];rfl)
 | d,.b x,h=>by cases d<;>(simp only[pub];rfl)
 | d,.nil,h=>by cases d<;>(simp only[pub];rfl)
 | d,.zn x,h=>by cases d<;>(simp only[pub];rfl)
 | d,.o v,h=>by cases d<;>(simp only[pub];rfl)
 | d,.u,h=>by cases d<;>(simp only[pub];rfl)
 | d,.row n xs,h=>by cases d<;>(simp only[pub];rw[if_pos h])
 | d,.crow n xs,h=>by cases d<;>(simp only[pub];rw[if_pos h])
 | d,.prow xs j,h=>by cases d<;>(simp only[pub];rw[if_pos h])
 | d,.fn f fs cs,h=>by cases d<;>(simp only[pub];rw[if_pos h])
 | d,.p b off,h=>by simp[AV.plain] at h
 | d,.orow b g,h=>by simp[AV.plain] at h
 | d,.porow b g j,h=>by simp[AV.plain] at h
 | d,.bsl b off n,h=>by simp[AV.plain] at h
 | d,.m b,h=>by simp[AV.plain] at h
theorem zdN {o:List OB}:∀{d:Nat} {xs:List AV},zal xs=true->ze0 o d xs=some xs
 | d,[],h=>by simp only[ze0]
 | d,x::xs,h=>by
  simp only[zal,Bool.and_eq_true] at h;simp only[ze0];rw[zh5 h.1,zdN h.2]
end
end
section
attribute [local irreducible] run
def PlO:OB->Prop
 | .box _ cs=>zal cs=true
 | _=>True
theorem ziP {X:OB} (h:PlO X) (b g n:Nat) (xs:List AV):zf6 b g n xs X=X:=by
 cases X with
 | box T cs=>show OB.box T _=_;rw[zdH h]
 | _=>rfl
def PlM (m:Nat):OB->Prop
 | .box _ cs=>∀c∈cs,c.plain=true\/∃r g,c=.orow r g/\r<m
 | _=>True
theorem zgo:∀{l:List AV},zal l=true->∀c∈l,c.plain=true
 | [],_,c,h=>by cases h
 | a::l,hp,c,h=>by
  simp only[zal,Bool.and_eq_true] at hp;rcases zu.1 h with rfl|h
  ·exact hp.1
  ·exact zgo hp.2 c h
theorem PlO.m {Y:OB} (h:PlO Y) (m:Nat):PlM m Y:=by
 cases Y with
 | box T cs=>exact fun c hc=>.inl (zgo h c hc)
 | _=>trivial
theorem PlM.mono {m m':Nat} {Y:OB} (h:PlM m Y) (hm:m<=m'):PlM m' Y:=by
 cases Y with
 | box T cs=>
  intro c hc;rcases h c hc with h|⟨r,g,h1,h2⟩
  ·exact .inl h
  ·exact .inr ⟨r,g,h1,Nat.lt_of_lt_of_le h2 hm⟩
 | _=>trivial
theorem sub_plm {m b g n:Nat} {xs:List AV} {X:OB} (h:PlM m X) (hm:m<=b):zf6 b g n xs X=X:=by
 cases X with
 | box T cs=>
  have e:∀c∈cs,zbc b g n xs c=id c:=by
   intro c hc;rcases h c hc with h|⟨r,g',rfl,h2⟩
   ·exact zcC h
   ·simp only[zbc];rw[if_neg (by omega)];rfl
  show OB.box T _=_;rw[show cs.map (zbc b g n xs)=cs from(List.map_congr_left e).trans (List.map_id cs)]
 | _=>rfl
def Ext (o o':List OB) (b:Nat) (X:OB):Prop:=o'[b]? = some X/\o.length<=o'.length/\∀i Y,i≠b->o[i]? = some Y->PlM o.length Y->o'[i]? = some Y
theorem Ext.app {o o':List OB} {b:Nat} {X:OB} (h:Ext o o' b X) (z:OB):Ext o (o'++[z]) b X:=by
 obtain⟨h1,h2,h3⟩:=h;refine⟨by rw[zj (zf.1 h1).1];exact h1,by simp;omega,fun i Y hb hi hp=>?_⟩;have:=h3 i Y hb hi hp;rw[zj (zf.1 this).1];exact this
theorem Ext.refl {o:List OB} {b:Nat} {X:OB} (h:o[b]? = some X):Ext o o b X:=⟨h,zd _,fun _ _ _ h _=>h⟩
theorem Ext.trans {o o1 o2:List OB} {b:Nat} {X Y:OB} (h1:Ext o o1 b X) (h2:Ext o1 o2 b Y):Ext o o2 b Y :=
 ⟨h2.1,Nat.le_trans h1.2.1 h2.2.1,fun i Z hb hi hp=>h2.2.2 i Z hb (h1.2.2 i Z hb hi hp) (hp.mono h1.2.1)⟩
theorem Ext.set {o o':List OB} {b:Nat} {X:OB} (h:Ext o o' b X) (Y:OB):Ext o (o'.set b Y) b Y:=by
 obtain⟨h1,h2,h3⟩:=h;refine⟨zk (zf.1 h1).1,by simp;exact h2,fun i Z hb hi hp=>?_⟩;rw[ze (fun e=>hb e.symm)];exact h3 i Z hb hi hp
theorem Ext.own {o o':List OB} {b:Nat} {X:OB} (h:Ext o o' b X) (j:Nat) (Y:OB) (hj:o.length<=j) (hb:b<o.length):Ext o (o'.set j Y) b X:=by
 obtain⟨h1,h2,h3⟩:=h;refine⟨by rw[ze (by omega)];exact h1,by simp;exact h2,fun i Z hn hi hp=>?_⟩;have:=(zf.1 hi).1;rw[ze (by omega)];exact h3 i Z hn hi hp
theorem Ext.pub {o o':List OB} {b:Nat} {X:OB} (h:Ext o o' b X) (hX:PlO X) (r g n:Nat) (xs:List AV) (hr:o.length<=r) (hb:b<o.length):Ext o (zc9 o' r g n xs) b X:=by
 obtain⟨h1,h2,h3⟩:=h;unfold zc9;refine⟨by rw[ze (by omega),qm,h1,ja,ziP hX],by simp;exact h2,fun i Z hn hi hp=>?_⟩;have:=(zf.1 hi).1;rw[ze (by omega),qm,h3 i Z hn hi hp,ja,sub_plm hp hr]
def RowT (m:Nat) (l:List (List UInt8)) (o:List OB) (X:AV):Prop:=(l=[]/\X=.nil)\/∃r g,X=.orow r g/\m<=r/\o[r]? = some (.orow 9 1 g l.length (l.map .s))
theorem RowT.mono {m:Nat} {l:List (List UInt8)} {o:List OB} {X:AV} (h:RowT m l o X) (z:OB):RowT m l (o++[z]) X:=by
 rcases h with h|⟨r,g,h1,h0,h2⟩
 ·exact .inl h
 ·exact .inr ⟨r,g,h1,h0,by rw[zj (zf.1 h2).1];exact h2⟩
theorem jgetJ_ok {v:JV} (hv:JOk v) (key:List UInt8):JOk (zbA v key).1:=by
 unfold zbA
 split
 ·split
  ·rename_i x hx;obtain⟨hi,rfl⟩:=zf.1 hx;exact hv.its hi
  ·rw[jvZ,JOk];exact⟨by decide,by simp,by simp,by simp,by simp,by rw[zeY];trivial⟩
 ·rw[jvZ,JOk];exact⟨by decide,by simp,by simp,by simp,by simp,by rw[zeY];trivial⟩
theorem jbd_z:JBd jvZ:=by rw[jvZ,JBd];exact⟨by simp,by simp,by rw[zdX];trivial⟩
theorem zks {v:JV} (hv:JBd v) (key:List UInt8):JBd (zbA v key).1:=by
 unfold zbA
 split
 ·split
  ·rename_i x hx;obtain⟨hi,rfl⟩:=zf.1 hx;obtain⟨k,t,ks,its⟩:=v;rw[JBd] at hv;exact zjd hv.2.2 hi
  ·exact jbd_z
 ·exact jbd_z
end
end Go.Proofs.YtceenajkieomoaaGreatDoor
namespace Go.Proofs.YtceenajkieomoaaGreatDoor
open Go.RowKit
theorem zcz.cap {w:World} {B g n cap:Nat} {l:List UInt8} (h:zcz w B (.slice (some ⟨g,0,none⟩) n cap) l):n=l.length/\n<=cap/\cap<=maxLen:=by
 rcases h.2 with ⟨e,_⟩|⟨g',cap',cur,e,hb,hg,hnc,hcm,_⟩
 ·simp at e
 ·simp only[Value.slice.injEq] at e;obtain⟨_,rfl,rfl⟩:=e;exact⟨rfl,hnc,hcm⟩
theorem zcz.pre {w:World} {B g n cap:Nat} {l:List UInt8} (h:zcz w B (.slice (some ⟨g,0,none⟩) n cap) l) (k:Nat) (hk:k<=l.length):zcz w B (.slice (some ⟨g,0,none⟩) k cap) (l.take k):=by
 rcases h.2 with ⟨e,_⟩|⟨g',cap',cur,e,hb,hg,hnc,hcm,hcs,ht⟩
 ·simp at e
 ·simp only[Value.slice.injEq] at e;obtain⟨hgg,rfl,rfl⟩:=e;obtain rfl:g=g':=by simpa using hgg
  have hlen:(l.take k).length=k:=by rw[List.length_take];omega
  refine⟨by rw[zdp];simp,.inr ⟨g,cap,cur,by rw[hlen],hb,hg,by rw[hlen];omega,hcm,hcs,?_⟩⟩;rw[hlen];have:=congrArg (List.take k) ht;rw[Nat.mul_one] at this ⊢;rw[List.take_take,Nat.min_eq_left hk] at this;rw[this];simp[bv,List.map_take]
end Go.Proofs.YtceenajkieomoaaGreatDoor
namespace Go.Proofs.YtceenajkieomoaaGreatDoor
open Go.RowKit
attribute [local go_sem ↓] Go.wp_at_zero Go.wp_at_succ
end Go.Proofs.YtceenajkieomoaaGreatDoor
namespace Go.Proofs.YtceenajkieomoaaGreatDoor
open Go.RowKit Sx
section
variable [Tabs Tryz.prog] {objs:List OB} {K:List OB->AV->Prop}
end
section
variable [Tabs Tryz.prog] {objs:List OB} {K:List OB->AV->Prop}
end
end Go.Proofs.YtceenajkieomoaaGreatDoor
namespace Go.Proofs.YtceenajkieomoaaGreatDoor
open Go.RowKit
open Lib renaming hid->zb
open List renaming mem_cons->zu
theorem ze7 (c:UInt8):∀(l x:List UInt8),x∈za8 c l->x.length<=l.length
 | [],x,h=>by simp[za8] at h;subst h;simp
 | y::t,x,h=>by
  rw[zaZ] at h
  by_cases hy:y=c
  ·rw[if_pos hy] at h;rcases zu.1 h with rfl|h
   ·simp
   ·have:=ze7 c t x h;simp;omega
  ·obtain⟨p,ps,e⟩:=zbo c t;have ih:=ze7 c t;rw[if_neg hy,e] at h;rw[e] at ih;rcases zu.1 h with rfl|h
   ·have:=ih p (by simp);simp;omega
   ·have:=ih x (List.mem_cons_of_mem _ h);simp;omega
def hvN (c:UInt8):Nat:=if c.toNat<=57 then c.toNat - 48 else if c.toNat<=70 then c.toNat - 55 else c.toNat - 87
def hv (c:UInt8):UInt8:=UInt8.ofNat (hvN c)
theorem zii {c:UInt8} (h:za0 c=true):48<=c.toNat/\c.toNat<=57\/97<=c.toNat/\c.toNat<=102\/65<=c.toNat/\c.toNat<=70:=of_decide_eq_true h
theorem zc8 {c:UInt8} (h:za0 c=true):(hv c).toNat=hvN c/\hvN c<16:=by
 have:=zii h;have h2:hvN c<16:=by unfold hvN;(repeat' split)<;>omega
 exact⟨by unfold hv;rw[UInt8.toNat_ofNat'];omega,h2⟩
theorem and_223:∀n:Fin 256,bits .and .u8 ((n.val:Nat):Int) 223=((n.val &&& 223:Nat):Int):=by decide +kernel
theorem and_15:∀n:Fin 256,bits .and .u8 ((n.val:Nat):Int) 15=((n.val % 16:Nat):Int):=by decide +kernel
theorem hex_223:∀n:Fin 256,(97<=n.val/\n.val<=102\/65<=n.val/\n.val<=70)->(n.val &&& 223)=(if n.val<=70 then n.val else n.val - 32):=by decide +kernel
theorem zgp (c:UInt8) (h:za0 c=true) (w:World) :
  Calls Tryz.prog 138 #[.int .u8 c.toNat] w fun e w'=>e=.returned (.int .u8 (hv c).toNat)/\w=w':=by
 have H:=zb h;clear h
 go_enter Tryz.func138,Tryz.ntmps138
 go_wp2_with (go_at_call 109;refine(zdW _ _).mono ?_;rintro e w' ⟨rfl,rfl⟩)
 ·have hd:zaq c=true:=by assumption
  go_ret
  refine⟨zde ?_,rfl⟩;have h1:=zc8 H.out;have h2:48<=c.toNat/\c.toNat<=57:=of_decide_eq_true hd;rw[h1.1];unfold hvN;rw[if_pos h2.2];omega
 ·have hd:zaq c=false:=by assumption
  go_ret
  refine⟨zde ?_,rfl⟩;have h1:=zc8 H.out;have h2:¬(48<=c.toNat/\c.toNat<=57):=of_decide_eq_false hd;have h3:=zii H.out;rw[h1.1,and_223 ⟨c.toNat,c.toNat_lt⟩,hex_223 ⟨c.toNat,c.toNat_lt⟩ (by show _\/_;simp only;omega)];unfold hvN;simp only
  split<;>split<;>(try split)<;>omega
def zeB (n:Nat):UInt8:=[48,49,50,51,52,53,54,55,56,57,65,66,67,68,69,70].getD n 0
def zeD (c:UInt8):List UInt8:=[37,zeB (c.toNat / 16),zeB (c.toNat % 16)]
theorem zkx (i:Nat) (h:i<ByteArray.size { data:=#[48,49,50,51,52,53,54,55,56,57,65,66,67,68,69,70] }) :
  ({ data:=#[48,49,50,51,52,53,54,55,56,57,65,66,67,68,69,70] }:ByteArray)[i]=zeB i:=by
 have h':i<[(48:UInt8),49,50,51,52,53,54,55,56,57,65,66,67,68,69,70].length:=h;unfold zeB;rw[List.getD_eq_getElem?_getD,List.getElem?_eq_getElem h']
 rfl
theorem news3 (W:World) (a b c:Value):∀j u,[a,b,c][j]? = some u->(W.alloc (.cells #[a,b,c] 5)).cell? ((⟨W.heap.size,0,none⟩:Addr).add j)=some u:=by
 intro j u hj;rw[zay,World.cell?_alloc_at _ _ _ _ rfl];simpa using hj
theorem news1 (W:World) (a:Value):∀j u,[a][j]? = some u->(W.alloc (.cells #[a] 5)).cell? ((⟨W.heap.size,0,none⟩:Addr).add j)=some u:=by
 intro j u hj;rw[zay,World.cell?_alloc_at _ _ _ _ rfl];simpa using hj
theorem zlI (c:UInt8) (i j:Nat) (hi:i=c.toNat / 16) (hj:j=c.toNat % 16) (h1:i<ByteArray.size { data:=#[48,49,50,51,52,53,54,55,56,57,65,66,67,68,69,70] }) (h2:j<ByteArray.size { data:=#[48,49,50,51,52,53,54,55,56,57,65,66,67,68,69,70] }) :
  bv (zeD c)=[.int .u8 37,.int .u8 (({ data:=#[48,49,50,51,52,53,54,55,56,57,65,66,67,68,69,70] }:ByteArray)[i]).toNat,.int .u8 (({ data:=#[48,49,50,51,52,53,54,55,56,57,65,66,67,68,69,70] }:ByteArray)[j]).toNat]:=by
 rw[zkx,zkx,hi,hj];rfl
theorem ze5 (v:Value) (l:List UInt8) (c:UInt8) (B:Nat) (w:World) (h:zcz w B v l) (hl:l.length<=1000000000) (hB:B<=w.heap.size) :
  Calls Tryz.prog 128 #[v,.int .u8 c.toNat] w fun e w'=>∃v',e=.returned v'/\zcz w' B v' (l++zeD c)/\Below B w w':=by
 have hc:=c.toNat_lt;have a1:(0:Int)<=(c.toNat:Int) / 16:=by omega
 have a2:(c.toNat:Int) / 16<16:=by omega
 have b1:(0:Int)<=(c.toNat:Int) % 16:=by omega
 have b2:(c.toNat:Int) % 16<16:=by omega
 have hand:=and_15 ⟨c.toNat,c.toNat_lt⟩;simp only at hand;have hcells:=zb (zlI c ((c.toNat:Int) / 16).toNat ((c.toNat:Int) % 16).toNat (by omega) (by omega) (by show _<16;omega) (by show _<16;omega))
 go_enter Tryz.func128,Tryz.ntmps128
 go_wp2_with fail
 go_region_law (first|(refine zfq rfl (.tmp 5) (.tmp 12) rfl B v l (zeD c) rfl (zcz.drew (h.alloc _)) _ _ _ rfl rfl (by rw[hcells.out];exact news3 _ _ _ _) (by simp[zeD];omega) (by simp;omega) ?_;intro v1 w1 hr1 hb1)|fail)
 all_goals have hb2:Below B w w1:=(((Below.refl B w).alloc hB _).drew).trans hb1
 all_goals (try go_wp2_with fail)
 all_goals go_ret
 all_goals exact⟨_,rfl,hr1,hb2⟩
def zcb (c:UInt8) (also:List UInt8):Bool:=zaH c||(c.toNat != 37&&zcl c also)
theorem zc0 (c:UInt8) (s:ByteArray) (w:World) :
  Calls Tryz.prog 129 #[.int .u8 c.toNat,.string s] w fun e w'=>e=.returned (.bool (zcb c s.data.toList))/\w=w':=by
 go_enter Tryz.func129,Tryz.ntmps129
 go_wp2_with (first|(go_at_call 127;refine(zc7 _ _).mono ?_;rintro e w' ⟨rfl,rfl⟩)|(go_at_call 102;refine(Tryz.strings_IndexByte _ _ _).mono ?_;rintro e w' ⟨rfl,rfl⟩))
 ·have h1:zaH c=true:=by assumption
  go_ret
  exact⟨za1 (by unfold zcb;rw[h1];rfl),rfl⟩
 ·have h1:¬zaH c=true:=by assumption
  have h2:(c.toNat:Int)=37:=by assumption
  go_ret
  refine⟨za1 ?_,rfl⟩;unfold zcb;have h3:c.toNat=37:=by omega
  rw[Bool.eq_false_iff.2 h1,h3];rfl
 ·have h1:¬zaH c=true:=by assumption
  have h2:¬(c.toNat:Int)=37:=by assumption
  go_ret
  refine⟨za1 ?_,rfl⟩;unfold zcb zcl;have h3:¬c.toNat=37:=by omega
  rw[Bool.eq_false_iff.2 h1,Lib.contains_iff_indexByte,bne_iff_ne.2 h3,bne_iff_ne.2 h2];rfl
def zbG:List UInt8->Bool
 | _::a::b::_=>za0 a&&za0 b
 | _=>false
def zcm:List UInt8->UInt8
 | _::a::b::_=>UInt8.ofNat (16*hvN a+hvN b)
 | _=>0
theorem drop3 (s:ByteArray) (k:Nat) (h:k+2<s.size):s.data.toList.drop k=s[k]::s[k+1]::s[k+2]::s.data.toList.drop (k+3):=by
 rw[zaV s k (by omega),zaV s (k+1) (by omega),zaV s (k+2) (by omega)]
theorem zfQ (s:ByteArray) (k:Nat) (h:¬k+2<s.size):zbG (s.data.toList.drop k)=false:=by
 have hl:(s.data.toList.drop k).length<=2:=by rw[List.length_drop,zap];omega
 revert hl
 generalize s.data.toList.drop k=l;intro hl
 match l,hl with
 | [],_=>rfl
 | [_],_=>rfl
 | [_,_],_=>rfl
theorem zbM (s:ByteArray) (k:Nat) (hk:k<=s.size) (hs:s.size<=maxLen) (w:World) :
  Calls Tryz.prog 137 #[.string s,.int .i64 k] w fun e w'=>e=.returned (.bool (zbG (s.data.toList.drop k)))/\w=w':=by
 unfold maxLen at hs
 by_cases hlt:k+2<s.size
 ·have HD:=zb (drop3 s k hlt)
  go_enter Tryz.func137,Tryz.ntmps137
  go_wp2_with (go_at_call 150;refine(zo8 _ _).mono ?_;rintro e w' ⟨rfl,rfl⟩)
  ·have h1:za0 s[k+1]=true:=by assumption
   go_ret
   exact⟨za1 (by rw[HD.out];simp only[zbG,h1,Bool.true_and]),rfl⟩
  ·have h1:¬za0 s[k+1]=true:=by assumption
   go_ret
   exact⟨za1 (by rw[HD.out];simp only[zbG,Bool.eq_false_iff.2 h1,Bool.false_and]),rfl⟩
 ·have HD:=zb (zfQ s k hlt)
  go_enter Tryz.func137,Tryz.ntmps137
  go_wp2_with fail
  go_ret
  exact⟨za1 HD.out.symm,rfl⟩
theorem escV_nat {a b:UInt8} (ha:za0 a=true) (hb:za0 b=true):(UInt8.ofNat (16*hvN a+hvN b)).toNat=16*(hv a).toNat+(hv b).toNat:=by
 have h1:=zc8 ha;have h2:=zc8 hb;rw[UInt8.toNat_ofNat',h1.1,h2.1];omega
end Go.Proofs.YtceenajkieomoaaGreatDoor
