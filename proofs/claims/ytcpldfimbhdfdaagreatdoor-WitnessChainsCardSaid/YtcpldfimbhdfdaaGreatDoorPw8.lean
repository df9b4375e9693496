/- The texts that the proofs of these statements reach, in their order, as few files. -/
import Derived.Test.YtcpldfimbhdfdaaGreatDoorPw7
set_option linter.unusedVariables false
set_option linter.unusedSimpArgs false
set_option maxRecDepth 100000
namespace Go.Proofs.YtcpldfimbhdfdaaGreatDoor
open Go.RowKit
open Lib renaming hasPrefix->zz, split->qp
open List renaming length_drop->jh
def zdR (c:UInt8):Nat:=if c.toNat<128 then 1 else if c.toNat<192 then 0 else if c.toNat<224 then 2 else if c.toNat<240 then 3 else if c.toNat<248 then 4 else 0
theorem zis:∀n:Fin 256,lensT.getD (n.val / 8) 0=(zdR (UInt8.ofNat n.val):Int):=by decide +kernel
theorem zha (c:UInt8):lensT.getD (c.toNat / 8) 0=(zdR c:Int):=by
 have:=zis ⟨c.toNat,c.toNat_lt⟩;simp only at this;rw[this];congr 2;exact UInt8.ofNat_toNat
def za5 (c:UInt8) (n:Nat):Nat:=if n=1 then c.toNat else if n=2 then c.toNat % 32 else if n=3 then c.toNat % 16 else c.toNat % 8
def zlz:List UInt8->Nat->Option Nat
 | [],r=>some r
 | c::t,r=>if zb7 c=true then zlz t (r*64+(c.toNat - 128)) else none
def endU (n r:Nat):Option (Nat×Nat):=if mostT.getD (n - 1) 0<(r:Int)/\cpB (r:Int)=true then some (r,n) else none
def zcs (n:Nat) (t:List UInt8) (r:Nat):Option (Nat×Nat):=match zlz t r with|none=>none|some r=>endU n r
theorem zbS (n r:Nat):zcs n [] r=endU n r:=rfl
theorem zaK (n r:Nat) (c:UInt8) (t:List UInt8):zcs n (c::t) r=if zb7 c=true then zcs n t (r*64+(c.toNat - 128)) else none:=by
 unfold zcs;rw[zlz]
 by_cases h:zb7 c=true
 ·rw[if_pos h,if_pos h]
 ·rw[if_neg h,if_neg h]
theorem zeT {n r:Nat} {p:Prop} [Decidable p] (h:(mostT.getD (n - 1) 0<(r:Int)/\cpB (r:Int)=true)↔p):endU n r=if p then some (r,n) else none:=by
 unfold endU
 by_cases hp:p
 ·rw[if_pos hp,if_pos (h.2 hp)]
 ·rw[if_neg hp,if_neg (fun e=>hp (h.1 e))]
theorem ziB {c:UInt8} {t:List UInt8} (h:zdR c=0\/t.length+1<zdR c):zfS (c::t)=none:=by
 unfold zdR at h;rw[zfS]
 by_cases h1:c.toNat<128
 ·rw[if_pos h1] at h;omega
 rw[if_neg h1] at h ⊢
 by_cases h2:c.toNat<192
 ·rw[if_pos h2]
 rw[if_neg h2] at h ⊢
 by_cases h3:c.toNat<224
 ·rw[if_pos h3] at h ⊢;rcases t with _|⟨a,t⟩
  ·rfl
  ·simp at h;omega
 rw[if_neg h3] at h ⊢
 by_cases h4:c.toNat<240
 ·rw[if_pos h4] at h ⊢;rcases t with _|⟨a,_|⟨b,t⟩⟩
  ·rfl
  ·rfl
  ·simp at h;omega
 rw[if_neg h4] at h ⊢
 by_cases h5:c.toNat<248
 ·rw[if_pos h5] at h ⊢;rcases t with _|⟨a,_|⟨b,_|⟨d,t⟩⟩⟩
  ·rfl
  ·rfl
  ·rfl
  ·simp at h;omega
 ·rw[if_neg h5]
theorem zbp (c:UInt8):zb7 c=true↔128<=c.toNat/\c.toNat<192:=by unfold zb7;exact decide_eq_true_iff
theorem zh0 {r:Nat} (h:r<55296):cpB (r:Int)=true:=decide_eq_true (by omega)
theorem zlx {c:UInt8} {t:List UInt8} (h0:zdR c≠0) (h:zdR c<=t.length+1):zfS (c::t)=zcs (zdR c) (t.take (zdR c - 1)) (za5 c (zdR c)):=by
 have hc:=c.toNat_lt;unfold zdR at h0 h ⊢;rw[zfS]
 by_cases h1:c.toNat<128
 ·rw[if_pos h1] at h0 h ⊢;rw[if_pos h1,Nat.sub_self,List.take_zero,zbS,zeT (p:=True)]
  ·rw[if_pos trivial];rfl
  ·simp only[iff_true];exact⟨by show (-1:Int)<_;omega,zh0 (by unfold za5;rw[if_pos rfl];omega)⟩
 rw[if_neg h1] at h0 h ⊢;rw[if_neg h1]
 by_cases h2:c.toNat<192
 ·rw[if_pos h2] at h0;exact absurd rfl h0
 rw[if_neg h2] at h0 h ⊢;rw[if_neg h2]
 by_cases h3:c.toNat<224
 ·rw[if_pos h3] at h0 h ⊢;rw[if_pos h3];rcases t with _|⟨a,t⟩
  ·simp at h
  show dec2 c (a::t)=zcs 2 [a] (za5 c 2);rw[dec2,zaK,zbS];have e:za5 c 2=c.toNat - 192:=by unfold za5;rw[if_neg (by decide),if_pos rfl];omega
  by_cases ha:zb7 a=true
  ·have ha':=(zbp a).1 ha;rw[if_pos ha,e,zeT (p:=128<=r2 c a)]
   ·by_cases hr:128<=r2 c a
    ·rw[if_pos ⟨ha,hr⟩,if_pos hr];rfl
    ·rw[if_neg (fun x=>hr x.2),if_neg hr]
   ·show ((127:Int)<_/\_)↔_;unfold r2
    constructor
    ·intro x;have:=x.1;omega
    ·intro x;exact⟨by omega,zh0 (by omega)⟩
  ·rw[if_neg ha,if_neg (fun x=>ha x.1)]
 rw[if_neg h3] at h0 h ⊢;rw[if_neg h3]
 by_cases h4:c.toNat<240
 ·rw[if_pos h4] at h0 h ⊢;rw[if_pos h4];rcases t with _|⟨a,_|⟨b,t⟩⟩
  ·simp at h
  ·simp at h
  show dec3 c (a::b::t)=zcs 3 [a,b] (za5 c 3);rw[dec3,zaK,zaK,zbS];have e:za5 c 3=c.toNat - 224:=by unfold za5;rw[if_neg (by decide),if_neg (by decide),if_pos rfl];omega
  by_cases ha:zb7 a=true
  ·by_cases hb:zb7 b=true
   ·have ha':=(zbp a).1 ha;have hb':=(zbp b).1 hb;have er:((c.toNat - 224)*64+(a.toNat - 128))*64+(b.toNat - 128)=r3 c a b:=by unfold r3;omega
    rw[if_pos ha,if_pos hb,e,er,zeT (p:=2048<=r3 c a b/\cpB (r3 c a b:Int)=true)]
    ·by_cases hr:2048<=r3 c a b/\cpB (r3 c a b:Int)=true
     ·rw[if_pos ⟨ha,hb,hr⟩,if_pos hr]
     ·rw[if_neg (fun x=>hr x.2.2),if_neg hr]
    ·show ((2047:Int)<_/\_)↔_
     constructor
     ·intro x;exact⟨by omega,x.2⟩
     ·intro x;exact⟨by omega,x.2⟩
   ·rw[if_pos ha,if_neg hb,if_neg (fun x=>hb x.2.1)]
  ·rw[if_neg ha,if_neg (fun x=>ha x.1)]
 rw[if_neg h4] at h0 h ⊢;rw[if_neg h4]
 by_cases h5:c.toNat<248
 ·rw[if_pos h5] at h0 h ⊢;rw[if_pos h5];rcases t with _|⟨a,_|⟨b,_|⟨d,t⟩⟩⟩
  ·simp at h
  ·simp at h
  ·simp at h
  show dec4 c (a::b::d::t)=zcs 4 [a,b,d] (za5 c 4);rw[dec4,zaK,zaK,zaK,zbS];have e:za5 c 4=c.toNat - 240:=by unfold za5;rw[if_neg (by decide),if_neg (by decide),if_neg (by decide)];omega
  by_cases ha:zb7 a=true
  ·by_cases hb:zb7 b=true
   ·by_cases hd:zb7 d=true
    ·have ha':=(zbp a).1 ha;have hb':=(zbp b).1 hb;have hd':=(zbp d).1 hd;have er:(((c.toNat - 240)*64+(a.toNat - 128))*64+(b.toNat - 128))*64+(d.toNat - 128)=r4 c a b d:=by unfold r4;omega
     rw[if_pos ha,if_pos hb,if_pos hd,e,er,zeT (p:=65536<=r4 c a b d/\r4 c a b d<=1114111)]
     ·by_cases hr:65536<=r4 c a b d/\r4 c a b d<=1114111
      ·rw[if_pos ⟨ha,hb,hd,hr⟩,if_pos hr]
      ·rw[if_neg (fun x=>hr x.2.2.2),if_neg hr]
     ·show ((65535:Int)<_/\_)↔_
      constructor
      ·intro x;have:=of_decide_eq_true x.2;exact⟨by omega,by omega⟩
      ·intro x;exact⟨by omega,decide_eq_true (by omega)⟩
    ·rw[if_pos ha,if_pos hb,if_neg hd,if_neg (fun x=>hd x.2.2.1)]
   ·rw[if_pos ha,if_neg hb,if_neg (fun x=>hb x.2.1)]
  ·rw[if_neg ha,if_neg (fun x=>ha x.1)]
 ·rw[if_neg h5] at h0;exact absurd rfl h0
theorem and31 (a:Nat):a &&& 31=a % 32:=Nat.and_two_pow_sub_one_eq_mod a 5
theorem and15 (a:Nat):a &&& 15=a % 16:=Nat.and_two_pow_sub_one_eq_mod a 4
theorem and7 (a:Nat):a &&& 7=a % 8:=Nat.and_two_pow_sub_one_eq_mod a 3
theorem zeR (c:UInt8) (n:Nat) (h1:1<=n) (h2:n<=4) (w:World) :
  Calls Tryz.prog 504 #[.int .u8 c.toNat,.int .i64 n] w fun e w'=>e=.returned (.int .i64 (za5 c n))/\w=w':=by
 have hc:=c.toNat_lt;have a1:bits .and .i64 (c.toNat:Int) 31=((c.toNat % 32:Nat):Int):=by rw[<-and31];exact zci c.toNat 31 (by omega) (by omega)
 have a2:bits .and .i64 (c.toNat:Int) 15=((c.toNat % 16:Nat):Int):=by rw[<-and15];exact zci c.toNat 15 (by omega) (by omega)
 have a3:bits .and .i64 (c.toNat:Int) 7=((c.toNat % 8:Nat):Int):=by rw[<-and7];exact zci c.toNat 7 (by omega) (by omega)
 have H:=Lib.hid (And.intro a1 (And.intro a2 a3));clear a1 a2 a3;have hn:n=1\/n=2\/n=3\/n=4:=by omega
 rcases hn with rfl|rfl|rfl|rfl
 ·go_enter Tryz.func504,Tryz.ntmps504
  go_wp2
  go_ret
  exact⟨rfl,rfl⟩
 ·go_enter Tryz.func504,Tryz.ntmps504
  go_wp2
  go_ret
  exact⟨zf4 (by rw[H.out.1];rfl),rfl⟩
 ·go_enter Tryz.func504,Tryz.ntmps504
  go_wp2
  go_ret
  exact⟨zf4 (by rw[H.out.2.1];rfl),rfl⟩
 ·go_enter Tryz.func504,Tryz.ntmps504
  go_wp2
  go_ret
  exact⟨zf4 (by rw[H.out.2.2];rfl),rfl⟩
def zbj (l:List UInt8) (at_:Int):Int×Int×Int :=
 if at_<0\/(l.length:Int)<=at_ then (0,0,4) else match zfS (l.drop at_.toNat) with
  | none=>(0,0,7)
  | some (r,n)=>((r:Int),at_+n,0)
def triV (x:Int×Int×Int):Value:=.tuple #[.int .i64 x.1,.int .i64 x.2.1,.int .i64 x.2.2]
theorem ziC {l:List UInt8} {a:Int} (h:a<0\/(l.length:Int)<=a):zbj l a=(0,0,4):=if_pos h
theorem zbF {l:List UInt8} {k:Nat} (h:k<l.length) (hd:zfS (l.drop k)=none):zbj l k=(0,0,7):=by
 unfold zbj;rw[if_neg (by omega),Int.toNat_natCast,hd]
theorem zgv {l:List UInt8} {k r n:Nat} (h:k<l.length) (hd:zfS (l.drop k)=some (r,n)):zbj l k=((r:Int),(k:Int)+n,0):=by
 unfold zbj;rw[if_neg (by omega),Int.toNat_natCast,hd]
theorem ziJ (s:ByteArray) (a:Int) (w:World) (h:a<0\/(s.size:Int)<=a) :
  Calls Tryz.prog 487 #[.string s,.int .i64 a] w fun e w'=>e=.returned (triV (zbj s.data.toList a))/\Qb w w':=by
 rw[ziC (by rw[zaq];exact h)];rcases h with h|h
 ·go_enter Tryz.func487,Tryz.ntmps487
  go_wp2_with fail
  go_ret3
  exact⟨rfl,Qb.refl _⟩
 ·by_cases h0:a<0
  ·go_enter Tryz.func487,Tryz.ntmps487
   go_wp2_with fail
   go_ret3
   exact⟨rfl,Qb.refl _⟩
  ·go_enter Tryz.func487,Tryz.ntmps487
   go_wp2_with fail
   go_ret3
   exact⟨rfl,Qb.refl _⟩
theorem zfN (s:ByteArray) (k:Nat) (w:World) (hs:s.size<=140737488351232) (hk:k<s.size) (hT:UTabs w) (h:zdR s[k]=0\/s.size - k<zdR s[k]) :
  Calls Tryz.prog 487 #[.string s,.int .i64 k] w fun e w'=>e=.returned (triV (zbj s.data.toList k))/\Qb w w':=by
 have hd:zfS (s.data.toList.drop k)=none:=by
  rw[zbX s k hk];exact ziB (by rw[jh,zaq];omega)
 rw[zbF (by rw[zaq];exact hk) hd];have hc:=s[k].toNat_lt;have hcell:w.cell? ⟨4,s[k].toNat / 8,none⟩=some (.int .i64 (zdR s[k])):=by rw[<-zha];exact hT.lens _ (by omega)
 clear hT hd
 by_cases h0:zdR s[k]=0
 ·rw[h0] at hcell;clear h;have hi:(s[k].toNat:Int) / 8<32:=by omega
  go_enter Tryz.func487,Tryz.ntmps487
  go_wp2_with fail
  go_ret3
  exact⟨rfl,Qb.refl _⟩
 ·have h1:s.size - k<zdR s[k]:=by omega
  clear h;generalize zdR s[k]=n at *;have h2:((n:Int)==0)=false:=by rw[beq_eq_false_iff_ne];omega
  go_enter Tryz.func487,Tryz.ntmps487
  go_wp2_with fail
  go_ret3
  exact⟨rfl,Qb.refl _⟩
theorem pow64 (i:Nat):256*64 ^ (i+1)=64*(256*64 ^ i):=by rw[Nat.pow_succ];omega
theorem pow64_le {i:Nat} (h:i<=3):256*64 ^ i<=67108864:=by
 have:i=0\/i=1\/i=2\/i=3:=by omega
 rcases this with rfl|rfl|rfl|rfl<;>decide
theorem zdU (s:ByteArray) (m i:Nat) (h:i<s.size) (hm:0<m):(s.data.toList.drop i).take m=s[i]::(s.data.toList.drop (i+1)).take (m - 1):=by
 rw[zbX s i h,show m=(m - 1)+1 from by omega,List.take_succ_cons,Nat.add_sub_cancel]
theorem zjz {n r:Nat} {c:UInt8} {t:List UInt8} (h:zb7 c=false):zcs n (c::t) r=none:=by rw[zaK,if_neg (by rw[h];exact Bool.false_ne_true)]
theorem zij {n r:Nat} {c:UInt8} {t:List UInt8} (h:zb7 c=true):zcs n (c::t) r=zcs n t (r*64+c.toNat % 64):=by
 rw[zaK,if_pos h];have:=(zbp c).1 h;rw[show c.toNat - 128=c.toNat % 64 from by omega]
theorem zgD (s:ByteArray) (k n:Nat) (w:World) (hs:s.size<=140737488351232) (hk:k<s.size) (hT:UTabs w) (hn:zdR s[k]=n) (h1:1<=n) (h4:n<=4) (hl:k+n<=s.size) :
  Calls Tryz.prog 487 #[.string s,.int .i64 k] w fun e w'=>e=.returned (triV (zbj s.data.toList k))/\Qb w w':=by
 have hd:zfS (s.data.toList.drop k)=zcs n ((s.data.toList.drop (k+1)).take (n - 1)) (za5 s[k] n):=by
  rw[zbX s k hk,<-hn];exact zlx (by omega) (by rw[jh,zaq];omega)
 have HD:=Lib.hid hd;have hc:=s[k].toNat_lt;have hcell:w.cell? ⟨4,s[k].toNat / 8,none⟩=some (.int .i64 n):=by rw[<-hn,<-zha];exact hT.lens _ (by omega)
 have hmost:w.cell? ⟨5,n - 1,none⟩=some (.int .i64 (mostT.getD (n - 1) 0)):=hT.most _ (by omega);have hf:za5 s[k] n<256:=by
  unfold za5;repeat' split
  all_goals omega
 clear hT hd hn;have h2:((n:Int)==0)=false:=by rw[beq_eq_false_iff_ne];omega
 generalize hm:mostT.getD (n - 1) 0=mo at *;have HM:=Lib.hid hm;clear hm
 go_enter Tryz.func487,Tryz.ntmps487
 go_wp2_with (go_at_call 504;refine(zeR _ n h1 h4 _).mono ?_;rintro e w1 ⟨rfl,rfl⟩)
 go_loop [8,9,10,42] (fun r _ _ x=>∃i q:Nat,i+1<=n/\x=.int .i64 i/\r=.int .i64 q/\q<256*64 ^ i/\Hid (zfS (s.data.toList.drop k)=zcs n ((s.data.toList.drop (k+1+i)).take (n - 1 - i)) q)) (fun _ _ _ x=>n - (intOf x).toNat)
 case atStart=>exact⟨0,za5 s[k] n,by omega,rfl,rfl,by omega,HD⟩
 case round=>
  obtain⟨i,q,hi,rfl,rfl,hq,HR⟩:=hrel;have hp:=pow64_le (show i<=3 by omega);have hq2:q<67108864:=by omega
  by_cases hlt:i+1<n
  ·have hidx:k+1+i<s.size:=by omega
   have hcc:=s[k+1+i].toNat_lt;have HS:=Lib.hid (zdU s (n - 1 - i) (k+1+i) hidx (by omega));have HP:=Lib.hid (pow64 i);have Hq:=Lib.hid hq;clear hp hq;rcases hco:zb7 s[k+1+i] with _|_
   ·have hne:((s[k+1+i].toNat:Int) / 64 != 2)=true:=by
     rw[bne_iff_ne];intro e;have:=of_decide_eq_false hco;omega
    have HN:Hid (zfS (s.data.toList.drop k)=none):=Lib.hid (by rw[HR.out,HS.out,zjz hco])
    go_wp2_with fail
    go_ret3
    exact⟨by rw[zbF (by rw[zaq];exact hk) HN.out];rfl,Qb.refl _⟩
   ·have hne:((s[k+1+i].toNat:Int) / 64 != 2)=false:=by
     have:=(zbp _).1 hco;rw[bne_eq_false_iff_eq];omega
    have hand:bits .and .u8 (s[k+1+i].toNat:Int) 63=((s[k+1+i].toNat % 64:Nat):Int):=u8and63 ⟨s[k+1+i].toNat,hcc⟩;have hor:=or64 q (s[k+1+i].toNat % 64) (by omega) (by omega);have HN:Hid (zfS (s.data.toList.drop k)=zcs n ((s.data.toList.drop (k+1+(i+1))).take (n - 1 - (i+1))) (q*64+s[k+1+i].toNat % 64)):=Lib.hid (by
     rw[HR.out,HS.out,zij hco,show n - 1 - i - 1=n - 1 - (i+1) from by omega];rfl)
    have HO:Hid (bits .or .i64 ((q:Int)*64) ((s[k+1+i].toNat:Int) % 64)=((q*64+s[k+1+i].toNat % 64:Nat):Int)):=Lib.hid hor;clear hco hor
    go_wp2_with fail
    go_round
    case rel=>
     refine⟨i+1,q*64+s[k+1+i].toNat % 64,by omega,by go_num,by rw[HO.out],?_,HN⟩;rw[HP.out];have:=Hq.out;generalize 256*64 ^ i=P at *;omega
    case measure=>simp[intOf];omega
  ·obtain rfl:i=n - 1:=by omega
   have HE:Hid (zfS (s.data.toList.drop k)=endU n q):=Lib.hid (by rw[HR.out,Nat.sub_self,List.take_zero,zbS]);clear hp hq
   by_cases hle:(q:Int)<=mo
   ·have HN:Hid (zfS (s.data.toList.drop k)=none):=Lib.hid (by
     rw[HE.out];unfold endU;rw[HM.out,if_neg (fun x=>by omega)])
    go_wp2_with fail
    go_ret3
    exact⟨by rw[zbF (by rw[zaq];exact hk) HN.out];rfl,Qb.refl _⟩
   ·rcases hcp:cpB (q:Int) with _|_
    ·have HN:Hid (zfS (s.data.toList.drop k)=none):=Lib.hid (by
      rw[HE.out];unfold endU;rw[hcp,if_neg (fun x=>by cases x.2)])
     go_wp2_with (go_at_call 505;refine(zbU _ _).mono ?_;rintro e w1 ⟨rfl,rfl⟩)
     go_ret3
     exact⟨by rw[zbF (by rw[zaq];exact hk) HN.out];rfl,Qb.refl _⟩
    ·have HN:Hid (zfS (s.data.toList.drop k)=some (q,n)):=Lib.hid (by
      rw[HE.out];unfold endU;rw[HM.out,if_pos ⟨by omega,hcp⟩])
     go_wp2_with (go_at_call 505;refine(zbU _ _).mono ?_;rintro e w1 ⟨rfl,rfl⟩)
     go_ret3
     exact⟨by rw[zgv (by rw[zaq];exact hk) HN.out];rfl,Qb.refl _⟩
theorem ziK (s:ByteArray) (a:Int) (w:World) (hs:s.size<=140737488351232) (hT:UTabs w) :
  Calls Tryz.prog 487 #[.string s,.int .i64 a] w fun e w'=>e=.returned (triV (zbj s.data.toList a))/\Qb w w':=by
 by_cases h:a<0\/(s.size:Int)<=a
 ·exact ziJ s a w h
 ·obtain⟨k,rfl⟩:=Int.eq_ofNat_of_zero_le (show 0<=a by omega);have hk:k<s.size:=by omega
  by_cases h2:zdR s[k]=0\/s.size - k<zdR s[k]
  ·exact zfN s k w hs hk hT h2
  ·have h4:zdR s[k]<=4:=by
    unfold zdR;repeat' split
    all_goals omega
   exact zgD s k _ w hs hk hT rfl (by omega) h4 (by omega)
open Sx
class Utf (P:Program) [Tabs P]:Prop where
 ut:∀w:World,Tabs.T (P:=P) w->UTabs w
section
variable [Tabs Tryz.prog] {objs:List OB} {K:List OB->AV->Prop}
theorem zi2 [Utf Tryz.prog] (s:List UInt8) (a:Int) (hs:s.length<=140737488351232) (hk:K objs (.tup [.i .i64 (zbj s a).1,.i .i64 (zbj s a).2.1,.i .i64 (zbj s a).2.2])):zai Tryz.prog 487 [.s s,.i .i64 a] objs K :=
 convT (vs:=[.string (S s),.int .i64 a]) rfl rfl (fun w hT=>ziK (S s) a w (by rw[zdQ];exact hs) (Utf.ut w hT)) hk
end
section
attribute [local irreducible] run
def wtU:List AV->Option (List (List UInt8))
 | []=>some []
 | .s x::l=>(wtU l).map (x::·)
 | _=>none
theorem wtU_ok:∀{cs:List AV} {xs:List (List UInt8)},wtU cs=some xs->cs=xs.map .s
 | [],xs,h=>by
  rw[wtU] at h;injection h with h;subst h;rfl
 | c::cs,xs,h=>by
  unfold wtU at h
  split at h
  ·rename_i e;cases e
  ·rename_i x l e;injection e with e1 e2
   subst e1 e2;obtain⟨ys,hy,rfl⟩:=Option.map_eq_some_iff.1 h;rw[wtU_ok hy];rfl
  ·cases h
noncomputable def zet:Nat->List AV->Option AV:=fun f args=>match args with
 | [.s l]=>if f=25/\l.length<=1000000 then some (.s (za1 l)) else none
 | [.s s,.s [c]]=>if f=116/\s.length<=1000000 then some (.tup [.s (zaE c s).1,.s (zaE c s).2.1,.b (zaE c s).2.2]) else if f=222 then some (.tup [.s (Lib.trimPrefix s [c]),.b (zz s [c])]) else if f=123/\s.length<=1000000 then some (.i .i64 (Lib.index s [c])) else if f=124/\s.length<=1000000 then some (.row (qp s [c]).length ((qp s [c]).map .s)) else if f=371 then some (.b (decide (0<=Lib.indexByte s c))) else if f=444 then some (.b (zz s [c])) else none
 | [.s s,.s p]=>if f=222 then some (.tup [.s (Lib.trimPrefix s p),.b (zz s p)]) else if f=123/\s.length<=1000000 then some (.i .i64 (Lib.index s p)) else if f=124/\s.length<=1000000/\1<=p.length then some (.row (qp s p).length ((qp s p).map .s)) else if f=444 then some (.b (zz s p)) else none
 | [.nil,.s sep]=>if f=204 then some (.s []) else none
 | [.row n cs,.s sep]=>match wtU cs with
   | some xs=>if f=204/\n=xs.length/\xs.length<=1000000/\(Lib.join xs sep).length<=1000000 then some (.s (Lib.join xs sep)) else none
   | none=>none
 | [.s s,.i .u8 (.ofNat n)]=>if f=367/\n<256 then some (.i .i64 (Lib.indexByte s (UInt8.ofNat n))) else none
 | [.s s,.i .i64 n]=>if f=487/\s.length<=1000000 then some (.tup [.i .i64 (zbj s n).1,.i .i64 (zbj s n).2.1,.i .i64 (zbj s n).2.2]) else none
 | _=>none
section
variable [Tabs Tryz.prog] [Shp Tryz.prog] [Utf Tryz.prog]
theorem zda (f:Nat) (args:List AV) (r:AV) (h:zet f args=some r) (objs:List OB) (K:List OB->AV->Prop) (hk:K objs r):zai Tryz.prog f args objs K:=by
 unfold zet at h
 split at h
 ·rename_i l
  split at h
  ·rename_i c;obtain⟨rfl,c⟩:=c;injection h with h;subst h
   exact conv (vs:=[.string (S l)]) rfl rfl (fun w=>zim (S l) w (by rw[zdQ];omega)) hk
  ·cases h
 ·split at h
  ·rename_i c;obtain⟨rfl,c⟩:=c;injection h with h;subst h;exact sCut_k _ _ (by unfold maxLen;omega) hk
  ·split at h
   ·rename_i c;subst c;injection h with h;subst h;exact zcY _ _ hk
   ·split at h
    ·rename_i c;obtain⟨rfl,c⟩:=c;injection h with h;subst h;exact zhw _ _ c hk
    ·split at h
     ·rename_i c;obtain⟨rfl,c⟩:=c;injection h with h;subst h;exact zhv _ _ (by simp) c hk
     ·split at h
      ·rename_i sx cx _ _ _ _ c;subst c;injection h with h;subst h
       exact conv (vs:=[.string (S sx),.string (S [cx])]) rfl rfl (fun w=>(Tryz.strings_Contains_one (S sx) cx w).mono fun e w' ⟨h1,h2⟩=>⟨h1,Qb.rev h2⟩) hk
      ·split at h
       ·rename_i c;subst c;injection h with h;subst h;exact zcX _ _ hk
       ·cases h
 ·split at h
  ·rename_i c;subst c;injection h with h;subst h;exact zcY _ _ hk
  ·split at h
   ·rename_i c;obtain⟨rfl,c⟩:=c;injection h with h;subst h;exact zhw _ _ c hk
   ·split at h
    ·rename_i c;obtain⟨rfl,c,c2⟩:=c;injection h with h;subst h;exact zhv _ _ c2 c hk
    ·split at h
     ·rename_i c;subst c;injection h with h;subst h;exact zcX _ _ hk
     ·cases h
 ·rename_i sep
  split at h
  ·rename_i c;subst c;injection h with h;subst h
   exact zgA (zje [] sep (by simp) (by simp[Lib.join]) (by simpa[Lib.join] using hk))
  ·cases h
 ·split at h
  ·rename_i xs hx
   split at h
   ·rename_i c;obtain⟨rfl,rfl,c1,c2⟩:=c;injection h with h;subst h;rw[wtU_ok hx];exact zje _ _ (by omega) (by omega) hk
   ·cases h
  ·cases h
 ·rename_i s n
  split at h
  ·rename_i c;obtain⟨rfl,c⟩:=c;injection h with h;subst h
   have e:AV.i .u8 (.ofNat n)=.i .u8 ((UInt8.ofNat n).toNat:Int):=by
    rw[show (UInt8.ofNat n).toNat=n from by rw[UInt8.toNat_ofNat'];omega];rfl
   rw[e];exact zfi _ _ hk
  ·cases h
 ·split at h
  ·rename_i c;obtain⟨rfl,c⟩:=c;injection h with h;subst h;exact zi2 _ _ (by omega) hk
  ·cases h
 ·cases h
end
def zc6 (f:Nat):Bool:=[112,113,114,115,119,121,233,235,291,298,322,323,324,327,357,366,378,458,473,474].any (Nat.beq f)
theorem zcl (f : Nat) (h : zc6 f = true) : ∃ fn, Tryz.prog.funcs[f]? = some fn ∧ fn.body.isSome = true ∧ fn.name ≠ "runtime.NumGoroutine" := by
 unfold zc6 at h;simp only[List.any_cons,List.any_nil,Bool.or_eq_true,Nat.beq_eq,Bool.false_eq_true,or_false] at h;rcases h with rfl|rfl|rfl|rfl|rfl|rfl|rfl|rfl|rfl|rfl|rfl|rfl|rfl|rfl|rfl|rfl|rfl|rfl|rfl|rfl
 ·exact⟨_,Tryz.func112,by kernel_rfl,of_decide_eq_true (by kernel_rfl)⟩
 ·exact⟨_,Tryz.func113,by kernel_rfl,of_decide_eq_true (by kernel_rfl)⟩
 ·exact⟨_,Tryz.func114,by kernel_rfl,of_decide_eq_true (by kernel_rfl)⟩
 ·exact⟨_,Tryz.func115,by kernel_rfl,of_decide_eq_true (by kernel_rfl)⟩
 ·exact⟨_,Tryz.func119,by kernel_rfl,of_decide_eq_true (by kernel_rfl)⟩
 ·exact⟨_,Tryz.func121,by kernel_rfl,of_decide_eq_true (by kernel_rfl)⟩
 ·exact⟨_,Tryz.func233,by kernel_rfl,of_decide_eq_true (by kernel_rfl)⟩
 ·exact⟨_,Tryz.func235,by kernel_rfl,of_decide_eq_true (by kernel_rfl)⟩
 ·exact⟨_,Tryz.func291,by kernel_rfl,of_decide_eq_true (by kernel_rfl)⟩
 ·exact⟨_,Tryz.func298,by kernel_rfl,of_decide_eq_true (by kernel_rfl)⟩
 ·exact⟨_,Tryz.func322,by kernel_rfl,of_decide_eq_true (by kernel_rfl)⟩
 ·exact⟨_,Tryz.func323,by kernel_rfl,of_decide_eq_true (by kernel_rfl)⟩
 ·exact⟨_,Tryz.func324,by kernel_rfl,of_decide_eq_true (by kernel_rfl)⟩
 ·exact⟨_,Tryz.func327,by kernel_rfl,of_decide_eq_true (by kernel_rfl)⟩
 ·exact⟨_,Tryz.func357,by kernel_rfl,of_decide_eq_true (by kernel_rfl)⟩
 ·exact⟨_,Tryz.func366,by kernel_rfl,of_decide_eq_true (by kernel_rfl)⟩
 ·exact⟨_,Tryz.func378,by kernel_rfl,of_decide_eq_true (by kernel_rfl)⟩
 ·exact⟨_,Tryz.func458,by kernel_rfl,of_decide_eq_true (by kernel_rfl)⟩
 ·exact⟨_,Tryz.func473,by kernel_rfl,of_decide_eq_true (by kernel_rfl)⟩
 ·exact⟨_,Tryz.func474,by kernel_rfl,of_decide_eq_true (by kernel_rfl)⟩
end
end Go.Proofs.YtcpldfimbhdfdaaGreatDoor
namespace Go.Proofs.YtcpldfimbhdfdaaGreatDoor.Sx
open Go.RowKit
def tbl:TB Tryz.prog:=(.nd
 (.nd
 (.nd
 (.nd
 (.nd
 (.nd
 (.nd (.lf ⟨128,15,[.tmp 4,.tmp 5],c_head_Get,is_head_Get⟩) (.lf ⟨64,22,[.tmp 2,.tmp 3],c_ref05_Host,is_ref05_Host⟩))
 (.nd
 (.nd (.lf ⟨32,92,[.tmp 6,.tmp 7],c_made_document,is_made_document⟩) (.lf ⟨160,58,[.tmp 2],c_ref15_sorted,is_ref15_sorted⟩))
 (.nd
 (.nd (.lf ⟨96,5,[.celln 2 4],c_ref16_Text,is_ref16_Text⟩) (.lf ⟨352,32,[.tmp 6],c_ref16_reader_texts,is_ref16_reader_texts⟩)) (.lf ⟨480,17,[.tmp 2],c_ref02_point,is_ref02_point⟩))))
 (.nd
 (.nd
 (.nd (.lf ⟨16,69,[.celln 2 4,.tmp 3],c_ref12_Parse,is_ref12_Parse⟩) (.lf ⟨144,9,[.tmp 2],c_ref01_IsDigit,is_ref01_IsDigit⟩))
 (.nd
 (.nd (.lf ⟨80,18,[.tmp 4],c_ref01_Prefix,is_ref01_Prefix⟩) (.lf ⟨336,6,[.celln 2 7],c_ref07_Bare,is_ref07_Bare⟩))
 (.nd (.lf ⟨208,23,[.tmp 4],c_body_checkTrailer,is_body_checkTrailer⟩) (.lf ⟨464,66,[.tmp 2,.tmp 3],c_ref02_Encode,is_ref02_Encode⟩))))
 (.nd
 (.nd
 (.nd (.lf ⟨48,13,[.celln 4 7],c_made_answer,is_made_answer⟩) (.lf ⟨304,58,[.tmp 4],c_jsondoc_parser_take,is_jsondoc_parser_take⟩))
 (.nd (.lf ⟨176,57,[.tmp 4],c_ref27_Collect,is_ref27_Collect⟩) (.lf ⟨432,139,[.celln 4 3,.tmp 5,.tmp 6],c_ref13_Next,is_ref13_Next⟩)))
 (.nd
 (.nd (.lf ⟨112,20,[.celln 2 4,.tmp 3],c_ident_text_acct,is_ident_text_acct⟩) (.lf ⟨368,6,[.tmp 2],c_uri_schemeEnd,is_uri_schemeEnd⟩)) (.lf ⟨240,17,[.tmp 2],c_ref01_Digits,is_ref01_Digits⟩)))))
 (.nd
 (.nd
 (.nd
 (.nd (.lf ⟨264,11,[.tmp 4,.tmp 5],c_ref04_Parse,is_ref04_Parse⟩) (.lf ⟨392,17,[.tmp 2],c_token_isSpace,is_token_isSpace⟩))
 (.nd (.lf ⟨328,31,[.celln 4 4,.tmp 5],c_jsondoc_Get,is_jsondoc_Get⟩)
 (.nd (.lf ⟨200,15,[.tmp 2],c_fieldtext_IsText,is_fieldtext_IsText⟩) (.lf ⟨456,36,[],c_jsondoc_parser_add,is_jsondoc_parser_add⟩))))
 (.nd
 (.nd (.lf ⟨40,27,[.celln 2 7,.tmp 3],c_ref27_Query,is_ref27_Query⟩) (.lf ⟨424,15,[.tmp 2],c_ref18_printables,is_ref18_printables⟩))
 (.nd
 (.nd (.lf ⟨104,18,[.tmp 2],c_ref12_Valid,is_ref12_Valid⟩) (.lf ⟨360,17,[.tmp 4],c_percent_isPlain,is_percent_isPlain⟩)) (.lf ⟨232,43,[.tmp 6,.tmp 7],c_diddoc_elements__api_Method,is_diddoc_elements__api_Method⟩))))
 (.nd
 (.nd
 (.nd (.lf ⟨24,20,[.tmp 4],c_ref01_Index,is_ref01_Index⟩) (.lf ⟨408,48,[.celln 4 2,.tmp 5,.tmp 6],c_fresh_directive,is_fresh_directive⟩))
 (.nd
 (.nd (.lf ⟨88,16,[.tmp 2],c_ref15_Valid,is_ref15_Valid⟩) (.lf ⟨344,117,[.celln 6 4],c_ref14_parser_value,is_ref14_parser_value⟩)) (.lf ⟨216,49,[.tmp 2,.tmp 3],c_weblink_Parse,is_weblink_Parse⟩)))
 (.nd
 (.nd
 (.nd (.lf ⟨56,8,[.celln 2 2],c_ident_Authority,is_ident_Authority⟩) (.lf ⟨312,24,[.tmp 4],c_fieldtext_BlanksEnd,is_fieldtext_BlanksEnd⟩)) .e)
 (.nd (.lf ⟨120,14,[.tmp 2],c_weburl_Target,is_weburl_Target⟩)
 (.nd (.lf ⟨248,32,[.tmp 2],c_ref15_different,is_ref15_different⟩) (.lf ⟨504,16,[.tmp 4],c_utf8text_firstBits,is_utf8text_firstBits⟩)))))))
 (.nd
 (.nd
 (.nd
 (.nd
 (.nd (.lf ⟨4,37,[.tmp 0],c_law33_sane,is_law33_sane⟩) (.lf ⟨132,53,[.tmp 4],c_witness_hostsInBody,is_witness_hostsInBody⟩))
 (.nd
 (.nd (.lf ⟨68,27,[.tmp 2],c_ref05_IsIPv4,is_ref05_IsIPv4⟩) (.lf ⟨324,30,[.celln 4 2,.tmp 5],c_media_Parse_3,is_media_Parse_3⟩)) (.lf ⟨196,8,[.tmp 2],c_ascii_lower,is_ascii_lower⟩)))
 (.nd
 (.nd (.lf ⟨292,39,[.tmp 6,.tmp 7],c_number_value,is_number_value⟩)
 (.nd (.lf ⟨164,18,[.tmp 4],c_ref20_Skip,is_ref20_Skip⟩) (.lf ⟨420,43,[.tmp 6],c_ref24_fits,is_ref24_fits⟩)))
 (.nd
 (.nd (.lf ⟨100,32,[.tmp 4,.tmp 5],c_ref18_Get,is_ref18_Get⟩) (.lf ⟨356,65,[.tmp 4,.tmp 5],c_percent_rewrite,is_percent_rewrite⟩)) (.lf ⟨228,4,[.tmp 2],c_diddoc_membersOf,is_diddoc_membersOf⟩))))
 (.nd
 (.nd
 (.nd
 (.nd (.lf ⟨20,18,[.tmp 2],c_ident_Valid,is_ident_Valid⟩) (.lf ⟨276,30,[.celln 2 2,.tmp 3],c_weburl_parseOrigin,is_weburl_parseOrigin⟩))
 (.nd (.lf ⟨148,44,[.celln 2 2,.tmp 3],c_ref05_Parse,is_ref05_Parse⟩) (.lf ⟨404,8,[.tmp 2],c_slices_Clone__api_Property_api_Property,is_slices_Clone__api_Property_api_Property⟩)))
 (.nd .e
 (.nd (.lf ⟨212,30,[.celln 2 4,.tmp 3],c_jrd_Decode,is_jrd_Decode⟩) (.lf ⟨468,5,[.tmp 2],c_ref13_white,is_ref13_white⟩))))
 (.nd
 (.nd
 (.nd (.lf ⟨52,41,[.celln 2 4,.tmp 3],c_ident_Parse,is_ident_Parse⟩) (.lf ⟨308,81,[.tmp 6],c_jrd_decoder_properties,is_jrd_decoder_properties⟩))
 (.nd (.lf ⟨180,9,[.tmp 2],c_ref27_missing,is_ref27_missing⟩) (.lf ⟨436,9,[.tmp 2],c_ascii_isLetterOrDigit,is_ascii_isLetterOrDigit⟩))) (.lf ⟨372,59,[.tmp 2],c_uri_RemoveDots,is_uri_RemoveDots⟩))))
 (.nd
 (.nd
 (.nd
 (.nd (.lf ⟨268,10,[.tmp 2,.tmp 3,.tmp 4],c_acct_cutParts,is_acct_cutParts⟩)
 (.nd (.lf ⟨140,45,[.tmp 4,.tmp 5],c_ref03_escape,is_ref03_escape⟩) (.lf ⟨396,25,[],c_jsondoc_parser_close,is_jsondoc_parser_close⟩))) (.lf ⟨460,8,[.tmp 2],c_slices_Clone__string_string,is_slices_Clone__string_string⟩))
 (.nd
 (.nd
 (.nd (.lf ⟨44,17,[.tmp 2,.tmp 3],c_ref15_Write,is_ref15_Write⟩) (.lf ⟨300,17,[.tmp 4,.tmp 5],c_number_Hex,is_number_Hex⟩)) (.lf ⟨428,14,[.tmp 4],c_ref14_is,is_ref14_is⟩))
 (.nd (.lf ⟨108,88,[.celln 2 2],c_ref21_Of,is_ref21_Of⟩) (.lf ⟨236,45,[.tmp 4],c_naming_Others,is_naming_Others⟩))))
 (.nd
 (.nd (.lf ⟨156,17,[.tmp 2],c_ref19_hex,is_ref19_hex⟩)
 (.nd (.lf ⟨92,15,[.celln 6 4],c_ref16_some,is_ref16_some⟩) (.lf ⟨220,24,[.tmp 4],c_finger_isAbout,is_finger_isAbout⟩)))
 (.nd
 (.nd
 (.nd (.lf ⟨60,44,[.tmp 4],c_witness_names,is_witness_names⟩) (.lf ⟨316,37,[.tmp 2,.tmp 3],c_fresh_leastMaxAge,is_fresh_leastMaxAge⟩)) .e) .e)))))
 (.nd
 (.nd
 (.nd
 (.nd
 (.nd (.lf ⟨386,9,[.tmp 2],c_ascii_IsToken,is_ascii_IsToken⟩) (.lf ⟨322,18,[.tmp 4],c_media_Parse_1,is_media_Parse_1⟩))
 (.nd
 (.nd
 (.nd (.lf ⟨34,20,[.tmp 2],c_made_caching,is_made_caching⟩) (.lf ⟨290,20,[.tmp 4],c_number_check,is_number_check⟩)) .e) (.lf ⟨354,60,[.celln 10 4],c_ref16_reader_items,is_ref16_reader_items⟩)))
 (.nd
 (.nd
 (.nd (.lf ⟨18,23,[.celln 6 9,.tmp 7],c_ref30_Forward,is_ref30_Forward⟩)
 (.nd (.lf ⟨146,32,[.tmp 4,.tmp 5],c_ref04_Strict,is_ref04_Strict⟩) (.lf ⟨402,29,[.tmp 6],c_jrd_decoder_items,is_jrd_decoder_items⟩)))
 (.nd
 (.nd (.lf ⟨82,34,[.tmp 4],c_ref01_Split,is_ref01_Split⟩) (.lf ⟨338,36,[.celln 8 23],c_ref26_noted,is_ref26_noted⟩)) (.lf ⟨466,23,[.tmp 4],c_ref19_trailer,is_ref19_trailer⟩)))
 (.nd
 (.nd (.lf ⟨306,15,[.tmp 4],c_jrd_decoder_text,is_jrd_decoder_text⟩)
 (.nd (.lf ⟨178,16,[.tmp 2,.tmp 3],c_ref21_seconds,is_ref21_seconds⟩) (.lf ⟨434,24,[.tmp 4],c_percent_isEscapeAt,is_percent_isEscapeAt⟩)))
 (.nd
 (.nd (.lf ⟨114,22,[.celln 2 4,.tmp 3],c_ident_text_web,is_ident_text_web⟩) (.lf ⟨370,13,[.tmp 2],c_uri_firstPart,is_uri_firstPart⟩)) (.lf ⟨242,35,[.tmp 2],c_ref06_scheme,is_ref06_scheme⟩)))))
 (.nd
 (.nd
 (.nd
 (.nd
 (.nd (.lf ⟨10,89,[.celln 6 12],c_ref30_Resolve,is_ref30_Resolve⟩) (.lf ⟨266,82,[.celln 2 4,.tmp 3],c_ref16_Decode,is_ref16_Decode⟩))
 (.nd (.lf ⟨138,97,[.celln 2 5,.tmp 3],c_diddoc_Decode,is_diddoc_Decode⟩) (.lf ⟨394,75,[.tmp 4],c_jsondoc_parser_begin,is_jsondoc_parser_begin⟩))) (.lf ⟨202,36,[.tmp 2],c_ascii_Trim,is_ascii_Trim⟩))
 (.nd
 (.nd
 (.nd (.lf ⟨42,8,[.celln 2 7,.tmp 3],c_ref27_Home,is_ref27_Home⟩) (.lf ⟨298,21,[.tmp 2],c_ascii_IsHex,is_ascii_IsHex⟩)) (.lf ⟨426,89,[.tmp 4,.tmp 5],c_ref19_Chunked,is_ref19_Chunked⟩)) (.lf ⟨234,43,[.tmp 6,.tmp 7],c_diddoc_elements__api_Service,is_diddoc_elements__api_Service⟩)))
 (.nd
 (.nd
 (.nd
 (.nd (.lf ⟨26,67,[.celln 2 2,.tmp 3],c_ref08_Parse,is_ref08_Parse⟩) (.lf ⟨282,42,[.celln 2 2,.tmp 3],c_host_Parse,is_host_Parse⟩)) (.lf ⟨410,13,[.tmp 2],c_ascii_IsAlpha,is_ascii_IsAlpha⟩))
 (.nd (.lf ⟨90,77,[.tmp 2],c_ref15_write,is_ref15_write⟩) (.lf ⟨218,13,[.tmp 2],c_finger_isMissing,is_finger_isMissing⟩)))
 (.nd
 (.nd
 (.nd (.lf ⟨58,61,[.tmp 8],c_witness_Delegates,is_witness_Delegates⟩) (.lf ⟨314,6,[.tmp 2],c_media_IsJRD,is_media_IsJRD⟩)) (.lf ⟨186,61,[.celln 2 2,.tmp 3],c_acct_Parse,is_acct_Parse⟩))
 (.nd (.lf ⟨122,12,[.tmp 2],c_world_failure,is_world_failure⟩) (.lf ⟨250,13,[.tmp 2],c_ref18_Printable,is_ref18_Printable⟩))))))
 (.nd
 (.nd
 (.nd
 (.nd
 (.nd
 (.nd (.lf ⟨6,35,[.tmp 2],c_witness_Chains,is_witness_Chains⟩) (.lf ⟨262,29,[.tmp 4,.tmp 5,.tmp 6],c_ref20_Token,is_ref20_Token⟩)) (.lf ⟨134,19,[.tmp 4],c_slices_Index__api_ID_api_ID,is_slices_Index__api_ID_api_ID⟩))
 (.nd
 (.nd (.lf ⟨70,111,[.celln 2 7,.tmp 3],c_ref07_Parse,is_ref07_Parse⟩) (.lf ⟨326,34,[.tmp 4],c_media_isText,is_media_isText⟩)) .e))
 (.nd
 (.nd (.lf ⟨294,18,[.tmp 4],c_fieldtext_TokenEnd,is_fieldtext_TokenEnd⟩)
 (.nd (.lf ⟨166,18,[.tmp 2],c_ref07_Valid,is_ref07_Valid⟩) (.lf ⟨422,66,[.celln 2 3,.tmp 3],c_ref18_status,is_ref18_status⟩))) (.lf ⟨358,9,[.tmp 2],c_ascii_IsUnreserved,is_ascii_IsUnreserved⟩)))
 (.nd
 (.nd
 (.nd
 (.nd (.lf ⟨22,57,[.tmp 6],c_witness_Allowed,is_witness_Allowed⟩) (.lf ⟨278,15,[.tmp 2],c_host_Format,is_host_Format⟩)) (.lf ⟨150,15,[.tmp 2],c_ref05_Format,is_ref05_Format⟩))
 (.nd (.lf ⟨342,111,[.celln 2 3,.tmp 3],c_ref20_parse,is_ref20_parse⟩) (.lf ⟨214,19,[.tmp 2],c_witness_authorities,is_witness_authorities⟩)))
 (.nd
 (.nd
 (.nd (.lf ⟨54,70,[.celln 2 3,.tmp 3,.tmp 4],c_head_Parse,is_head_Parse⟩) (.lf ⟨310,33,[.tmp 4],c_jrd_Find,is_jrd_Find⟩))
 (.nd (.lf ⟨182,30,[.tmp 4],c_ref12_Same,is_ref12_Same⟩) (.lf ⟨438,48,[.tmp 2],c_host_isLabel,is_host_isLabel⟩))) (.lf ⟨118,18,[.tmp 2],c_weburl_Valid,is_weburl_Valid⟩))))
 (.nd
 (.nd
 (.nd
 (.nd
 (.nd (.lf ⟨14,17,[.tmp 2],c_ref25_IsRedirect,is_ref25_IsRedirect⟩) (.lf ⟨270,22,[.tmp 2,.tmp 3],c_host_Host,is_host_Host⟩))
 (.nd (.lf ⟨142,26,[.tmp 2],c_ref05_name,is_ref05_name⟩) (.lf ⟨398,14,[.tmp 4],c_jsondoc_isPunct,is_jsondoc_isPunct⟩)))
 (.nd (.lf ⟨78,29,[.tmp 4],c_ref19_Encode,is_ref19_Encode⟩) (.lf ⟨206,12,[.tmp 4],c_number_Add,is_number_Add⟩)))
 (.nd (.lf ⟨430,49,[.celln 4 4],c_ref14_parser_array,is_ref14_parser_array⟩)
 (.nd
 (.nd (.lf ⟨110,60,[.celln 4 9,.tmp 5],c_ref27_Read,is_ref27_Read⟩) (.lf ⟨366,20,[.tmp 3,.tmp 4],c_uri_Split_1,is_uri_Split_1⟩)) (.lf ⟨238,17,[.tmp 2],c_ref03_digit,is_ref03_digit⟩))))
 (.nd
 (.nd
 (.nd (.lf ⟨30,22,[.celln 2 4,.tmp 3],c_ref12_web,is_ref12_web⟩)
 (.nd (.lf ⟨158,115,[.tmp 2],c_ref15_shape,is_ref15_shape⟩) (.lf ⟨414,19,[.tmp 4],c_slices_Index__string_string,is_slices_Index__string_string⟩))) (.lf ⟨94,22,[.celln 2 4],c_ref16_Array,is_ref16_Array⟩))
 (.nd
 (.nd
 (.nd (.lf ⟨62,10,[.tmp 4],c_ref01_Equal,is_ref01_Equal⟩) (.lf ⟨318,11,[.tmp 4],c_number_Sub,is_number_Sub⟩)) (.lf ⟨190,51,[.celln 2 7,.tmp 3],c_weburl_Parse,is_weburl_Parse⟩))
 (.nd (.lf ⟨126,31,[.celln 2 2,.tmp 3],c_head_headerLine,is_head_headerLine⟩) (.lf ⟨254,13,[.celln 2 23],c_ref26_Start,is_ref26_Start⟩))))))))
 (.nd
 (.nd
 (.nd
 (.nd
 (.nd
 (.nd
 (.nd (.lf ⟨257,15,[.celln 2 3,.tmp 3],c_ref20_Parse,is_ref20_Parse⟩)
 (.nd (.lf ⟨129,76,[.tmp 4,.tmp 5],c_body_Chunked,is_body_Chunked⟩) (.lf ⟨385,13,[.tmp 2],c_number_digit,is_number_digit⟩))) (.lf ⟨65,13,[.tmp 2],c_ref01_IsUnreserved,is_ref01_IsUnreserved⟩))
 (.nd
 (.nd (.lf ⟨33,53,[.tmp 10],c_made_Raw,is_made_Raw⟩) (.lf ⟨161,38,[.celln 4 4,.tmp 5],c_ref14_Get,is_ref14_Get⟩))
 (.nd
 (.nd (.lf ⟨97,25,[.tmp 4],c_ref16_Find,is_ref16_Find⟩) (.lf ⟨353,59,[.tmp 8],c_ref16_reader_properties,is_ref16_reader_properties⟩))
 (.nd (.lf ⟨225,70,[.celln 2 3,.tmp 3],c_media_Parse,is_media_Parse⟩) (.lf ⟨481,11,[.tmp 4,.tmp 5],c_ref04_Hex,is_ref04_Hex⟩)))))
 (.nd
 (.nd
 (.nd (.lf ⟨17,178,[.tmp 6],c_made_About,is_made_About⟩) (.lf ⟨401,45,[.celln 6 4,.tmp 7],c_jrd_decoder_member,is_jrd_decoder_member⟩))
 (.nd (.lf ⟨337,37,[.tmp 6,.tmp 7],c_ref24_Ask,is_ref24_Ask⟩)
 (.nd (.lf ⟨209,17,[.tmp 2],c_ascii_Digits,is_ascii_Digits⟩) (.lf ⟨465,66,[.tmp 4,.tmp 5,.tmp 6],c_ref19_size,is_ref19_size⟩))))
 (.nd
 (.nd (.lf ⟨305,15,[.tmp 2],c_jrd_newDecoder,is_jrd_newDecoder⟩) (.lf ⟨177,74,[.tmp 2,.tmp 3],c_ref21_Directives,is_ref21_Directives⟩))
 (.nd (.lf ⟨369,35,[.tmp 2],c_uri_isScheme,is_uri_isScheme⟩) (.lf ⟨241,87,[.tmp 6,.tmp 7],c_ref04_parse,is_ref04_parse⟩)))))
 (.nd
 (.nd
 (.nd
 (.nd
 (.nd (.lf ⟨9,31,[.tmp 0,.tmp 1],c_made_Accepting,is_made_Accepting⟩) (.lf ⟨265,20,[.tmp 2],c_ref20_IsJRD,is_ref20_IsJRD⟩)) (.lf ⟨393,89,[.tmp 4,.tmp 5,.tmp 6,.tmp 7],c_token_read,is_token_read⟩))
 (.nd (.lf ⟨329,24,[.tmp 4,.tmp 5],c_diddoc_textMember,is_diddoc_textMember⟩)
 (.nd (.lf ⟨201,12,[.tmp 2],c_fieldtext_IsToken,is_fieldtext_IsToken⟩) (.lf ⟨457,14,[.tmp 2],c_jsondoc_parser_top,is_jsondoc_parser_top⟩))))
 (.nd
 (.nd (.lf ⟨41,8,[.celln 2 7,.tmp 3],c_ref27_HostMeta,is_ref27_HostMeta⟩)
 (.nd (.lf ⟨169,22,[.celln 6 12,.tmp 7],c_ref26_Run,is_ref26_Run⟩) (.lf ⟨425,30,[.tmp 2],c_ref01_Trim,is_ref01_Trim⟩))) (.lf ⟨361,28,[.tmp 2],c_host_isName,is_host_isName⟩)))
 (.nd
 (.nd .e
 (.nd
 (.nd (.lf ⟨89,35,[.tmp 2],c_ref15_long,is_ref15_long⟩) (.lf ⟨345,40,[.celln 2 3],c_ref14_parser_next,is_ref14_parser_next⟩))
 (.nd (.lf ⟨217,30,[.tmp 4,.tmp 5],c_weblink_Find,is_weblink_Find⟩) (.lf ⟨473,54,[.tmp 2],c_token_stringReader_plain,is_token_stringReader_plain⟩))))
 (.nd (.lf ⟨57,8,[.celln 2 2],c_weburl_Origin,is_weburl_Origin⟩)
 (.nd (.lf ⟨121,47,[.tmp 4],c_world_question_isFitting,is_world_question_isFitting⟩)
 (.nd (.lf ⟨249,9,[.tmp 2],c_ref01_Blank,is_ref01_Blank⟩) (.lf ⟨505,17,[.tmp 2],c_utf8text_isCodePoint,is_utf8text_isCodePoint⟩)))))))
 (.nd
 (.nd
 (.nd
 (.nd (.lf ⟨133,41,[.celln 2 7,.tmp 3],c_witness_linked,is_witness_linked⟩)
 (.nd
 (.nd (.lf ⟨69,44,[.tmp 4],c_ref03_Encode,is_ref03_Encode⟩) (.lf ⟨325,35,[.tmp 4,.tmp 5,.tmp 6],c_fieldtext_Word,is_fieldtext_Word⟩)) (.lf ⟨453,27,[.tmp 2],c_jsondoc_valueKind,is_jsondoc_valueKind⟩)))
 (.nd
 (.nd (.lf ⟨293,13,[.tmp 2],c_fieldtext_IsByte,is_fieldtext_IsByte⟩) (.lf ⟨421,25,[.tmp 4],c_ref18_find,is_ref18_find⟩))
 (.nd (.lf ⟨357,28,[.tmp 7,.tmp 8],c_percent_Normalize_1,is_percent_Normalize_1⟩) (.lf ⟨229,25,[.celln 2 2,.tmp 3],c_diddoc_subject,is_diddoc_subject⟩))))
 (.nd
 (.nd
 (.nd
 (.nd (.lf ⟨21,62,[.celln 6 12,.tmp 7,.tmp 8],c_witness_respond,is_witness_respond⟩) (.lf ⟨277,50,[.celln 2 7,.tmp 3],c_weburl_parseRest,is_weburl_parseRest⟩)) (.lf ⟨149,59,[.tmp 2],c_ref06_RemoveDots,is_ref06_RemoveDots⟩))
 (.nd (.lf ⟨341,91,[.tmp 6,.tmp 7],c_ref19_Read,is_ref19_Read⟩)
 (.nd (.lf ⟨213,43,[.tmp 4],c_witness_hostsInTemplates,is_witness_hostsInTemplates⟩) (.lf ⟨469,70,[.tmp 4,.tmp 5,.tmp 6],c_ref13_text,is_ref13_text⟩))))
 (.nd
 (.nd
 (.nd (.lf ⟨53,40,[.tmp 6,.tmp 7],c_world_Ask,is_world_Ask⟩) (.lf ⟨309,52,[.tmp 4],c_jrd_decoder_links,is_jrd_decoder_links⟩))
 (.nd (.lf ⟨181,48,[.celln 2 4,.tmp 3],c_ref27_decode,is_ref27_decode⟩) (.lf ⟨437,9,[.tmp 4],c_ascii_isOneOf,is_ascii_isOneOf⟩)))
 (.nd (.lf ⟨117,23,[.tmp 2],c_ascii_Lower,is_ascii_Lower⟩) (.lf ⟨245,17,[.tmp 2],c_ref04_Format,is_ref04_Format⟩)))))
 (.nd
 (.nd
 (.nd
 (.nd
 (.nd (.lf ⟨13,10,[.tmp 2],c_redirect_IsRedirect,is_redirect_IsRedirect⟩) (.lf ⟨269,11,[.tmp 4,.tmp 5],c_percent_Normalize,is_percent_Normalize⟩))
 (.nd (.lf ⟨141,11,[.tmp 2],c_ref03_Escape,is_ref03_Escape⟩) (.lf ⟨397,40,[.tmp 4],c_jsondoc_parser_addKey,is_jsondoc_parser_addKey⟩)))
 (.nd (.lf ⟨77,37,[.tmp 2],c_ref18_Format,is_ref18_Format⟩)
 (.nd (.lf ⟨205,66,[.tmp 4,.tmp 5,.tmp 6],c_body_sizeLine,is_body_sizeLine⟩) (.lf ⟨461,8,[.tmp 2],c_slices_Clone__api_Value_api_Value,is_slices_Clone__api_Value_api_Value⟩))))
 (.nd (.lf ⟨45,70,[.celln 2 4],c_ref16_Encode,is_ref16_Encode⟩)
 (.nd (.lf ⟨109,33,[.celln 4 12,.tmp 5],c_ref27_lookup_get,is_ref27_lookup_get⟩) (.lf ⟨237,21,[.tmp 2],c_ref01_IsHex,is_ref01_IsHex⟩))))
 (.nd
 (.nd
 (.nd .e
 (.nd (.lf ⟨157,42,[.tmp 4],c_ref15_count,is_ref15_count⟩) (.lf ⟨413,9,[.tmp 4],c_slices_Contains__string_string,is_slices_Contains__string_string⟩)))
 (.nd
 (.nd (.lf ⟨93,34,[.celln 6 4],c_ref16_with,is_ref16_with⟩) (.lf ⟨349,13,[.tmp 2],c_ref01_IsToken,is_ref01_IsToken⟩)) (.lf ⟨221,57,[.celln 2 2],c_fresh_Of,is_fresh_Of⟩)))
 (.nd
 (.nd
 (.nd (.lf ⟨61,17,[.tmp 4],c_ref01_In,is_ref01_In⟩) (.lf ⟨317,16,[.tmp 2,.tmp 3],c_fresh_seconds,is_fresh_seconds⟩)) .e) (.lf ⟨125,66,[.celln 2 3,.tmp 3],c_head_statusLine,is_head_statusLine⟩))))))
 (.nd
 (.nd
 (.nd
 (.nd
 (.nd (.lf ⟨259,52,[.celln 2 4,.tmp 3,.tmp 4],c_ref14_Parse,is_ref14_Parse⟩)
 (.nd (.lf ⟨323,13,[.tmp 2],c_media_Parse_2,is_media_Parse_2⟩) (.lf ⟨451,53,[.tmp 4,.tmp 5,.tmp 6],c_token_readString,is_token_readString⟩)))
 (.nd
 (.nd
 (.nd (.lf ⟨35,34,[.tmp 4],c_made_Dice_Next,is_made_Dice_Next⟩) (.lf ⟨291,9,[.tmp 2],c_ascii_IsDigit,is_ascii_IsDigit⟩))
 (.nd (.lf ⟨163,26,[.tmp 4],c_ref18_Values,is_ref18_Values⟩) (.lf ⟨419,59,[.tmp 4,.tmp 5,.tmp 6],c_ref02_Decode,is_ref02_Decode⟩)))
 (.nd (.lf ⟨99,13,[.tmp 2],c_ref07_Target,is_ref07_Target⟩) (.lf ⟨227,27,[.tmp 4],c_ident_Same,is_ident_Same⟩))))
 (.nd
 (.nd
 (.nd
 (.nd (.lf ⟨19,20,[.celln 4 2],c_ref21_Least,is_ref21_Least⟩) (.lf ⟨275,67,[.celln 2 9,.tmp 3],c_uri_Split,is_uri_Split⟩))
 (.nd (.lf ⟨147,87,[.celln 2 9,.tmp 3],c_ref06_Split,is_ref06_Split⟩) (.lf ⟨403,21,[.tmp 4],c_jrd_decoder_requiredText,is_jrd_decoder_requiredText⟩)))
 (.nd (.lf ⟨339,103,[.celln 2 3,.tmp 3,.tmp 4],c_ref18_Parse,is_ref18_Parse⟩)
 (.nd (.lf ⟨211,42,[.celln 2 4,.tmp 3,.tmp 4],c_jsondoc_Parse,is_jsondoc_Parse⟩) (.lf ⟨467,39,[.tmp 4,.tmp 5,.tmp 6],c_ref19_line,is_ref19_line⟩))))
 (.nd
 (.nd
 (.nd (.lf ⟨51,58,[.celln 6 9,.tmp 7],c_ref27_Lookup,is_ref27_Lookup⟩) (.lf ⟨307,30,[.tmp 4],c_jrd_decoder_texts,is_jrd_decoder_texts⟩))
 (.nd (.lf ⟨179,11,[.tmp 4],c_ref04_Sub,is_ref04_Sub⟩) (.lf ⟨435,11,[.tmp 2],c_percent_digit,is_percent_digit⟩))) .e)))
 (.nd
 (.nd
 (.nd
 (.nd
 (.nd (.lf ⟨11,66,[.tmp 6],c_witness_Proves,is_witness_Proves⟩) (.lf ⟨267,26,[.tmp 4],c_ascii_Equal,is_ascii_Equal⟩)) (.lf ⟨395,16,[.tmp 4],c_jsondoc_parser_isClose,is_jsondoc_parser_isClose⟩)) (.lf ⟨203,26,[.tmp 4],c_head_Values,is_head_Values⟩))
 (.nd
 (.nd
 (.nd (.lf ⟨43,12,[.tmp 4],c_made_Dice_One,is_made_Dice_One⟩) (.lf ⟨299,24,[.tmp 4],c_body_lineTextEnd,is_body_lineTextEnd⟩)) .e) .e))
 (.nd
 (.nd
 (.nd
 (.nd (.lf ⟨27,10,[.tmp 2],c_ref08_Format,is_ref08_Format⟩) (.lf ⟨283,9,[.tmp 2],c_ascii_isCapital,is_ascii_isCapital⟩)) (.lf ⟨155,15,[.tmp 2],c_ref05_Decimal,is_ref05_Decimal⟩))
 (.nd (.lf ⟨91,63,[.celln 2 4],c_ref15_order,is_ref15_order⟩) (.lf ⟨219,49,[.celln 2 4,.tmp 3],c_finger_readJRD,is_finger_readJRD⟩)))
 (.nd
 (.nd
 (.nd (.lf ⟨59,9,[.tmp 4],c_slices_Contains__api_ID_api_ID,is_slices_Contains__api_ID_api_ID⟩) (.lf ⟨315,48,[.tmp 2,.tmp 3],c_fresh_Directives,is_fresh_Directives⟩)) (.lf ⟨187,10,[.tmp 2],c_acct_Format,is_acct_Format⟩)) .e))))
 (.nd
 (.nd
 (.nd
 (.nd
 (.nd (.lf ⟨263,29,[.tmp 4,.tmp 5,.tmp 6],c_ref20_Value,is_ref20_Value⟩) (.lf ⟨135,33,[.celln 4 9,.tmp 5],c_finger_Read,is_finger_Read⟩))
 (.nd
 (.nd (.lf ⟨71,19,[.tmp 2],c_ref07_Format,is_ref07_Format⟩) (.lf ⟨327,10,[.celln 3 4,.tmp 4],c_diddoc_membersOf_1,is_diddoc_membersOf_1⟩))
 (.nd (.lf ⟨199,17,[.tmp 4,.tmp 5],c_number_Parse,is_number_Parse⟩) (.lf ⟨455,28,[],c_jsondoc_parser_open,is_jsondoc_parser_open⟩))))
 (.nd
 (.nd (.lf ⟨39,61,[.tmp 6],c_made_through,is_made_through⟩) (.lf ⟨423,17,[.tmp 2],c_ref01_Tokens,is_ref01_Tokens⟩))
 (.nd (.lf ⟨359,14,[.tmp 4],c_percent_appendEscape,is_percent_appendEscape⟩) (.lf ⟨487,76,[.tmp 4,.tmp 5,.tmp 6],c_utf8text_Decode,is_utf8text_Decode⟩))))
 (.nd
 (.nd
 (.nd (.lf ⟨23,60,[.tmp 6],c_witness_hasBothDocuments,is_witness_hasBothDocuments⟩) (.lf ⟨151,8,[.celln 2 2],c_ref07_Origin,is_ref07_Origin⟩))
 (.nd
 (.nd (.lf ⟨87,16,[.celln 4 7,.tmp 5],c_ref27_at,is_ref27_at⟩) (.lf ⟨343,22,[.tmp 2],c_ref20_plain,is_ref20_plain⟩)) (.lf ⟨215,33,[.tmp 4],c_finger_Names,is_finger_Names⟩)))
 (.nd
 (.nd (.lf ⟨55,58,[.tmp 6,.tmp 7],c_body_Read,is_body_Read⟩) (.lf ⟨183,31,[.tmp 4],c_ref27_Names,is_ref27_Names⟩))
 (.nd (.lf ⟨119,19,[.celln 3 7,.tmp 4],c_world_Ask_1,is_world_Ask_1⟩) (.lf ⟨247,6,[.tmp 2],c_ref02_Valid,is_ref02_Valid⟩)))))
 (.nd
 (.nd
 (.nd
 (.nd (.lf ⟨15,10,[.tmp 2],c_made_New,is_made_New⟩)
 (.nd (.lf ⟨143,17,[.tmp 2],c_ref01_IsAlpha,is_ref01_IsAlpha⟩) (.lf ⟨399,29,[.tmp 4],c_jsondoc_parser_goOn,is_jsondoc_parser_goOn⟩)))
 (.nd (.lf ⟨335,25,[.tmp 2],c_ref02_Count,is_ref02_Count⟩)
 (.nd (.lf ⟨207,24,[.tmp 4],c_body_checkLineEnd,is_body_checkLineEnd⟩) (.lf ⟨463,35,[.tmp 2],c_ref02_value,is_ref02_value⟩))))
 (.nd
 (.nd (.lf ⟨303,49,[.celln 4 3,.tmp 5,.tmp 6],c_token_Next,is_token_Next⟩) (.lf ⟨431,98,[.celln 4 4],c_ref14_parser_object,is_ref14_parser_object⟩)) (.lf ⟨239,48,[.tmp 2],c_ref05_label,is_ref05_label⟩)))
 (.nd
 (.nd
 (.nd .e
 (.nd (.lf ⟨159,79,[.tmp 2,.tmp 3],c_ref13_Quote,is_ref13_Quote⟩) (.lf ⟨415,30,[.celln 2 4],c_jsondoc_clone,is_jsondoc_clone⟩)))
 (.nd
 (.nd (.lf ⟨95,40,[.celln 6 4],c_ref16_members,is_ref16_members⟩) (.lf ⟨351,37,[.tmp 8],c_ref16_reader_text,is_ref16_reader_text⟩)) .e))
 (.nd
 (.nd (.lf ⟨63,64,[.tmp 4,.tmp 5],c_ref03_Normalize,is_ref03_Normalize⟩) (.lf ⟨191,19,[.tmp 2],c_weburl_Format,is_weburl_Format⟩))
 (.nd (.lf ⟨127,17,[.tmp 2],c_body_hasNoBody,is_body_hasNoBody⟩) (.lf ⟨255,112,[.celln 6 23],c_ref26_Step,is_ref26_Step⟩)))))))))
end Go.Proofs.YtcpldfimbhdfdaaGreatDoor.Sx
namespace Go.Proofs.YtcpldfimbhdfdaaGreatDoor
open Go.RowKit Sx
open List renaming append_assoc->zw, getElem?_map->ql, getElem?_set->za, length_cons->qk, length_set->zd, mem_append->zl, mem_singleton->ji
open Nat renaming beq->zv
section
attribute [local irreducible] run
def accS:AV:=.s [97,99,99,116,58,98,111,98,64,97,46,101,120,97,109,112,108,101]
def accL:AV:=.row 2 [.s [97,46,101,120,97,109,112,108,101],.i .i64 0,.s [47,46,119,101,108,108,45,107,110,111,119,110,47,119,101,98,102,105,110,103,101,114,63,114,101,115,111,117,114,99,101,61,97,99,99,116,37,51,65,98,111,98,37,52,48,97,46,101,120,97,109,112,108,101],.s [72,84,84,80,47,49,46,49,32,50,48,48,32,45,13,10,99,111,110,116,101,110,116,45,116,121,112,101,58,32,97,112,112,108,105,99,97,116,105,111,110,47,106,114,100,43,106,115,111,110,13,10,99,97,99,104,101,45,99,111,110,116,114,111,108,58,32,109,97,120,45,97,103,101,61,49,48,48,13,10,97,103,101,58,32,52,48,13,10,116,114,97,110,115,102,101,114,45,101,110,99,111,100,105,110,103,58,32,99,104,117,110,107,101,100,13,10,13,10,51,50,13,10,123,34,97,108,105,97,115,101,115,34,58,91,34,97,99,99,116,58,98,111,98,64,97,46,101,120,97,109,112,108,101,34,93,44,34,108,105,110,107,115,34,58,91,123,34,104,114,101,102,34,13,10,51,50,13,10,58,34,104,116,116,112,115,58,47,47,98,46,101,120,97,109,112,108,101,47,98,111,98,34,44,34,114,101,108,34,58,34,115,101,108,102,34,125,93,44,34,115,117,98,106,101,99,116,34,58,13,10,49,53,13,10,34,104,116,116,112,115,58,47,47,120,46,101,120,97,109,112,108,101,47,34,125,13,10,48,13,10,13,10],.i .i64 0,.i .u64 0,.i .u64 0,.s [98,46,101,120,97,109,112,108,101],.i .i64 0,.s [47,46,119,101,108,108,45,107,110,111,119,110,47,119,101,98,102,105,110,103,101,114,63,114,101,115,111,117,114,99,101,61,104,116,116,112,115,37,51,65,37,50,70,37,50,70,98,46,101,120,97,109,112,108,101,37,50,70,98,111,98],.s [72,84,84,80,47,49,46,49,32,50,48,48,32,45,13,10,99,111,110,116,101,110,116,45,116,121,112,101,58,32,97,112,112,108,105,99,97,116,105,111,110,47,106,114,100,43,106,115,111,110,13,10,99,97,99,104,101,45,99,111,110,116,114,111,108,58,32,109,97,120,45,97,103,101,61,49,48,48,13,10,97,103,101,58,32,52,48,13,10,116,114,97,110,115,102,101,114,45,101,110,99,111,100,105,110,103,58,32,99,104,117,110,107,101,100,13,10,13,10,51,50,13,10,123,34,97,108,105,97,115,101,115,34,58,91,34,104,116,116,112,115,58,47,47,98,46,101,120,97,109,112,108,101,47,98,111,98,34,93,44,34,108,105,110,107,115,34,58,91,123,34,104,114,13,10,51,50,13,10,101,102,34,58,34,97,99,99,116,58,98,111,98,64,97,46,101,120,97,109,112,108,101,34,44,34,114,101,108,34,58,34,115,101,108,102,34,125,93,44,34,115,117,98,106,101,99,116,34,58,13,10,49,53,13,10,34,104,116,116,112,115,58,47,47,120,46,101,120,97,109,112,108,101,47,34,125,13,10,48,13,10,13,10],.i .i64 0,.i .u64 0,.i .u64 0]
def zdT (f:Nat):Bool:=[461,404,460,359,357,378].any (zv f)
def zdS (f:Nat):Bool:=[161,59,134,413,414].any (zv f)
theorem ziI:(gH tbl zet zc6 zdT zdS 4000 60).cp 9 []=.ok [] (.tup [accS,accL]):=by kernel_rfl
end
section
attribute [local irreducible] run
def accV:AV:=.agg [.i .i64 0,.i .i64 1,.s [97,99,99,116,58,98,111,98,64,97,46,101,120,97,109,112,108,101],.s [97,46,101,120,97,109,112,108,101],.i .i64 0,.i .i64 3,.s [104,116,116,112,115,58,47,47,98,46,101,120,97,109,112,108,101,47,98,111,98],.s [98,46,101,120,97,109,112,108,101],.i .i64 0,.b true,.i .u64 60,.row 2 [.s [97,46,101,120,97,109,112,108,101],.i .i64 0,.s [47,46,119,101,108,108,45,107,110,111,119,110,47,119,101,98,102,105,110,103,101,114],.s [114,101,115,111,117,114,99,101,61,97,99,99,116,37,51,65,98,111,98,37,52,48,97,46,101,120,97,109,112,108,101],.s [],.b true,.b false,.i .i64 200,.i .i64 0,.s [98,46,101,120,97,109,112,108,101],.i .i64 0,.s [47,46,119,101,108,108,45,107,110,111,119,110,47,119,101,98,102,105,110,103,101,114],.s [114,101,115,111,117,114,99,101,61,104,116,116,112,115,37,51,65,37,50,70,37,50,70,98,46,101,120,97,109,112,108,101,37,50,70,98,111,98],.s [],.b true,.b false,.i .i64 200,.i .i64 0]]
theorem zfW:(gH tbl zet zc6 zdT zdS 4000 60).cp 10 [accL,.i .u64 0,accS]=.ok [] accV:=by kernel_rfl
end
section
attribute [local irreducible] run
theorem zgC:(gH tbl zet zc6 zdT zdS 4000 60).cp 22 [accL,.i .u64 0,accV]=.ok [] (.b true):=by kernel_rfl
end
section
attribute [local irreducible] run
noncomputable def ze7:Nat->List AV->Option AV:=fun f args=>match zet f args with
 | some r=>some r
 | none=>if zv f 22=true then (if zfh 200 args [accL,.i .u64 0,accV]=true then some (.b true) else none) else none
section
variable [Tabs Tryz.prog] [Shp Tryz.prog] [Utf Tryz.prog]
theorem ze6 (f:Nat) (args:List AV) (r:AV) (h:ze7 f args=some r) (objs:List OB) (K:List OB->AV->Prop) (hk:K objs r):zai Tryz.prog f args objs K:=by
 unfold ze7 at h
 split at h
 ·rename_i x hx;injection h with h;subst h
  exact zda _ _ _ hx objs K hk
 ·split at h
  ·rename_i hf;rw[Nat.beq_eq] at hf;subst hf
   split at h
   ·rename_i hs;injection h with h;subst h
    rw[za4 hs];exact(zeg (zdv zdS) tbl zet zc6 zdT zda zcl 4000 60).cp _ _ _ _ zgC objs K hk
   ·cases h
  ·cases h
end
theorem zin:(gH tbl ze7 zc6 zdT zdS 4000 60).cp 11 [accL,.i .u64 0,accV]=.ok [] (.i .i64 0):=by kernel_rfl
end
section
attribute [local irreducible] run
noncomputable def zgH:Nat->List AV->Option AV:=fun f args=>match ze7 f args with
 | some r=>some r
 | none=>if zv f 9=true then (if zfh 200 args []=true then some (.tup [accS,accL]) else none)
  else if zv f 10=true then (if zfh 200 args [accL,.i .u64 0,accS]=true then some accV else none)
  else if zv f 11=true then (if zfh 200 args [accL,.i .u64 0,accV]=true then some (.i .i64 0) else none)
  else none
section
variable [Tabs Tryz.prog] [Shp Tryz.prog] [Utf Tryz.prog]
theorem ziT (f:Nat) (args:List AV) (r:AV) (h:zgH f args=some r) (objs:List OB) (K:List OB->AV->Prop) (hk:K objs r):zai Tryz.prog f args objs K:=by
 unfold zgH at h
 split at h
 ·rename_i x hx;injection h with h;subst h
  exact ze6 _ _ _ hx objs K hk
 ·split at h
  ·rename_i hf;rw[Nat.beq_eq] at hf;subst hf
   split at h
   ·rename_i hs;injection h with h;subst h
    rw[za4 hs];exact(zeg (zdv zdS) tbl zet zc6 zdT zda zcl 4000 60).cp _ _ _ _ ziI objs K hk
   ·cases h
  ·split at h
   ·rename_i hf;rw[Nat.beq_eq] at hf;subst hf
    split at h
    ·rename_i hs;injection h with h;subst h
     rw[za4 hs];exact(zeg (zdv zdS) tbl zet zc6 zdT zda zcl 4000 60).cp _ _ _ _ zfW objs K hk
    ·cases h
   ·split at h
    ·rename_i hf;rw[Nat.beq_eq] at hf;subst hf
     split at h
     ·rename_i hs;injection h with h;subst h
      rw[za4 hs];exact(zeg (zdv zdS) tbl ze7 zc6 zdT ze6 zcl 4000 60).cp _ _ _ _ zin objs K hk
     ·cases h
    ·cases h
end
theorem zih:(gH tbl zgH zc6 zdT zdS 4000 60).cp 4 []=.ok [] (.b true):=by kernel_rfl
section
variable [Tabs Tryz.prog] [Shp Tryz.prog] [Utf Tryz.prog] {objs:List OB} {K:List OB->AV->Prop}
theorem sane33_k (hk:K objs (.b true)):zai Tryz.prog 4 [] objs K :=
 (zeg (zdv zdS) tbl zgH zc6 zdT ziT zcl 4000 60).cp _ _ _ _ zih objs K hk
end
end
open Nat renaming reduceAdd -> z6, reduceSub -> z7, reduceLeDiff -> z8, reduceLT -> j4, reduceMul -> j5, reduceEqDiff -> j6
open Int renaming reduceToNat -> j7, reduceAdd -> j8, reduceSub -> j9, reduceMul -> x0, reduceNeg -> x3, reduceLT -> x4, reduceLE -> x5, reduceEq -> x6, reduceNe -> x7
section
attribute [local irreducible] run
theorem sl_exp:∀{gs:List (List AV)},(∀g∈gs,ShT (.st [.st [.s,.i .i64,.s,.s,.s,.b,.b],.i .i64,.i .i64]) g)->∃l:List ExP,gs.flatten=zan l/\gs.length=l.length/\∀x∈l,x.url.host.length<=140737488351232/\x.url.path.length<=140737488351232/\x.url.query.length<=140737488351232/\x.url.frag.length<=140737488351232
 | [],_=>⟨[],rfl,rfl,by simp⟩
 | g::gs,h=>by
  obtain⟨l,h1,h2,h3⟩:=sl_exp (fun x hx=>h x (List.mem_cons_of_mem _ hx));obtain⟨_,_,rfl,⟨_,_,rfl,⟨ho,rfl,w1⟩,_,_,rfl,⟨po,rfl,w2⟩,_,_,rfl,⟨pa,rfl,w3⟩,_,_,rfl,⟨qu,rfl,w4⟩,_,_,rfl,⟨fr,rfl,w5⟩,_,_,rfl,⟨hq,rfl⟩,_,_,rfl,⟨hf,rfl⟩,rfl⟩,_,_,rfl,⟨st,rfl,w6⟩,_,_,rfl,⟨er,rfl,w7⟩,rfl⟩:=h g (List.mem_cons_self ..);refine⟨⟨⟨ho,po,pa,qu,fr,hq,hf⟩,st,er⟩::l,by rw[List.flatten_cons,h1];rfl,by rw[qk,qk,h2],fun a ha=>?_⟩;rcases List.mem_cons.1 ha with rfl|ha
  ·exact⟨w1,w3,w4,w5⟩
  ·exact h3 a ha
theorem zlB:∀(l:List ExP) (s:List (List ExP)×List ExP) (k:Nat),(∀c∈s.1,c.length<=k)->s.2.length<=k->(∀c∈(l.foldl zaO s).1,c.length<=k+l.length)/\(l.foldl zaO s).2.length<=k+l.length
 | [],s,k,h1,h2=>⟨h1,h2⟩
 | x::l,s,k,h1,h2=>by
  have h3:(∀c∈(zaO s x).1,c.length<=k+1)/\(zaO s x).2.length<=k+1:=by
   unfold zaO
   split
   ·exact⟨fun c hc=>Nat.le_succ_of_le (h1 c hc),by simpa using h2⟩
   ·refine⟨fun c hc=>?_,by simp⟩;rcases zl.1 hc with hc|hc
    ·exact Nat.le_succ_of_le (h1 c hc)
    ·rw[ji.1 hc];simpa using h2
  have h4:=zlB l (zaO s x) (k+1) h3.1 h3.2;rw[List.foldl_cons,qk];exact⟨fun c hc=>Nat.le_trans (h4.1 c hc) (by omega),Nat.le_trans h4.2 (by omega)⟩
theorem chE_all (l:List ExP):∀c∈chE l,c.length<=l.length:=by
 have h:=zlB l ([],[]) 0 (by simp) (by simp);rw[Nat.zero_add] at h;intro c hc;unfold chE at hc;rcases zl.1 hc with hc|hc
 ·exact h.1 c hc
 ·split at hc
  ·cases hc
  ·rw[ji.1 hc];exact h.2
theorem chE_len (l:List ExP):(chE l).length<=l.length+1:=by
 have h:=zcS l;unfold chE;rw[List.length_append]
 split<;>simp<;>omega
theorem ch_get (cs:List (List ExP)) (i:Nat) (h:i<cs.length):(zbJ cs)[i*1]? = some (.row cs[i].length (zan cs[i])):=by
 rw[Nat.mul_one];simp[zbJ,h]
theorem ch_rlen (cs:List (List ExP)):(zbJ cs).length=cs.length:=by simp[zbJ]
theorem xc_set:∀(l:List ExP) (i:Nat) (h:i<l.length) (v:Int),List.take (i*9+7) (zan l)++[AV.i .i64 v]++List.drop (i*9+7+1) (zan l)=zan (l.set i ⟨l[i].url,v,l[i].err⟩)
 | [],i,h,v=>by cases h
 | a::l,0,h,v=>by
  rw[zbB];rfl
 | a::l,i+1,h,v=>by
  have ih:=xc_set l i (by simpa using h) v;have hn:(zaP a).length=9:=rfl;rw[zbB,show (i+1)*9+7=(zaP a).length+(i*9+7) from by rw[hn];omega,Nat.add_assoc (zaP a).length,List.take_length_add_append,List.drop_length_add_append,zw,zw,<-zw (List.take _ _),ih]
  rfl
section
variable [Tabs Tryz.prog] {objs:List OB} {K:List OB->AV->Prop}
theorem zdk (hs:∀(objs:List OB) (K:List OB->AV->Prop),K objs (.b true)->zai Tryz.prog 4 [] objs K) (l:List ExP) (hl:l.length<=140737488351232) (hw:∀x∈l,x.url.host.length<=140737488351232/\x.url.path.length<=140737488351232/\x.url.query.length<=140737488351232/\x.url.frag.length<=140737488351232) (m:List UInt8) (hm:m.length<=140737488351232):zai Tryz.prog 3 [.row l.length (zan l),.row m.length (byA m)] [] (fun _ r=>r=.b true):=by
 have hbp:zak (byA m)=true:=by
  clear hm
  induction m with
  | nil=>rfl
  | cons c m ih=>rw[show byA (c::m)=.i .u8 c.toNat::byA m from rfl];simp only[zak,AV.plain,ih,Bool.and_self]
 have hxl:=zbb l;refine fn_part is_law33_WitnessChains (by simp only[zak,AV.plain,zbN,hbp,Bool.and_self]) fun C _=>?_;rw[c_law33_WitnessChains];refine zjG ?_;simp only[sxZ,z6,z7,z8,j4,j5,j6,j7,j8,j9,x0,x3,x4,x5,x6,x7,reduceCtorEq,↓reduceIte,zbw];refine zdd fun Y hY=>?_;simp only[sxZ,z6,z7,z8,j4,j5,j6,j7,j8,j9,x0,x3,x4,x5,x6,x7,reduceCtorEq,↓reduceIte];refine zgb (hs _ _ ?_);simp only[sxZ,z6,z7,z8,j4,j5,j6,j7,j8,j9,x0,x3,x4,x5,x6,x7,reduceCtorEq,↓reduceIte,zbw];subst hY;refine zdd fun Y hY=>?_;simp only[sxZ,z6,z7,z8,j4,j5,j6,j7,j8,j9,x0,x3,x4,x5,x6,x7,reduceCtorEq,↓reduceIte];refine zgb (zga l hl hw fun b hb=>?_)
 cases b with
 | false=>
  simp only[sxZ,z6,z7,z8,j4,j5,j6,j7,j8,j9,x0,x3,x4,x5,x6,x7,reduceCtorEq,↓reduceIte,zjH]
 | true=>
  have hb:=hb rfl
  by_cases c2:(60:Int)<(m.length:Int)
  ·simp only[sxZ,z6,z7,z8,j4,j5,j6,j7,j8,j9,x0,x3,x4,x5,x6,x7,reduceCtorEq,↓reduceIte,zjH,c2]
  simp only[sxZ,z6,z7,z8,j4,j5,j6,j7,j8,j9,x0,x3,x4,x5,x6,x7,reduceCtorEq,↓reduceIte,zbw,c2];subst hY;have hbl:(byA m).length=m.length:=by simp[byA]
  refine zdd fun Y hY=>?_;simp only[sxZ,z6,z7,z8,j4,j5,j6,j7,j8,j9,x0,x3,x4,x5,x6,x7,reduceCtorEq,↓reduceIte,zbw];refine⟨by omega,?_⟩;subst hY;refine zdd fun Y hY=>?_;refine zaf fun Z hZ=>?_;simp only[sxZ,z6,z7,z8,j4,j5,j6,j7,j8,j9,x0,x3,x4,x5,x6,x7,reduceCtorEq,↓reduceIte];subst hZ;rw[zcc];refine zcI (fun k o tm=>∃(i:Nat) (l':List ExP),i<=l.length/\k=l.length - i/\l'.length=l.length/\o=[.orow 31 9 0 l.length (zan l')]/\tm.length=68/\tm[0]? = some (.orow 0 0)/\tm[1]? = some (.row m.length (byA m))/\tm[22]? = some (.i .i64 l.length)/\tm[23]? = some (.i .i64 (i:Int))) l.length ⟨0,l,Nat.zero_le _,rfl,rfl,rfl,rfl,rfl,rfl,rfl,rfl⟩ ?_;rintro k o tm ⟨i,l',hi,rfl,hl',rfl,hlen,t0,t1,t22,t23⟩;have hxl':=zbb l';refine zaf fun W hW=>?_
  by_cases hlt:(i:Int)<(l.length:Int)
  ·have hi':i<l'.length:=by omega
   simp only[sxZ,z6,z7,z8,j4,j5,j6,j7,j8,j9,x0,x3,x4,x5,x6,x7,reduceCtorEq,↓reduceIte,za,hlen,t22,t23,hlt];subst hW;refine zaf fun W hW=>?_;simp only[sxZ,z6,z7,z8,j4,j5,j6,j7,j8,j9,x0,x3,x4,x5,x6,x7,reduceCtorEq,↓reduceIte,za,hlen];subst hW;refine zaf fun W hW=>?_;rw[zcc];refine zaf fun V hV=>?_;simp only[sxZ,z6,z7,z8,j4,j5,j6,j7,j8,j9,x0,x3,x4,x5,x6,x7,reduceCtorEq,↓reduceIte,za,hlen,t23];subst hV;refine zaf fun V hV=>?_
   by_cases c3:(i:Int)<(m.length:Int)
   ·simp only[sxZ,z6,z7,z8,j4,j5,j6,j7,j8,j9,x0,x3,x4,x5,x6,x7,reduceCtorEq,↓reduceIte,za,hlen,t1,c3];have c3':i<m.length:=by omega
    have hgv:(byA m)[i*1]? = some (.i .u8 ((m[i].toNat:Nat):Int)):=by rw[Nat.mul_one];simp[byA,ql,List.getElem?_eq_getElem c3']
    subst hV;obtain⟨j,hj,hj6⟩:∃j:Nat,((m[i].toNat:Int).tmod 6)=(j:Int)/\j<6:=⟨m[i].toNat % 6,rfl,by omega⟩;obtain⟨v,hv⟩:∃v:Int,([AV.i .i64 200,AV.i .i64 301,AV.i .i64 302,AV.i .i64 404,AV.i .i64 308,AV.i .i64 0]:List AV)[j*1]? = some (.i .i64 v):=by
     match j,hj6 with
     | 0,_=>exact⟨_,rfl⟩
     | 1,_=>exact⟨_,rfl⟩
     | 2,_=>exact⟨_,rfl⟩
     | 3,_=>exact⟨_,rfl⟩
     | 4,_=>exact⟨_,rfl⟩
     | 5,_=>exact⟨_,rfl⟩
    simp only[sxZ,z6,z7,z8,j4,j5,j6,j7,j8,j9,x0,x3,x4,x5,x6,x7,reduceCtorEq,↓reduceIte,za,hlen,t0,t1,hgv,hj,Int.toNat_natCast,hv];refine⟨by omega,by omega,by omega,by omega,?_⟩;rw[xc_set l' i hi' v];subst hW;simp only[sxZ,z6,z7,z8,j4,j5,j6,j7,j8,j9,x0,x3,x4,x5,x6,x7,reduceCtorEq,↓reduceIte,za,hlen,t23];exact⟨⟨by omega,by omega⟩,l.length - (i+1),by omega,i+1,_,by omega,rfl,by rw[zd];exact hl',rfl,t0,t1,t22,rfl⟩
   ·simp only[sxZ,z6,z7,z8,j4,j5,j6,j7,j8,j9,x0,x3,x4,x5,x6,x7,reduceCtorEq,↓reduceIte,za,hlen,t1,c3];subst hV;simp only[sxZ,z6,z7,z8,j4,j5,j6,j7,j8,j9,x0,x3,x4,x5,x6,x7,reduceCtorEq,↓reduceIte,za,hlen];subst hW;simp only[sxZ,z6,z7,z8,j4,j5,j6,j7,j8,j9,x0,x3,x4,x5,x6,x7,reduceCtorEq,↓reduceIte,za,hlen,t23];exact⟨⟨by omega,by omega⟩,l.length - (i+1),by omega,i+1,l',by omega,rfl,hl',rfl,t0,t1,t22,rfl⟩
  ·simp only[sxZ,z6,z7,z8,j4,j5,j6,j7,j8,j9,x0,x3,x4,x5,x6,x7,reduceCtorEq,↓reduceIte,za,hlen,t22,t23,hlt];subst hW;refine zaf fun W hW=>?_;simp only[sxZ,z6,z7,z8,j4,j5,j6,j7,j8,j9,x0,x3,x4,x5,x6,x7,reduceCtorEq,↓reduceIte,za,hlen,zbw];have hll:l'.length<=60:=by omega
   rw[<-hl'] at *;refine ptc_pub 0 rfl ?_;refine zjE (fun t=>t.length=68/\t[0]? = some (.row l'.length (zan l'))) (by simp only[List.length_map,zd,ql,sxZ,z6,z7,z8,j4,j5,j6,j7,j8,j9,x0,x3,x4,x5,x6,x7,reduceCtorEq,↓reduceIte,za,hlen,t0,zcE]) ?_;rintro t ⟨hlen,t0⟩;subst hY;refine zjF ?_;refine zaf fun Y hY=>?_;simp only[sxZ,z6,z7,z8,j4,j5,j6,j7,j8,j9,x0,x3,x4,x5,x6,x7,reduceCtorEq,↓reduceIte,za,hlen,t0];refine zgb (ziX l' (by omega) ?_);simp only[sxZ,z6,z7,z8,j4,j5,j6,j7,j8,j9,x0,x3,x4,x5,x6,x7,reduceCtorEq,↓reduceIte,za,hlen,t0];refine zgb (zjB l' (by omega) ?_);simp only[ziF,sxZ,z6,z7,z8,j4,j5,j6,j7,j8,j9,x0,x3,x4,x5,x6,x7,reduceCtorEq,↓reduceIte,za,hlen];have hel:=chE_len l';have hea:=chE_all l';generalize chE l'=cs at hel hea ⊢;have hrl:=ch_rlen cs;subst hY;refine zaf fun Y hY=>?_;simp only[sxZ,z6,z7,z8,j4,j5,j6,j7,j8,j9,x0,x3,x4,x5,x6,x7,reduceCtorEq,↓reduceIte,za,hlen,decide_true,eq_self,not_true];subst hY;refine zaf fun Z hZ=>?_;refine zaf fun Y hY=>?_;simp only[sxZ,z6,z7,z8,j4,j5,j6,j7,j8,j9,x0,x3,x4,x5,x6,x7,reduceCtorEq,↓reduceIte,za,hlen];subst hY;rw[zcc];refine zcI (fun k o tm=>∃i:Nat,i<=cs.length/\k=cs.length - i/\tm.length=68/\tm[6]? = some (.row cs.length (zbJ cs))/\tm[7]? = some (.row cs.length (zbJ cs))/\tm[53]? = some (.i .i64 cs.length)/\tm[54]? = some (.i .i64 (i:Int))) cs.length ⟨0,Nat.zero_le _,rfl,by simp only[zd,hlen],by simp only[sxZ,z6,z7,z8,j4,j5,j6,j7,j8,j9,x0,x3,x4,x5,x6,x7,reduceCtorEq,↓reduceIte,za,zd,hlen],by simp only[sxZ,z6,z7,z8,j4,j5,j6,j7,j8,j9,x0,x3,x4,x5,x6,x7,reduceCtorEq,↓reduceIte,za,zd,hlen],by simp only[sxZ,z6,z7,z8,j4,j5,j6,j7,j8,j9,x0,x3,x4,x5,x6,x7,reduceCtorEq,↓reduceIte,za,zd,hlen],by simp only[sxZ,z6,z7,z8,j4,j5,j6,j7,j8,j9,x0,x3,x4,x5,x6,x7,reduceCtorEq,↓reduceIte,za,zd,hlen];rfl⟩ ?_;clear hlen t0;rintro k o tm ⟨i,hi,rfl,hlen,t6,t7,t53,t54⟩;refine zaf fun W hW=>?_
   by_cases hlt:(i:Int)<(cs.length:Int)
   ·have hi':i<cs.length:=by omega
    have hg:=ch_get cs i hi';have hc:=hea cs[i] (List.getElem_mem hi');simp only[sxZ,z6,z7,z8,j4,j5,j6,j7,j8,j9,x0,x3,x4,x5,x6,x7,reduceCtorEq,↓reduceIte,za,hlen,t53,t54,hlt];subst hW;refine zaf fun W hW=>?_;simp only[sxZ,z6,z7,z8,j4,j5,j6,j7,j8,j9,x0,x3,x4,x5,x6,x7,reduceCtorEq,↓reduceIte,za,hlen];subst hW;refine zaf fun W hW=>?_;rw[zcc];refine zaf fun V hV=>?_;simp only[sxZ,z6,z7,z8,j4,j5,j6,j7,j8,j9,x0,x3,x4,x5,x6,x7,reduceCtorEq,↓reduceIte,za,hlen,t54];subst hV;refine zaf fun V hV=>?_;simp only[sxZ,z6,z7,z8,j4,j5,j6,j7,j8,j9,x0,x3,x4,x5,x6,x7,reduceCtorEq,↓reduceIte,za,hlen,t6,t7,hg];refine⟨by omega,by omega,?_⟩;refine kdcall (zf1 cs[i] (by omega) ⟨rfl,rfl⟩) ?_;simp only[sxZ,z6,z7,z8,j4,j5,j6,j7,j8,j9,x0,x3,x4,x5,x6,x7,reduceCtorEq,↓reduceIte,za,hlen];subst hV;simp only[sxZ,z6,z7,z8,j4,j5,j6,j7,j8,j9,x0,x3,x4,x5,x6,x7,reduceCtorEq,↓reduceIte,za,hlen];subst hW;simp only[sxZ,z6,z7,z8,j4,j5,j6,j7,j8,j9,x0,x3,x4,x5,x6,x7,reduceCtorEq,↓reduceIte,za,hlen,t54];exact⟨⟨by omega,by omega⟩,cs.length - (i+1),by omega,i+1,by omega,rfl,t6,t7,t53,rfl⟩
   ·simp only[sxZ,z6,z7,z8,j4,j5,j6,j7,j8,j9,x0,x3,x4,x5,x6,x7,reduceCtorEq,↓reduceIte,za,hlen,t53,t54,hlt];subst hW;refine zaf fun W hW=>?_;simp only[sxZ,z6,z7,z8,j4,j5,j6,j7,j8,j9,x0,x3,x4,x5,x6,x7,reduceCtorEq,↓reduceIte,za,hlen];subst hZ;simp only[sxZ,z6,z7,z8,j4,j5,j6,j7,j8,j9,x0,x3,x4,x5,x6,x7,reduceCtorEq,↓reduceIte,za,hlen]
theorem witnessChains_c [Shp Tryz.prog] [Utf Tryz.prog] (g0:List (List AV)) (w0:g0.length<=140737488351232) (h0:∀g∈g0,ShT (.st [.st [.s,.i .i64,.s,.s,.s,.b,.b],.i .i64,.i .i64]) g) (g1:List (List AV)) (w1:g1.length<=140737488351232) (h1:∀g∈g1,ShT (.i .u8) g):zai Tryz.prog 3 [.row g0.length g0.flatten,.row g1.length g1.flatten] [] (fun _ r=>r=.b true):=by
 obtain⟨l,e1,e2,hl⟩:=sl_exp h0;obtain⟨m,e3,e4⟩:=sl_u8 h1;rw[e1,e2,e3,e4];exact zdk (fun _ _ hk=>sane33_k hk) l (by omega) hl m (by omega)
end
end
theorem utabs_of {w : World} (h0 : Lib.TabIs Tryz.prog w "webfinger/utf8text.lengths" .i64 lensT) (h1 : Lib.TabIs Tryz.prog w "webfinger/utf8text.mosts" .i64 mostT) : UTabs w :=
 ⟨fun i hi=>h0.cell (by kernel_rfl) i hi,fun i hi=>h1.cell (by kernel_rfl) i hi⟩
instance (priority := high) tabsU : Tabs Tryz.prog := ⟨fun w => w.ShapedOpen Tryz.prog ∧ Lib.TabIs Tryz.prog w "internal/strconv.uint64pow10" .u64 Lib.pow10Tab ∧ Lib.TabIs Tryz.prog w "webfinger/utf8text.lengths" .i64 lensT ∧ Lib.TabIs Tryz.prog w "webfinger/utf8text.mosts" .i64 mostT, fun _ _ h hk _ => ⟨zdq h.1 hk, zb1 h.2.1 hk, zb1 h.2.2.1 hk, zb1 h.2.2.2 hk⟩⟩
instance (priority:=high) tabsU_shp:Shp Tryz.prog:=⟨fun _ h=>h.1⟩
instance (priority:=high) tabsU_pow:Pow Tryz.prog:=⟨fun _ h=>h.2.1⟩
instance (priority:=high) tabsU_utf:Utf Tryz.prog:=⟨fun _ h=>utabs_of h.2.2.1 h.2.2.2⟩
end Go.Proofs.YtcpldfimbhdfdaaGreatDoor
