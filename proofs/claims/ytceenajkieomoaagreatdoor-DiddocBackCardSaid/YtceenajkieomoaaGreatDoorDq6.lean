/- The texts that the proofs of these statements reach, in their order, as few files. -/
import Derived.Lib.LastIndexByte
import Derived.Lib.Replace
import Derived.Lib.CountLaws
import Derived.Lib.Join
import Derived.Test.YtceenajkieomoaaGreatDoorProg
import Derived.Test.YtceenajkieomoaaGreatDoorDq5
set_option linter.unusedVariables false
set_option linter.unusedSimpArgs false
set_option maxRecDepth 100000
namespace Go.Proofs.YtceenajkieomoaaGreatDoor
open Go.RowKit
open Lib renaming hid->zb
open List renaming append_assoc->zy, append_nil->jh
open Nat renaming le_refl->ze, zero_le->zd
set_option maxHeartbeats 800000 in
theorem zip (s:ByteArray) (w:World) (hs:s.size<=16384) :
  Calls Tryz.prog 123 #[.string s,.func (.func 124) #[] #[]] w fun e w'=>e=.returned (zlQ (rwS zce 0 s.data.toList []))/\Qb w w':=by
 have hmk:=fun W=>ziC s.size (by omega) W
 go_enter Tryz.func123,Tryz.ntmps123
 go_wp2_with fail
 clear hmk
 go_loopw [6,7,8,9,10,11,20] (fun v m _ _ _ _ i wr=>∃k j:Nat,∃l,k<=s.size/\k<=j/\j<=s.size/\m=.int .i64 j/\i=.int .i64 k/\zcK wr w.heap.size v l/\l.length<=3*k/\Hid (rwS zce 0 s.data.toList []=rwS zce (j - k) (s.data.toList.drop k) l)/\Qb w wr) (fun _ _ _ _ _ _ i _=>s.size - (intOf i).toNat)
 case atStart=>exact⟨0,0,[],zd _,ze _,zd _,rfl,rfl,zi2 w _ 0 _ (ze _) (zd _) (by omega),zd _,zb rfl,(Qb.refl w).alloc _⟩
 case round=>
  obtain⟨k,j,l,hk,hkj,hj,rfl,rfl,hrow,hlen,HR,hq⟩:=hrel
  by_cases hlt:k<s.size
  ·by_cases hskip:k<j
   ·have HS:=zb (zj1 zce s k l j hlt hskip)
    go_wp2_with fail
    go_roundw
    case rel=>exact⟨k+1,j,l,by omega,by omega,hj,rfl,by go_num,hrow,by omega,zb (HR.out.trans HS.out),hq⟩
    case measure=>simp[intOf];omega
   ·obtain rfl:k=j:=by omega
    rw[Nat.sub_self] at HR;have hB:w.heap.size<=wr.heap.size:=hq.size
    by_cases hc:s[k]=37
    ·have h37:((s[k].toNat:Int)==37)=true:=by rw[hc];rfl
     have HC:=zb hc;clear hc;rcases he:zbz (s.data.toList.drop k) with _|_
     ·have HE:=zb (zmF zce s k l hlt HC.out he)
      go_wp2_with (go_at_call 137;refine(zbY s k (by omega) (by unfold maxLen;omega) _).mono ?_;rintro e w' ⟨rfl,rfl⟩)
      go_ret2
      exact⟨by rw[HR.out,HE.out];rfl,hq⟩
     ·obtain⟨h2,ha,hb,hv2⟩:=ziO s k he;have n1:=(zdl ha).2;rw[<-(zdl ha).1] at n1;have n2:=(zdl hb).2;rw[<-(zdl hb).1] at n2;have hor:bits .or .u8 (((hv s[k+1]).toNat:Int)*16) ((hv s[k+2]).toNat:Int)=((zb7 (s.data.toList.drop k)).toNat:Int):=by
       rw[hv2,<-or_shl ⟨_,n1⟩ ⟨_,n2⟩];rfl
      have HV:=zb hor;have HE0:=zb he;clear hv2 hor;have q1:IntKind.i64.wrap ((k:Int)+1)=(k:Int)+1:=IntWalk.i64_in _ (by omega);have q2:(0:Int)<=(k:Int)+1:=by omega
      have q3:((k:Int)+1).toNat=k+1:=by omega
      have q4:(k:Int)+1<s.size:=by omega
      have q5:IntKind.i64.wrap ((k:Int)+2)=(k:Int)+2:=IntWalk.i64_in _ (by omega);have q6:(0:Int)<=(k:Int)+2:=by omega
      have q7:((k:Int)+2).toNat=k+2:=by omega
      have q8:(k:Int)+2<s.size:=by omega
      go_wp2_with (go_at_call 137;refine(zbY s k (by omega) (by unfold maxLen;omega) _).mono ?_;rintro e w' ⟨rfl,rfl⟩)
      go_quiet ((go_at_call 138;exact zgQ (zgS _ (by assumption) _)))
      clear he
      go_wp2_with fail
      rw[HV.out];refine(zg8 _ l (zb7 (s.data.toList.drop k)) true w.heap.size _ (by exact hrow) (by omega) (by exact hB)).mono ?_;rintro en w2 ⟨v2,rfl,hr2,hb2⟩;have hq2:Qb w w2:=Below.trans (hq.drewN _) hb2;have hl2:=zlA (l:=l) (x:=zb7 (s.data.toList.drop k)) (e:=true)
      by_cases h0:(zce l (zb7 (s.data.toList.drop k)) true).1=0
      ·have hr3:=hr2 h0;have HE:=zb (zmD zce s k l hlt HC.out HE0.out h0);clear hr2;generalize hout:(zce l (zb7 (s.data.toList.drop k)) true).2=l2 at *;have HO:=zb hout;clear hout
       go_wp2_with fail
       go_roundw
       case rel=>exact⟨k+1,k+3,l2,by omega,by omega,by omega,by go_num,by go_num,hr3,by omega,zb (HR.out.trans HE.out),hq2⟩
       case measure=>simp[intOf];omega
      ·have HE:=zb (zfU zce s k l hlt HC.out HE0.out h0);have h1:(((zce l (zb7 (s.data.toList.drop k)) true).1) != 0)=true:=bne_iff_ne.2 h0;clear h0 hr2
       go_wp2_with fail
       go_ret2
       exact⟨by rw[HR.out,HE.out];rfl,hq2⟩
    ·have h37:((s[k].toNat:Int)==37)=false:=by
      rw[beq_eq_false_iff_ne];intro e;exact hc (UInt8.toNat_inj.1 (show s[k].toNat=37 from by omega))
     have HC:=zb hc;clear hc
     all_goals
      go_wp2_with fail
      refine(zg8 _ l (s[k]) false w.heap.size _ (by exact hrow) (by omega) (by exact hB)).mono ?_;rintro en w2 ⟨v2,rfl,hr2,hb2⟩;have hq2:Qb w w2:=Below.trans hq hb2;have hl2:=zlA (l:=l) (x:=s[k]) (e:=false)
      by_cases h0:(zce l (s[k]) false).1=0
      ·have hr3:=hr2 h0;have HE:=zb (zmC zce s k l hlt HC.out h0);clear hr2;generalize hout:(zce l (s[k]) false).2=l2 at *;have HO:=zb hout;clear hout
       go_wp2_with fail
       go_roundw
       case rel=>exact⟨k+1,k+1,l2,by omega,by omega,by omega,by go_num,by go_num,hr3,by omega,zb (HR.out.trans HE.out),hq2⟩
       case measure=>simp[intOf];omega
      ·have HE:=zb (zfT zce s k l hlt HC.out h0);have h1:(((zce l (s[k]) false).1) != 0)=true:=bne_iff_ne.2 h0;clear h0 hr2
       go_wp2_with fail
       go_ret2
       exact⟨by rw[HR.out,HE.out];rfl,hq2⟩
  ·have HE:=zb (zmE zce s k l (j - k) hlt);have hst:=zmP hrow
   go_wp2_with fail
   go_ret2
   exact⟨by rw[HR.out,HE.out];rfl,hq⟩
set_option maxHeartbeats 800000 in
theorem zio (s:ByteArray) (g:Nat) (also:ByteArray) (w:World) (hs:s.size<=16384) (hg:g<w.heap.size) (hc0:w.cell? ⟨g,0,none⟩=some (.string also)) :
  Calls Tryz.prog 123 #[.string s,.func (.func 126) #[] #[.pointer (some ⟨g,0,none⟩)]] w fun e w'=>e=.returned (zlQ (rwS (zcD also.data.toList) 0 s.data.toList []))/\Qb w w':=by
 have hmk:=fun W=>ziC s.size (by omega) W
 go_enter Tryz.func123,Tryz.ntmps123
 go_wp2_with fail
 clear hmk
 go_loopw [6,7,8,9,10,11,20] (fun v m _ _ _ _ i wr=>∃k j:Nat,∃l,k<=s.size/\k<=j/\j<=s.size/\m=.int .i64 j/\i=.int .i64 k/\zcK wr w.heap.size v l/\l.length<=3*k/\Hid (rwS (zcD also.data.toList) 0 s.data.toList []=rwS (zcD also.data.toList) (j - k) (s.data.toList.drop k) l)/\Qb w wr) (fun _ _ _ _ _ _ i _=>s.size - (intOf i).toNat)
 case atStart=>exact⟨0,0,[],zd _,ze _,zd _,rfl,rfl,zi2 w _ 0 _ (ze _) (zd _) (by omega),zd _,zb rfl,(Qb.refl w).alloc _⟩
 case round=>
  obtain⟨k,j,l,hk,hkj,hj,rfl,rfl,hrow,hlen,HR,hq⟩:=hrel
  by_cases hlt:k<s.size
  ·by_cases hskip:k<j
   ·have HS:=zb (zj1 (zcD also.data.toList) s k l j hlt hskip)
    go_wp2_with fail
    go_roundw
    case rel=>exact⟨k+1,j,l,by omega,by omega,hj,rfl,by go_num,hrow,by omega,zb (HR.out.trans HS.out),hq⟩
    case measure=>simp[intOf];omega
   ·obtain rfl:k=j:=by omega
    rw[Nat.sub_self] at HR;have hB:w.heap.size<=wr.heap.size:=hq.size;have hcw:wr.cell? ⟨g,0,none⟩=some (.string also):=(hq.below.cell (p:=⟨g,0,none⟩) hg).trans hc0
    by_cases hc:s[k]=37
    ·have h37:((s[k].toNat:Int)==37)=true:=by rw[hc];rfl
     have HC:=zb hc;clear hc;rcases he:zbz (s.data.toList.drop k) with _|_
     ·have HE:=zb (zmF (zcD also.data.toList) s k l hlt HC.out he)
      go_wp2_with (go_at_call 137;refine(zbY s k (by omega) (by unfold maxLen;omega) _).mono ?_;rintro e w' ⟨rfl,rfl⟩)
      go_ret2
      exact⟨by rw[HR.out,HE.out];rfl,hq⟩
     ·obtain⟨h2,ha,hb,hv2⟩:=ziO s k he;have n1:=(zdl ha).2;rw[<-(zdl ha).1] at n1;have n2:=(zdl hb).2;rw[<-(zdl hb).1] at n2;have hor:bits .or .u8 (((hv s[k+1]).toNat:Int)*16) ((hv s[k+2]).toNat:Int)=((zb7 (s.data.toList.drop k)).toNat:Int):=by
       rw[hv2,<-or_shl ⟨_,n1⟩ ⟨_,n2⟩];rfl
      have HV:=zb hor;have HE0:=zb he;clear hv2 hor;have q1:IntKind.i64.wrap ((k:Int)+1)=(k:Int)+1:=IntWalk.i64_in _ (by omega);have q2:(0:Int)<=(k:Int)+1:=by omega
      have q3:((k:Int)+1).toNat=k+1:=by omega
      have q4:(k:Int)+1<s.size:=by omega
      have q5:IntKind.i64.wrap ((k:Int)+2)=(k:Int)+2:=IntWalk.i64_in _ (by omega);have q6:(0:Int)<=(k:Int)+2:=by omega
      have q7:((k:Int)+2).toNat=k+2:=by omega
      have q8:(k:Int)+2<s.size:=by omega
      go_wp2_with (go_at_call 137;refine(zbY s k (by omega) (by unfold maxLen;omega) _).mono ?_;rintro e w' ⟨rfl,rfl⟩)
      go_quiet ((go_at_call 138;exact zgQ (zgS _ (by assumption) _)))
      clear he
      go_wp2_with fail
      rw[HV.out];refine(zf8 _ l (zb7 (s.data.toList.drop k)) true w.heap.size g also _ (by exact hrow) (by omega) (by exact hB) (by exact hcw)).mono ?_;rintro en w2 ⟨v2,rfl,hr2,hb2⟩;have hq2:Qb w w2:=Below.trans (hq.drewN _) hb2;have hl2:=zlz (also:=also.data.toList) (l:=l) (x:=zb7 (s.data.toList.drop k)) (e:=true)
      by_cases h0:((zcD also.data.toList) l (zb7 (s.data.toList.drop k)) true).1=0
      ·have hr3:=hr2 h0;have HE:=zb (zmD (zcD also.data.toList) s k l hlt HC.out HE0.out h0);clear hr2;generalize hout:((zcD also.data.toList) l (zb7 (s.data.toList.drop k)) true).2=l2 at *;have HO:=zb hout;clear hout
       go_wp2_with fail
       go_roundw
       case rel=>exact⟨k+1,k+3,l2,by omega,by omega,by omega,by go_num,by go_num,hr3,by omega,zb (HR.out.trans HE.out),hq2⟩
       case measure=>simp[intOf];omega
      ·have HE:=zb (zfU (zcD also.data.toList) s k l hlt HC.out HE0.out h0);have h1:((((zcD also.data.toList) l (zb7 (s.data.toList.drop k)) true).1) != 0)=true:=bne_iff_ne.2 h0;clear h0 hr2
       go_wp2_with fail
       go_ret2
       exact⟨by rw[HR.out,HE.out];rfl,hq2⟩
    ·have h37:((s[k].toNat:Int)==37)=false:=by
      rw[beq_eq_false_iff_ne];intro e;exact hc (UInt8.toNat_inj.1 (show s[k].toNat=37 from by omega))
     have HC:=zb hc;clear hc
     all_goals
      go_wp2_with fail
      refine(zf8 _ l (s[k]) false w.heap.size g also _ (by exact hrow) (by omega) (by exact hB) (by exact hcw)).mono ?_;rintro en w2 ⟨v2,rfl,hr2,hb2⟩;have hq2:Qb w w2:=Below.trans hq hb2;have hl2:=zlz (also:=also.data.toList) (l:=l) (x:=s[k]) (e:=false)
      by_cases h0:((zcD also.data.toList) l (s[k]) false).1=0
      ·have hr3:=hr2 h0;have HE:=zb (zmC (zcD also.data.toList) s k l hlt HC.out h0);clear hr2;generalize hout:((zcD also.data.toList) l (s[k]) false).2=l2 at *;have HO:=zb hout;clear hout
       go_wp2_with fail
       go_roundw
       case rel=>exact⟨k+1,k+1,l2,by omega,by omega,by omega,by go_num,by go_num,hr3,by omega,zb (HR.out.trans HE.out),hq2⟩
       case measure=>simp[intOf];omega
      ·have HE:=zb (zfT (zcD also.data.toList) s k l hlt HC.out h0);have h1:((((zcD also.data.toList) l (s[k]) false).1) != 0)=true:=bne_iff_ne.2 h0;clear h0 hr2
       go_wp2_with fail
       go_ret2
       exact⟨by rw[HR.out,HE.out];rfl,hq2⟩
  ·have HE:=zb (zmE (zcD also.data.toList) s k l (j - k) hlt);have hst:=zmP hrow
   go_wp2_with fail
   go_ret2
   exact⟨by rw[HR.out,HE.out];rfl,hq⟩
theorem zef (s:ByteArray) (f:Value) (w:World) (hs:¬s.size<=16384) :
  Calls Tryz.prog 123 #[.string s,f] w fun e w'=>e=.returned (zlQ (5,[]))/\w=w':=by
 go_enter Tryz.func123,Tryz.ntmps123
 go_wp2_with fail
 go_ret2
 exact⟨rfl,rfl⟩
theorem zjt (s:ByteArray) (w:World) :
  Calls Tryz.prog 110 #[.string s] w fun e w'=>e=.returned (zlQ (zd4 s.data.toList))/\Qb w w':=by
 have hmf:∀(fn:Fn) (first cap:Array Value) (w:World),(Instr.makeFunc fn first cap).run Tryz.prog w=.ok (.func fn first cap) w:=fun _ _ _ _=>rfl
 by_cases hs:s.size<=16384
 ·have hd:zd4 s.data.toList=rwS zce 0 s.data.toList []:=by unfold zd4 zhM;rw[if_neg (by rw[zao];omega)]
  rw[hd]
  go_enter Tryz.func110,Tryz.ntmps110
  go_wp2_with fail
  refine(zip s _ hs).mono ?_;rintro e w1 ⟨rfl,hq1⟩;unfold zlQ
  go_wp2_with fail
  go_ret2
  exact⟨rfl,hq1⟩
 ·have hd:zd4 s.data.toList=(5,[]):=by unfold zd4 zhM;rw[if_pos (by rw[zao];omega)]
  rw[hd]
  go_enter Tryz.func110,Tryz.ntmps110
  go_wp2_with fail
  refine(zef s _ _ hs).mono ?_;rintro e w1 ⟨rfl,rfl⟩;unfold zlQ
  go_wp2_with fail
  go_ret2
  exact⟨rfl,Qb.refl _⟩
theorem znt (s a:ByteArray) (w:World) :
  Calls Tryz.prog 112 #[.string s,.string a] w fun e w'=>e=.returned (zlQ (zax s.data.toList a.data.toList))/\Qb w w':=by
 have hmf:∀(fn:Fn) (first cap:Array Value) (w:World),(Instr.makeFunc fn first cap).run Tryz.prog w=.ok (.func fn first cap) w:=fun _ _ _ _=>rfl
 by_cases hs:s.size<=16384
 ·have hd:zax s.data.toList a.data.toList=rwS (zcD a.data.toList) 0 s.data.toList []:=by unfold zax zhM;rw[if_neg (by rw[zao];omega)]
  rw[hd]
  go_enter Tryz.func112,Tryz.ntmps112
  go_wp2_with fail
  refine(zio s w.heap.size a _ hs (by simp) (by rw[World.cell?_alloc_at _ _ _ _ rfl];rfl)).mono ?_;rintro e w1 ⟨rfl,hq1⟩;unfold zlQ
  go_wp2_with fail
  go_ret2
  exact⟨rfl,((Qb.refl w).alloc _).trans hq1⟩
 ·have hd:zax s.data.toList a.data.toList=(5,[]):=by unfold zax zhM;rw[if_pos (by rw[zao];omega)]
  rw[hd]
  go_enter Tryz.func112,Tryz.ntmps112
  go_wp2_with fail
  refine(zef s _ _ hs).mono ?_;rintro e w1 ⟨rfl,rfl⟩;unfold zlQ
  go_wp2_with fail
  go_ret2
  exact⟨rfl,(Qb.refl w).alloc _⟩
theorem zk3 (c:UInt8):(zeF c).length=3:=rfl
theorem zbH (add:zi6):∀(n:Nat) (l out:List UInt8),rwS add n l out=rwS add 0 (l.drop n) out
 | 0,l,out=>rfl
 | n+1,[],out=>by rw[List.drop_nil,rwS,rwS]
 | n+1,_::l,out=>by rw[rwS,List.drop_succ_cons];exact zbH add n l out
theorem zcw {c:UInt8} {l:List UInt8} (h:zaF c=true):zb2 c l=true:=by unfold zb2;rw[h];rfl
theorem u37:zaF 37=false:=by decide
theorem zg3:∀n:Fin 16,zaP (zeX n.val)=true/\hvN (zeX n.val)=n.val/\zeX n.val≠37:=by decide
theorem zoI (c:UInt8) (r:List UInt8):zbz (zeF c++r)=true/\zb7 (zeF c++r)=c:=by
 have hc:=c.toNat_lt;have h1:=zg3 ⟨c.toNat / 16,by omega⟩;have h2:=zg3 ⟨c.toNat % 16,by omega⟩;simp only at h1 h2
 constructor
 ·show (zaP (zeX (c.toNat / 16))&&zaP (zeX (c.toNat % 16)))=true;rw[h1.1,h2.1];rfl
 ·show UInt8.ofNat (16*hvN (zeX (c.toNat / 16))+hvN (zeX (c.toNat % 16)))=c;rw[h1.2.1,h2.2.1,show 16*(c.toNat / 16)+c.toNat % 16=c.toNat from by omega];exact UInt8.ofNat_toNat
theorem zj2 (add:zi6) (c:UInt8) (r out:List UInt8) (o2:List UInt8) (h:add out c true=(0,o2)):rwS add 0 (zeF c++r) out=rwS add 0 r o2:=by
 have h1:=zoI c r;show rwS add 0 (37::([zeX (c.toNat / 16),zeX (c.toNat % 16)]++r)) out=_;have e:(37::([zeX (c.toNat / 16),zeX (c.toNat % 16)]++r):List UInt8)=zeF c++r:=rfl;rw[rwS,if_pos rfl,e,if_pos h1.1,h1.2,h,if_pos rfl,zbH]
 rfl
theorem zee (add:zi6) (c:UInt8) (r out:List UInt8) (o2:List UInt8) (hc:c≠37) (h:add out c false=(0,o2)):rwS add 0 ([c]++r) out=rwS add 0 r o2:=by
 show rwS add 0 (c::r) out=_;rw[rwS,if_neg hc,h,if_pos rfl]
def Canon (also l y a:List UInt8):Prop :=
 (∀o r,rwS (zcD also) 0 (y++r) o=rwS (zcD also) 0 r (o++y))/\(∀o,rwS zce 0 l o=(0,o++a))/\(∀o r,rwS zce 0 (y++r) o=rwS zce 0 r (o++a))/\y.length<=l.length
theorem zbC {c:UInt8} {t:List UInt8} (h:zbz (c::t)=true):∃a b r,t=a::b::r:=by
 match t,h with
 | a::b::r,_=>exact⟨a,b,r,rfl⟩
theorem zg2 {x:UInt8} (h:zaF x=true):x≠37:=by
 rintro rfl;rw[u37] at h;cases h
theorem zf6 (also:List UInt8):∀(n:Nat) (l out x:List UInt8),l.length<=n->rwS (zcD also) 0 l out=(0,x)->∃y a,x=out++y/\Canon also l y a:=by
 intro n
 induction n with
 | zero=>
  intro l out x hl h;have:l=[]:=List.eq_nil_of_length_eq_zero (by omega);subst this;rw[rwS] at h;obtain rfl:out=x:=by injection h
  exact⟨[],[],by simp,by simp,by intro o;rw[rwS,jh],by simp,ze _⟩
 | succ n ih=>
  intro l out x hl h
  cases l with
  | nil=>
   rw[rwS] at h;obtain rfl:out=x:=by injection h
   exact⟨[],[],by simp,by simp,by intro o;rw[rwS,jh],by simp,ze _⟩
  | cons c t=>
   by_cases hc:c=37
   ·rcases he:zbz (c::t) with _|_
    ·rw[rwS,if_pos hc,if_neg (by rw[he];exact Bool.false_ne_true)] at h;injection h with h1 _
     exact absurd h1 (by decide)
    ·obtain⟨a,b,r,rfl⟩:=zbC he;have hd:∀o,rwS zce 0 (c::a::b::r) o=rwS zce 0 r (o++[zb7 (c::a::b::r)]):=by
      intro o;rw[rwS,if_pos hc,if_pos he];show (if (0:Int)=0 then rwS zce 2 (a::b::r) _ else _)=_;rw[if_pos rfl,zbH]
      rfl
     rcases hu:zaF (zb7 (c::a::b::r)) with _|_
     ·rw[rwS,if_pos hc,if_pos he,zeB hu,if_pos rfl,zbH] at h;obtain⟨y,m,rfl,h1,h2,h3,h4⟩:=ih r _ x (by simp at hl ⊢;omega) h;refine⟨zeF (zb7 (c::a::b::r))++y,zb7 (c::a::b::r)::m,by simp,?_,?_,?_,?_⟩
      ·intro o r';rw[zy,zj2 _ _ _ _ _ (zeB hu),h1,zy]
      ·intro o;rw[hd,h2,zy];rfl
      ·intro o r';rw[zy,zj2 zce _ _ _ _ rfl,h3,zy];rfl
      ·rw[List.length_append,zk3];simp;omega
     ·rw[rwS,if_pos hc,if_pos he,zbe (by rw[hu];rfl) (zcw hu),if_pos rfl,zbH] at h;obtain⟨y,m,rfl,h1,h2,h3,h4⟩:=ih r _ x (by simp at hl ⊢;omega) h;refine⟨[zb7 (c::a::b::r)]++y,zb7 (c::a::b::r)::m,by simp,?_,?_,?_,?_⟩
      ·intro o r';rw[zy,zee _ _ _ _ _ (zg2 hu) (zbe rfl (zcw hu)),h1,zy]
      ·intro o;rw[hd,h2,zy];rfl
      ·intro o r';rw[zy,zee zce _ _ _ _ (zg2 hu) rfl,h3,zy];rfl
      ·simp;omega
   ·rcases hp:zb2 c also with _|_
    ·rw[rwS,if_neg hc,zh4 rfl hp,if_neg (by decide)] at h;injection h with h1 _
     exact absurd h1 (by decide)
    ·rw[rwS,if_neg hc,zbe rfl hp,if_pos rfl] at h;obtain⟨y,m,rfl,h1,h2,h3,h4⟩:=ih t _ x (by simp at hl;omega) h;refine⟨[c]++y,c::m,by simp,?_,?_,?_,?_⟩
     ·intro o r';rw[zy,zee _ _ _ _ _ hc (zbe rfl hp),h1,zy]
     ·intro o;rw[rwS,if_neg hc];show (if (0:Int)=0 then rwS zce 0 t _ else _)=_;rw[if_pos rfl,h2];show (0,(o++[c])++m)=_;rw[zy];rfl
     ·intro o r';rw[zy,zee zce _ _ _ _ hc rfl,h3,zy];rfl
     ·simp;omega
theorem za8 (l also x:List UInt8) (h:zax l also=(0,x)):zax x also=(0,x)/\(∃a,zd4 l=(0,a)/\zd4 x=(0,a))/\x.length<=l.length:=by
 unfold zax zhM at h
 by_cases hlen:16384<l.length
 ·rw[if_pos hlen] at h;injection h with h1 _
  exact absurd h1 (by decide)
 ·rw[if_neg hlen] at h;obtain⟨y,a,rfl,h1,h2,h3,h4⟩:=zf6 also l.length l [] x (ze _) h;have e1:=h1 [] [];have e3:=h3 [] [];rw[jh,rwS,List.nil_append] at e1 e3;refine⟨?_,⟨a,?_,?_⟩,h4⟩
  ·unfold zax zhM;rw[if_neg (by omega),e1]
  ·unfold zd4 zhM;rw[if_neg hlen,h2];rfl
  ·unfold zd4 zhM;rw[if_neg (by omega),e3]
theorem zc5 (add:zi6):∀(l out:List UInt8) (n:Nat),(rwS add n l out).1≠0->(rwS add n l out).2=[]
 | [],out,n=>by intro h;cases n<;>(rw[rwS] at h;exact absurd rfl h)
 | c::l,out,n+1=>by intro h;rw[rwS] at h ⊢;exact zc5 add l out n h
 | c::l,out,0=>by
  intro h;rw[rwS] at h ⊢
  split at h
  ·rename_i hc;rw[if_pos hc]
   split at h
   ·rename_i he;rw[if_pos he]
    split at h
    ·rename_i ha;rw[if_pos ha];exact zc5 add l _ 2 h
    ·rename_i ha;rw[if_neg ha]
   ·rename_i he;rw[if_neg he]
  ·rename_i hc;rw[if_neg hc]
   split at h
   ·rename_i ha;rw[if_pos ha];exact zc5 add l _ 0 h
   ·rename_i ha;rw[if_neg ha]
theorem ziB (l also:List UInt8) (h:(zax l also).1≠0):(zax l also).2=[]:=by
 unfold zax zhM at h ⊢
 split
 ·rfl
 ·rename_i hl;rw[if_neg hl] at h;exact zc5 _ _ _ _ h
end Go.Proofs.YtceenajkieomoaaGreatDoor
namespace Go.Proofs.YtceenajkieomoaaGreatDoor
open List renaming mem_cons->zv
def okB (also:List UInt8) (c:UInt8):Bool:=c==37||zaP c||zb2 c also
theorem zf7 (also:List UInt8):∀(n:Nat) (l out x:List UInt8),l.length<=n->rwS (zcD also) 0 l out=(0,x)->l.all (okB also)=true:=by
 intro n
 induction n with
 | zero=>
  intro l out x hl h;have:l=[]:=List.eq_nil_of_length_eq_zero (by omega);subst this;rfl
 | succ n ih=>
  intro l out x hl h
  cases l with
  | nil=>rfl
  | cons c t=>
   by_cases hc:c=37
   ·rcases he:zbz (c::t) with _|_
    ·rw[rwS,if_pos hc,if_neg (by rw[he];exact Bool.false_ne_true)] at h;injection h with h1 _
     exact absurd h1 (by decide)
    ·obtain⟨a,b,r,rfl⟩:=zbC he;have hab:zaP a=true/\zaP b=true:=by
      have:(zaP a&&zaP b)=true:=he;simpa using this
     have hr:∃o2,rwS (zcD also) 0 r o2=(0,x):=by
      rcases hu:zaF (zb7 (c::a::b::r)) with _|_
      ·rw[rwS,if_pos hc,if_pos he,zeB hu,if_pos rfl,zbH] at h;exact⟨_,h⟩
      ·rw[rwS,if_pos hc,if_pos he,zbe (by rw[hu];rfl) (zcw hu),if_pos rfl,zbH] at h;exact⟨_,h⟩
     obtain⟨o2,hr⟩:=hr;have:=ih r o2 x (by simp at hl ⊢;omega) hr;simp[okB,hc,hab.1,hab.2,this]
   ·rcases hp:zb2 c also with _|_
    ·rw[rwS,if_neg hc,zh4 rfl hp,if_neg (by decide)] at h;injection h with h1 _
     exact absurd h1 (by decide)
    ·rw[rwS,if_neg hc,zbe rfl hp,if_pos rfl] at h;have:=ih t _ x (by simp at hl;omega) h;simp[okB,hp,this]
theorem zlX {l also x:List UInt8} (h:zax l also=(0,x)):l.all (okB also)=true:=by
 unfold zax zhM at h
 split at h
 ·injection h with h1 _
  exact absurd h1 (by decide)
 ·exact zf7 also l.length l [] x (Nat.le_refl _) h
theorem zen {l also x:List UInt8} (h:zax l also=(0,x)):l.length<=16384:=by
 unfold zax zhM at h
 split at h
 ·injection h with h1 _
  exact absurd h1 (by decide)
 ·omega
theorem zdS {l also x:List UInt8} (h:zax l also=(0,x)):x.all (okB also)=true:=zlX (za8 l also x h).1
theorem zch (c:UInt8):∀(a b:List UInt8),c∉a->zay c (a++c::b)=(a,b,true)
 | [],b,_=>by simp[zay]
 | x::a,b,h=>by
  simp only[zv,not_or] at h;rw[List.cons_append,zcr,if_neg (fun e=>h.1 e.symm),zch c a b h.2]
theorem zdv (c:UInt8):∀(a:List UInt8),c∉a->zay c a=(a,[],false)
 | [],_=>rfl
 | x::a,h=>by
  simp only[zv,not_or] at h;rw[zcr,if_neg (fun e=>h.1 e.symm),zdv c a h.2]
open Go.RowKit Sx
section
variable [Tabs Tryz.prog] {objs:List OB} {K:List OB->AV->Prop}
theorem zhD (s also:List UInt8) (hk:K objs (.tup [.s (zax s also).2,.i .i64 (zax s also).1])):zae Tryz.prog 112 [.s s,.s also] objs K :=
 conv (vs:=[.string (S s),.string (S also)]) rfl rfl (fun w=>znt (S s) (S also) w) hk
theorem znu (s:List UInt8) (hk:K objs (.tup [.s (zd4 s).2,.i .i64 (zd4 s).1])):zae Tryz.prog 110 [.s s] objs K :=
 conv (vs:=[.string (S s)]) rfl rfl (fun w=>zjt (S s) w) hk
end
section
variable [Tabs Tryz.prog] {objs:List OB} {K:List OB->AV->Prop}
end
section
variable [Tabs Tryz.prog] {objs:List OB} {K:List OB->AV->Prop}
end
section
variable [Tabs Tryz.prog] {objs:List OB} {K:List OB->AV->Prop}
end
end Go.Proofs.YtceenajkieomoaaGreatDoor
namespace Go.Proofs.YtceenajkieomoaaGreatDoor
theorem zdg (c:UInt8):∀l:List UInt8,l=(zay c l).1++(if (zay c l).2.2=true then [c]++(zay c l).2.1 else [])
 | []=>rfl
 | x::t=>by
  have ih:=zdg c t;rw[zcr]
  by_cases hx:x=c
  ·subst hx;simp
  ·rw[if_neg hx];show x::t=x::((zay c t).1++_);rw[<-ih]
theorem zh1 (c:UInt8) (l:List UInt8):(zay c l).1.length<=l.length:=by
 have h:=congrArg List.length (zdg c l);rw[List.length_append] at h;omega
structure UrlP where
 host:List UInt8
 port:Int
 path:List UInt8
 query:List UInt8
 frag:List UInt8
 hq:Bool
 hf:Bool
def zaC:List UInt8:=[33,36,38,39,40,41,42,43,44,59,61,58,64,47]
def zas:List UInt8:=[33,36,38,39,40,41,42,43,44,59,61,58,64,47,63]
instance:DecidableEq UrlP:=fun a b=>
 decidable_of_iff (a.host=b.host/\a.port=b.port/\a.path=b.path/\a.query=b.query/\a.frag=b.frag/\a.hq=b.hq/\a.hf=b.hf) (by
  cases a;cases b;simp)
theorem zeS (l also:List UInt8):(zax l also).2.length<=l.length/\(zax l also).2.length<=16384:=by
 by_cases h:(zax l also).1=0
 ·have e:zax l also=(0,(zax l also).2):=by rw[<-h]
  have h1:=(za8 l also _ e).2.2;have h2:=zen e;omega
 ·rw[ziB l also h];simp
open Go.RowKit Sx
section
variable [Tabs Tryz.prog] {objs:List OB} {K:List OB->AV->Prop}
end
end Go.Proofs.YtceenajkieomoaaGreatDoor
namespace Go.Proofs.YtceenajkieomoaaGreatDoor
open Lib renaming hasPrefix->xe, indexByte->xg
open List renaming all_eq_true->zw, eq_nil_of_length_eq_zero->jk, flatMap_cons->x4, getElem?_append_left->zp, getElem?_eq_getElem->zo, getElem?_eq_some_iff->zh, getElem?_set->za, getElem?_set_ne->zf, getElem?_set_self->zk, getElem_mem->jn, length_append->zm, length_cons->zx, length_drop->qb, length_map->qo, length_take->qg, map_append->jj, mem_append->zt, mem_cons->zv, mem_cons_of_mem->qp, mem_iff_getElem->xw, mem_singleton->jt, take_add_one->y9, take_of_length_le->jp
open Nat renaming le_refl->ze, zero_le->zd
open Option renaming getD_some->qh, map_some->je
def idB (c:UInt8):Bool:=zby c||zaq c||zbL c [46,45,95]
def zaW:List UInt8:=[46,45,95,58]
def meB (c:UInt8):Bool:=zaq c||(decide (97<=c.toNat)&&decide (c.toNat<=122))
def zcH (l:List UInt8):Bool:=l.all meB&&!l.isEmpty
def zi7 (c:UInt8) (new s:List UInt8):List UInt8:=s.flatMap fun x=>if x=c then new else [x]
def zck (s:List UInt8):List UInt8:=zi7 126 [37,55,69] s
def ibB (c:UInt8):Bool:=c==37||idB c||c==58
def idE (l:List UInt8):Int×List UInt8 :=
 if (zd4 l).1≠0 then ((zd4 l).1,[])
 else if l.all ibB=false then (1,[])
 else if l=[]\/l.getLast? = some 58 then (3,[])
 else if (zax l zaW).1≠0 then ((zax l zaW).1,[])
 else (0,zck (zax l zaW).2)
def zbs:List UInt8:=[100,105,100,58]
def zdf (s:List UInt8):Int×List UInt8×List UInt8 :=
 if 4096<s.length then (5,[],[])
 else if xe s zbs=false then (60,[],[])
 else if (zay 58 (s.drop 4)).2.2=false then (6,[],[])
 else if zcH (zay 58 (s.drop 4)).1=false then (100,[],[])
 else if (idE (zay 58 (s.drop 4)).2.1).1≠0 then ((idE (zay 58 (s.drop 4)).2.1).1,[],[])
 else (0,(zay 58 (s.drop 4)).1,(idE (zay 58 (s.drop 4)).2.1).2)
structure DidU where
 meth:List UInt8
 id:List UInt8
 path:List UInt8
 query:List UInt8
 frag:List UInt8
 hq:Bool
 hf:Bool
instance:DecidableEq DidU:=fun a b=>
 decidable_of_iff (a.meth=b.meth/\a.id=b.id/\a.path=b.path/\a.query=b.query/\a.frag=b.frag/\a.hq=b.hq/\a.hf=b.hf) (by
  cases a;cases b;simp)
def zl4:DidU:=⟨[],[],[],[],[],false,false⟩
def zcu (s:List UInt8):List UInt8:=zfe (zbt s)
def zdQ (s:List UInt8):Int×DidU :=
 if 4096<s.length then (5,zl4)
 else if (zdf (zcu s)).1≠0 then ((zdf (zcu s)).1,zl4)
 else if (zax ((zbt s).drop (zcu s).length) zaC).1≠0 then ((zax ((zbt s).drop (zcu s).length) zaC).1,zl4)
 else if (zax (zay 63 (zay 35 s).1).2.1 zas).1≠0 then ((zax (zay 63 (zay 35 s).1).2.1 zas).1,zl4)
 else if (zax (zay 35 s).2.1 zas).1≠0 then ((zax (zay 35 s).2.1 zas).1,zl4)
 else (0,⟨(zdf (zcu s)).2.1,(zdf (zcu s)).2.2,(zax ((zbt s).drop (zcu s).length) zaC).2,(zax (zay 63 (zay 35 s).1).2.1 zas).2,(zax (zay 35 s).2.1 zas).2,(zay 63 (zay 35 s).1).2.2,(zay 35 s).2.2⟩)
def zcg (m i:List UInt8):List UInt8:=zbs++m++[58]++i
def zcI (u:DidU):List UInt8:=zcg u.meth u.id++u.path++(if u.hq=true then [63]++u.query else [])++(if u.hf=true then [35]++u.frag else [])
def zeh (m i r:List UInt8):Int×DidU :=
 if xe r zbs=true then zdQ r
 else if r=[]\/(r.head?.map fun c=>zbL c [47,63,35])=some true then zdQ (zcg m i++r)
 else (6,zl4)
theorem zgc (c:UInt8):∀s:List UInt8,Lib.index s [c]=xg s c
 | []=>rfl
 | b::l=>by
  have ih:=zgc c l;unfold Lib.index xg;rw[ih]
  by_cases h:b=c
  ·subst h;simp
  ·have h':¬c=b:=fun e=>h e.symm;simp[h,h']
theorem zei (c:UInt8) (new:List UInt8):∀s:List UInt8,c∉s->zi7 c new s=s
 | [],_=>rfl
 | x::s,h=>by
  simp only[zv,not_or] at h;unfold zi7;rw[x4,if_neg (fun e=>h.1 e.symm)];show [x]++zi7 c new s=_;rw[zei c new s h.2];rfl
theorem zdX (c:UInt8) (new a b:List UInt8):zi7 c new (a++b)=zi7 c new a++zi7 c new b:=by simp[zi7]
theorem zis (c:UInt8) (new:List UInt8):∀(n:Nat) (s:List UInt8),s.length<=n->Lib.replaceK [c] new (Lib.count s [c]) s=zi7 c new s:=by
 intro n
 induction n with
 | zero=>
  intro s hs;obtain rfl:s=[]:=jk (by omega)
  rfl
 | succ n ih=>
  intro s hs;rcases zb0 c s with ⟨h1,_,h2⟩|⟨k,h1,h2,_,h3⟩
  ·rw[Lib.count_miss (by rw[zgc];exact h1),zei c new s h2];rfl
  ·have hi:Lib.index s [c]=k:=by rw[zgc];exact h1
   rw[Lib.count_hit (by simp) hi,Nat.add_comm,Lib.replaceK_hit _ _ _ _ _ hi];have:=ih (s.drop (k+[c].length)) (by rw[qb];simp;omega);rw[this];have hk:s[k]=c:=by rw[zo h2] at h3;injection h3
   have hpre:c∉s.take k:=by
    intro hm;obtain⟨j,hj,hjc⟩:=xw.1 hm;have hj':j<k:=by rw[qg] at hj;omega
    have:=(Lib.indexByte_some h1).2 j hj';rw[List.getElem_take] at hjc;exact this (by rw[zo (by omega),hjc])
   conv=>rhs;rw[<-List.take_append_drop k s,List.drop_eq_getElem_cons h2,hk,zdX,zei c new _ hpre]
   show _=s.take k++zi7 c new ([c]++s.drop (k+1));rw[zdX];simp[zi7]
theorem zgC (c:UInt8) (new s:List UInt8) (h:new≠[c]):Lib.replaceAll s [c] new=zi7 c new s:=by
 unfold Lib.replaceAll Lib.replace;rw[if_neg (by simp;exact fun e=>h e.symm)];unfold Lib.replaceNum;rw[if_pos (.inl (by decide))];exact zis c new s.length s (ze _)
theorem ziZ (c:UInt8) (s:List UInt8):Lib.count s [c]<=s.length+1:=Lib.count_le s [c]
theorem zgF (s:List UInt8):(zck s).length<=3*s.length:=by
 induction s with
 | nil=>exact ze _
 | cons x s ih=>
  unfold zck zi7 at ih ⊢;rw[x4,zm,zx]
  split<;>simp only[zx,List.length_nil]<;>omega
def zea (l:List UInt8):List UInt8:=l.flatMap fun c=>if idB c=true then [c] else zeF c
def zbg (p:List UInt8):List UInt8:=zea (zd4 p).2
def jnc (ps:List (List UInt8)):List UInt8:=ps.flatMap fun q=>58::zbg q
theorem id256:∀n:Fin 256,(idB (UInt8.ofNat n.val)=true->zb2 (UInt8.ofNat n.val) zaW=true/\UInt8.ofNat n.val≠126/\UInt8.ofNat n.val≠58/\UInt8.ofNat n.val≠37) /\
  (zaF (UInt8.ofNat n.val)=true->UInt8.ofNat n.val≠126->idB (UInt8.ofNat n.val)=true)/\(zaF (UInt8.ofNat n.val)=false->idB (UInt8.ofNat n.val)=false) /\
  ((zeF (UInt8.ofNat n.val)).all (fun c=>c != 126))=true/\(zaP (UInt8.ofNat n.val)=true->UInt8.ofNat n.val≠58/\idB (UInt8.ofNat n.val)=true):=by decide +kernel
theorem zdb (c:UInt8):(idB c=true->zb2 c zaW=true/\c≠126/\c≠58/\c≠37)/\(zaF c=true->c≠126->idB c=true)/\(zaF c=false->idB c=false)/\(zeF c).all (fun c=>c != 126)=true/\(zaP c=true->c≠58/\idB c=true):=by
 have:=id256 ⟨c.toNat,UInt8.toNat_lt c⟩;simpa using this
theorem zc3 (a b:List UInt8):zck (a++b)=zck a++zck b:=zdX _ _ a b
theorem zeH {c:UInt8} (h:c≠126):zck [c]=[c]:=by simp[zck,zi7,h]
theorem zlG (c:UInt8):zck (zeF c)=zeF c:=zei _ _ _ (fun hm=>by
 have:=zw.1 (zdb c).2.2.2.1 126 hm;simp at this)
theorem zco (c:UInt8) (l:List UInt8):zea (c::l)=(if idB c=true then [c] else zeF c)++zea l:=by simp[zea]
theorem zgK:∀(n:Nat) (l o:List UInt8),l.length<=n->(rwS zce 0 l o).1=(rwS zce 0 l []).1/\((rwS zce 0 l []).1=0->(rwS zce 0 l o).2=o++(rwS zce 0 l []).2):=by
 intro n
 induction n with
 | zero=>
  intro l o hl;obtain rfl:l=[]:=jk (by omega);simp[rwS]
 | succ n ih=>
  intro l o hl
  cases l with
  | nil=>simp[rwS]
  | cons c t=>
   by_cases hc:c=37
   ·rcases he:zbz (c::t) with _|_
    ·simp[rwS,hc,he,show zbz (37::t)=false from by rw[<-hc];exact he]
    ·obtain⟨a,b,r,rfl⟩:=zbC he;have hd:∀o,rwS zce 0 (c::a::b::r) o=rwS zce 0 r (o++[zb7 (c::a::b::r)]):=by
      intro o;rw[rwS,if_pos hc,if_pos he];show (if (0:Int)=0 then rwS zce 2 (a::b::r) _ else _)=_;rw[if_pos rfl,zbH]
      rfl
     rw[hd,hd];have i1:=ih r (o++[zb7 (c::a::b::r)]) (by simp at hl ⊢;omega);have i2:=ih r ([]++[zb7 (c::a::b::r)]) (by simp at hl ⊢;omega);refine⟨by rw[i1.1,i2.1],fun h=>?_⟩;rw[i2.1] at h;rw[i1.2 h,i2.2 h];simp
   ·have hd:∀o,rwS zce 0 (c::t) o=rwS zce 0 t (o++[c]):=by
     intro o;rw[rwS,if_neg hc];show (if (0:Int)=0 then rwS zce 0 t _ else _)=_;rw[if_pos rfl];rfl
    rw[hd,hd];have i1:=ih t (o++[c]) (by simp at hl;omega);have i2:=ih t ([]++[c]) (by simp at hl;omega);refine⟨by rw[i1.1,i2.1],fun h=>?_⟩;rw[i2.1] at h;rw[i1.2 h,i2.2 h];simp
theorem rwD_esc {c:UInt8} {t:List UInt8} (hc:c=37) (a b:UInt8) (r:List UInt8) (ht:t=a::b::r) (he:zbz (c::t)=true) (o:List UInt8):rwS zce 0 (c::t) o=rwS zce 0 r (o++[zb7 (c::t)]):=by
 subst ht;rw[rwS,if_pos hc,if_pos he];show (if (0:Int)=0 then rwS zce 2 (a::b::r) _ else _)=_;rw[if_pos rfl,zbH]
 rfl
theorem rwD_one {c:UInt8} {t:List UInt8} (hc:c≠37) (o:List UInt8):rwS zce 0 (c::t) o=rwS zce 0 t (o++[c]):=by
 rw[rwS,if_neg hc];show (if (0:Int)=0 then rwS zce 0 t _ else _)=_;rw[if_pos rfl];rfl
def dcL (l:List UInt8):Int×List UInt8:=rwS zce 0 l []
theorem zew {l:List UInt8} (h:l.length<=16384):zd4 l=dcL l:=by unfold zd4 zhM;rw[if_neg (by omega)];rfl
theorem zd5 {c:UInt8} {t:List UInt8} (hc:c≠37):(dcL (c::t)).1=(dcL t).1/\((dcL t).1=0->(dcL (c::t)).2=c::(dcL t).2):=by
 unfold dcL;rw[rwD_one hc];have:=zgK t.length t ([]++[c]) (ze _);exact⟨this.1,fun h=>by rw[this.2 h];rfl⟩
theorem ze0 {a b:UInt8} {r:List UInt8} (he:zbz (37::a::b::r)=true):(dcL (37::a::b::r)).1=(dcL r).1/\((dcL r).1=0->(dcL (37::a::b::r)).2=zb7 (37::a::b::r)::(dcL r).2):=by
 unfold dcL;rw[rwD_esc rfl a b r rfl he];have:=zgK r.length r ([]++[zb7 (37::a::b::r)]) (ze _);exact⟨this.1,fun h=>by rw[this.2 h];rfl⟩
theorem zgn {t:List UInt8} (he:zbz (37::t)=false):(dcL (37::t)).1=2:=by
 unfold dcL;rw[rwS,if_pos rfl,if_neg (by rw[he];exact Bool.false_ne_true)]
theorem dcL_err:∀(n:Nat) (l:List UInt8),l.length<=n->(dcL l).1=0\/(dcL l).1=2:=by
 intro n
 induction n with
 | zero=>
  intro l hl;obtain rfl:l=[]:=jk (by omega);exact .inl rfl
 | succ n ih=>
  intro l hl
  cases l with
  | nil=>exact .inl rfl
  | cons c t=>
   by_cases hc:c=37
   ·subst hc;rcases he:zbz (37::t) with _|_
    ·exact .inr (zgn he)
    ·obtain⟨a,b,r,rfl⟩:=zbC he;rw[(ze0 he).1];exact ih r (by simp at hl ⊢;omega)
   ·rw[(zd5 hc).1];exact ih t (by simp at hl;omega)
open Go.RowKit Sx
section
attribute [local irreducible] run
def kId:List UInt8:=[105,100]
def zb5:List UInt8:=[116,121,112,101]
def zbS:List UInt8:=[99,111,110,116,114,111,108,108,101,114]
def zdO:List UInt8:=[115,101,114,118,105,99,101,69,110,100,112,111,105,110,116]
def zcS:List UInt8:=[97,108,115,111,75,110,111,119,110,65,115]
def zct:List UInt8:=[118,101,114,105,102,105,99,97,116,105,111,110,77,101,116,104,111,100]
def zb6:List UInt8:=[115,101,114,118,105,99,101]
structure MtP where
 id:List UInt8
 typ:List UInt8
 ctl:List UInt8
structure SvP where
 id:List UInt8
 typ:List (List UInt8)
 eps:List (List UInt8)
structure DoP where
 id:List UInt8
 also:List (List UInt8)
 ctl:List (List UInt8)
 mts:List MtP
 svs:List SvP
def mtZ:MtP:=⟨[],[],[]⟩
def svZ:SvP:=⟨[],[],[]⟩
def doZ:DoP:=⟨[],[],[],[],[]⟩
def tmD (v:JV) (key:List UInt8):List UInt8×Bool:=if (za2 v key).2=true/\(za2 v key).1.kind=5 then ((za2 v key).1.text,true) else ([],false)
def txD (l:List JV):Int×List (List UInt8) :=
 if 64<l.length then (161,[]) else if l.all (fun x=>decide (x.kind=5))=true then (0,l.map JV.text) else (160,[])
def ltD (v:JV):Int×List (List UInt8):=if v.kind=6 then txD v.items else (160,[])
def olD (v:JV):Int×List (List UInt8):=if v.kind=6 then txD v.items else txD [v]
def zd9 (m i:List UInt8) (v:JV):Int×List UInt8 :=
 if (tmD v kId).2=false then (160,[]) else if (zeh m i (tmD v kId).1).1≠0 then (160,[]) else (0,zcI (zeh m i (tmD v kId).1).2)
def mtD (m i:List UInt8) (v:JV):Int×MtP :=
 if (zd9 m i v).1≠0 then ((zd9 m i v).1,mtZ)
 else if (tmD v zb5).2=true/\(tmD v zbS).2=true then (0,⟨(zd9 m i v).2,(tmD v zb5).1,(tmD v zbS).1⟩) else (160,mtZ)
def svD (m i:List UInt8) (v:JV):Int×SvP :=
 if (zd9 m i v).1≠0 then ((zd9 m i v).1,svZ)
 else if (olD (za2 v zb5).1).1≠0 then ((olD (za2 v zb5).1).1,svZ)
 else if (za2 v zdO).1.kind=7 then (0,⟨(zd9 m i v).2,(olD (za2 v zb5).1).2,[]⟩)
 else if (olD (za2 v zdO).1).1≠0 then ((olD (za2 v zdO).1).1,svZ)
 else (0,⟨(zd9 m i v).2,(olD (za2 v zb5).1).2,(olD (za2 v zdO).1).2⟩)
def zgw {α:Type} (f:JV->Int×α):List JV->Int×List α
 | []=>(0,[])
 | y::l=>if (f y).1≠0 then ((f y).1,[]) else if (zgw f l).1≠0 then ((zgw f l).1,[]) else (0,(f y).2::(zgw f l).2)
def elD {α:Type} (f:JV->Int×α) (v:JV):Int×List α:=if v.kind=6 then (if 64<v.items.length then (161,[]) else zgw f v.items) else (160,[])
def opD {α:Type} (v:JV) (key:List UInt8) (f:JV->Int×List α):Int×List α:=if (za2 v key).2=true then f (za2 v key).1 else (0,[])
def sbD (v:JV):Int×List UInt8×List UInt8 :=
 if (tmD v kId).2=false then (160,[],[]) else if (zdf (tmD v kId).1).1≠0 then (160,[],[]) else (0,(zdf (tmD v kId).1).2)
def ddE (v:JV):Int×DoP :=
 if (sbD v).1≠0 then ((sbD v).1,doZ)
 else if (opD v zcS ltD).1≠0 then ((opD v zcS ltD).1,doZ)
 else if (opD v zbS olD).1≠0 then ((opD v zbS olD).1,doZ)
 else if (opD v zct (elD (mtD (sbD v).2.1 (sbD v).2.2))).1≠0 then ((opD v zct (elD (mtD (sbD v).2.1 (sbD v).2.2))).1,doZ)
 else if (opD v zb6 (elD (svD (sbD v).2.1 (sbD v).2.2))).1≠0 then ((opD v zb6 (elD (svD (sbD v).2.1 (sbD v).2.2))).1,doZ)
 else (0,⟨zcg (sbD v).2.1 (sbD v).2.2,(opD v zcS ltD).2,(opD v zbS olD).2,(opD v zct (elD (mtD (sbD v).2.1 (sbD v).2.2))).2,(opD v zb6 (elD (svD (sbD v).2.1 (sbD v).2.2))).2⟩)
end
open Nat renaming reduceAdd -> z6, reduceSub -> z7, reduceLeDiff -> z8, reduceLT -> j4, reduceMul -> j5, reduceEqDiff -> j6
open Int renaming reduceToNat -> j7, reduceAdd -> j8, reduceSub -> j9, reduceMul -> x6, reduceNeg -> x7, reduceLT -> x8, reduceLE -> x9, reduceEq -> y4, reduceNe -> y5
theorem meB_iff (c:UInt8) (hd:zaq c=false):meB c=(decide (97<=c.toNat)&&decide (c.toNat<=122)):=by unfold meB;rw[hd];rfl
theorem ib256:∀n:Fin 256,ibB (UInt8.ofNat n.val)=(UInt8.ofNat n.val==37||(zby (UInt8.ofNat n.val)||zaq (UInt8.ofNat n.val)||zbL (UInt8.ofNat n.val) [46,45,95,58])):=by decide +kernel
theorem ib_form (c:UInt8):ibB c=(c==37||(zby c||zaq c||zbL c [46,45,95,58])):=by
 have:=ib256 ⟨c.toNat,UInt8.toNat_lt c⟩;simpa using this
theorem trim_did {s:List UInt8} (h:xe s zbs=true):Lib.trimPrefix s zbs=s.drop 4:=by unfold Lib.trimPrefix;rw[if_pos h];rfl
theorem idE_len (s:List UInt8):(idE s).2.length<=50000:=by
 have h1:=zeS s zaW;have h2:=zgF (zax s zaW).2;unfold idE
 repeat' split
 all_goals first
  | exact zd _
  | (show (zck (zax s zaW).2).length<=50000;omega)
theorem zcy (m i:List UInt8):(zcg m i).length=m.length+i.length+5:=by simp[zcg,zbs];omega
section
variable [Tabs Tryz.prog] {objs:List OB} {K:List OB->AV->Prop}
theorem zjk [Shp Tryz.prog] (s new:List UInt8) (c:UInt8) (hs:s.length<=100000) (hn:new.length<=100) (hne:new≠[c]) (hk:K objs (.s (zi7 c new s))):zae Tryz.prog 113 [.s s,.s [c],.s new] objs K:=by
 have hc:Lib.countB (S s) (S [c])<=s.length+1:=ziZ c s;have hl:(S s).size+Lib.countB (S s) (S [c])*(S new).size<=140737488355328:=by
  have h1:Lib.countB (S s) (S [c])*(S new).size<=100001*100:=Nat.mul_le_mul (by omega) (by rw[zcZ];omega);rw[zcZ];omega
 have e:Lib.replaceAll s [c] new=zi7 c new s:=zgC c new s hne;rw[<-e] at hk;exact convT (vs:=[.string (S s),.string (S [c]),.string (S new)]) rfl rfl (fun w hT=>Tryz.strings_ReplaceAll_shaped (S s) (S [c]) (S new) w (Shp.sh w hT) (by rw[zcZ];omega) (by rw[zcZ];simp) hl) hk
theorem zpb (s:List UInt8) (hs:s.length<=1000000) (hk:K objs (.b (zcH s))):zae Tryz.prog 94 [.s s] objs K:=by
 refine za5 is_did_isMethod rfl fun C _=>?_;unfold zcH at hk;simp only[c_did_isMethod,sxZ,z6,z7,z8,j4,j5,j6,j7,j8,j9,x6,x7,x8,x9,y4,y5,reduceCtorEq,↓reduceIte];refine zaH (fun n objs tm=>∃i:Nat,i<=s.length/\n=s.length - i/\objs=[]/\(∀j (h:j<s.length),j<i->meB s[j]=true)/\tm.length=29/\tm[0]? = some (.s s)/\tm[5]? = some (.i .i64 s.length)/\tm[6]? = some (.i .i64 i)) s.length ⟨0,zd _,rfl,rfl,fun j h h0=>absurd h0 (by omega),rfl,rfl,rfl,rfl⟩ ?_;rintro n _ tm ⟨i,hi,rfl,rfl,hall,hlen,t0,t5,t6⟩
 by_cases hlt:(i:Int)<s.length
 ·have hlt':i<s.length:=by omega
  have hg:=zaZ hlt';have hfin:meB s[i]=false->K objs (.b false):=fun h=>by
   rw[zpw hlt' h] at hk;exact hk
  have hnext:meB s[i]=true->∀j (h:j<s.length),j<i+1->meB s[j]=true:=by
   intro h j hj hji;rcases Nat.lt_or_ge j i with h1|h1
   ·exact hall j hj h1
   ·have:j=i:=by omega
    subst this;exact h
  simp only[sxZ,z6,z7,z8,j4,j5,j6,j7,j8,j9,x6,x7,x8,x9,y4,y5,reduceCtorEq,↓reduceIte,za,hlen,t0,t5,t6,hlt];refine⟨by omega,?_⟩;rw[hg];generalize s[i]=c at *;refine zah (zlB c ?_)
  by_cases hd:zaq c=true
  ·have hm:meB c=true:=by unfold meB;rw[hd];rfl
   simp only[hd,sxZ,z6,z7,z8,j4,j5,j6,j7,j8,j9,x6,x7,x8,x9,y4,y5,reduceCtorEq,↓reduceIte,za,hlen,t0,t5,t6];exact⟨⟨by omega,by omega⟩,s.length - (i+1),by omega,i+1,by omega,rfl,hnext hm,rfl⟩
  ·simp only[Bool.not_eq_true] at hd;have hm:=meB_iff c hd
   by_cases h97:((c.toNat:Nat):Int)<97
   ·have hm2:meB c=false:=by rw[hm,decide_eq_false (by omega)];rfl
    simp only[hd,hg,h97,sxZ,z6,z7,z8,j4,j5,j6,j7,j8,j9,x6,x7,x8,x9,y4,y5,reduceCtorEq,↓reduceIte,za,hlen,t0,t5,t6];exact⟨⟨by omega,by omega⟩,hfin hm2⟩
   ·by_cases h122:(122:Int)<((c.toNat:Nat):Int)
    ·have hm2:meB c=false:=by rw[hm,decide_eq_false (p:=c.toNat<=122) (by omega),Bool.and_false]
     simp only[hd,hg,h97,h122,sxZ,z6,z7,z8,j4,j5,j6,j7,j8,j9,x6,x7,x8,x9,y4,y5,reduceCtorEq,↓reduceIte,za,hlen,t0,t5,t6];exact⟨⟨by omega,by omega⟩,⟨by omega,by omega⟩,hfin hm2⟩
    ·have hm2:meB c=true:=by rw[hm,decide_eq_true (by omega),decide_eq_true (by omega)];rfl
     simp only[hd,hg,h97,h122,sxZ,z6,z7,z8,j4,j5,j6,j7,j8,j9,x6,x7,x8,x9,y4,y5,reduceCtorEq,↓reduceIte,za,hlen,t0,t5,t6];exact⟨⟨by omega,by omega⟩,⟨by omega,by omega⟩,⟨by omega,by omega⟩,s.length - (i+1),by omega,i+1,by omega,rfl,hnext hm2,rfl⟩
 ·have hie:i=s.length:=by omega
  subst hie;have ha:s.all meB=true:=all_of fun j h=>hall j h h;rw[ha] at hk;simp only[sxZ,z6,z7,z8,j4,j5,j6,j7,j8,j9,x6,x7,x8,x9,y4,y5,reduceCtorEq,↓reduceIte,za,hlen,t0,t5,t6,hlt];have e:decide (¬s=[])=(true&&!s.isEmpty):=by cases s<;>simp
  rw[e];exact hk
theorem zpc (c:UInt8) (hk:K objs (.b (zby c||zaq c||zbL c [46,45,95,58]))):zae Tryz.prog 111 [.i .u8 c.toNat] objs K:=by
 refine za5 is_did_isIDByte rfl fun C _=>?_;simp only[c_did_isIDByte,sxZ,z6,z7,z8,j4,j5,j6,j7,j8,j9,x6,x7,x8,x9,y4,y5,reduceCtorEq,↓reduceIte];refine zah (aAlpha_k c ?_)
 by_cases h1:zby c=true
 ·simp only[h1,Bool.true_or] at hk;simp only[h1,sxZ,z6,z7,z8,j4,j5,j6,j7,j8,j9,x6,x7,x8,x9,y4,y5,reduceCtorEq,↓reduceIte];exact hk
 ·simp only[h1,sxZ,z6,z7,z8,j4,j5,j6,j7,j8,j9,x6,x7,x8,x9,y4,y5,reduceCtorEq,↓reduceIte];refine zah (zlB c ?_)
  by_cases h2:zaq c=true
  ·simp only[h1,h2,Bool.true_or,Bool.or_true,Bool.false_or] at hk;simp only[h2,sxZ,z6,z7,z8,j4,j5,j6,j7,j8,j9,x6,x7,x8,x9,y4,y5,reduceCtorEq,↓reduceIte];exact hk
  ·simp only[h1,h2,Bool.false_or] at hk;simp only[h2,sxZ,z6,z7,z8,j4,j5,j6,j7,j8,j9,x6,x7,x8,x9,y4,y5,reduceCtorEq,↓reduceIte];refine zah (zfa _ c ?_);simp only[sxZ,z6,z7,z8,j4,j5,j6,j7,j8,j9,x6,x7,x8,x9,y4,y5,reduceCtorEq,↓reduceIte];rw[zov];exact hk
set_option maxHeartbeats 4000000 in
theorem zl7 [Shp Tryz.prog] (s:List UInt8) (hs:s.length<=16384) (hk:K objs (.tup [.s (idE s).2,.i .i64 (idE s).1])):zae Tryz.prog 95 [.s s] objs K:=by
 refine za5 is_did_parseID rfl fun C _=>?_;have hid:idE s=if (zd4 s).1≠0 then ((zd4 s).1,[]) else if s.all ibB=false then (1,[]) else if s=[]\/s.getLast? = some 58 then (3,[]) else if (zax s zaW).1≠0 then ((zax s zaW).1,[]) else (0,zck (zax s zaW).2):=rfl
 simp only[c_did_parseID,sxZ,z6,z7,z8,j4,j5,j6,j7,j8,j9,x6,x7,x8,x9,y4,y5,reduceCtorEq,↓reduceIte];refine zah (znu s ?_)
 by_cases h1:(zd4 s).1=0
 ·simp only[h1,sxZ,z6,z7,z8,j4,j5,j6,j7,j8,j9,x6,x7,x8,x9,y4,y5,reduceCtorEq,↓reduceIte] at hid ⊢;refine zaH (fun n objs tm=>∃i:Nat,i<=s.length/\n=s.length - i/\objs=[]/\(∀j (h:j<s.length),j<i->ibB s[j]=true)/\tm.length=54/\tm[0]? = some (.s s)/\tm[18]? = some (.i .i64 s.length)/\tm[19]? = some (.i .i64 i)) s.length ⟨0,zd _,rfl,rfl,fun j h h0=>absurd h0 (by omega),rfl,rfl,rfl,rfl⟩ ?_;rintro n _ tm ⟨i,hi,rfl,rfl,hall,hlen,t0,t5,t6⟩
  by_cases hlt:(i:Int)<s.length
  ·have hlt':i<s.length:=by omega
   have hg:=zaZ hlt';have hfin:ibB s[i]=false->K objs (.tup [.s [],.i .i64 1]):=fun h=>by
    rw[zpw hlt' h] at hid;simp only[sxZ,z6,z7,z8,j4,j5,j6,j7,j8,j9,x6,x7,x8,x9,y4,y5,reduceCtorEq,↓reduceIte] at hid;rw[hid] at hk;exact hk
   have hnext:ibB s[i]=true->∀j (h:j<s.length),j<i+1->ibB s[j]=true:=by
    intro h j hj hji;rcases Nat.lt_or_ge j i with h1|h1
    ·exact hall j hj h1
    ·have:j=i:=by omega
     subst this;exact h
   clear hk hid;generalize s[i]=c at *;have hib:=ib_form c
   by_cases h37:c=37
   ·have e37:((c.toNat:Nat):Int)=37:=by rw[h37];rfl
    have hb:ibB c=true:=by rw[hib,h37];rfl
    simp only[sxZ,z6,z7,z8,j4,j5,j6,j7,j8,j9,x6,x7,x8,x9,y4,y5,reduceCtorEq,↓reduceIte,za,hlen,t0,t5,t6,hlt,hg,e37];exact⟨by omega,⟨by omega,by omega⟩,s.length - (i+1),by omega,i+1,by omega,rfl,hnext hb,rfl⟩
   ·have e37:¬((c.toNat:Nat):Int)=37:=fun e=>h37 (UInt8.toNat_inj.1 (by have:(37:UInt8).toNat=37:=rfl;omega));have hne:(c==37)=false:=by simpa using h37
    simp only[sxZ,z6,z7,z8,j4,j5,j6,j7,j8,j9,x6,x7,x8,x9,y4,y5,reduceCtorEq,↓reduceIte,za,hlen,t0,t5,t6,hlt,hg,e37];refine⟨by omega,by omega,?_⟩;refine zah (zpc c ?_);rw[hne,Bool.false_or] at hib;rw[<-hib]
    by_cases hb:ibB c=true
    ·simp only[hb,sxZ,z6,z7,z8,j4,j5,j6,j7,j8,j9,x6,x7,x8,x9,y4,y5,reduceCtorEq,↓reduceIte,za,hlen,t0,t5,t6];exact⟨⟨by omega,by omega⟩,s.length - (i+1),by omega,i+1,by omega,rfl,hnext hb,rfl⟩
    ·simp only[Bool.not_eq_true] at hb;simp only[hb,sxZ,z6,z7,z8,j4,j5,j6,j7,j8,j9,x6,x7,x8,x9,y4,y5,reduceCtorEq,↓reduceIte,za,hlen,t0,t5,t6];exact hfin hb
  ·have hie:i=s.length:=by omega
   subst hie;have ha:s.all ibB=true:=all_of fun j h=>hall j h h;simp only[ha,sxZ,z6,z7,z8,j4,j5,j6,j7,j8,j9,x6,x7,x8,x9,y4,y5,reduceCtorEq,↓reduceIte] at hid;simp only[sxZ,z6,z7,z8,j4,j5,j6,j7,j8,j9,x6,x7,x8,x9,y4,y5,reduceCtorEq,↓reduceIte,za,hlen,t0,t5,t6,hlt]
   by_cases hs0:s=[]
   ·have ho:s=[]\/s.getLast? = some 58:=.inl hs0;rw[if_pos ho] at hid;rw[hid] at hk;simp only[sxZ,z6,z7,z8,j4,j5,j6,j7,j8,j9,x6,x7,x8,x9,y4,y5,reduceCtorEq,↓reduceIte,za,hlen,t0,t5,t6,hs0];exact hk
   ·have hpos:0<s.length:=by
     rcases Nat.eq_zero_or_pos s.length with h|h
     ·exact absurd (jk h) hs0
     ·exact h
    have hgl:s.getLast? = some s[s.length - 1]:=by rw[List.getLast?_eq_getElem?,zo (by omega)]
    have hg2:s.getD ((s.length:Int) - 1).toNat 0=s[s.length - 1]:=by
     rw[show ((s.length:Int) - 1).toNat=s.length - 1 by omega];exact zaZ (by omega)
    by_cases h58:s[s.length - 1]=58
    ·have ho:s=[]\/s.getLast? = some 58:=.inr (by rw[hgl,h58]);have e58:((s[s.length - 1].toNat:Nat):Int)=58:=by rw[h58];rfl
     rw[if_pos ho] at hid;rw[hid] at hk;simp only[sxZ,z6,z7,z8,j4,j5,j6,j7,j8,j9,x6,x7,x8,x9,y4,y5,reduceCtorEq,↓reduceIte,za,hlen,t0,t5,t6,hs0];refine⟨⟨by omega,by omega⟩,⟨by omega,by omega⟩,?_⟩;rw[hg2];simp only[sxZ,z6,z7,z8,j4,j5,j6,j7,j8,j9,x6,x7,x8,x9,y4,y5,reduceCtorEq,↓reduceIte,za,hlen,t0,t5,t6,e58];exact hk
    ·have ho:¬(s=[]\/s.getLast? = some 58):=by
      rw[hgl];rintro(h|h)
      ·exact hs0 h
      ·injection h with h;exact h58 h
     have e58:¬((s[s.length - 1].toNat:Nat):Int)=58:=fun e=>h58 (UInt8.toNat_inj.1 (by have:(58:UInt8).toNat=58:=rfl;omega));rw[if_neg ho] at hid;simp only[sxZ,z6,z7,z8,j4,j5,j6,j7,j8,j9,x6,x7,x8,x9,y4,y5,reduceCtorEq,↓reduceIte,za,hlen,t0,t5,t6,hs0];refine⟨⟨by omega,by omega⟩,⟨by omega,by omega⟩,?_⟩;rw[hg2];simp only[sxZ,z6,z7,z8,j4,j5,j6,j7,j8,j9,x6,x7,x8,x9,y4,y5,reduceCtorEq,↓reduceIte,za,hlen,t0,t5,t6,e58];refine zah (zhD s zaW ?_)
     by_cases h3:(zax s zaW).1=0
     ·have nl:=zeS s zaW;simp only[h3,sxZ,z6,z7,z8,j4,j5,j6,j7,j8,j9,x6,x7,x8,x9,y4,y5,reduceCtorEq,↓reduceIte] at hid;simp only[h3,sxZ,z6,z7,z8,j4,j5,j6,j7,j8,j9,x6,x7,x8,x9,y4,y5,reduceCtorEq,↓reduceIte,za,hlen];refine zah (zjk _ _ 126 (by omega) (by decide) (by decide) ?_);rw[hid] at hk;simp only[sxZ,z6,z7,z8,j4,j5,j6,j7,j8,j9,x6,x7,x8,x9,y4,y5,reduceCtorEq,↓reduceIte,za,hlen];exact hk
     ·simp only[h3,sxZ,z6,z7,z8,j4,j5,j6,j7,j8,j9,x6,x7,x8,x9,y4,y5,reduceCtorEq,↓reduceIte] at hid;simp only[h3,sxZ,z6,z7,z8,j4,j5,j6,j7,j8,j9,x6,x7,x8,x9,y4,y5,reduceCtorEq,↓reduceIte,za,hlen];rw[hid] at hk;exact hk
 ·simp only[h1,sxZ,z6,z7,z8,j4,j5,j6,j7,j8,j9,x6,x7,x8,x9,y4,y5,reduceCtorEq,↓reduceIte] at hid ⊢;rw[hid] at hk;exact hk
theorem zgo [Shp Tryz.prog] (s:List UInt8) (hs:s.length<=maxLen) (hk:K objs (.tup [.agg [.s (zdf s).2.1,.s (zdf s).2.2],.i .i64 (zdf s).1])):zae Tryz.prog 66 [.s s] objs K:=by
 have hm:maxLen=2 ^ 63 - 1:=rfl;refine za5 is_did_ParseDID rfl fun C _=>?_;unfold zdf at hk
 by_cases c0:(4096:Int)<↑s.length
 ·have c0':4096<s.length:=by omega
  simp only[c0',if_true] at hk;simp only[c0,c_did_ParseDID,sxZ,z6,z7,z8,j4,j5,j6,j7,j8,j9,x6,x7,x8,x9,y4,y5,reduceCtorEq,↓reduceIte];exact hk
 ·have c0':¬4096<s.length:=by omega
  simp only[c0',if_false] at hk;simp only[c0,c_did_ParseDID,sxZ,z6,z7,z8,j4,j5,j6,j7,j8,j9,x6,x7,x8,x9,y4,y5,reduceCtorEq,↓reduceIte];refine zah (zij s zbs ?_)
  by_cases c1:xe s zbs=true
  ·have ct:=zb3 58 (s.drop 4);have hdl:(s.drop 4).length<=s.length:=by rw[qb];omega
   rw[trim_did c1];simp only[c1,sxZ,z6,z7,z8,j4,j5,j6,j7,j8,j9,x6,x7,x8,x9,y4,y5,reduceCtorEq,↓reduceIte] at hk ⊢;generalize s.drop 4=r at *;refine zah (zj0 r 58 (by omega) ?_)
   by_cases c2:(zay 58 r).2.2=true
   ·simp only[c2,sxZ,z6,z7,z8,j4,j5,j6,j7,j8,j9,x6,x7,x8,x9,y4,y5,reduceCtorEq,↓reduceIte] at hk ⊢;refine zah (zpb _ (by omega) ?_)
    by_cases c3:zcH (zay 58 r).1=true
    ·simp only[c3,sxZ,z6,z7,z8,j4,j5,j6,j7,j8,j9,x6,x7,x8,x9,y4,y5,reduceCtorEq,↓reduceIte] at hk ⊢;refine zah (zl7 _ (by omega) ?_)
     by_cases c4:(idE (zay 58 r).2.1).1=0
     ·simp only[c4,sxZ,z6,z7,z8,j4,j5,j6,j7,j8,j9,x6,x7,x8,x9,y4,y5,reduceCtorEq,↓reduceIte] at hk ⊢;exact hk
     ·simp only[c4,sxZ,z6,z7,z8,j4,j5,j6,j7,j8,j9,x6,x7,x8,x9,y4,y5,reduceCtorEq,↓reduceIte] at hk ⊢;exact hk
    ·simp only[c3,sxZ,z6,z7,z8,j4,j5,j6,j7,j8,j9,x6,x7,x8,x9,y4,y5,reduceCtorEq,↓reduceIte] at hk ⊢;exact hk
   ·simp only[c2,sxZ,z6,z7,z8,j4,j5,j6,j7,j8,j9,x6,x7,x8,x9,y4,y5,reduceCtorEq,↓reduceIte] at hk ⊢;exact hk
  ·simp only[c1,sxZ,z6,z7,z8,j4,j5,j6,j7,j8,j9,x6,x7,x8,x9,y4,y5,reduceCtorEq,↓reduceIte] at hk ⊢;exact hk
def zd3 (u:DidU):AV:=.agg [.s u.meth,.s u.id,.s u.path,.s u.query,.s u.frag,.b u.hq,.b u.hf]
set_option maxHeartbeats 4000000 in
theorem zh0 [Shp Tryz.prog] (s:List UInt8) (hs:s.length<=maxLen) (hk:K objs (.tup [zd3 (zdQ s).2,.i .i64 (zdQ s).1])):zae Tryz.prog 101 [.s s] objs K:=by
 have hm:maxLen=2 ^ 63 - 1:=rfl;refine za5 is_did_Parse rfl fun C _=>?_;unfold zdQ at hk
 by_cases c0:(4096:Int)<↑s.length
 ·have c0':4096<s.length:=by omega
  simp only[c0',if_true,zd3,zl4] at hk;simp only[c0,c_did_Parse,sxZ,z6,z7,z8,j4,j5,j6,j7,j8,j9,x6,x7,x8,x9,y4,y5,reduceCtorEq,↓reduceIte];exact hk
 ·have c0':¬4096<s.length:=by omega
  simp only[c0',if_false] at hk;simp only[c0,c_did_Parse,sxZ,z6,z7,z8,j4,j5,j6,j7,j8,j9,x6,x7,x8,x9,y4,y5,reduceCtorEq,↓reduceIte];refine zah (zj0 s 35 (by omega) ?_);simp only[sxZ,z6,z7,z8,j4,j5,j6,j7,j8,j9,x6,x7,x8,x9,y4,y5,reduceCtorEq,↓reduceIte];have l1:=zb3 35 s;refine zah (zj0 _ 63 (by omega) ?_);have l2:=zb3 63 (zay 35 s).1;simp only[sxZ,z6,z7,z8,j4,j5,j6,j7,j8,j9,x6,x7,x8,x9,y4,y5,reduceCtorEq,↓reduceIte];refine zah (zj0 _ 47 (by omega) ?_);have l3:=zb3 47 (zay 63 (zay 35 s).1).1;simp only[sxZ,z6,z7,z8,j4,j5,j6,j7,j8,j9,x6,x7,x8,x9,y4,y5,reduceCtorEq,↓reduceIte];have en:(zay 47 (zay 63 (zay 35 s).1).1).1=zcu s:=rfl;have eb:(zay 63 (zay 35 s).1).1=zbt s:=rfl;rw[en,eb] at l3;rw[eb] at l2;rw[en,eb];generalize zcu s=nm at *;generalize zbt s=bd at *;generalize (zay 63 (zay 35 s).1).2.1=qu at *;generalize (zay 63 (zay 35 s).1).2.2=bq at *;generalize (zay 35 s).2.1=fr at *;generalize (zay 35 s).2.2=bf at *;refine zah (zgo nm (by omega) ?_)
  by_cases c1:(zdf nm).1=0
  ·simp only[c1,sxZ,z6,z7,z8,j4,j5,j6,j7,j8,j9,x6,x7,x8,x9,y4,y5,reduceCtorEq,↓reduceIte] at hk ⊢;refine⟨⟨by omega,by omega⟩,?_⟩;refine zah (zhD _ zaC ?_)
   by_cases c2:(zax (bd.drop nm.length) zaC).1=0
   ·simp only[c2,sxZ,z6,z7,z8,j4,j5,j6,j7,j8,j9,x6,x7,x8,x9,y4,y5,reduceCtorEq,↓reduceIte] at hk ⊢;refine zah (zhD _ zas ?_)
    by_cases c3:(zax qu zas).1=0
    ·simp only[c3,sxZ,z6,z7,z8,j4,j5,j6,j7,j8,j9,x6,x7,x8,x9,y4,y5,reduceCtorEq,↓reduceIte] at hk ⊢;refine zah (zhD _ zas ?_)
     by_cases c4:(zax fr zas).1=0
     ·simp only[c4,zd3,sxZ,z6,z7,z8,j4,j5,j6,j7,j8,j9,x6,x7,x8,x9,y4,y5,reduceCtorEq,↓reduceIte] at hk ⊢;exact hk
     ·simp only[c4,zd3,zl4,sxZ,z6,z7,z8,j4,j5,j6,j7,j8,j9,x6,x7,x8,x9,y4,y5,reduceCtorEq,↓reduceIte] at hk ⊢;exact hk
    ·simp only[c3,zd3,zl4,sxZ,z6,z7,z8,j4,j5,j6,j7,j8,j9,x6,x7,x8,x9,y4,y5,reduceCtorEq,↓reduceIte] at hk ⊢;exact hk
   ·simp only[c2,zd3,zl4,sxZ,z6,z7,z8,j4,j5,j6,j7,j8,j9,x6,x7,x8,x9,y4,y5,reduceCtorEq,↓reduceIte] at hk ⊢;exact hk
  ·simp only[c1,zd3,zl4,sxZ,z6,z7,z8,j4,j5,j6,j7,j8,j9,x6,x7,x8,x9,y4,y5,reduceCtorEq,↓reduceIte] at hk ⊢;exact hk
theorem zcB (m i:List UInt8) (h1:m.length<=200000000000000) (h2:i.length<=200000000000000) (hk:K objs (.s (zcg m i))):zae Tryz.prog 25 [.agg [.s m,.s i]] objs K:=by
 refine za5 is_did_FormatDID rfl fun C _=>?_;simp only[c_did_FormatDID,sxZ,z6,z7,z8,j4,j5,j6,j7,j8,j9,x6,x7,x8,x9,y4,y5,reduceCtorEq,↓reduceIte];exact⟨by omega,by omega,by omega,by simpa[zcg,zbs] using hk⟩
theorem zpd (u:DidU) (h1:u.meth.length<=200000000000000) (h2:u.id.length<=200000000000000) (h3:u.path.length<=200000000000000) (h4:u.query.length<=200000000000000) (h5:u.frag.length<=200000000000000) (hk:K objs (.s (zcI u))):zae Tryz.prog 80 [zd3 u] objs K:=by
 refine za5 is_did_Format rfl fun C _=>?_;have hl:=zcy u.meth u.id;unfold zcI at hk;simp only[zd3,c_did_Format,sxZ,z6,z7,z8,j4,j5,j6,j7,j8,j9,x6,x7,x8,x9,y4,y5,reduceCtorEq,↓reduceIte];refine zgY (zcB u.meth u.id h1 h2 ⟨rfl,rfl⟩) ?_;simp only[sxZ,z6,z7,z8,j4,j5,j6,j7,j8,j9,x6,x7,x8,x9,y4,y5,reduceCtorEq,↓reduceIte];refine⟨by omega,?_⟩
 by_cases c1:u.hq=true
 all_goals by_cases c2:u.hf=true
 all_goals simp only[c1,c2,if_true,if_false,Bool.false_eq_true,List.append_nil] at hk
 all_goals simp only[c1,c2,sxZ,z6,z7,z8,j4,j5,j6,j7,j8,j9,x6,x7,x8,x9,y4,y5,reduceCtorEq,↓reduceIte]
 ·exact⟨by omega,by omega,by omega,by omega,by simpa using hk⟩
 ·exact⟨by omega,by omega,by simpa using hk⟩
 ·exact⟨by omega,by omega,by simpa using hk⟩
 ·exact hk
theorem zl6 [Shp Tryz.prog] (m i r:List UInt8) (h1:m.length<=200000000) (h2:i.length<=200000000) (hr:r.length<=200000000) (hk:K objs (.tup [zd3 (zeh m i r).2,.i .i64 (zeh m i r).1])):zae Tryz.prog 79 [.agg [.s m,.s i],.s r] objs K:=by
 have hm:maxLen=2 ^ 63 - 1:=rfl;have hl:=zcy m i;refine za5 is_did_Resolve rfl fun C _=>?_;unfold zeh at hk;simp only[c_did_Resolve,sxZ,z6,z7,z8,j4,j5,j6,j7,j8,j9,x6,x7,x8,x9,y4,y5,reduceCtorEq,↓reduceIte];refine zah (zii r zbs ?_)
 by_cases c1:xe r zbs=true
 ·simp only[c1,sxZ,z6,z7,z8,j4,j5,j6,j7,j8,j9,x6,x7,x8,x9,y4,y5,reduceCtorEq,↓reduceIte] at hk ⊢;refine zah (zh0 r (by omega) ?_);simp only[zd3,sxZ,z6,z7,z8,j4,j5,j6,j7,j8,j9,x6,x7,x8,x9,y4,y5,reduceCtorEq,↓reduceIte] at hk ⊢;exact hk
 ·cases r with
  | nil=>
   simp only[c1,sxZ,z6,z7,z8,j4,j5,j6,j7,j8,j9,x6,x7,x8,x9,y4,y5,reduceCtorEq,↓reduceIte] at hk ⊢;refine zah (zcB m i (by omega) (by omega) ?_);simp only[sxZ,z6,z7,z8,j4,j5,j6,j7,j8,j9,x6,x7,x8,x9,y4,y5,reduceCtorEq,↓reduceIte];refine⟨by omega,?_⟩;refine zah (zh0 _ (by omega) ?_);simp only[zd3,sxZ,z6,z7,z8,j4,j5,j6,j7,j8,j9,x6,x7,x8,x9,y4,y5,reduceCtorEq,↓reduceIte,true_or] at hk ⊢;exact hk
  | cons c t=>
   simp only[c1,sxZ,z6,z7,z8,j4,j5,j6,j7,j8,j9,x6,x7,x8,x9,y4,y5,reduceCtorEq,↓reduceIte,List.head?_cons,Option.some.injEq,false_or] at hk;simp only[c1,sxZ,z6,z7,z8,j4,j5,j6,j7,j8,j9,x6,x7,x8,x9,y4,y5,reduceCtorEq,↓reduceIte,List.getD_cons_zero];refine⟨by omega,?_⟩;refine zah (zfa _ c ?_);have hix:=zov [47,63,35] c
   by_cases c2:zbL c [47,63,35]=true
   ·rw[c2] at hix;have h0:=of_decide_eq_true hix;simp only[c2,sxZ,z6,z7,z8,j4,j5,j6,j7,j8,j9,x6,x7,x8,x9,y4,y5,reduceCtorEq,↓reduceIte] at hk;simp only[h0,sxZ,z6,z7,z8,j4,j5,j6,j7,j8,j9,x6,x7,x8,x9,y4,y5,reduceCtorEq,↓reduceIte];refine zah (zcB m i (by omega) (by omega) ?_);simp only[sxZ,z6,z7,z8,j4,j5,j6,j7,j8,j9,x6,x7,x8,x9,y4,y5,reduceCtorEq,↓reduceIte];simp only[zx] at hr;refine⟨by omega,?_⟩;refine zah (zh0 _ (by simp only[zm,zx];omega) ?_);simp only[zd3,sxZ,z6,z7,z8,j4,j5,j6,j7,j8,j9,x6,x7,x8,x9,y4,y5,reduceCtorEq,↓reduceIte] at hk ⊢;exact hk
   ·simp only[Bool.not_eq_true] at c2;rw[c2] at hix;have h0:=of_decide_eq_false hix;simp only[c2,sxZ,z6,z7,z8,j4,j5,j6,j7,j8,j9,x6,x7,x8,x9,y4,y5,reduceCtorEq,↓reduceIte] at hk;simp only[h0,sxZ,z6,z7,z8,j4,j5,j6,j7,j8,j9,x6,x7,x8,x9,y4,y5,reduceCtorEq,↓reduceIte];simp only[zd3,zl4,sxZ,z6,z7,z8,j4,j5,j6,j7,j8,j9,x6,x7,x8,x9,y4,y5,reduceCtorEq,↓reduceIte] at hk;exact hk
end
section
attribute [local irreducible] run
theorem zdZ:IsFn Tryz.prog 64:=⟨_,Tryz.func64,by kernel_rfl,of_decide_eq_true (by kernel_rfl)⟩
theorem zmv (v:JV) (key:List UInt8) (n:Nat) (h:(za2 v key).1.text.length<=n):(tmD v key).1.length<=n:=by
 unfold tmD;split
 ·exact h
 ·exact zd _
section
variable [Tabs Tryz.prog] {objs:List OB} {K:List OB->AV->Prop}
theorem znP (v:JV) (hk:K (objs++[.box 25 (zak v)]) (.fn 64 [] [.p objs.length 0])):zae Tryz.prog 23 [.agg (zak v)] objs K:=by
 refine zcX is_diddoc_membersOf fun C _=>?_;rw[c_diddoc_membersOf];rw[zaf v] at hk ⊢;simp only[sxZ,z6,z7,z8,j4,j5,j6,j7,j8,j9,x6,x7,x8,x9,y4,y5,reduceCtorEq,↓reduceIte];exact hk
theorem zjz (v:JV) (key:List UInt8) (b:Nat) (hb:objs[b]? = some (.box 25 (zak v))) (hv:JOk v) (hj:JBd v) (hk:∀z,K (objs++[z]) (zbO (za2 v key))):zae Tryz.prog 64 [.s key,.p b 0] objs K:=by
 refine zcX is_diddoc_membersOf_1 fun C _=>?_;rw[c_diddoc_membersOf_1];have ejv:=zaf v;have hbl:=(zh.1 hb).1;refine zaa fun Z hZ=>?_;simp only[sxZ,z6,z7,z8,j4,j5,j6,j7,j8,j9,x6,x7,x8,x9,y4,y5,reduceCtorEq,↓reduceIte];have eb:(objs++[OB.box 25 [.i .i64 0,.s [],.nil,.nil]])[b]? = some (.box 25 (zak v)):=by rw[zp hbl];exact hb
 have eX:(objs++[OB.box 25 [.i .i64 0,.s [],.nil,.nil]])[objs.length]? = some (.box 25 [.i .i64 0,.s [],.nil,.nil]):=gn1 _ _;have eS:∀Y,(objs++[OB.box 25 [.i .i64 0,.s [],.nil,.nil]]).set objs.length Y=objs++[Y]:=fun Y=>sn1 _ _ _;have eG:∀Y:OB,(objs++[Y])[objs.length]? = some Y:=fun Y=>gn1 _ _;rw[ejv] at eb;generalize objs++[OB.box 25 [.i .i64 0,.s [],.nil,.nil]]=o1 at eb eX eS ⊢;generalize objs.length=q at eX eS eG ⊢;subst hZ;refine zaa fun Z hZ=>?_;simp only[sxZ,z6,z7,z8,j4,j5,j6,j7,j8,j9,x6,x7,x8,x9,y4,y5,reduceCtorEq,↓reduceIte,eb];rw[<-ejv];refine zah (zkU v key hv hj ?_);unfold zbO at hk ⊢;generalize za2 v key=R at hk ⊢;obtain⟨x,ok⟩:=R;dsimp only at hk ⊢;rw[zaf x] at hk ⊢;simp only[sxZ,z6,z7,z8,j4,j5,j6,j7,j8,j9,x6,x7,x8,x9,y4,y5,reduceCtorEq,↓reduceIte,eX,eS];subst hZ;simp only[sxZ,z6,z7,z8,j4,j5,j6,j7,j8,j9,x6,x7,x8,x9,y4,y5,reduceCtorEq,↓reduceIte,eG];exact hk _
theorem tm_k (v:JV) (key:List UInt8) (hv:JOk v) (hj:JBd v) (hk:K objs (.tup [.s (tmD v key).1,.b (tmD v key).2])):zae Tryz.prog 65 [.agg (zak v),.s key] objs K:=by
 refine za5 is_diddoc_textMember (by simp only[zap,AV.plain,zbj,Bool.and_self]) fun C _=>?_;rw[c_diddoc_textMember];have ejv:=zaf v;rw[ejv];refine zaa fun Z hZ=>?_;simp only[sxZ,z6,z7,z8,j4,j5,j6,j7,j8,j9,x6,x7,x8,x9,y4,y5,reduceCtorEq,↓reduceIte];subst hZ;refine zaa fun Z hZ=>?_;simp only[sxZ,z6,z7,z8,j4,j5,j6,j7,j8,j9,x6,x7,x8,x9,y4,y5,reduceCtorEq,↓reduceIte];rw[<-ejv];refine zah (znP v ?_);simp only[sxZ,z6,z7,z8,j4,j5,j6,j7,j8,j9,x6,x7,x8,x9,y4,y5,reduceCtorEq,↓reduceIte];refine zep zdZ (zjz v key 1 rfl hv hj fun z=>?_);unfold tmD at hk;unfold zbO;generalize za2 v key=R at hk ⊢;obtain⟨x,ok⟩:=R;dsimp only at hk ⊢;rw[zaf x];simp only[sxZ,z6,z7,z8,j4,j5,j6,j7,j8,j9,x6,x7,x8,x9,y4,y5,reduceCtorEq,↓reduceIte];subst hZ;refine zaa fun Z hZ=>?_
 cases ok with
 | false=>
  rw[if_neg (show ¬(false=true/\x.kind=5) from fun e=>by cases e.1)] at hk;simp only[sxZ,z6,z7,z8,j4,j5,j6,j7,j8,j9,x6,x7,x8,x9,y4,y5,reduceCtorEq,↓reduceIte];exact hk
 | true=>
  by_cases c:x.kind=5
  ·rw[if_pos ⟨rfl,c⟩] at hk;simp only[sxZ,z6,z7,z8,j4,j5,j6,j7,j8,j9,x6,x7,x8,x9,y4,y5,reduceCtorEq,↓reduceIte,c];subst hZ;simp only[sxZ,z6,z7,z8,j4,j5,j6,j7,j8,j9,x6,x7,x8,x9,y4,y5,reduceCtorEq,↓reduceIte];exact hk
  ·rw[if_neg (fun e=>c e.2)] at hk;simp only[sxZ,z6,z7,z8,j4,j5,j6,j7,j8,j9,x6,x7,x8,x9,y4,y5,reduceCtorEq,↓reduceIte,c];exact hk
theorem mid_k [Shp Tryz.prog] (m i:List UInt8) (v:JV) (hv:JOk v) (hj:JBd v) (h1:m.length<=100000) (h2:i.length<=100000) (ht:(za2 v kId).1.text.length<=100000000) (hl:∀r:List UInt8,r.length<=100000000->(zeh m i r).1=0->(zeh m i r).2.meth.length<=200000000000000/\(zeh m i r).2.id.length<=200000000000000/\(zeh m i r).2.path.length<=200000000000000/\(zeh m i r).2.query.length<=200000000000000/\(zeh m i r).2.frag.length<=200000000000000)
  (hk:K objs (.tup [.s (zd9 m i v).2,.i .i64 (zd9 m i v).1])):zae Tryz.prog 41 [.agg (zak v),.agg [.s m,.s i]] objs K:=by
 refine za5 is_diddoc_memberID (by simp only[zap,AV.plain,zbj,Bool.and_self]) fun C _=>?_;rw[c_diddoc_memberID];have ejv:=zaf v;have htl:=zmv v kId _ ht;rw[ejv];refine zaa fun Z hZ=>?_;simp only[sxZ,z6,z7,z8,j4,j5,j6,j7,j8,j9,x6,x7,x8,x9,y4,y5,reduceCtorEq,↓reduceIte];subst hZ;refine zaa fun Z hZ=>?_;simp only[sxZ,z6,z7,z8,j4,j5,j6,j7,j8,j9,x6,x7,x8,x9,y4,y5,reduceCtorEq,↓reduceIte];rw[<-ejv];refine zah (tm_k v kId hv hj ?_);unfold zd9 at hk;generalize tmD v kId=R at hk htl ⊢;obtain⟨x,ok⟩:=R;dsimp only at hk htl ⊢;rw[ejv];simp only[sxZ,z6,z7,z8,j4,j5,j6,j7,j8,j9,x6,x7,x8,x9,y4,y5,reduceCtorEq,↓reduceIte];subst hZ;refine zaa fun Z hZ=>?_
 cases ok with
 | false=>
  rw[if_pos rfl] at hk;simp only[sxZ,z6,z7,z8,j4,j5,j6,j7,j8,j9,x6,x7,x8,x9,y4,y5,reduceCtorEq,↓reduceIte];exact hk
 | true=>
  rw[if_neg (by decide)] at hk;simp only[sxZ,z6,z7,z8,j4,j5,j6,j7,j8,j9,x6,x7,x8,x9,y4,y5,reduceCtorEq,↓reduceIte];subst hZ;refine zaa fun Z hZ=>?_;simp only[sxZ,z6,z7,z8,j4,j5,j6,j7,j8,j9,x6,x7,x8,x9,y4,y5,reduceCtorEq,↓reduceIte];refine zah (zl6 m i x (by omega) (by omega) (by omega) ?_);have hl:=hl x htl;generalize zeh m i x=R at hk hl ⊢;obtain⟨e,u⟩:=R;dsimp only at hk hl ⊢;unfold zd3;simp only[sxZ,z6,z7,z8,j4,j5,j6,j7,j8,j9,x6,x7,x8,x9,y4,y5,reduceCtorEq,↓reduceIte];subst hZ;refine zaa fun Z hZ=>?_
  by_cases c:e=0
  ·subst c;rw[if_neg (by decide)] at hk;obtain⟨q1,q2,q3,q4,q5⟩:=hl rfl;simp only[sxZ,z6,z7,z8,j4,j5,j6,j7,j8,j9,x6,x7,x8,x9,y4,y5,reduceCtorEq,↓reduceIte];subst hZ;refine zaa fun Z hZ=>?_;simp only[sxZ,z6,z7,z8,j4,j5,j6,j7,j8,j9,x6,x7,x8,x9,y4,y5,reduceCtorEq,↓reduceIte];refine zah (zpd u q1 q2 q3 q4 q5 ?_);simp only[sxZ,z6,z7,z8,j4,j5,j6,j7,j8,j9,x6,x7,x8,x9,y4,y5,reduceCtorEq,↓reduceIte];subst hZ;simp only[sxZ,z6,z7,z8,j4,j5,j6,j7,j8,j9,x6,x7,x8,x9,y4,y5,reduceCtorEq,↓reduceIte];exact hk
  ·rw[if_pos c] at hk;simp only[sxZ,z6,z7,z8,j4,j5,j6,j7,j8,j9,x6,x7,x8,x9,y4,y5,reduceCtorEq,↓reduceIte,c];exact hk
end
end
section
attribute [local irreducible] run
theorem zcn {G:Gh} {I:Imm} {a a' b:AV} {y:Value} (h:∀z,Den G I a z->Den G I a' z) (hd:Den G I (.tup [a,b]) y):Den G I (.tup [a',b]) y:=by
 simp only[Den,zaj] at hd ⊢;obtain⟨ys,rfl,y1,ys1,rfl,h1,h2⟩:=hd;exact⟨_,rfl,y1,ys1,rfl,h _ h1,h2⟩
def zjW (R:Int×List (List UInt8)):AV:=.tup [.row R.2.length (R.2.map .s),.i .i64 R.1]
section
variable [Tabs Tryz.prog] {objs:List OB} {K:List OB->AV->Prop}
theorem zmw (l:List JV) (hk:K objs (zjW (txD l))):zae Tryz.prog 67 [.row l.length (zac l)] objs K:=by
 refine zgD (zjW (txD l)) ?_;have knil:∀e:Int,txD l=(e,[])->(∀G I y,Den G I (.tup [.nil,.i .i64 e]) y->Den G I (zjW (txD l)) y)/\K objs (zjW (txD l)):=fun e he=>⟨fun G I y h=>by rw[he];exact zcn (fun z hz=>za9 hz) h,hk⟩;refine za5 is_diddoc_texts (by simp only[zap,AV.plain,za4,Bool.and_self]) fun C _=>?_;rw[c_diddoc_texts];have hl4:=zaE l;refine zaa fun Z hZ=>?_;simp only[sxZ,z6,z7,z8,j4,j5,j6,j7,j8,j9,x6,x7,x8,x9,y4,y5,reduceCtorEq,↓reduceIte];subst hZ;refine zaa fun Z hZ=>?_
 by_cases hl:(64:Int)<(l.length:Int)
 ·have:=knil 161 (by unfold txD;rw[if_pos (by omega)]);simp only[sxZ,z6,z7,z8,j4,j5,j6,j7,j8,j9,x6,x7,x8,x9,y4,y5,reduceCtorEq,↓reduceIte,hl,decide_true];exact this
 simp only[sxZ,z6,z7,z8,j4,j5,j6,j7,j8,j9,x6,x7,x8,x9,y4,y5,reduceCtorEq,↓reduceIte,hl,decide_false];subst hZ;refine zaa fun Z hZ=>?_;simp only[sxZ,z6,z7,z8,j4,j5,j6,j7,j8,j9,x6,x7,x8,x9,y4,y5,reduceCtorEq,↓reduceIte];subst hZ;refine zaa fun Z hZ=>?_;refine zaa fun W hW=>?_;simp only[sxZ,z6,z7,z8,j4,j5,j6,j7,j8,j9,x6,x7,x8,x9,y4,y5,reduceCtorEq,↓reduceIte];subst hW;rw[zaR];refine zaH (fun n o tm=>∃i:Nat,i<=l.length/\n=l.length - i/\RowT 0 ((l.take i).map JV.text) o (tm[4]?.getD .u)/\(∀y∈l.take i,y.kind=5)/\tm.length=26/\tm[10]? = some (.row l.length (zac l))/\tm[11]? = some (.i .i64 (l.length:Int))/\tm[12]? = some (.i .i64 (i:Int))) l.length ⟨0,zd _,rfl,.inl ⟨rfl,rfl⟩,(by simp),rfl,rfl,rfl,rfl⟩ ?_;rintro n o tm ⟨i,hi,rfl,hA,hall,hlen,t10,t11,t12⟩;obtain⟨a4,t4⟩:∃a,tm[4]? = some a:=⟨_,zo (by omega)⟩;rw[t4,qh] at hA;refine zaa fun W hW=>?_
 by_cases hlt:(i:Int)<(l.length:Int)
 ·have hi':i<l.length:=by omega
  have kv:=zhQ hi';have htk:l.take (i+1)=l.take i++[l[i]]:=by rw[y9,zo hi'];rfl
  have hfl:((l.take i).map JV.text).length=i:=by rw[qo,qg];omega
  have hmem:l[i]∈l:=jn hi';generalize l[i]=y at kv htk hmem;rw[zaf y] at kv;simp only[sxZ,z6,z7,z8,j4,j5,j6,j7,j8,j9,x6,x7,x8,x9,y4,y5,reduceCtorEq,↓reduceIte,za,hlen,t11,t12,hlt];subst hW;refine zaa fun W hW=>?_;simp only[sxZ,z6,z7,z8,j4,j5,j6,j7,j8,j9,x6,x7,x8,x9,y4,y5,reduceCtorEq,↓reduceIte,za,hlen];subst hW;refine zaa fun V hV=>?_;rw[zaR];refine zaa fun W hW=>?_;simp only[sxZ,z6,z7,z8,j4,j5,j6,j7,j8,j9,x6,x7,x8,x9,y4,y5,reduceCtorEq,↓reduceIte,za,hlen,t10,t12,kv];refine⟨⟨by omega,by omega,by omega⟩,by omega,?_⟩;simp only[sxZ,z6,z7,z8,j4,j5,j6,j7,j8,j9,x6,x7,x8,x9,y4,y5,reduceCtorEq,↓reduceIte,za,hlen,gn1,sn1];subst hW;have hA2:=hA.mono (.box 25 [.i .i64 y.kind,.s y.text,.row y.keys.length (y.keys.map .s),.row y.items.length (zac y.items)]);have eB:(o++[OB.box 25 [.i .i64 y.kind,.s y.text,.row y.keys.length (y.keys.map .s),.row y.items.length (zac y.items)]])[o.length]? = some (.box 25 [.i .i64 y.kind,.s y.text,.row y.keys.length (y.keys.map .s),.row y.items.length (zac y.items)]):=gn1 _ _;generalize hpp:o.length=p at eB ⊢;generalize o++[OB.box 25 [.i .i64 y.kind,.s y.text,.row y.keys.length (y.keys.map .s),.row y.items.length (zac y.items)]]=o1 at hA2 eB ⊢;refine zaa fun W hW=>?_
  by_cases c:y.kind=5
  ·simp only[sxZ,z6,z7,z8,j4,j5,j6,j7,j8,j9,x6,x7,x8,x9,y4,y5,reduceCtorEq,↓reduceIte,za,hlen,eB,c];subst hW;have hall2:∀z∈l.take (i+1),z.kind=5:=by
    intro z hz;rw[htk] at hz;rcases zt.1 hz with h|h
    ·exact hall z h
    ·rw[jt] at h;subst h;exact c
   generalize hacc:(l.take i).map JV.text=acc at hA2 hfl;rcases hA2 with ⟨rfl,rfl⟩|⟨r,g,rfl,hr0,hr⟩
   ·simp only[sxZ,z6,z7,z8,j4,j5,j6,j7,j8,j9,x6,x7,x8,x9,y4,y5,reduceCtorEq,↓reduceIte,za,hlen,t4,eB];subst hV;simp only[sxZ,z6,z7,z8,j4,j5,j6,j7,j8,j9,x6,x7,x8,x9,y4,y5,reduceCtorEq,↓reduceIte,za,hlen,t10,t11,t12];refine⟨by omega,l.length - (i+1),by omega,i+1,by omega,rfl,?_,hall2,rfl⟩;rw[htk,jj,hacc];exact .inr ⟨o1.length,0,rfl,zd _,by rw[gn1];rfl⟩
   ·have hrl:=(zh.1 hr).1;simp only[sxZ,z6,z7,z8,j4,j5,j6,j7,j8,j9,x6,x7,x8,x9,y4,y5,reduceCtorEq,↓reduceIte,za,hlen,t4,eB,hr];refine⟨⟨by omega,by omega⟩,?_⟩;subst hV;simp only[sxZ,z6,z7,z8,j4,j5,j6,j7,j8,j9,x6,x7,x8,x9,y4,y5,reduceCtorEq,↓reduceIte,za,hlen,t10,t11,t12];refine⟨by omega,l.length - (i+1),by omega,i+1,by omega,rfl,?_,hall2,rfl⟩;rw[htk,jj,hacc];exact .inr ⟨r,g+1,rfl,hr0,by rw[zk hrl,zm,jj];rfl⟩
  ·have:=knil 160 (by
    unfold txD;rw[if_neg (by omega),if_neg];intro ha;rw[zw] at ha;exact c (by simpa using ha y hmem))
   simp only[sxZ,z6,z7,z8,j4,j5,j6,j7,j8,j9,x6,x7,x8,x9,y4,y5,reduceCtorEq,↓reduceIte,za,hlen,eB,c];exact this
 have hn:i=l.length:=by omega
 rw[hn,jp (ze _)] at hA hall;have e:txD l=(0,l.map JV.text):=by
  unfold txD;rw[if_neg (by omega),if_pos (by rw[zw];intro y hy;simpa using hall y hy)]
 simp only[sxZ,z6,z7,z8,j4,j5,j6,j7,j8,j9,x6,x7,x8,x9,y4,y5,reduceCtorEq,↓reduceIte,za,hlen,t11,t12,hlt];subst hW;simp only[sxZ,z6,z7,z8,j4,j5,j6,j7,j8,j9,x6,x7,x8,x9,y4,y5,reduceCtorEq,↓reduceIte,za,hlen];subst hZ;rcases hA with ⟨h0,rfl⟩|⟨r,g,rfl,hr0,hr⟩
 ·have:=knil 0 (by rw[e,h0]);simp only[sxZ,z6,z7,z8,j4,j5,j6,j7,j8,j9,x6,x7,x8,x9,y4,y5,reduceCtorEq,↓reduceIte,za,hlen,t4];exact this
 ·simp only[sxZ,z6,z7,z8,j4,j5,j6,j7,j8,j9,x6,x7,x8,x9,y4,y5,reduceCtorEq,↓reduceIte,za,hlen,t4,hr,zeQ (zaI _),je];rw[e] at hk ⊢;exact⟨fun G I y hy=>hy,hk⟩
theorem zkB (v:JV) (hk:K objs (zjW (ltD v))):zae Tryz.prog 26 [.agg (zak v)] objs K:=by
 refine zgD (zjW (ltD v)) ?_;refine za5 is_diddoc_listed (by simp only[zap,AV.plain,zbj,Bool.and_self]) fun C _=>?_;rw[c_diddoc_listed];unfold ltD at hk ⊢;rw[zaf v];refine zaa fun Z hZ=>?_;simp only[sxZ,z6,z7,z8,j4,j5,j6,j7,j8,j9,x6,x7,x8,x9,y4,y5,reduceCtorEq,↓reduceIte];subst hZ;refine zaa fun Z hZ=>?_
 by_cases c:v.kind=6
 ·rw[if_pos c] at hk ⊢;simp only[sxZ,z6,z7,z8,j4,j5,j6,j7,j8,j9,x6,x7,x8,x9,y4,y5,reduceCtorEq,↓reduceIte,c];subst hZ;refine zaa fun Z hZ=>?_;simp only[sxZ,z6,z7,z8,j4,j5,j6,j7,j8,j9,x6,x7,x8,x9,y4,y5,reduceCtorEq,↓reduceIte];refine zah (zmw v.items ?_);unfold zjW at hk ⊢;simp only[sxZ,z6,z7,z8,j4,j5,j6,j7,j8,j9,x6,x7,x8,x9,y4,y5,reduceCtorEq,↓reduceIte];subst hZ;simp only[sxZ,z6,z7,z8,j4,j5,j6,j7,j8,j9,x6,x7,x8,x9,y4,y5,reduceCtorEq,↓reduceIte,zaI];exact⟨fun G I y hy=>hy,hk⟩
 ·rw[if_neg c] at hk ⊢;simp only[sxZ,z6,z7,z8,j4,j5,j6,j7,j8,j9,x6,x7,x8,x9,y4,y5,reduceCtorEq,↓reduceIte,c];exact⟨fun G I y hy=>zcn (fun z hz=>za9 hz) hy,hk⟩
theorem ol_k (v:JV) (hk:K objs (zjW (olD v))):zae Tryz.prog 27 [.agg (zak v)] objs K:=by
 refine za5 is_diddoc_oneOrListed (by simp only[zap,AV.plain,zbj,Bool.and_self]) fun C _=>?_;rw[c_diddoc_oneOrListed];unfold olD at hk;have ejv:=zaf v;rw[ejv];refine zaa fun Z hZ=>?_;simp only[sxZ,z6,z7,z8,j4,j5,j6,j7,j8,j9,x6,x7,x8,x9,y4,y5,reduceCtorEq,↓reduceIte];subst hZ;refine zaa fun Z hZ=>?_
 by_cases c:v.kind=6
 ·rw[if_pos c] at hk;simp only[sxZ,z6,z7,z8,j4,j5,j6,j7,j8,j9,x6,x7,x8,x9,y4,y5,reduceCtorEq,↓reduceIte,c];rw[<-c,<-ejv];refine zah (zkB v ?_);unfold ltD;rw[if_pos c];unfold zjW at hk ⊢;simp only[sxZ,z6,z7,z8,j4,j5,j6,j7,j8,j9,x6,x7,x8,x9,y4,y5,reduceCtorEq,↓reduceIte,zaI];exact hk
 ·rw[if_neg c] at hk;simp only[sxZ,z6,z7,z8,j4,j5,j6,j7,j8,j9,x6,x7,x8,x9,y4,y5,reduceCtorEq,↓reduceIte,c];subst hZ;refine zaa fun Z hZ=>?_;simp only[sxZ,z6,z7,z8,j4,j5,j6,j7,j8,j9,x6,x7,x8,x9,y4,y5,reduceCtorEq,↓reduceIte];have e1:zac [v]=[.i .i64 v.kind,.s v.text,.row v.keys.length (v.keys.map .s),.row v.items.length (zac v.items)]:=by rw[zav,zan,ejv];rfl
  rw[<-e1];refine zah (zmw [v] ?_);unfold zjW at hk ⊢;simp only[sxZ,z6,z7,z8,j4,j5,j6,j7,j8,j9,x6,x7,x8,x9,y4,y5,reduceCtorEq,↓reduceIte];subst hZ;simp only[sxZ,z6,z7,z8,j4,j5,j6,j7,j8,j9,x6,x7,x8,x9,y4,y5,reduceCtorEq,↓reduceIte,zaI];exact hk
end
end
section
attribute [local irreducible] run
def ResL (m i:List UInt8):Prop:=∀r:List UInt8,r.length<=100000000->(zeh m i r).1=0->(zeh m i r).2.meth.length<=200000000000000/\(zeh m i r).2.id.length<=200000000000000/\(zeh m i r).2.path.length<=200000000000000/\(zeh m i r).2.query.length<=200000000000000/\(zeh m i r).2.frag.length<=200000000000000
def mtc (x:MtP):List AV:=[.s x.id,.s x.typ,.s x.ctl]
def svc (x:SvP):List AV:=[.s x.id,.row x.typ.length (x.typ.map .s),.row x.eps.length (x.eps.map .s)]
def zc0 (l:List MtP):List AV:=l.flatMap mtc
def zcN (l:List SvP):List AV:=l.flatMap svc
theorem zfw (l:List MtP):(zc0 l).length=l.length*3:=by
 unfold zc0
 induction l with
 | nil=>rfl
 | cons a l ih=>rw[x4,zm,ih,zx];show 3+_=_;omega
theorem zfq (l:List SvP):(zcN l).length=l.length*3:=by
 unfold zcN
 induction l with
 | nil=>rfl
 | cons a l ih=>rw[x4,zm,ih,zx];show 3+_=_;omega
theorem mtcs_app (a b:List MtP):zc0 (a++b)=zc0 a++zc0 b:=by unfold zc0;rw[List.flatMap_append]
theorem svcs_app (a b:List SvP):zcN (a++b)=zcN a++zcN b:=by unfold zcN;rw[List.flatMap_append]
theorem zf9 (l:List MtP):zap (zc0 l)=true:=by
 unfold zc0
 induction l with
 | nil=>rfl
 | cons a l ih=>rw[x4,zd0,ih];rfl
theorem zfO (l:List SvP):zap (zcN l)=true:=by
 unfold zcN
 induction l with
 | nil=>rfl
 | cons a l ih=>
  rw[x4,zd0,ih];unfold svc;simp only[zap,AV.plain,zaI,Bool.and_self]
theorem den_sv {G:Gh} {I:Imm} {a a' b b' c:AV} {t:List UInt8} {y:Value} (h1:∀z,Den G I a z->Den G I a' z) (h2:∀z,Den G I b z->Den G I b' z) (hd:Den G I (.tup [.agg [.s t,a,b],c]) y):Den G I (.tup [.agg [.s t,a',b'],c]) y:=by
 refine zcn (fun z hz=>?_) hd;simp only[zaj,Den] at hz ⊢;obtain⟨zs,rfl,⟨z0,m0,rfl,q0,z1,m1,rfl,q1,z2,m2,rfl,q2,q3⟩,hz⟩:=hz;exact⟨_,rfl,⟨_,_,rfl,q0,_,_,rfl,h1 _ q1,_,_,rfl,h2 _ q2,q3⟩,hz⟩
def RowM (l:List MtP) (o:List OB) (X:AV):Prop:=(l=[]/\X=.nil)\/∃r g,X=.orow r g/\o[r]? = some (.orow 48 3 g l.length (zc0 l))
def RowV (l:List SvP) (o:List OB) (X:AV):Prop:=(l=[]/\X=.nil)\/∃r g,X=.orow r g/\o[r]? = some (.orow 46 3 g l.length (zcN l))
theorem RowM.mono {l:List MtP} {o:List OB} {X:AV} (h:RowM l o X) (z:OB):RowM l (o++[z]) X:=by
 rcases h with h|⟨r,g,h1,h2⟩
 ·exact .inl h
 ·exact .inr ⟨r,g,h1,by rw[zp (zh.1 h2).1];exact h2⟩
theorem RowV.mono {l:List SvP} {o:List OB} {X:AV} (h:RowV l o X) (z:OB):RowV l (o++[z]) X:=by
 rcases h with h|⟨r,g,h1,h2⟩
 ·exact .inl h
 ·exact .inr ⟨r,g,h1,by rw[zp (zh.1 h2).1];exact h2⟩
theorem ziR {α:Type} (f:JV->Int×α) {l:List JV} {i:Nat} (hi:i<l.length) (h:∀y∈l.take i,(f y).1=0) (h2:(f l[i]).1≠0):zgw f l=((f l[i]).1,[]):=by
 induction l generalizing i with
 | nil=>simp at hi
 | cons a l ih=>
  cases i with
  | zero=>rw[zgw];exact if_pos h2
  | succ i=>
   have ih2:=ih (i:=i) (by simpa using hi) (fun y hy=>h y (by rw[List.take_succ_cons];exact qp _ hy)) h2;have h0:=h a (by simp);rw[zgw,if_neg (fun e=>e h0),ih2];exact if_pos h2
theorem zk7 {α:Type} (f:JV->Int×α) {l:List JV} (h:∀y∈l,(f y).1=0):zgw f l=(0,l.map fun y=>(f y).2):=by
 induction l with
 | nil=>rfl
 | cons a l ih=>
  have h0:=h a (by simp);rw[zgw,if_neg (fun e=>e h0),ih fun y hy=>h y (qp _ hy)]
  rfl
theorem dm_isFn:IsFn Tryz.prog 29:=⟨_,Tryz.func29,by kernel_rfl,of_decide_eq_true (by kernel_rfl)⟩
theorem ds_isFn:IsFn Tryz.prog 31:=⟨_,Tryz.func31,by kernel_rfl,of_decide_eq_true (by kernel_rfl)⟩
section
variable [Tabs Tryz.prog] {objs:List OB} {K:List OB->AV->Prop}
theorem dm_k [Shp Tryz.prog] (m i:List UInt8) (v:JV) (hv:JOk v) (hj:JBd v) (h1:m.length<=100000) (h2:i.length<=100000) (ht:(za2 v kId).1.text.length<=100000000) (hl:ResL m i)
  (hk:K objs (.tup [.agg (mtc (mtD m i v).2),.i .i64 (mtD m i v).1])):zae Tryz.prog 29 [.agg (zak v),.agg [.s m,.s i]] objs K:=by
 refine za5 is_diddoc_decodeMethod (by simp only[zap,AV.plain,zbj,Bool.and_self]) fun C _=>?_;rw[c_diddoc_decodeMethod];have ejv:=zaf v;rw[ejv];refine zaa fun Z hZ=>?_;simp only[sxZ,z6,z7,z8,j4,j5,j6,j7,j8,j9,x6,x7,x8,x9,y4,y5,reduceCtorEq,↓reduceIte];subst hZ;refine zaa fun Z hZ=>?_;simp only[sxZ,z6,z7,z8,j4,j5,j6,j7,j8,j9,x6,x7,x8,x9,y4,y5,reduceCtorEq,↓reduceIte];rw[<-ejv];refine zah (mid_k m i v hv hj h1 h2 ht hl ?_);unfold mtD at hk;generalize zd9 m i v=R at hk ⊢;obtain⟨e,x⟩:=R;dsimp only at hk ⊢;rw[ejv];simp only[sxZ,z6,z7,z8,j4,j5,j6,j7,j8,j9,x6,x7,x8,x9,y4,y5,reduceCtorEq,↓reduceIte];subst hZ;refine zaa fun Z hZ=>?_
 by_cases c:e=0
 rotate_left
 ·rw[if_pos c] at hk;simp only[sxZ,z6,z7,z8,j4,j5,j6,j7,j8,j9,x6,x7,x8,x9,y4,y5,reduceCtorEq,↓reduceIte,c];exact hk
 subst c;rw[if_neg (by decide)] at hk;simp only[sxZ,z6,z7,z8,j4,j5,j6,j7,j8,j9,x6,x7,x8,x9,y4,y5,reduceCtorEq,↓reduceIte];subst hZ;refine zaa fun Z hZ=>?_;simp only[sxZ,z6,z7,z8,j4,j5,j6,j7,j8,j9,x6,x7,x8,x9,y4,y5,reduceCtorEq,↓reduceIte];rw[<-ejv];refine zah (tm_k v zb5 hv hj ?_);generalize tmD v zb5=T at hk ⊢;obtain⟨t,okt⟩:=T;dsimp only at hk ⊢;rw[ejv];simp only[sxZ,z6,z7,z8,j4,j5,j6,j7,j8,j9,x6,x7,x8,x9,y4,y5,reduceCtorEq,↓reduceIte];subst hZ;refine zaa fun Z hZ=>?_;simp only[sxZ,z6,z7,z8,j4,j5,j6,j7,j8,j9,x6,x7,x8,x9,y4,y5,reduceCtorEq,↓reduceIte];rw[<-ejv];refine zah (tm_k v zbS hv hj ?_);generalize tmD v zbS=U at hk ⊢;obtain⟨u,oku⟩:=U;dsimp only at hk ⊢;rw[ejv];simp only[sxZ,z6,z7,z8,j4,j5,j6,j7,j8,j9,x6,x7,x8,x9,y4,y5,reduceCtorEq,↓reduceIte];subst hZ;refine zaa fun Z hZ=>?_
 cases okt with
 | false=>
  rw[if_neg (fun e=>by cases e.1)] at hk;simp only[sxZ,z6,z7,z8,j4,j5,j6,j7,j8,j9,x6,x7,x8,x9,y4,y5,reduceCtorEq,↓reduceIte];exact hk
 | true=>
  cases oku with
  | false=>
   rw[if_neg (fun e=>by cases e.2)] at hk;simp only[sxZ,z6,z7,z8,j4,j5,j6,j7,j8,j9,x6,x7,x8,x9,y4,y5,reduceCtorEq,↓reduceIte];exact hk
  | true=>
   rw[if_pos ⟨rfl,rfl⟩] at hk;simp only[sxZ,z6,z7,z8,j4,j5,j6,j7,j8,j9,x6,x7,x8,x9,y4,y5,reduceCtorEq,↓reduceIte];subst hZ;simp only[sxZ,z6,z7,z8,j4,j5,j6,j7,j8,j9,x6,x7,x8,x9,y4,y5,reduceCtorEq,↓reduceIte];exact hk
theorem ds_k [Shp Tryz.prog] (m i:List UInt8) (v:JV) (hv:JOk v) (hj:JBd v) (h1:m.length<=100000) (h2:i.length<=100000) (ht:(za2 v kId).1.text.length<=100000000) (hl:ResL m i)
  (hk:K objs (.tup [.agg (svc (svD m i v).2),.i .i64 (svD m i v).1])):zae Tryz.prog 31 [.agg (zak v),.agg [.s m,.s i]] objs K:=by
 refine zgD (.tup [.agg (svc (svD m i v).2),.i .i64 (svD m i v).1]) ?_;have kz:∀e:Int,svD m i v=(e,svZ)->(∀G I y,Den G I (.tup [.agg [.s [],.nil,.nil],.i .i64 e]) y->Den G I (.tup [.agg (svc (svD m i v).2),.i .i64 (svD m i v).1]) y)/\K objs (.tup [.agg (svc (svD m i v).2),.i .i64 (svD m i v).1]):=fun e he=>⟨fun G I y h=>by rw[he];exact den_sv (fun z hz=>za9 hz) (fun z hz=>za9 hz) h,hk⟩;refine za5 is_diddoc_decodeService (by simp only[zap,AV.plain,zbj,Bool.and_self]) fun C _=>?_;rw[c_diddoc_decodeService];have ejv:=zaf v;rw[ejv];refine zaa fun Z hZ=>?_;simp only[sxZ,z6,z7,z8,j4,j5,j6,j7,j8,j9,x6,x7,x8,x9,y4,y5,reduceCtorEq,↓reduceIte];subst hZ;refine zaa fun Z hZ=>?_;simp only[sxZ,z6,z7,z8,j4,j5,j6,j7,j8,j9,x6,x7,x8,x9,y4,y5,reduceCtorEq,↓reduceIte];rw[<-ejv];refine zah (znP v ?_);rw[ejv];simp only[sxZ,z6,z7,z8,j4,j5,j6,j7,j8,j9,x6,x7,x8,x9,y4,y5,reduceCtorEq,↓reduceIte];subst hZ;refine zaa fun Z hZ=>?_;simp only[sxZ,z6,z7,z8,j4,j5,j6,j7,j8,j9,x6,x7,x8,x9,y4,y5,reduceCtorEq,↓reduceIte];rw[<-ejv];refine zah (mid_k m i v hv hj h1 h2 ht hl ?_);unfold svD at kz hk ⊢;generalize zd9 m i v=R at kz hk ⊢;obtain⟨e,x⟩:=R;dsimp only at kz hk ⊢;rw[ejv];simp only[sxZ,z6,z7,z8,j4,j5,j6,j7,j8,j9,x6,x7,x8,x9,y4,y5,reduceCtorEq,↓reduceIte];subst hZ;refine zaa fun Z hZ=>?_
 by_cases c:e=0
 rotate_left
 ·rw[if_pos c] at kz hk ⊢;have:=kz e rfl;simp only[sxZ,z6,z7,z8,j4,j5,j6,j7,j8,j9,x6,x7,x8,x9,y4,y5,reduceCtorEq,↓reduceIte,c];exact this
 subst c;rw[if_neg (show ¬((0:Int)≠0) by decide)] at kz hk ⊢;simp only[sxZ,z6,z7,z8,j4,j5,j6,j7,j8,j9,x6,x7,x8,x9,y4,y5,reduceCtorEq,↓reduceIte];subst hZ;refine zaa fun Z hZ=>?_;simp only[sxZ,z6,z7,z8,j4,j5,j6,j7,j8,j9,x6,x7,x8,x9,y4,y5,reduceCtorEq,↓reduceIte];subst hZ;refine zaa fun Z hZ=>?_;simp only[sxZ,z6,z7,z8,j4,j5,j6,j7,j8,j9,x6,x7,x8,x9,y4,y5,reduceCtorEq,↓reduceIte];refine zep zdZ (zjz v zb5 3 (by rw[ejv];rfl) hv hj fun z=>?_);unfold zbO;generalize za2 v zb5=T at kz hk ⊢;obtain⟨x1,ok1⟩:=T;dsimp only at kz hk ⊢;have ex1:=zaf x1;rw[ex1];simp only[sxZ,z6,z7,z8,j4,j5,j6,j7,j8,j9,x6,x7,x8,x9,y4,y5,reduceCtorEq,↓reduceIte];subst hZ;refine zaa fun Z hZ=>?_;simp only[sxZ,z6,z7,z8,j4,j5,j6,j7,j8,j9,x6,x7,x8,x9,y4,y5,reduceCtorEq,↓reduceIte];rw[<-ex1];refine zah (ol_k x1 ?_);generalize olD x1=O at kz hk ⊢;obtain⟨e1,l1⟩:=O;dsimp only at kz hk ⊢;unfold zjW;rw[ex1];simp only[sxZ,z6,z7,z8,j4,j5,j6,j7,j8,j9,x6,x7,x8,x9,y4,y5,reduceCtorEq,↓reduceIte]
 by_cases c1:e1=0
 rotate_left
 ·rw[if_pos c1] at kz hk ⊢;have:=kz e1 rfl;simp only[sxZ,z6,z7,z8,j4,j5,j6,j7,j8,j9,x6,x7,x8,x9,y4,y5,reduceCtorEq,↓reduceIte,c1];exact this
 subst c1;rw[if_neg (show ¬((0:Int)≠0) by decide)] at kz hk ⊢;simp only[sxZ,z6,z7,z8,j4,j5,j6,j7,j8,j9,x6,x7,x8,x9,y4,y5,reduceCtorEq,↓reduceIte];subst hZ;refine zaa fun Z hZ=>?_;simp only[sxZ,z6,z7,z8,j4,j5,j6,j7,j8,j9,x6,x7,x8,x9,y4,y5,reduceCtorEq,↓reduceIte];refine zep zdZ (zjz v zdO 3 (by rw[ejv];rfl) hv hj fun z2=>?_);unfold zbO;generalize za2 v zdO=T at kz hk ⊢;obtain⟨x2,ok2⟩:=T;dsimp only at kz hk ⊢;have ex2:=zaf x2;rw[ex2];simp only[sxZ,z6,z7,z8,j4,j5,j6,j7,j8,j9,x6,x7,x8,x9,y4,y5,reduceCtorEq,↓reduceIte];subst hZ;refine zaa fun Z hZ=>?_
 by_cases c2:x2.kind=7
 ·rw[if_pos c2] at kz hk ⊢;simp only[sxZ,z6,z7,z8,j4,j5,j6,j7,j8,j9,x6,x7,x8,x9,y4,y5,reduceCtorEq,↓reduceIte,c2,zaI];exact⟨fun G I y h=>den_sv (fun z hz=>hz) (fun z hz=>za9 hz) h,hk⟩
 rw[if_neg c2] at kz hk ⊢;simp only[sxZ,z6,z7,z8,j4,j5,j6,j7,j8,j9,x6,x7,x8,x9,y4,y5,reduceCtorEq,↓reduceIte,c2];subst hZ;refine zaa fun Z hZ=>?_;simp only[sxZ,z6,z7,z8,j4,j5,j6,j7,j8,j9,x6,x7,x8,x9,y4,y5,reduceCtorEq,↓reduceIte];rw[<-ex2];refine zah (ol_k x2 ?_);generalize olD x2=O at kz hk ⊢;obtain⟨e2,l2⟩:=O;dsimp only at kz hk ⊢;unfold zjW;rw[ex2];simp only[sxZ,z6,z7,z8,j4,j5,j6,j7,j8,j9,x6,x7,x8,x9,y4,y5,reduceCtorEq,↓reduceIte]
 by_cases c3:e2=0
 rotate_left
 ·rw[if_pos c3] at kz hk ⊢;have:=kz e2 rfl;simp only[sxZ,z6,z7,z8,j4,j5,j6,j7,j8,j9,x6,x7,x8,x9,y4,y5,reduceCtorEq,↓reduceIte,c3];exact this
 subst c3;rw[if_neg (show ¬((0:Int)≠0) by decide)] at kz hk ⊢;simp only[sxZ,z6,z7,z8,j4,j5,j6,j7,j8,j9,x6,x7,x8,x9,y4,y5,reduceCtorEq,↓reduceIte];subst hZ;simp only[sxZ,z6,z7,z8,j4,j5,j6,j7,j8,j9,x6,x7,x8,x9,y4,y5,reduceCtorEq,↓reduceIte,zaI];exact⟨fun G I y h=>h,hk⟩
theorem elM_k [Shp Tryz.prog] (m i:List UInt8) (v:JV) (hv:∀y∈v.items,JOk y/\JBd y/\(za2 y kId).1.text.length<=100000000) (h1:m.length<=100000) (h2:i.length<=100000) (hl:ResL m i)
  (hk:K objs (.tup [.row (elD (mtD m i) v).2.length (zc0 (elD (mtD m i) v).2),.i .i64 (elD (mtD m i) v).1])):zae Tryz.prog 28 [.agg (zak v),.agg [.s m,.s i],.fn 29 [] []] objs K:=by
 refine zgD (.tup [.row (elD (mtD m i) v).2.length (zc0 (elD (mtD m i) v).2),.i .i64 (elD (mtD m i) v).1]) ?_;have knil:∀e:Int,elD (mtD m i) v=(e,[])->(∀G I y,Den G I (.tup [.nil,.i .i64 e]) y->Den G I (.tup [.row (elD (mtD m i) v).2.length (zc0 (elD (mtD m i) v).2),.i .i64 (elD (mtD m i) v).1]) y)/\K objs (.tup [.row (elD (mtD m i) v).2.length (zc0 (elD (mtD m i) v).2),.i .i64 (elD (mtD m i) v).1]):=fun e he=>⟨fun G I y h=>by rw[he];exact zcn (fun z hz=>za9 hz) h,hk⟩;refine za5 is_diddoc_elements__api_Method (by simp only[zap,AV.plain,zbj,Bool.and_self]) fun C _=>?_;rw[c_diddoc_elements__api_Method];unfold elD at knil hk ⊢;have ejv:=zaf v;have hl4:=zaE v.items;rw[ejv];refine zaa fun Z hZ=>?_;simp only[sxZ,z6,z7,z8,j4,j5,j6,j7,j8,j9,x6,x7,x8,x9,y4,y5,reduceCtorEq,↓reduceIte];subst hZ;refine zaa fun Z hZ=>?_
 by_cases c6:v.kind=6
 rotate_left
 ·rw[if_neg c6] at knil hk ⊢;have:=knil 160 rfl;simp only[sxZ,z6,z7,z8,j4,j5,j6,j7,j8,j9,x6,x7,x8,x9,y4,y5,reduceCtorEq,↓reduceIte,c6];exact this
 rw[if_pos c6] at knil hk ⊢;simp only[sxZ,z6,z7,z8,j4,j5,j6,j7,j8,j9,x6,x7,x8,x9,y4,y5,reduceCtorEq,↓reduceIte,c6];subst hZ;refine zaa fun Z hZ=>?_
 by_cases c64:(64:Int)<(v.items.length:Int)
 ·rw[if_pos (show 64<v.items.length by omega)] at knil hk ⊢;have:=knil 161 rfl;simp only[sxZ,z6,z7,z8,j4,j5,j6,j7,j8,j9,x6,x7,x8,x9,y4,y5,reduceCtorEq,↓reduceIte,c64,decide_true];exact this
 rw[if_neg (show ¬64<v.items.length by omega)] at knil hk ⊢;simp only[sxZ,z6,z7,z8,j4,j5,j6,j7,j8,j9,x6,x7,x8,x9,y4,y5,reduceCtorEq,↓reduceIte,c64,decide_false];subst hZ;refine zaa fun Z hZ=>?_;simp only[sxZ,z6,z7,z8,j4,j5,j6,j7,j8,j9,x6,x7,x8,x9,y4,y5,reduceCtorEq,↓reduceIte];subst hZ;refine zaa fun Z hZ=>?_;refine zaa fun W hW=>?_;simp only[sxZ,z6,z7,z8,j4,j5,j6,j7,j8,j9,x6,x7,x8,x9,y4,y5,reduceCtorEq,↓reduceIte];subst hW;rw[zaR];generalize v.items=l at hv knil hk hl4 c64 ⊢;refine zaH (fun n o tm=>∃j:Nat,j<=l.length/\n=l.length - j/\RowM ((l.take j).map fun y=>(mtD m i y).2) o (tm[8]?.getD .u)/\(∀y∈l.take j,(mtD m i y).1=0)/\o[1]? = some (.box 62 [.s m,.s i])/\tm.length=43/\tm[2]? = some (.fn 29 [] [])/\tm[4]? = some (.p 1 0)/\tm[21]? = some (.row l.length (zac l))/\tm[22]? = some (.i .i64 (l.length:Int))/\tm[23]? = some (.i .i64 (j:Int))) l.length ⟨0,zd _,rfl,.inl ⟨rfl,rfl⟩,(by simp),rfl,rfl,rfl,rfl,rfl,rfl,rfl⟩ ?_;rintro n o tm ⟨j,hj,rfl,hA,hall,e1,hlen,t2,t4,t21,t22,t23⟩;obtain⟨a8,t8⟩:∃a,tm[8]? = some a:=⟨_,zo (by omega)⟩;rw[t8,qh] at hA;refine zaa fun W hW=>?_
 by_cases hlt:(j:Int)<(l.length:Int)
 ·have hj':j<l.length:=by omega
  have kv:=zhQ hj';have htk:l.take (j+1)=l.take j++[l[j]]:=by rw[y9,zo hj'];rfl
  have hfl:((l.take j).map fun y=>(mtD m i y).2).length=j:=by rw[qo,qg];omega
  obtain⟨y1,y2,y3⟩:=hv l[j] (jn hj');have hbad:(mtD m i l[j]).1≠0->zgw (mtD m i) l=((mtD m i l[j]).1,[]):=fun h=>ziR (mtD m i) hj' hall h;generalize l[j]=y at kv htk y1 y2 y3 hbad;have ey:=zaf y;rw[ey] at kv;simp only[sxZ,z6,z7,z8,j4,j5,j6,j7,j8,j9,x6,x7,x8,x9,y4,y5,reduceCtorEq,↓reduceIte,za,hlen,t22,t23,hlt];subst hW;refine zaa fun W hW=>?_;simp only[sxZ,z6,z7,z8,j4,j5,j6,j7,j8,j9,x6,x7,x8,x9,y4,y5,reduceCtorEq,↓reduceIte,za,hlen];subst hW;refine zaa fun V hV=>?_;rw[zaR];refine zaa fun W hW=>?_;simp only[sxZ,z6,z7,z8,j4,j5,j6,j7,j8,j9,x6,x7,x8,x9,y4,y5,reduceCtorEq,↓reduceIte,za,hlen,t21,t23,kv];refine⟨⟨by omega,by omega,by omega⟩,by omega,?_⟩;simp only[sxZ,z6,z7,z8,j4,j5,j6,j7,j8,j9,x6,x7,x8,x9,y4,y5,reduceCtorEq,↓reduceIte,za,hlen,gn1,sn1];subst hW;have hol:1<o.length:=(zh.1 e1).1;have hA2:=hA.mono (.box 25 [.i .i64 y.kind,.s y.text,.row y.keys.length (y.keys.map .s),.row y.items.length (zac y.items)]);have eB:(o++[OB.box 25 [.i .i64 y.kind,.s y.text,.row y.keys.length (y.keys.map .s),.row y.items.length (zac y.items)]])[o.length]? = some (.box 25 [.i .i64 y.kind,.s y.text,.row y.keys.length (y.keys.map .s),.row y.items.length (zac y.items)]):=gn1 _ _;have e11:(o++[OB.box 25 [.i .i64 y.kind,.s y.text,.row y.keys.length (y.keys.map .s),.row y.items.length (zac y.items)]])[1]? = some (.box 62 [.s m,.s i]):=by rw[zp hol];exact e1
  generalize hpp:o.length=p at eB ⊢;generalize o++[OB.box 25 [.i .i64 y.kind,.s y.text,.row y.keys.length (y.keys.map .s),.row y.items.length (zac y.items)]]=o1 at hA2 eB e11 ⊢;refine zaa fun W hW=>?_;simp only[sxZ,z6,z7,z8,j4,j5,j6,j7,j8,j9,x6,x7,x8,x9,y4,y5,reduceCtorEq,↓reduceIte,za,hlen,t2,t4,eB,e11];rw[<-ey];refine zep dm_isFn (dm_k m i y y1 y2 h1 h2 y3 hl ?_);generalize hfd:mtD m i y=R at hbad ⊢;obtain⟨e,x⟩:=R;dsimp only at hbad ⊢;unfold mtc;simp only[sxZ,z6,z7,z8,j4,j5,j6,j7,j8,j9,x6,x7,x8,x9,y4,y5,reduceCtorEq,↓reduceIte,za,hlen,gn1,sn1];have hol1:1<o1.length:=(zh.1 e11).1;have hA3:=hA2.mono (.box 48 (mtc x));have eC:(o1++[OB.box 48 (mtc x)])[o1.length]? = some (.box 48 (mtc x)):=gn1 _ _;have e12:(o1++[OB.box 48 (mtc x)])[1]? = some (.box 62 [.s m,.s i]):=by rw[zp hol1];exact e11
  unfold mtc at hA3 eC e12;generalize o1.length=q at eC ⊢;generalize o1++[OB.box 48 _]=o2 at hA3 eC e12 ⊢;subst hW;refine zaa fun W hW=>?_
  by_cases c:e=0
  ·subst c;simp only[sxZ,z6,z7,z8,j4,j5,j6,j7,j8,j9,x6,x7,x8,x9,y4,y5,reduceCtorEq,↓reduceIte,za,hlen];subst hW;have hall2:∀z∈l.take (j+1),(mtD m i z).1=0:=by
    intro z hz;rw[htk] at hz;rcases zt.1 hz with h|h
    ·exact hall z h
    ·rw[jt] at h;subst h;rw[hfd]
   have hmp:(l.take (j+1)).map (fun y=>(mtD m i y).2)=(l.take j).map (fun y=>(mtD m i y).2)++[x]:=by rw[htk,jj];simp[hfd]
   generalize hacc:(l.take j).map (fun y=>(mtD m i y).2)=acc at hA3 hfl hmp;rcases hA3 with ⟨rfl,rfl⟩|⟨r,g,rfl,hr⟩
   ·simp only[sxZ,z6,z7,z8,j4,j5,j6,j7,j8,j9,x6,x7,x8,x9,y4,y5,reduceCtorEq,↓reduceIte,za,hlen,t8,eC];subst hV;simp only[sxZ,z6,z7,z8,j4,j5,j6,j7,j8,j9,x6,x7,x8,x9,y4,y5,reduceCtorEq,↓reduceIte,za,hlen,t2,t4,t21,t22,t23];refine⟨by omega,l.length - (j+1),by omega,j+1,by omega,rfl,?_,hall2,?_,rfl⟩
    ·rw[hmp];exact .inr ⟨o2.length,0,rfl,by rw[gn1];rfl⟩
    ·rw[zp (zh.1 e12).1];exact e12
   ·have hrl:=(zh.1 hr).1;have hr1:r≠1:=fun e=>by rw[e,e12] at hr;injection hr with hr;cases hr
    simp only[sxZ,z6,z7,z8,j4,j5,j6,j7,j8,j9,x6,x7,x8,x9,y4,y5,reduceCtorEq,↓reduceIte,za,hlen,t8,eC,hr];have hcl:=zfw acc;refine⟨⟨by omega,by omega⟩,?_⟩;subst hV;simp only[sxZ,z6,z7,z8,j4,j5,j6,j7,j8,j9,x6,x7,x8,x9,y4,y5,reduceCtorEq,↓reduceIte,za,hlen,t2,t4,t21,t22,t23];refine⟨by omega,l.length - (j+1),by omega,j+1,by omega,rfl,?_,hall2,?_,rfl⟩
    ·rw[hmp];exact .inr ⟨r,g+1,rfl,by rw[zk hrl,zm,mtcs_app];rfl⟩
    ·rw[if_neg hr1];exact e12
  ·have:=knil e (hbad c);simp only[sxZ,z6,z7,z8,j4,j5,j6,j7,j8,j9,x6,x7,x8,x9,y4,y5,reduceCtorEq,↓reduceIte,za,hlen,c];exact this
 have hn:j=l.length:=by omega
 rw[hn,jp (ze _)] at hA hall;have e:=zk7 (mtD m i) hall;simp only[sxZ,z6,z7,z8,j4,j5,j6,j7,j8,j9,x6,x7,x8,x9,y4,y5,reduceCtorEq,↓reduceIte,za,hlen,t22,t23,hlt];subst hW;simp only[sxZ,z6,z7,z8,j4,j5,j6,j7,j8,j9,x6,x7,x8,x9,y4,y5,reduceCtorEq,↓reduceIte,za,hlen];subst hZ;rcases hA with ⟨h0,rfl⟩|⟨r,g,rfl,hr⟩
 ·have:=knil 0 (by rw[e,h0]);simp only[sxZ,z6,z7,z8,j4,j5,j6,j7,j8,j9,x6,x7,x8,x9,y4,y5,reduceCtorEq,↓reduceIte,za,hlen,t8];exact this
 ·simp only[sxZ,z6,z7,z8,j4,j5,j6,j7,j8,j9,x6,x7,x8,x9,y4,y5,reduceCtorEq,↓reduceIte,za,hlen,t8,hr,zeQ (zf9 _),je];rw[e] at hk ⊢;exact⟨fun G I y hy=>hy,hk⟩
theorem elV_k [Shp Tryz.prog] (m i:List UInt8) (v:JV) (hv:∀y∈v.items,JOk y/\JBd y/\(za2 y kId).1.text.length<=100000000) (h1:m.length<=100000) (h2:i.length<=100000) (hl:ResL m i)
  (hk:K objs (.tup [.row (elD (svD m i) v).2.length (zcN (elD (svD m i) v).2),.i .i64 (elD (svD m i) v).1])):zae Tryz.prog 30 [.agg (zak v),.agg [.s m,.s i],.fn 31 [] []] objs K:=by
 refine zgD (.tup [.row (elD (svD m i) v).2.length (zcN (elD (svD m i) v).2),.i .i64 (elD (svD m i) v).1]) ?_;have knil:∀e:Int,elD (svD m i) v=(e,[])->(∀G I y,Den G I (.tup [.nil,.i .i64 e]) y->Den G I (.tup [.row (elD (svD m i) v).2.length (zcN (elD (svD m i) v).2),.i .i64 (elD (svD m i) v).1]) y)/\K objs (.tup [.row (elD (svD m i) v).2.length (zcN (elD (svD m i) v).2),.i .i64 (elD (svD m i) v).1]):=fun e he=>⟨fun G I y h=>by rw[he];exact zcn (fun z hz=>za9 hz) h,hk⟩;refine za5 is_diddoc_elements__api_Service (by simp only[zap,AV.plain,zbj,Bool.and_self]) fun C _=>?_;rw[c_diddoc_elements__api_Service];unfold elD at knil hk ⊢;have ejv:=zaf v;have hl4:=zaE v.items;rw[ejv];refine zaa fun Z hZ=>?_;simp only[sxZ,z6,z7,z8,j4,j5,j6,j7,j8,j9,x6,x7,x8,x9,y4,y5,reduceCtorEq,↓reduceIte];subst hZ;refine zaa fun Z hZ=>?_
 by_cases c6:v.kind=6
 rotate_left
 ·rw[if_neg c6] at knil hk ⊢;have:=knil 160 rfl;simp only[sxZ,z6,z7,z8,j4,j5,j6,j7,j8,j9,x6,x7,x8,x9,y4,y5,reduceCtorEq,↓reduceIte,c6];exact this
 rw[if_pos c6] at knil hk ⊢;simp only[sxZ,z6,z7,z8,j4,j5,j6,j7,j8,j9,x6,x7,x8,x9,y4,y5,reduceCtorEq,↓reduceIte,c6];subst hZ;refine zaa fun Z hZ=>?_
 by_cases c64:(64:Int)<(v.items.length:Int)
 ·rw[if_pos (show 64<v.items.length by omega)] at knil hk ⊢;have:=knil 161 rfl;simp only[sxZ,z6,z7,z8,j4,j5,j6,j7,j8,j9,x6,x7,x8,x9,y4,y5,reduceCtorEq,↓reduceIte,c64,decide_true];exact this
 rw[if_neg (show ¬64<v.items.length by omega)] at knil hk ⊢;simp only[sxZ,z6,z7,z8,j4,j5,j6,j7,j8,j9,x6,x7,x8,x9,y4,y5,reduceCtorEq,↓reduceIte,c64,decide_false];subst hZ;refine zaa fun Z hZ=>?_;simp only[sxZ,z6,z7,z8,j4,j5,j6,j7,j8,j9,x6,x7,x8,x9,y4,y5,reduceCtorEq,↓reduceIte];subst hZ;refine zaa fun Z hZ=>?_;refine zaa fun W hW=>?_;simp only[sxZ,z6,z7,z8,j4,j5,j6,j7,j8,j9,x6,x7,x8,x9,y4,y5,reduceCtorEq,↓reduceIte];subst hW;rw[zaR];generalize v.items=l at hv knil hk hl4 c64 ⊢;refine zaH (fun n o tm=>∃j:Nat,j<=l.length/\n=l.length - j/\RowV ((l.take j).map fun y=>(svD m i y).2) o (tm[8]?.getD .u)/\(∀y∈l.take j,(svD m i y).1=0)/\o[1]? = some (.box 62 [.s m,.s i])/\tm.length=43/\tm[2]? = some (.fn 31 [] [])/\tm[4]? = some (.p 1 0)/\tm[21]? = some (.row l.length (zac l))/\tm[22]? = some (.i .i64 (l.length:Int))/\tm[23]? = some (.i .i64 (j:Int))) l.length ⟨0,zd _,rfl,.inl ⟨rfl,rfl⟩,(by simp),rfl,rfl,rfl,rfl,rfl,rfl,rfl⟩ ?_;rintro n o tm ⟨j,hj,rfl,hA,hall,e1,hlen,t2,t4,t21,t22,t23⟩;obtain⟨a8,t8⟩:∃a,tm[8]? = some a:=⟨_,zo (by omega)⟩;rw[t8,qh] at hA;refine zaa fun W hW=>?_
 by_cases hlt:(j:Int)<(l.length:Int)
 ·have hj':j<l.length:=by omega
  have kv:=zhQ hj';have htk:l.take (j+1)=l.take j++[l[j]]:=by rw[y9,zo hj'];rfl
  have hfl:((l.take j).map fun y=>(svD m i y).2).length=j:=by rw[qo,qg];omega
  obtain⟨y1,y2,y3⟩:=hv l[j] (jn hj');have hbad:(svD m i l[j]).1≠0->zgw (svD m i) l=((svD m i l[j]).1,[]):=fun h=>ziR (svD m i) hj' hall h;generalize l[j]=y at kv htk y1 y2 y3 hbad;have ey:=zaf y;rw[ey] at kv;simp only[sxZ,z6,z7,z8,j4,j5,j6,j7,j8,j9,x6,x7,x8,x9,y4,y5,reduceCtorEq,↓reduceIte,za,hlen,t22,t23,hlt];subst hW;refine zaa fun W hW=>?_;simp only[sxZ,z6,z7,z8,j4,j5,j6,j7,j8,j9,x6,x7,x8,x9,y4,y5,reduceCtorEq,↓reduceIte,za,hlen];subst hW;refine zaa fun V hV=>?_;rw[zaR];refine zaa fun W hW=>?_;simp only[sxZ,z6,z7,z8,j4,j5,j6,j7,j8,j9,x6,x7,x8,x9,y4,y5,reduceCtorEq,↓reduceIte,za,hlen,t21,t23,kv];refine⟨⟨by omega,by omega,by omega⟩,by omega,?_⟩;simp only[sxZ,z6,z7,z8,j4,j5,j6,j7,j8,j9,x6,x7,x8,x9,y4,y5,reduceCtorEq,↓reduceIte,za,hlen,gn1,sn1];subst hW;have hol:1<o.length:=(zh.1 e1).1;have hA2:=hA.mono (.box 25 [.i .i64 y.kind,.s y.text,.row y.keys.length (y.keys.map .s),.row y.items.length (zac y.items)]);have eB:(o++[OB.box 25 [.i .i64 y.kind,.s y.text,.row y.keys.length (y.keys.map .s),.row y.items.length (zac y.items)]])[o.length]? = some (.box 25 [.i .i64 y.kind,.s y.text,.row y.keys.length (y.keys.map .s),.row y.items.length (zac y.items)]):=gn1 _ _;have e11:(o++[OB.box 25 [.i .i64 y.kind,.s y.text,.row y.keys.length (y.keys.map .s),.row y.items.length (zac y.items)]])[1]? = some (.box 62 [.s m,.s i]):=by rw[zp hol];exact e1
  generalize hpp:o.length=p at eB ⊢;generalize o++[OB.box 25 [.i .i64 y.kind,.s y.text,.row y.keys.length (y.keys.map .s),.row y.items.length (zac y.items)]]=o1 at hA2 eB e11 ⊢;refine zaa fun W hW=>?_;simp only[sxZ,z6,z7,z8,j4,j5,j6,j7,j8,j9,x6,x7,x8,x9,y4,y5,reduceCtorEq,↓reduceIte,za,hlen,t2,t4,eB,e11];rw[<-ey];refine zep ds_isFn (ds_k m i y y1 y2 h1 h2 y3 hl ?_);generalize hfd:svD m i y=R at hbad ⊢;obtain⟨e,x⟩:=R;dsimp only at hbad ⊢;unfold svc;simp only[sxZ,z6,z7,z8,j4,j5,j6,j7,j8,j9,x6,x7,x8,x9,y4,y5,reduceCtorEq,↓reduceIte,za,hlen,gn1,sn1];have hol1:1<o1.length:=(zh.1 e11).1;have hA3:=hA2.mono (.box 46 (svc x));have eC:(o1++[OB.box 46 (svc x)])[o1.length]? = some (.box 46 (svc x)):=gn1 _ _;have e12:(o1++[OB.box 46 (svc x)])[1]? = some (.box 62 [.s m,.s i]):=by rw[zp hol1];exact e11
  unfold svc at hA3 eC e12;generalize o1.length=q at eC ⊢;generalize o1++[OB.box 46 _]=o2 at hA3 eC e12 ⊢;subst hW;refine zaa fun W hW=>?_
  by_cases c:e=0
  ·subst c;simp only[sxZ,z6,z7,z8,j4,j5,j6,j7,j8,j9,x6,x7,x8,x9,y4,y5,reduceCtorEq,↓reduceIte,za,hlen];subst hW;have hall2:∀z∈l.take (j+1),(svD m i z).1=0:=by
    intro z hz;rw[htk] at hz;rcases zt.1 hz with h|h
    ·exact hall z h
    ·rw[jt] at h;subst h;rw[hfd]
   have hmp:(l.take (j+1)).map (fun y=>(svD m i y).2)=(l.take j).map (fun y=>(svD m i y).2)++[x]:=by rw[htk,jj];simp[hfd]
   generalize hacc:(l.take j).map (fun y=>(svD m i y).2)=acc at hA3 hfl hmp;rcases hA3 with ⟨rfl,rfl⟩|⟨r,g,rfl,hr⟩
   ·simp only[sxZ,z6,z7,z8,j4,j5,j6,j7,j8,j9,x6,x7,x8,x9,y4,y5,reduceCtorEq,↓reduceIte,za,hlen,t8,eC];subst hV;simp only[sxZ,z6,z7,z8,j4,j5,j6,j7,j8,j9,x6,x7,x8,x9,y4,y5,reduceCtorEq,↓reduceIte,za,hlen,t2,t4,t21,t22,t23];refine⟨by omega,l.length - (j+1),by omega,j+1,by omega,rfl,?_,hall2,?_,rfl⟩
    ·rw[hmp];exact .inr ⟨o2.length,0,rfl,by rw[gn1];rfl⟩
    ·rw[zp (zh.1 e12).1];exact e12
   ·have hrl:=(zh.1 hr).1;have hr1:r≠1:=fun e=>by rw[e,e12] at hr;injection hr with hr;cases hr
    simp only[sxZ,z6,z7,z8,j4,j5,j6,j7,j8,j9,x6,x7,x8,x9,y4,y5,reduceCtorEq,↓reduceIte,za,hlen,t8,eC,hr];have hcl:=zfq acc;refine⟨⟨by omega,by omega⟩,?_⟩;subst hV;simp only[sxZ,z6,z7,z8,j4,j5,j6,j7,j8,j9,x6,x7,x8,x9,y4,y5,reduceCtorEq,↓reduceIte,za,hlen,t2,t4,t21,t22,t23];refine⟨by omega,l.length - (j+1),by omega,j+1,by omega,rfl,?_,hall2,?_,rfl⟩
    ·rw[hmp];exact .inr ⟨r,g+1,rfl,by rw[zk hrl,zm,svcs_app];rfl⟩
    ·rw[if_neg hr1];exact e12
  ·have:=knil e (hbad c);simp only[sxZ,z6,z7,z8,j4,j5,j6,j7,j8,j9,x6,x7,x8,x9,y4,y5,reduceCtorEq,↓reduceIte,za,hlen,c];exact this
 have hn:j=l.length:=by omega
 rw[hn,jp (ze _)] at hA hall;have e:=zk7 (svD m i) hall;simp only[sxZ,z6,z7,z8,j4,j5,j6,j7,j8,j9,x6,x7,x8,x9,y4,y5,reduceCtorEq,↓reduceIte,za,hlen,t22,t23,hlt];subst hW;simp only[sxZ,z6,z7,z8,j4,j5,j6,j7,j8,j9,x6,x7,x8,x9,y4,y5,reduceCtorEq,↓reduceIte,za,hlen];subst hZ;rcases hA with ⟨h0,rfl⟩|⟨r,g,rfl,hr⟩
 ·have:=knil 0 (by rw[e,h0]);simp only[sxZ,z6,z7,z8,j4,j5,j6,j7,j8,j9,x6,x7,x8,x9,y4,y5,reduceCtorEq,↓reduceIte,za,hlen,t8];exact this
 ·simp only[sxZ,z6,z7,z8,j4,j5,j6,j7,j8,j9,x6,x7,x8,x9,y4,y5,reduceCtorEq,↓reduceIte,za,hlen,t8,hr,zeQ (zfO _),je];rw[e] at hk ⊢;exact⟨fun G I y hy=>hy,hk⟩
end
end
section
attribute [local irreducible] run
theorem zeu (s:List UInt8):(zdf s).2.1.length<=4096/\(zdf s).2.2.length<=50000:=by
 have h1:=(zex 58 (s.drop 4)).1;have h2:(s.drop 4).length=s.length - 4:=qb;have h3:=idE_len (zay 58 (s.drop 4)).2.1;unfold zdf
 by_cases c0:4096<s.length
 ·rw[if_pos c0];exact⟨zd _,zd _⟩
 rw[if_neg c0]
 repeat' split
 all_goals first
  | exact⟨zd _,zd _⟩
  | (refine⟨?_,h3⟩;show (zay 58 (s.drop 4)).1.length<=4096;omega)
def ShD (u:DidU):Prop:=u.meth.length<=4096/\u.id.length<=50000/\u.path.length<=16384/\u.query.length<=16384/\u.frag.length<=16384
theorem shZ:ShD zl4:=⟨zd _,zd _,zd _,zd _,zd _⟩
theorem zg6 (s:List UInt8):ShD (zdQ s).2:=by
 unfold zdQ
 repeat' split
 all_goals first
  | exact shZ
  | exact⟨(zeu _).1,(zeu _).2,(zeS _ _).2,(zeS _ _).2,(zeS _ _).2⟩
theorem ziq (m i r:List UInt8):ShD (zeh m i r).2:=by
 unfold zeh
 repeat' split
 ·exact zg6 _
 ·exact zg6 _
 ·exact shZ
theorem resL (m i:List UInt8):ResL m i:=fun r _ _=>by
 obtain⟨h1,h2,h3,h4,h5⟩:=ziq m i r;exact⟨by omega,by omega,by omega,by omega,by omega⟩
theorem zhq (v:JV):(sbD v).2.1.length<=4096/\(sbD v).2.2.length<=50000:=by
 unfold sbD
 repeat' split
 ·exact⟨zd _,zd _⟩
 ·exact⟨zd _,zd _⟩
 ·exact zeu _
def zi5 (A:AV) (n:Nat) (cs:List AV):Prop:=A=.row n cs\/(A=.nil/\n=0/\cs=[])
theorem zi5.den {A:AV} {n:Nat} {cs:List AV} (h:zi5 A n cs) {G:Gh} {I:Imm} (z:Value) (hz:Den G I A z):Den G I (.row n cs) z:=by
 rcases h with rfl|⟨rfl,rfl,rfl⟩
 ·exact hz
 ·exact za9 hz
theorem zi5.pl {A:AV} {n:Nat} {cs:List AV} (h:zi5 A n cs) (hp:zap cs=true):A.plain=true:=by
 rcases h with rfl|⟨rfl,_,_⟩
 ·exact hp
 ·rfl
theorem den_do {G:Gh} {I:Imm} {a a' b b' c c' d d' x:AV} {t:List UInt8} {y:Value} (h1:∀z,Den G I a z->Den G I a' z) (h2:∀z,Den G I b z->Den G I b' z) (h3:∀z,Den G I c z->Den G I c' z) (h4:∀z,Den G I d z->Den G I d' z) (hd:Den G I (.tup [.agg [.s t,a,b,c,d],x]) y):Den G I (.tup [.agg [.s t,a',b',c',d'],x]) y:=by
 refine zcn (fun z hz=>?_) hd;simp only[zaj,Den] at hz ⊢;obtain⟨zs,rfl,⟨z0,m0,rfl,q0,z1,m1,rfl,q1,z2,m2,rfl,q2,z3,m3,rfl,q3,z4,m4,rfl,q4,q5⟩,hz⟩:=hz;exact⟨_,rfl,⟨_,_,rfl,q0,_,_,rfl,h1 _ q1,_,_,rfl,h2 _ q2,_,_,rfl,h3 _ q3,_,_,rfl,h4 _ q4,q5⟩,hz⟩
def doc (d:DoP):List AV:=[.s d.id,.row d.also.length (d.also.map .s),.row d.ctl.length (d.ctl.map .s),.row d.mts.length (zc0 d.mts),.row d.svs.length (zcN d.svs)]
def ddAV (R:Int×DoP):AV:=.tup [.agg (doc R.2),.i .i64 R.1]
def IdB (v:JV):Prop:=(za2 v kId).1.text.length<=100000000/\∀key,∀y∈(za2 v key).1.items,(za2 y kId).1.text.length<=100000000
theorem IdB.it {v:JV} (h:IdB v) (hv:JOk v) (hj:JBd v) (key:List UInt8):∀y∈(za2 v key).1.items,JOk y/\JBd y/\(za2 y kId).1.text.length<=100000000:=fun y hy=>by
 have h1:=zc9 hv key;have h2:=zkT hj key;refine⟨?_,?_,h.2 key y hy⟩
 ·obtain⟨i,hi,rfl⟩:=xw.1 hy;exact h1.its hi
 ·obtain⟨i,hi,rfl⟩:=xw.1 hy;exact h2.its hi
section
variable [Tabs Tryz.prog] {objs:List OB} {K:List OB->AV->Prop}
theorem sub_k [Shp Tryz.prog] (v:JV) (hv:JOk v) (hj:JBd v) (ht:(za2 v kId).1.text.length<=100000000) (hk:K objs (.tup [.agg [.s (sbD v).2.1,.s (sbD v).2.2],.i .i64 (sbD v).1])):zae Tryz.prog 24 [.agg (zak v)] objs K:=by
 refine za5 is_diddoc_subject (by simp only[zap,AV.plain,zbj,Bool.and_self]) fun C _=>?_;rw[c_diddoc_subject];have ejv:=zaf v;have htl:=zmv v kId _ ht;have hm:maxLen=2 ^ 63 - 1:=rfl;rw[ejv];refine zaa fun Z hZ=>?_;simp only[sxZ,z6,z7,z8,j4,j5,j6,j7,j8,j9,x6,x7,x8,x9,y4,y5,reduceCtorEq,↓reduceIte];subst hZ;refine zaa fun Z hZ=>?_;simp only[sxZ,z6,z7,z8,j4,j5,j6,j7,j8,j9,x6,x7,x8,x9,y4,y5,reduceCtorEq,↓reduceIte];rw[<-ejv];refine zah (tm_k v kId hv hj ?_);unfold sbD at hk;generalize tmD v kId=R at hk htl ⊢;obtain⟨x,ok⟩:=R;dsimp only at hk htl ⊢;rw[ejv];simp only[sxZ,z6,z7,z8,j4,j5,j6,j7,j8,j9,x6,x7,x8,x9,y4,y5,reduceCtorEq,↓reduceIte];subst hZ;refine zaa fun Z hZ=>?_
 cases ok with
 | false=>
  rw[if_pos rfl] at hk;simp only[sxZ,z6,z7,z8,j4,j5,j6,j7,j8,j9,x6,x7,x8,x9,y4,y5,reduceCtorEq,↓reduceIte];exact hk
 | true=>
  rw[if_neg (show ¬(true=false) by decide)] at hk;simp only[sxZ,z6,z7,z8,j4,j5,j6,j7,j8,j9,x6,x7,x8,x9,y4,y5,reduceCtorEq,↓reduceIte];subst hZ;refine zaa fun Z hZ=>?_;simp only[sxZ,z6,z7,z8,j4,j5,j6,j7,j8,j9,x6,x7,x8,x9,y4,y5,reduceCtorEq,↓reduceIte];refine zah (zgo x (by omega) ?_);generalize zdf x=R at hk ⊢;obtain⟨e,m,i⟩:=R;dsimp only at hk ⊢;simp only[sxZ,z6,z7,z8,j4,j5,j6,j7,j8,j9,x6,x7,x8,x9,y4,y5,reduceCtorEq,↓reduceIte];subst hZ;refine zaa fun Z hZ=>?_
  by_cases c:e=0
  ·subst c;rw[if_neg (show ¬((0:Int)≠0) by decide)] at hk;simp only[sxZ,z6,z7,z8,j4,j5,j6,j7,j8,j9,x6,x7,x8,x9,y4,y5,reduceCtorEq,↓reduceIte];subst hZ;simp only[sxZ,z6,z7,z8,j4,j5,j6,j7,j8,j9,x6,x7,x8,x9,y4,y5,reduceCtorEq,↓reduceIte];exact hk
  ·rw[if_pos c] at hk;simp only[sxZ,z6,z7,z8,j4,j5,j6,j7,j8,j9,x6,x7,x8,x9,y4,y5,reduceCtorEq,↓reduceIte,c];exact hk
theorem dd_k [Shp Tryz.prog] (v:JV) (hv:JOk v) (hj:JBd v) (hb:IdB v) (hk:K objs (ddAV (ddE v))):zae Tryz.prog 10 [.agg (zak v)] objs K:=by
 refine zgD (ddAV (ddE v)) ?_;have kz:∀e:Int,ddE v=(e,doZ)->(∀G I y,Den G I (.tup [.agg [.s [],.nil,.nil,.nil,.nil],.i .i64 e]) y->Den G I (ddAV (ddE v)) y)/\K objs (ddAV (ddE v)):=fun e he=>⟨fun G I y h=>by rw[he];exact den_do (fun z hz=>za9 hz) (fun z hz=>za9 hz) (fun z hz=>za9 hz) (fun z hz=>za9 hz) h,hk⟩;refine za5 is_diddoc_Decode (by simp only[zap,AV.plain,zbj,Bool.and_self]) fun C _=>?_;rw[c_diddoc_Decode];have ejv:=zaf v;have hsl:=zhq v;rw[ejv];refine zaa fun Z hZ=>?_;simp only[sxZ,z6,z7,z8,j4,j5,j6,j7,j8,j9,x6,x7,x8,x9,y4,y5,reduceCtorEq,↓reduceIte];subst hZ;refine zaa fun Z hZ=>?_;simp only[sxZ,z6,z7,z8,j4,j5,j6,j7,j8,j9,x6,x7,x8,x9,y4,y5,reduceCtorEq,↓reduceIte];rw[<-ejv];refine zah (znP v ?_);rw[ejv];simp only[sxZ,z6,z7,z8,j4,j5,j6,j7,j8,j9,x6,x7,x8,x9,y4,y5,reduceCtorEq,↓reduceIte];subst hZ;refine zaa fun Z hZ=>?_;simp only[sxZ,z6,z7,z8,j4,j5,j6,j7,j8,j9,x6,x7,x8,x9,y4,y5,reduceCtorEq,↓reduceIte];rw[<-ejv];refine zah (sub_k v hv hj hb.1 ?_);unfold ddE at kz hk ⊢;generalize sbD v=R at kz hk hsl ⊢;obtain⟨e,m,i⟩:=R;dsimp only at kz hk hsl ⊢;rw[ejv];simp only[sxZ,z6,z7,z8,j4,j5,j6,j7,j8,j9,x6,x7,x8,x9,y4,y5,reduceCtorEq,↓reduceIte];subst hZ;refine zaa fun Z hZ=>?_
 by_cases c:e=0
 rotate_left
 ·rw[if_pos c] at kz hk ⊢;have:=kz e rfl;simp only[sxZ,z6,z7,z8,j4,j5,j6,j7,j8,j9,x6,x7,x8,x9,y4,y5,reduceCtorEq,↓reduceIte,c];exact this
 subst c;rw[if_neg (show ¬((0:Int)≠0) by decide)] at kz hk ⊢;simp only[sxZ,z6,z7,z8,j4,j5,j6,j7,j8,j9,x6,x7,x8,x9,y4,y5,reduceCtorEq,↓reduceIte];subst hZ;refine zaa fun Z hZ=>?_;simp only[sxZ,z6,z7,z8,j4,j5,j6,j7,j8,j9,x6,x7,x8,x9,y4,y5,reduceCtorEq,↓reduceIte];refine zah (zcB m i (by omega) (by omega) ?_);simp only[sxZ,z6,z7,z8,j4,j5,j6,j7,j8,j9,x6,x7,x8,x9,y4,y5,reduceCtorEq,↓reduceIte];subst hZ;refine zaa fun Z hZ=>?_;obtain⟨⟨e1,L1⟩,hO1⟩:∃R,opD v zcS ltD=R:=⟨_,rfl⟩;rw[hO1] at kz hk ⊢;dsimp only at kz hk ⊢;refine zaD (fun o t=>∃A1 z1 b1,o=[OB.box 25 [.i .i64 v.kind,.s v.text,.row v.keys.length (v.keys.map .s),.row v.items.length (zac v.items)],OB.box 34 [.s [],.nil,.nil,.nil,.nil],OB.box 25 [.i .i64 v.kind,.s v.text,.row v.keys.length (v.keys.map .s),.row v.items.length (zac v.items)],OB.box 62 [.s m,.s i],OB.box 34 [.s (zcg m i),A1,.nil,.nil,.nil],z1,b1]/\e1=0/\zi5 A1 L1.length (L1.map .s)/\t.length=97/\t[2]? = some (.p 1 0)/\t[4]? = some (.fn 64 [] [.p 2 0])/\t[5]? = some (.p 3 0)/\t[7]? = some (.p 4 0)) ?_ ?_
 ·simp only[sxZ,z6,z7,z8,j4,j5,j6,j7,j8,j9,x6,x7,x8,x9,y4,y5,reduceCtorEq,↓reduceIte];refine zep zdZ (zjz v zcS 2 (by rw[ejv];rfl) hv hj fun z=>?_);unfold zbO;unfold opD at hO1;obtain⟨⟨x,ok⟩,hg⟩:∃R,za2 v zcS=R:=⟨_,rfl⟩;have hgx:x=(za2 v zcS).1:=by rw[hg]
  rw[hg] at hO1 ⊢;dsimp only at hO1 ⊢;have ex:=zaf x;rw[ex];simp only[sxZ,z6,z7,z8,j4,j5,j6,j7,j8,j9,x6,x7,x8,x9,y4,y5,reduceCtorEq,↓reduceIte]
  cases ok with
  | false=>
   rw[if_neg (show ¬(false=true) by decide)] at hO1;injection hO1 with h1 h2
   subst h1 h2;simp only[sxZ,z6,z7,z8,j4,j5,j6,j7,j8,j9,x6,x7,x8,x9,y4,y5,reduceCtorEq,↓reduceIte,zab];exact⟨_,_,_,rfl,.inr ⟨rfl,rfl,rfl⟩⟩
  | true=>
   rw[if_pos rfl] at hO1;simp only[sxZ,z6,z7,z8,j4,j5,j6,j7,j8,j9,x6,x7,x8,x9,y4,y5,reduceCtorEq,↓reduceIte];rw[<-ex];refine zah (zkB x ?_);rw[hO1,ex];unfold zjW;simp only[sxZ,z6,z7,z8,j4,j5,j6,j7,j8,j9,x6,x7,x8,x9,y4,y5,reduceCtorEq,↓reduceIte]
   by_cases c1:e1=0
   ·subst c1;simp only[sxZ,z6,z7,z8,j4,j5,j6,j7,j8,j9,x6,x7,x8,x9,y4,y5,reduceCtorEq,↓reduceIte,zab];exact⟨_,_,_,rfl,.inl rfl⟩
   ·rw[if_pos c1] at kz hk ⊢;have:=kz e1 rfl;simp only[sxZ,z6,z7,z8,j4,j5,j6,j7,j8,j9,x6,x7,x8,x9,y4,y5,reduceCtorEq,↓reduceIte,c1,zfG];exact this
 rintro o tm ⟨A1,z1,b1,rfl,rfl,hA1,hlen,t2,t4,t5,t7⟩;rw[if_neg (show ¬((0:Int)≠0) by decide)] at kz hk ⊢;subst hZ;refine zaa fun Z hZ=>?_;obtain⟨⟨e2,L2⟩,hO2⟩:∃R,opD v zbS olD=R:=⟨_,rfl⟩;rw[hO2] at kz hk ⊢;dsimp only at kz hk ⊢;refine zaD (fun o t=>∃A2 z2 b2,o=[OB.box 25 [.i .i64 v.kind,.s v.text,.row v.keys.length (v.keys.map .s),.row v.items.length (zac v.items)],OB.box 34 [.s [],.nil,.nil,.nil,.nil],OB.box 25 [.i .i64 v.kind,.s v.text,.row v.keys.length (v.keys.map .s),.row v.items.length (zac v.items)],OB.box 62 [.s m,.s i],OB.box 34 [.s (zcg m i),A1,A2,.nil,.nil],z1,b1,z2,b2]/\e2=0/\zi5 A2 L2.length (L2.map .s)/\t.length=97/\t[2]? = some (.p 1 0)/\t[4]? = some (.fn 64 [] [.p 2 0])/\t[5]? = some (.p 3 0)/\t[7]? = some (.p 4 0)) ?_ ?_
 ·simp only[sxZ,z6,z7,z8,j4,j5,j6,j7,j8,j9,x6,x7,x8,x9,y4,y5,reduceCtorEq,↓reduceIte,za,hlen,t2,t4,t5,t7];refine zep zdZ (zjz v zbS 2 (by rw[ejv];rfl) hv hj fun z=>?_);unfold zbO;unfold opD at hO2;obtain⟨⟨x,ok⟩,hg⟩:∃R,za2 v zbS=R:=⟨_,rfl⟩;have hgx:x=(za2 v zbS).1:=by rw[hg]
  rw[hg] at hO2 ⊢;dsimp only at hO2 ⊢;have ex:=zaf x;rw[ex];simp only[sxZ,z6,z7,z8,j4,j5,j6,j7,j8,j9,x6,x7,x8,x9,y4,y5,reduceCtorEq,↓reduceIte,za,hlen,t2,t4,t5,t7]
  cases ok with
  | false=>
   rw[if_neg (show ¬(false=true) by decide)] at hO2;injection hO2 with h1 h2
   subst h1 h2;simp only[sxZ,z6,z7,z8,j4,j5,j6,j7,j8,j9,x6,x7,x8,x9,y4,y5,reduceCtorEq,↓reduceIte,za,hlen,t2,t4,t5,t7,zab];exact⟨_,_,_,rfl,.inr ⟨rfl,rfl,rfl⟩⟩
  | true=>
   rw[if_pos rfl] at hO2;simp only[sxZ,z6,z7,z8,j4,j5,j6,j7,j8,j9,x6,x7,x8,x9,y4,y5,reduceCtorEq,↓reduceIte,za,hlen,t2,t4,t5,t7];rw[<-ex];refine zah (ol_k x ?_);rw[hO2,ex];unfold zjW;simp only[sxZ,z6,z7,z8,j4,j5,j6,j7,j8,j9,x6,x7,x8,x9,y4,y5,reduceCtorEq,↓reduceIte,za,hlen,t2,t4,t5,t7]
   by_cases c1:e2=0
   ·subst c1;simp only[sxZ,z6,z7,z8,j4,j5,j6,j7,j8,j9,x6,x7,x8,x9,y4,y5,reduceCtorEq,↓reduceIte,za,hlen,t2,t4,t5,t7,zab];exact⟨_,_,_,rfl,.inl rfl⟩
   ·rw[if_pos c1] at kz hk ⊢;have:=kz e2 rfl;simp only[sxZ,z6,z7,z8,j4,j5,j6,j7,j8,j9,x6,x7,x8,x9,y4,y5,reduceCtorEq,↓reduceIte,za,hlen,t2,t4,t5,t7,c1,zfG];exact this
 rintro o tm ⟨A2,z2,b2,rfl,rfl,hA2,hlen,t2,t4,t5,t7⟩;rw[if_neg (show ¬((0:Int)≠0) by decide)] at kz hk ⊢;subst hZ;refine zaa fun Z hZ=>?_;obtain⟨⟨e3,L3⟩,hO3⟩:∃R,opD v zct (elD (mtD m i))=R:=⟨_,rfl⟩;rw[hO3] at kz hk ⊢;dsimp only at kz hk ⊢;refine zaD (fun o t=>∃A3 z3 b3,o=[OB.box 25 [.i .i64 v.kind,.s v.text,.row v.keys.length (v.keys.map .s),.row v.items.length (zac v.items)],OB.box 34 [.s [],.nil,.nil,.nil,.nil],OB.box 25 [.i .i64 v.kind,.s v.text,.row v.keys.length (v.keys.map .s),.row v.items.length (zac v.items)],OB.box 62 [.s m,.s i],OB.box 34 [.s (zcg m i),A1,A2,A3,.nil],z1,b1,z2,b2,z3,b3]/\e3=0/\zi5 A3 L3.length (zc0 L3)/\t.length=97/\t[2]? = some (.p 1 0)/\t[4]? = some (.fn 64 [] [.p 2 0])/\t[5]? = some (.p 3 0)/\t[7]? = some (.p 4 0)) ?_ ?_
 ·simp only[sxZ,z6,z7,z8,j4,j5,j6,j7,j8,j9,x6,x7,x8,x9,y4,y5,reduceCtorEq,↓reduceIte,za,hlen,t2,t4,t5,t7];refine zep zdZ (zjz v zct 2 (by rw[ejv];rfl) hv hj fun z=>?_);unfold zbO;unfold opD at hO3;obtain⟨⟨x,ok⟩,hg⟩:∃R,za2 v zct=R:=⟨_,rfl⟩;have hgx:x=(za2 v zct).1:=by rw[hg]
  rw[hg] at hO3 ⊢;dsimp only at hO3 ⊢;have ex:=zaf x;rw[ex];simp only[sxZ,z6,z7,z8,j4,j5,j6,j7,j8,j9,x6,x7,x8,x9,y4,y5,reduceCtorEq,↓reduceIte,za,hlen,t2,t4,t5,t7]
  cases ok with
  | false=>
   rw[if_neg (show ¬(false=true) by decide)] at hO3;injection hO3 with h1 h2
   subst h1 h2;simp only[sxZ,z6,z7,z8,j4,j5,j6,j7,j8,j9,x6,x7,x8,x9,y4,y5,reduceCtorEq,↓reduceIte,za,hlen,t2,t4,t5,t7,zab];exact⟨_,_,_,rfl,.inr ⟨rfl,rfl,rfl⟩⟩
  | true=>
   rw[if_pos rfl] at hO3;simp only[sxZ,z6,z7,z8,j4,j5,j6,j7,j8,j9,x6,x7,x8,x9,y4,y5,reduceCtorEq,↓reduceIte,za,hlen,t2,t4,t5,t7];rw[<-ex];refine zah (elM_k m i x (by rw[hgx];exact hb.it hv hj zct) (by omega) (by omega) (resL m i) ?_);rw[hO3,ex];dsimp only;simp only[sxZ,z6,z7,z8,j4,j5,j6,j7,j8,j9,x6,x7,x8,x9,y4,y5,reduceCtorEq,↓reduceIte,za,hlen,t2,t4,t5,t7]
   by_cases c1:e3=0
   ·subst c1;simp only[sxZ,z6,z7,z8,j4,j5,j6,j7,j8,j9,x6,x7,x8,x9,y4,y5,reduceCtorEq,↓reduceIte,za,hlen,t2,t4,t5,t7,zab];exact⟨_,_,_,rfl,.inl rfl⟩
   ·rw[if_pos c1] at kz hk ⊢;have:=kz e3 rfl;simp only[sxZ,z6,z7,z8,j4,j5,j6,j7,j8,j9,x6,x7,x8,x9,y4,y5,reduceCtorEq,↓reduceIte,za,hlen,t2,t4,t5,t7,c1,zfG];exact this
 rintro o tm ⟨A3,z3,b3,rfl,rfl,hA3,hlen,t2,t4,t5,t7⟩;rw[if_neg (show ¬((0:Int)≠0) by decide)] at kz hk ⊢;subst hZ;refine zaa fun Z hZ=>?_;obtain⟨⟨e4,L4⟩,hO4⟩:∃R,opD v zb6 (elD (svD m i))=R:=⟨_,rfl⟩;rw[hO4] at kz hk ⊢;dsimp only at kz hk ⊢;refine zaD (fun o t=>∃A4 z4 b4,o=[OB.box 25 [.i .i64 v.kind,.s v.text,.row v.keys.length (v.keys.map .s),.row v.items.length (zac v.items)],OB.box 34 [.s [],.nil,.nil,.nil,.nil],OB.box 25 [.i .i64 v.kind,.s v.text,.row v.keys.length (v.keys.map .s),.row v.items.length (zac v.items)],OB.box 62 [.s m,.s i],OB.box 34 [.s (zcg m i),A1,A2,A3,A4],z1,b1,z2,b2,z3,b3,z4,b4]/\e4=0/\zi5 A4 L4.length (zcN L4)/\t.length=97/\t[2]? = some (.p 1 0)/\t[4]? = some (.fn 64 [] [.p 2 0])/\t[5]? = some (.p 3 0)/\t[7]? = some (.p 4 0)) ?_ ?_
 ·simp only[sxZ,z6,z7,z8,j4,j5,j6,j7,j8,j9,x6,x7,x8,x9,y4,y5,reduceCtorEq,↓reduceIte,za,hlen,t2,t4,t5,t7];refine zep zdZ (zjz v zb6 2 (by rw[ejv];rfl) hv hj fun z=>?_);unfold zbO;unfold opD at hO4;obtain⟨⟨x,ok⟩,hg⟩:∃R,za2 v zb6=R:=⟨_,rfl⟩;have hgx:x=(za2 v zb6).1:=by rw[hg]
  rw[hg] at hO4 ⊢;dsimp only at hO4 ⊢;have ex:=zaf x;rw[ex];simp only[sxZ,z6,z7,z8,j4,j5,j6,j7,j8,j9,x6,x7,x8,x9,y4,y5,reduceCtorEq,↓reduceIte,za,hlen,t2,t4,t5,t7]
  cases ok with
  | false=>
   rw[if_neg (show ¬(false=true) by decide)] at hO4;injection hO4 with h1 h2
   subst h1 h2;simp only[sxZ,z6,z7,z8,j4,j5,j6,j7,j8,j9,x6,x7,x8,x9,y4,y5,reduceCtorEq,↓reduceIte,za,hlen,t2,t4,t5,t7,zab];exact⟨_,_,_,rfl,.inr ⟨rfl,rfl,rfl⟩⟩
  | true=>
   rw[if_pos rfl] at hO4;simp only[sxZ,z6,z7,z8,j4,j5,j6,j7,j8,j9,x6,x7,x8,x9,y4,y5,reduceCtorEq,↓reduceIte,za,hlen,t2,t4,t5,t7];rw[<-ex];refine zah (elV_k m i x (by rw[hgx];exact hb.it hv hj zb6) (by omega) (by omega) (resL m i) ?_);rw[hO4,ex];dsimp only;simp only[sxZ,z6,z7,z8,j4,j5,j6,j7,j8,j9,x6,x7,x8,x9,y4,y5,reduceCtorEq,↓reduceIte,za,hlen,t2,t4,t5,t7]
   by_cases c1:e4=0
   ·subst c1;simp only[sxZ,z6,z7,z8,j4,j5,j6,j7,j8,j9,x6,x7,x8,x9,y4,y5,reduceCtorEq,↓reduceIte,za,hlen,t2,t4,t5,t7,zab];exact⟨_,_,_,rfl,.inl rfl⟩
   ·rw[if_pos c1] at kz hk ⊢;have:=kz e4 rfl;simp only[sxZ,z6,z7,z8,j4,j5,j6,j7,j8,j9,x6,x7,x8,x9,y4,y5,reduceCtorEq,↓reduceIte,za,hlen,t2,t4,t5,t7,c1,zfG];exact this
 rintro o tm ⟨A4,z4,b4,rfl,rfl,hA4,hlen,t2,t4,t5,t7⟩;rw[if_neg (show ¬((0:Int)≠0) by decide)] at kz hk ⊢;subst hZ;refine zaa fun Z hZ=>?_;have p1:=hA1.pl (zaI L1);have p2:=hA2.pl (zaI L2);have p3:=hA3.pl (zf9 L3);have p4:=hA4.pl (zfO L4);simp only[sxZ,z6,z7,z8,j4,j5,j6,j7,j8,j9,x6,x7,x8,x9,y4,y5,reduceCtorEq,↓reduceIte,za,hlen,t2,t4,t5,t7];subst hZ;simp only[sxZ,z6,z7,z8,j4,j5,j6,j7,j8,j9,x6,x7,x8,x9,y4,y5,reduceCtorEq,↓reduceIte,za,hlen,t2,t4,t5,t7,ziy p1,ziy p2,ziy p3,ziy p4,je];exact⟨fun G I y h=>den_do hA1.den hA2.den hA3.den hA4.den h,hk⟩
end
end
section
attribute [local irreducible] run
theorem jkp_z:JKp jvZ:=by rw[jvZ,JKp];exact⟨by simp,by simp,by simp,by simp,by rw[zjS];trivial⟩
theorem zhP {v:JV} (hv:JKp v) (key:List UInt8):JKp (za2 v key).1:=by
 unfold za2
 split
 ·split
  ·rename_i x hx;obtain⟨hi,rfl⟩:=zh.1 hx;exact hv.its hi
  ·exact jkp_z
 ·exact jkp_z
theorem JKp.idB {v:JV} (hv:JKp v):IdB v:=by
 refine⟨Nat.le_trans (zhP hv kId).lens.2.2.1 (by decide),fun key y hy=>?_⟩;obtain⟨i,hi,rfl⟩:=xw.1 hy;exact Nat.le_trans (zhP ((zhP hv key).its hi) kId).lens.2.2.1 (by decide)
def ShV (x:SvP):Prop:=x.typ.length<=64/\x.eps.length<=64
def ShO (d:DoP):Prop:=d.also.length<=64/\d.ctl.length<=64/\d.mts.length<=64/\d.svs.length<=64/\∀x∈d.svs,ShV x
theorem zjb (l:List JV):(txD l).2.length<=64:=by
 unfold txD
 split
 ·exact zd _
 split
 ·rw[qo];omega
 ·exact zd _
theorem ltD_len (v:JV):(ltD v).2.length<=64:=by
 unfold ltD;split
 ·exact zjb _
 ·exact zd _
theorem zhF (v:JV):(olD v).2.length<=64:=by
 unfold olD;split<;>exact zjb _
theorem zhE {α:Type} {v:JV} {key:List UInt8} {f:JV->Int×List α} (h:∀x,(f x).2.length<=64):(opD v key f).2.length<=64:=by
 unfold opD;split
 ·exact h _
 ·exact zd _
theorem zk6 {α:Type} (f:JV->Int×α):∀l:List JV,(zgw f l).2.length<=l.length
 | []=>ze _
 | y::l=>by
  have:=zk6 f l;rw[zgw]
  split
  ·exact zd _
  split
  ·exact zd _
  ·simp only[zx];omega
theorem zk5 {α:Type} (f:JV->Int×α):∀l:List JV,∀x∈(zgw f l).2,∃y∈l,x=(f y).2
 | [],x,hx=>by cases hx
 | y::l,x,hx=>by
  rw[zgw] at hx
  split at hx
  ·cases hx
  split at hx
  ·cases hx
  ·rcases zv.1 hx with rfl|hx
   ·exact⟨y,by simp,rfl⟩
   ·obtain⟨z,hz,e⟩:=zk5 f l x hx;exact⟨z,qp _ hz,e⟩
theorem zoK {α:Type} (f:JV->Int×α) (v:JV):(elD f v).2.length<=64:=by
 unfold elD
 split
 ·split
  ·exact zd _
  ·have:=zk6 f v.items;omega
 ·exact zd _
theorem svD_sh (m i:List UInt8) (y:JV):ShV (svD m i y).2:=by
 unfold svD
 repeat' split
 all_goals first
  | exact⟨zd _,zd _⟩
  | exact⟨zhF _,zd _⟩
  | exact⟨zhF _,zhF _⟩
theorem ddE_sh (v:JV):ShO (ddE v).2:=by
 have hz:ShO doZ:=⟨zd _,zd _,zd _,zd _,fun x hx=>by cases hx⟩;unfold ddE
 repeat' split
 all_goals first
  | exact hz
  | skip
 refine⟨zhE ltD_len,zhE zhF,zhE (zoK _),zhE (zoK _),fun x hx=>?_⟩;dsimp only at hx;unfold opD elD at hx
 split at hx
 ·split at hx
  ·split at hx
   ·cases hx
   ·obtain⟨y,_,rfl⟩:=zk5 _ _ x hx;exact svD_sh _ _ y
  ·cases hx
 ·cases hx
theorem ddE_err {v:JV} (h:(ddE v).1≠0):(ddE v).2=doZ:=by
 unfold ddE at h ⊢
 repeat' split
 all_goals first
  | rfl
  | skip
 exact absurd (by
  rename_i a b c d e;rw[if_neg a,if_neg b,if_neg c,if_neg d,if_neg e]) h
end
section
attribute [local irreducible] run
def zpz (m:Nat) (l:List JV) (o:List OB) (X:AV):Prop:=(l=[]/\X=.nil)\/∃r g,X=.orow r g/\m<=r/\o[r]? = some (.orow 25 4 g l.length (zac l))
def ObR (m b:Nat) (ks:List (List UInt8)) (its:List JV) (o:List OB):Prop:=∃X Y,o[b]? = some (.box 93 [X,Y])/\RowT m ks o X/\zpz m its o Y
def jtx (s:List UInt8):JV:=.mk 5 s [] []
def jar (l:List JV):JV:=.mk 6 [] [] l
theorem zpz.mono {m:Nat} {l:List JV} {o:List OB} {X:AV} (h:zpz m l o X) (z:OB):zpz m l (o++[z]) X:=by
 rcases h with h|⟨r,g,h1,h0,h2⟩
 ·exact .inl h
 ·exact .inr ⟨r,g,h1,h0,by rw[zp (zh.1 h2).1];exact h2⟩
theorem zpz.set {m:Nat} {l:List JV} {o:List OB} {X:AV} (h:zpz m l o X) {r:Nat} {Z:OB} (hz:o[r]? = some Z) (hne:∀g n cs,Z≠.orow 25 4 g n cs) (W:OB):zpz m l (o.set r W) X:=by
 rcases h with h|⟨r',g,h1,h0,h2⟩
 ·exact .inl h
 ·refine .inr ⟨r',g,h1,h0,?_⟩;rw[zf (fun e=>by rw[e,h2] at hz;injection hz with hz;exact hne _ _ _ hz.symm)];exact h2
theorem RowT.set {m:Nat} {l:List (List UInt8)} {o:List OB} {X:AV} (h:RowT m l o X) {r:Nat} {Z:OB} (hz:o[r]? = some Z) (hne:∀g n cs,Z≠.orow 9 1 g n cs) (W:OB):RowT m l (o.set r W) X:=by
 rcases h with h|⟨r',g,h1,h0,h2⟩
 ·exact .inl h
 ·refine .inr ⟨r',g,h1,h0,?_⟩;rw[zf (fun e=>by rw[e,h2] at hz;injection hz with hz;exact hne _ _ _ hz.symm)];exact h2
theorem zo8 {k:Int} {t:List UInt8} {G:Gh} {I:Imm} {y:Value} (h:Den G I (.agg [.i .i64 k,.s t,.nil,.nil]) y):Den G I (.agg (zak (.mk k t [] []))) y:=by
 rw[zak,zan];simp only[zaj,Den] at h ⊢;obtain⟨zs,rfl,⟨z0,m0,rfl,q0,z1,m1,rfl,q1,z2,m2,rfl,q2,z3,m3,rfl,q3,q4⟩,hz⟩:=h;refine⟨_,rfl,⟨_,_,rfl,q0,_,_,rfl,q1,_,_,rfl,?_,_,_,rfl,?_,q4⟩,hz⟩
 ·exact⟨none,0,[],q2,⟨ze _,fun ad h=>by cases h⟩,rfl,by simp,by simp⟩
 ·exact⟨none,0,[],q3,⟨ze _,fun ad h=>by cases h⟩,rfl,by simp,by simp⟩
theorem den_jv3 {k:Int} {t:List UInt8} {n:Nat} {cs:List AV} {its:List JV} (hn:n=its.length) (hc:cs=zac its) {G:Gh} {I:Imm} {y:Value} (h:Den G I (.agg [.i .i64 k,.s t,.nil,.row n cs]) y):Den G I (.agg (zak (.mk k t [] its))) y:=by
 subst hn hc;rw[zak];simp only[zaj,Den] at h ⊢;obtain⟨zs,rfl,⟨z0,m0,rfl,q0,z1,m1,rfl,q1,z2,m2,rfl,q2,z3,m3,rfl,q3,q4⟩,hz⟩:=h;refine⟨_,rfl,⟨_,_,rfl,q0,_,_,rfl,q1,_,_,rfl,?_,_,_,rfl,q3,q4⟩,hz⟩;exact⟨none,0,[],q2,⟨ze _,fun ad h=>by cases h⟩,rfl,by simp,by simp⟩
section
variable [Tabs Tryz.prog] {objs:List OB} {K:List OB->AV->Prop}
theorem zdF (s:List UInt8) (hk:K objs (.agg (zak (jtx s)))):zae Tryz.prog 47 [.s s] objs K:=by
 refine zgD (.agg (zak (jtx s))) ?_;refine za5 is_jsonmake_Text rfl fun C _=>?_;rw[c_jsonmake_Text];simp only[sxZ,z6,z7,z8,j4,j5,j6,j7,j8,j9,x6,x7,x8,x9,y4,y5,reduceCtorEq,↓reduceIte];exact⟨fun G I y hy=>zo8 hy,hk⟩
theorem zcT (l:List JV) (hk:K objs (.agg (zak (jar l)))):zae Tryz.prog 51 [.row l.length (zac l)] objs K:=by
 refine zgD (.agg (zak (jar l))) ?_;refine za5 is_jsonmake_Array (by simp only[zap,AV.plain,za4,Bool.and_self]) fun C _=>?_;rw[c_jsonmake_Array];simp only[sxZ,z6,z7,z8,j4,j5,j6,j7,j8,j9,x6,x7,x8,x9,y4,y5,reduceCtorEq,↓reduceIte,za4];exact⟨fun G I y hy=>den_jv3 rfl rfl hy,hk⟩
theorem zc8 (m b:Nat) (ks:List (List UInt8)) (its:List JV) (key:List UInt8) (v:JV) (hb:ObR m b ks its objs) (hm:m<=objs.length) (hbm:b<m) (h1:ks.length<=1000000) (h2:its.length<=1000000) (hk:∀o,ObR m b (ks++[key]) (its++[v]) o->objs.length<=o.length->(∀i,i<m->i≠b->o[i]? = objs[i]?)->K o (.tup [])):zae Tryz.prog 46 [.p b 0,.s key,.agg (zak v)] objs K:=by
 obtain⟨X,Y,e0,hX,hY⟩:=hb;have hl4:=zaE its;obtain⟨v0,v1,v2,v3,hv⟩:∃v0 v1 v2 v3,zak v=[v0,v1,v2,v3]:=⟨_,_,_,_,zaf v⟩;rw[hv];refine zcX is_jsonmake_Object_Add fun C _=>?_;rw[c_jsonmake_Object_Add];refine zaa fun Z hZ=>?_;simp only[sxZ,z6,z7,z8,j4,j5,j6,j7,j8,j9,x6,x7,x8,x9,y4,y5,reduceCtorEq,↓reduceIte];have f0:(objs++[OB.box 25 [v0,v1,v2,v3]])[b]? = some (.box 93 [X,Y]):=by rw[zp (by omega)];exact e0
 have fv:(objs++[OB.box 25 [v0,v1,v2,v3]])[objs.length]? = some (.box 25 [v0,v1,v2,v3]):=gn1 _ _;have hX1:=hX.mono (.box 25 [v0,v1,v2,v3]);subst hZ;refine zaa fun Z hZ=>?_;have hY1:=hY.mono (.box 25 [v0,v1,v2,v3]);have hol:(objs++[OB.box 25 [v0,v1,v2,v3]]).length=objs.length+1:=by simp
 refine zaD (fun o2 t2=>∃X',o2[b]? = some (.box 93 [X',Y])/\RowT m (ks++[key]) o2 X'/\zpz m its o2 Y/\o2[objs.length]? = some (.box 25 [v0,v1,v2,v3])/\objs.length+1<=o2.length/\(∀i,i<m->i≠b->o2[i]? = objs[i]?)/\t2.length=27/\t2[0]? = some (.p b 0)/\t2[5]? = some (.p objs.length 0)) ?_ ?_
 ·rcases hX1 with ⟨rfl,rfl⟩|⟨r,g,rfl,hr0,hr⟩
  ·have f1:∀z,(objs++[OB.box 25 [v0,v1,v2,v3]]++[z])[b]? = some (.box 93 [.nil,Y]):=fun z=>by rw[zp (by omega)];exact f0
   simp only[sxZ,z6,z7,z8,j4,j5,j6,j7,j8,j9,x6,x7,x8,x9,y4,y5,reduceCtorEq,↓reduceIte,f0,f1,zab];refine⟨_,zk (by simp;omega),.inr ⟨objs.length+1,0,rfl,by omega,?_⟩,?_,?_,by simp,fun i hi hn=>?_⟩
   ·rw[zf (by omega),gn2];rfl
   ·exact(hY1.mono _).set (f1 _) (fun _ _ _ h=>by cases h) _
   ·rw[zf (by omega),zp (by omega)];exact fv
   ·rw[zf (by omega),zp (by omega),zp (by omega)]
  ·have hrl:=(zh.1 hr).1;have hrv:r≠objs.length:=fun h=>by rw[h,fv] at hr;cases hr
   have f1:∀W,((objs++[OB.box 25 [v0,v1,v2,v3]]).set r W)[b]? = some (.box 93 [.orow r g,Y]):=fun W=>by rw[zf (by omega)];exact f0
   simp only[sxZ,z6,z7,z8,j4,j5,j6,j7,j8,j9,x6,x7,x8,x9,y4,y5,reduceCtorEq,↓reduceIte,f0,f1,hr,zab];refine⟨⟨by omega,by omega⟩,_,zk (by simp;omega),.inr ⟨r,g+1,rfl,hr0,?_⟩,?_,?_,by simp,fun i hi hn=>?_⟩
   ·rw[zf (by omega),zk hrl,zm,jj];rfl
   ·exact(hY1.set hr (fun _ _ _ h=>by cases h) _).set (f1 _) (fun _ _ _ h=>by cases h) _
   ·rw[zf (by omega),zf hrv];exact fv
   ·rw[zf (by omega),zf (by omega),zp (by omega)]
 rintro o2 tm2 ⟨X',g0,hX2,hY2,gv,hlo,hfr,hlen,t0,t5⟩;subst hZ;have hl4':=zcU v;rcases hY2 with ⟨rfl,rfl⟩|⟨r,g,rfl,hr0,hr⟩
 ·have g1:∀z,(o2++[z])[b]? = some (.box 93 [X',.nil]):=fun z=>by rw[zp (by omega)];exact g0
  simp only[sxZ,z6,z7,z8,j4,j5,j6,j7,j8,j9,x6,x7,x8,x9,y4,y5,reduceCtorEq,↓reduceIte,za,hlen,t0,t5,g0,gv,gn1,sn1,g1,Int.toNat_zero];refine⟨by omega,by omega,?_⟩;refine hk _ ⟨X',.orow o2.length 0,zk (by simp;omega),?_,.inr ⟨o2.length,0,rfl,by omega,?_⟩⟩ (by simp;omega) fun i hi hn=>?_
  ·exact(hX2.mono _).set (g1 _) (fun _ _ _ h=>by cases h) _
  ·rw[zf (by omega),gn1,<-hv];simp[zav,zan]
  ·rw[zf (by omega),zp (by omega)];exact hfr i hi hn
 ·have hrl:=(zh.1 hr).1;have hrb:r≠b:=by omega
  simp only[sxZ,z6,z7,z8,j4,j5,j6,j7,j8,j9,x6,x7,x8,x9,y4,y5,reduceCtorEq,↓reduceIte,za,hlen,t0,t5,g0,gv,hr,hrl,hrb];refine⟨⟨by omega,by omega⟩,⟨by omega,by omega⟩,by omega,?_⟩;rw[spE _ _ _ _ _ _ _ _ _ _ hl4,List.set_set];have g2:∀W,(o2.set r W)[b]? = some (.box 93 [X',.orow r g]):=fun W=>by rw[zf hrb];exact g0
  refine hk _ ⟨X',.orow r (g+1),zk (by simp;omega),?_,.inr ⟨r,g+1,rfl,hr0,?_⟩⟩ (by simp;omega) fun i hi hn=>?_
  ·exact(hX2.set hr (fun _ _ _ h=>by cases h) _).set (g2 _) (fun _ _ _ h=>by cases h) _
  ·rw[zf (by omega),zk hrl,<-hv];simp[zbT,zav,zan]
  ·rw[zf (by omega),zf (by omega)];exact hfr i hi hn
end
end
instance tabs:Tabs Tryz.prog:=⟨fun w=>w.ShapedOpen Tryz.prog,fun _ _ h hk _=>zji h hk⟩
instance tabs_shp:Shp Tryz.prog:=⟨fun _ h=>h⟩
end Go.Proofs.YtceenajkieomoaaGreatDoor
namespace Go.Proofs.YtceenajkieomoaaGreatDoor
open Int renaming cast_ofNat_Int->y8
open List renaming Perm->ja, all_cons->ji, all_eq_true->zw, append_assoc->zy, append_nil->jh, cons_append->qw, drop_eq_getElem_cons->jr, eq_nil_of_length_eq_zero->jk, flatMap_cons->x4, getElem?_append_left->zp, getElem?_eq_getElem->zo, getElem?_eq_some_iff->zh, getElem?_map->qx, getElem?_set->za, getElem?_set_ne->zf, getElem?_set_self->zk, getElem_mem->jn, length->jg, length_append->zm, length_cons->zx, length_drop->qb, length_map->qo, length_nil->qk, length_set->zi, length_take->qg, map_append->jj, map_cons->zl, map_nil->zu, mem_append->zt, mem_cons->zv, mem_cons_of_mem->qp, mem_map->qz, mem_singleton->jt, nil_append->qd, not_mem_nil->jw, sublist_cons_self->jo, take_add_one->y9, take_of_length_le->jp
open Nat renaming le_refl->ze, le_trans->qq, zero_le->zd
open Option renaming map_some->je
def ppB (c:UInt8):Bool:=c==37||idB c
theorem zmx {a b:UInt8} (r:List UInt8) (ha:a≠58) (hb:b≠58) {p:List UInt8} {ps:List (List UInt8)} (h:zaQ 58 r=p::ps):zaQ 58 (37::a::b::r)=(37::a::b::p)::ps:=by
 rw[zaU,if_neg (by decide),zaU,if_neg ha,zaU,if_neg hb,h]
theorem addN_out (c:UInt8) (out:List UInt8) (h:zb2 c zaW=true):zcD zaW out c false=(0,out++[c]):=zbe rfl h
theorem zmG {c:UInt8} (t out:List UInt8) (hc:c≠37) (h:zb2 c zaW=true):rwS (zcD zaW) 0 (c::t) out=rwS (zcD zaW) 0 t (out++[c]):=by
 rw[rwS,if_neg hc,addN_out c out h,if_pos rfl]
theorem rwN_esc (a b:UInt8) (r out:List UInt8) (he:zbz (37::a::b::r)=true):rwS (zcD zaW) 0 (37::a::b::r) out=rwS (zcD zaW) 0 r (out++(if zaF (zb7 (37::a::b::r))=true then [zb7 (37::a::b::r)] else zeF (zb7 (37::a::b::r)))):=by
 rw[rwS,if_pos rfl,if_pos he];rcases hu:zaF (zb7 (37::a::b::r)) with _|_
 ·rw[zeB hu,if_pos rfl,zbH,if_neg Bool.false_ne_true];rfl
 ·rw[zbe (by rw[hu];rfl) (zcw hu),if_pos rfl,zbH,if_pos rfl];rfl
theorem zl1 (v:UInt8):zck (if zaF v=true then [v] else zeF v)=if idB v=true then [v] else zeF v:=by
 have hf:=zdb v;rcases hu:zaF v with _|_
 ·rw[if_neg Bool.false_ne_true,hf.2.2.1 hu,if_neg Bool.false_ne_true,zlG]
 ·rw[if_pos rfl]
  by_cases h:v=126
  ·subst h;decide
  ·rw[hf.2.1 hu h,if_pos rfl,zeH h]
theorem zlU:∀(n:Nat) (l p:List UInt8) (ps:List (List UInt8)),l.length<=n->zaQ 58 l=p::ps->((dcL l).1=0↔∀q∈p::ps,(dcL q).1=0) /\
  (l.all ibB=true->(dcL l).1=0->∀out,∃y,rwS (zcD zaW) 0 l out=(0,out++y)/\zck y=zea (dcL p).2++ps.flatMap fun q=>58::zea (dcL q).2):=by
 intro n
 induction n with
 | zero=>
  intro l p ps hl hs;obtain rfl:l=[]:=jk (by omega);obtain⟨rfl,rfl⟩:p=[]/\ps=[]:=by
   have:zaQ 58 []=[[]]:=rfl;rw[this] at hs;injection hs with h1 h2;exact⟨h1.symm,h2.symm⟩
  exact⟨by simp,fun _ _ out=>⟨[],by rw[rwS,jh],rfl⟩⟩
 | succ n ih=>
  intro l p ps hl hs
  cases l with
  | nil=>
   obtain⟨rfl,rfl⟩:p=[]/\ps=[]:=by
    have:zaQ 58 []=[[]]:=rfl;rw[this] at hs;injection hs with h1 h2;exact⟨h1.symm,h2.symm⟩
   exact⟨by simp,fun _ _ out=>⟨[],by rw[rwS,jh],rfl⟩⟩
  | cons c t=>
   simp only[zx] at hl
   by_cases hc:c=37
   ·subst hc;rcases he:zbz (37::t) with _|_
    ·obtain⟨p',ps',e'⟩:=zbd 58 t;rw[zaU,if_neg (by decide),e'] at hs;injection hs with h1 h2
     have hb:=zgn he;have hp:zbz p=false:=by
      rw[<-h1];rcases hq:zbz (37::p') with _|_
      ·rfl
      ·obtain⟨a,b,r,rfl⟩:=zbC hq;have hx:(zaP a&&zaP b)=true:=hq;have ht:t=a::b::t.drop 2:=by
        have h3:zaQ 58 t=(a::b::r)::ps':=e';rw[zcO] at h3;rcases zb0 58 t with ⟨_,h4,_⟩|⟨k,_,hk,h4,_⟩
        ·rw[h4] at h3;simp only[Bool.false_eq_true,if_false,List.cons.injEq] at h3;rw[h3.1];rfl
        ·rw[h4] at h3;simp only[if_true,List.cons.injEq] at h3;have h5:=h3.1
         match t,k,h5 with
         | [],k,h5=>simp at h5
         | [x],0,h5=>simp at h5
         | [x],k+1,h5=>simp at h5
         | x::y::t,0,h5=>simp at h5
         | x::y::t,1,h5=>simp at h5
         | x::y::t,k+2,h5=>simp at h5;rw[h5.1,h5.2.1];rfl
       rw[ht] at he;have:zbz (37::a::b::t.drop 2)=(zaP a&&zaP b):=rfl;rw[this,hx] at he;cases he
     have hpb:(dcL p).1=2:=by rw[<-h1] at hp ⊢;exact zgn hp
     exact⟨⟨(fun h=>by rw[hb] at h;cases h),(fun h=>by have:=h p (by simp);rw[hpb] at this;cases this)⟩,(fun _ h=>by rw[hb] at h;cases h)⟩
    ·obtain⟨a,b,r,rfl⟩:=zbC he;have hx:zaP a=true/\zaP b=true:=by
      have:(zaP a&&zaP b)=true:=he;simpa using this
     have ha:=((zdb a).2.2.2.2 hx.1).1;have hb:=((zdb b).2.2.2.2 hx.2).1;obtain⟨p',ps',e'⟩:=zbd 58 r;rw[zmx r ha hb e'] at hs;injection hs with h1 h2
     subst h1 h2;have hep:zbz (37::a::b::p')=true:=he;have hv:zb7 (37::a::b::p')=zb7 (37::a::b::r):=rfl;obtain⟨i1,i2⟩:=ih r p' ps' (by simp at hl;omega) e';have d1:=ze0 he;have d2:=ze0 hep;refine⟨?_,fun hall h0 out=>?_⟩
     ·rw[d1.1,i1];simp only[zv,forall_eq_or_imp,d2.1]
     ·rw[d1.1] at h0;have hall':r.all ibB=true:=by
       simp only[ji,Bool.and_eq_true] at hall;exact hall.2.2.2
      obtain⟨y,y1,y2⟩:=i2 hall' h0 (out++(if zaF (zb7 (37::a::b::r))=true then [zb7 (37::a::b::r)] else zeF (zb7 (37::a::b::r))));have hp0:=(i1.1 h0) p' (by simp);refine⟨(if zaF (zb7 (37::a::b::r))=true then [zb7 (37::a::b::r)] else zeF (zb7 (37::a::b::r)))++y,?_,?_⟩
      ·rw[rwN_esc a b r out he,y1,zy]
      ·rw[zc3,zl1,y2,d2.2 hp0,hv,zco,zy]
   ·by_cases h58:c=58
    ·subst h58;obtain⟨p',ps',e'⟩:=zbd 58 t;rw[zaU,if_pos rfl,e'] at hs;injection hs with h1 h2
     subst h1 h2;obtain⟨i1,i2⟩:=ih t p' ps' (by omega) e';have d1:=zd5 (c:=58) (t:=t) (by decide);refine⟨?_,fun hall h0 out=>?_⟩
     ·rw[d1.1,i1];simp only[zv,forall_eq_or_imp];exact⟨fun h=>⟨rfl,h⟩,fun h=>h.2⟩
     ·rw[d1.1] at h0;have hall':t.all ibB=true:=by
       simp only[ji,Bool.and_eq_true] at hall;exact hall.2
      obtain⟨y,y1,y2⟩:=i2 hall' h0 (out++[58]);refine⟨58::y,?_,?_⟩
      ·rw[zmG t out (by decide) (by decide),y1,zy];rfl
      ·show zck ([58]++y)=_;rw[zc3,zeH (by decide),y2];simp[zea,dcL,rwS]
    ·obtain⟨p',ps',e'⟩:=zbd 58 t;rw[zaU,if_neg h58,e'] at hs;injection hs with h1 h2
     subst h1 h2;obtain⟨i1,i2⟩:=ih t p' ps' (by omega) e';have d1:=zd5 (c:=c) (t:=t) hc;have d2:=zd5 (c:=c) (t:=p') hc;refine⟨?_,fun hall h0 out=>?_⟩
     ·rw[d1.1,i1];simp only[zv,forall_eq_or_imp,d2.1]
     ·rw[d1.1] at h0;simp only[ji,Bool.and_eq_true] at hall;have hid:idB c=true:=by
       have:=hall.1;unfold ibB at this;simp only[Bool.or_eq_true,beq_iff_eq] at this;rcases this with (h|h)|h
       ·exact absurd h hc
       ·exact h
       ·exact absurd h h58
      have hf:=(zdb c).1 hid;obtain⟨y,y1,y2⟩:=i2 hall.2 h0 (out++[c]);have hp0:=(i1.1 h0) p' (by simp);refine⟨c::y,?_,?_⟩
      ·rw[zmG t out hc hf.1,y1,zy];rfl
      ·show zck ([c]++y)=_;rw[zc3,zeH hf.2.1,y2,d2.2 hp0,zco,if_pos hid,zy]
theorem zeA:∀l:List UInt8,l.all ibB=(zaQ 58 l).all fun q=>q.all ppB
 | []=>rfl
 | c::t=>by
  have ih:=zeA t;obtain⟨p',ps',e'⟩:=zbd 58 t;rw[zaU]
  by_cases h:c=58
  ·subst h;rw[if_pos rfl,ji,ih,ji];rfl
  ·rw[if_neg h,e',ji,ih,e',ji,ji,ji,<-Bool.and_assoc]
   congr 2
   unfold ibB ppB;have:(c==58)=false:=by simpa using h
   rw[this,Bool.or_false]
theorem ziF:∀l:List UInt8,(zaQ 58 l).getLastD []=[]↔(l=[]\/l.getLast? = some 58)
 | []=>by simp[zaQ]
 | [c]=>by
  by_cases h:c=58
  ·subst h;simp[zaQ]
  ·rw[zaU,if_neg h];simp[zaQ,h]
 | c::d::t=>by
  have ih:=ziF (d::t);obtain⟨p',ps',e'⟩:=zbd 58 (d::t);rw[zaU];simp only[reduceCtorEq,false_or,List.getLast?_cons_cons] at ih ⊢;rw[<-ih]
  by_cases h:c=58
  ·subst h;rw[if_pos rfl,e'];simp
  ·rw[if_neg h,e']
   cases ps' with
   | nil=>
    simp only[List.getLastD_cons,List.getLastD_nil];rw[e'] at ih;simp only[List.getLastD_cons,List.getLastD_nil] at ih
    constructor
    ·intro h2;cases h2
    ·intro h2;subst h2;exfalso;have hsp:=zcO 58 (d::t);rw[e'] at hsp
     split at hsp
     ·rename_i h3;injection hsp with _ h4
      have:=zlJ 58 (zay 58 (d::t)).2.1;rw[<-h4] at this;simp at this
     ·injection hsp with h4 _;cases h4
   | cons q qs=>simp
theorem zge (l p:List UInt8) (ps:List (List UInt8)) (hl:l.length<=16384) (hs:zaQ 58 l=p::ps) :
  idE l=if ¬(∀q∈p::ps,(zd4 q).1=0) then (2,[]) else if (p::ps).all (fun q=>q.all ppB)=false then (1,[]) else if (p::ps).getLastD []=[] then (3,[]) else (0,zbg p++jnc ps):=by
 obtain⟨m1,m2⟩:=zlU l.length l p ps (ze _) hs;have hq:∀q∈p::ps,zd4 q=dcL q:=fun q hq=>zew (by
  rw[<-hs] at hq;have:=zft 58 l q hq;omega)
 have e1:(∀q∈p::ps,(zd4 q).1=0)↔(dcL l).1=0:=by
  rw[m1];exact forall_congr' fun q=>forall_congr' fun h=>by rw[hq q h]
 unfold idE;rw[zew hl,<-hs,zeA,hs];have e2:=ziF l;rw[hs] at e2
 by_cases h0:(dcL l).1=0
 ·rw[if_neg (show ¬(dcL l).1≠0 from fun h=>h h0),if_neg (show ¬¬(∀q∈p::ps,(zd4 q).1=0) from fun h=>h (e1.2 h0))]
  by_cases h1:((p::ps).all fun q=>q.all ppB)=false
  ·rw[if_pos h1,if_pos h1]
  ·rw[if_neg h1,if_neg h1]
   by_cases h2:(p::ps).getLastD []=[]
   ·rw[if_pos h2,if_pos (e2.1 h2)]
   ·rw[if_neg h2,if_neg (fun h=>h2 (e2.2 h))];obtain⟨y,y1,y2⟩:=m2 (by rw[zeA,hs];simpa using h1) h0 [];have hn:zax l zaW=(0,y):=by
     unfold zax zhM;rw[if_neg (by omega),y1];rfl
    rw[hn,if_neg (by simp)];simp only;rw[y2];have e3:zbg p=zea (dcL p).2:=by unfold zbg;rw[hq p (by simp)]
    have e4:jnc ps=ps.flatMap fun q=>58::zea (dcL q).2:=by
     unfold jnc;have:∀qs:List (List UInt8),(∀q∈qs,zd4 q=dcL q)->qs.flatMap (fun q=>58::zbg q)=qs.flatMap fun q=>58::zea (dcL q).2:=by
      intro qs
      induction qs with
      | nil=>intro _;rfl
      | cons q qs ih=>
       intro h;rw[x4,x4,ih (fun q' h'=>h q' (by simp[h']))];unfold zbg;rw[h q (by simp)]
     exact this ps (fun q h=>hq q (by simp[h]))
    rw[e3,e4]
 ·have h2:(dcL l).1=2:=(dcL_err l.length l (ze _)).resolve_left h0;rw[if_pos h0,if_pos (by rw[e1];exact h0),h2]
theorem zlo:∀d:List UInt8,dcL (zea d)=(0,d)
 | []=>rfl
 | c::d=>by
  have ih:=zlo d;rw[zco]
  by_cases h:idB c=true
  ·rw[if_pos h];have h37:=((zdb c).1 h).2.2.2;have d1:=zd5 (c:=c) (t:=zea d) h37;show dcL (c::zea d)=_;rw[ih] at d1;have e2:=d1.2 rfl;have:dcL (c::zea d)=((dcL (c::zea d)).1,(dcL (c::zea d)).2):=rfl;rw[this,d1.1,e2]
  ·rw[if_neg h];have he:=zoI c (zea d);have d1:=ze0 (a:=zeX (c.toNat / 16)) (b:=zeX (c.toNat % 16)) (r:=zea d) he.1;have e:zeF c++zea d=37::zeX (c.toNat / 16)::zeX (c.toNat % 16)::zea d:=rfl;rw[e];rw[ih] at d1;have e2:=d1.2 rfl;have hv:zb7 (37::zeX (c.toNat / 16)::zeX (c.toNat % 16)::zea d)=c:=he.2;rw[hv] at e2;have:dcL (37::zeX (c.toNat / 16)::zeX (c.toNat % 16)::zea d)=((dcL (37::zeX (c.toNat / 16)::zeX (c.toNat % 16)::zea d)).1,(dcL (37::zeX (c.toNat / 16)::zeX (c.toNat % 16)::zea d)).2):=rfl;rw[this,d1.1,e2]
theorem zoG:∀n:Fin 256,(zeF (UInt8.ofNat n.val)).all (fun c=>ppB c&&c != 58)=true:=by decide +kernel
theorem zjI:∀d:List UInt8,(zea d).all (fun c=>ppB c&&c != 58)=true
 | []=>rfl
 | c::d=>by
  rw[zco,List.all_append,zjI d,Bool.and_true]
  by_cases h:idB c=true
  ·rw[if_pos h];have hf:=(zdb c).1 h;simp[ppB,h,hf.2.2.1]
  ·rw[if_neg h];have:=zoG ⟨c.toNat,UInt8.toNat_lt c⟩;simpa using this
theorem ziP (d:List UInt8):(58:UInt8)∉zea d:=by
 intro hm;have:=zw.1 (zjI d) 58 hm;simp at this
theorem escL_ppB (d:List UInt8):(zea d).all ppB=true:=by
 rw[zw];intro x hx;have:=zw.1 (zjI d) x hx;simp only[Bool.and_eq_true] at this;exact this.1
theorem escL_nil (d:List UInt8):zea d=[]↔d=[]:=by
 cases d with
 | nil=>exact⟨fun _=>rfl,fun _=>rfl⟩
 | cons c d=>
  rw[zco]
  constructor
  ·intro h;exfalso;have:=congrArg jg h;rw[zm] at this
   split at this<;>simp[zeF] at this
  ·intro h;cases h
def js (ps:List (List UInt8)):List UInt8:=ps.flatMap fun q=>58::q
theorem zjZ:∀(s:List UInt8) (l:List (List UInt8)),58∉s->(∀x∈l,(58:UInt8)∉x)->zaQ 58 (s++js l)=s::l
 | s,[],hs,_=>by
  show zaQ 58 (s++[])=_;rw[jh,zcO,zdv 58 s hs];simp
 | s,x::l,hs,h=>by
  have:s++js (x::l)=s++58::(x++js l):=by simp[js]
  rw[this,zcO,zch 58 s _ hs,if_pos rfl,zjZ x l (h x (by simp)) (fun y hy=>h y (by simp[hy]))]
theorem zkS (ps:List (List UInt8)):jnc ps=js (ps.map zbg):=by
 unfold jnc js;rw[List.flatMap_map]
theorem zdY {q:List UInt8} (h1:(zbg q).length<=16384):(zd4 (zbg q)).1=0/\zbg (zbg q)=zbg q:=by
 have e:zd4 (zbg q)=(0,(zd4 q).2):=by
  unfold zbg at h1 ⊢;rw[zew h1,zlo]
 refine⟨by rw[e],?_⟩;show zea (zd4 (zbg q)).2=zbg q;rw[e];rfl
theorem zg1:∀(ps:List (List UInt8)) (q:List UInt8),q∈ps->q.length<=(js ps).length
 | [],q,h=>by cases h
 | p::ps,q,h=>by
  have:js (p::ps)=58::(p++js ps):=by simp[js]
  rw[this,zx,zm];rcases zv.1 h with rfl|h
  ·omega
  ·have:=zg1 ps q h;omega
theorem zfc (f:List UInt8->List UInt8):∀(p:List UInt8) (ps:List (List UInt8)),((p::ps).map f).getLastD []=f ((p::ps).getLastD [])
 | p,[]=>by simp
 | p,q::ps=>by
  have:=zfc f q ps;simpa using this
theorem zgf {l i:List UInt8} (hl:l.length<=16384) (hi:i.length<=16384) (h:idE l=(0,i)):idE i=(0,i)/\i.all ibB=true:=by
 obtain⟨p,ps,hs⟩:=zbd 58 l;have hp:=zge l p ps hl hs;rw[h] at hp
 split at hp
 ·cases hp
 ·rename_i g1
  split at hp
  ·cases hp
  ·rename_i g2
   split at hp
   ·cases hp
   ·rename_i g3;injection hp with _ hp
    simp only[Decidable.not_not] at g1;have hsi:zaQ 58 i=zbg p::ps.map zbg:=by
     rw[hp,zkS];exact zjZ _ _ (ziP _) (fun x hx=>by
      obtain⟨q,_,rfl⟩:=qz.1 hx;exact ziP _)
    have hlen:∀q∈p::ps,(zbg q).length<=16384:=by
     intro q hq;have hi2:=hi;rw[hp,zkS,zm] at hi2;rcases zv.1 hq with rfl|hq
     ·omega
     ·have:=zg1 (ps.map zbg) (zbg q) (List.mem_map_of_mem hq);omega
    have hq:=zge i (zbg p) (ps.map zbg) hi hsi;have c1:∀q∈zbg p::ps.map zbg,(zd4 q).1=0:=by
     intro q hq;have:q∈(p::ps).map zbg:=hq;obtain⟨q',h1,rfl⟩:=qz.1 this;exact(zdY (hlen q' h1)).1
    have c2:(zbg p::ps.map zbg).all (fun q=>q.all ppB)=true:=by
     rw[zw];intro q hq;have:q∈(p::ps).map zbg:=hq;obtain⟨q',h1,rfl⟩:=qz.1 this;exact escL_ppB _
    have c3:¬(zbg p::ps.map zbg).getLastD []=[]:=by
     have e:=zfc zbg p ps;show ¬((p::ps).map zbg).getLastD []=[];rw[e];intro e2;unfold zbg at e2;rw[escL_nil] at e2
     apply g3
     have hm:(p::ps).getLastD []∈p::ps:=by
      rw[List.getLastD_eq_getLast?,List.getLast?_eq_some_getLast (by simp)];exact List.getLast_mem _
     generalize (p::ps).getLastD []=q at *;have hql:q.length<=l.length:=zft 58 l q (by rw[hs];exact hm);have h0:=g1 q hm
     cases q with
     | nil=>rfl
     | cons c t=>
      exfalso;rw[zew (by omega)] at h0 e2
      by_cases hc:c=37
      ·subst hc;rcases he:zbz (37::t) with _|_
       ·rw[zgn he] at h0;cases h0
       ·obtain⟨a,b,r,rfl⟩:=zbC he;have d1:=ze0 he;rw[d1.1] at h0;rw[d1.2 h0] at e2;cases e2
      ·have d1:=zd5 (c:=c) (t:=t) hc;rw[d1.1] at h0;rw[d1.2 h0] at e2;cases e2
    rw[if_neg (fun h=>h c1),if_neg (by rw[c2];simp),if_neg c3] at hq;refine⟨?_,?_⟩
    ·rw[hq,(zdY (hlen p (by simp))).2,hp]
     congr 2
     rw[zkS,zkS,List.map_map]
     congr 1
     refine List.map_congr_left fun q hq=>?_;exact(zdY (hlen q (by simp[hq]))).2
    ·rw[zeA,hsi];exact c2
structure CanD (u:DidU):Prop where
 meth:zcH u.meth=true
 id:idE u.id=(0,u.id)
 idb:u.id.all ibB=true
 path:zax u.path zaC=(0,u.path)
 slash:u.path=[]\/∃r,u.path=47::r
 query:zax u.query zas=(0,u.query)
 frag:zax u.frag zas=(0,u.frag)
 noq:u.hq=false->u.query=[]
 nof:u.hf=false->u.frag=[]
 len:(zcI u).length<=4096
theorem me256:∀n:Fin 256,(meB (UInt8.ofNat n.val)=true->zbL (UInt8.ofNat n.val) [58,47,63,35]=false)/\(ibB (UInt8.ofNat n.val)=true->zbL (UInt8.ofNat n.val) [47,63,35]=false)/\(okB zaC (UInt8.ofNat n.val)=true->zbL (UInt8.ofNat n.val) [63,35]=false)/\(okB zas (UInt8.ofNat n.val)=true->UInt8.ofNat n.val≠35):=by decide +kernel
theorem zeo (c:UInt8):(meB c=true->zbL c [58,47,63,35]=false)/\(ibB c=true->zbL c [47,63,35]=false)/\(okB zaC c=true->zbL c [63,35]=false)/\(okB zas c=true->c≠35):=by
 have:=me256 ⟨c.toNat,UInt8.toNat_lt c⟩;simpa using this
theorem zgV {l cs:List UInt8} {c:UInt8} (h:∀x∈l,zbL x cs=false) (hc:zbL c cs=true):c∉l:=fun hm=>by
 have:=h c hm;rw[hc] at this;cases this
theorem fmtD_no {m i:List UInt8} (hm:zcH m=true) (hi:i.all ibB=true):∀x∈zcg m i,zbL x [47,63,35]=false:=by
 intro x hx;unfold zcg at hx;simp only[zt,zv,jw,or_false] at hx;rcases hx with ((hx|hx)|hx)|hx
 ·have:∀x∈zbs,zbL x [47,63,35]=false:=by decide
  exact this x hx
 ·unfold zcH at hm;simp only[Bool.and_eq_true] at hm;have:=(zeo x).1 (zw.1 hm.1 x hx);unfold zbL at this ⊢;simp only[List.contains_cons,List.contains_nil,Bool.or_false,Bool.or_eq_false_iff] at this ⊢;exact this.2
 ·subst hx;decide
 ·exact(zeo x).2.1 (zw.1 hi x hx)
theorem zo5 {m i:List UInt8} (hm:zcH m=true) (hi:idE i=(0,i)) (hl:(zcg m i).length<=4096):zdf (zcg m i)=(0,m,i):=by
 have h58:(58:UInt8)∉m:=by
  unfold zcH at hm;simp only[Bool.and_eq_true] at hm;exact zgV (fun x hx=>(zeo x).1 (zw.1 hm.1 x hx)) (by decide)
 have hp:Lib.hasPrefix (zcg m i) zbs=true:=by
  unfold zcg;rw[zy,zy];exact List.isPrefixOf_iff_prefix.2 (List.prefix_append _ _)
 have hd:(zcg m i).drop 4=m++58::i:=by simp[zcg,zbs]
 unfold zdf;rw[if_neg (by omega),if_neg (by rw[hp];simp),hd,zch 58 m i h58];simp only;rw[hm,hi];simp
theorem CanD.back {u:DidU} (h:CanD u):zdQ (zcI u)=(0,u):=by
 obtain⟨m,i,pa,qu,fr,hq,hf⟩:=u;have hl:=h.len;have hno:=fmtD_no h.meth h.idb;have npa:∀x∈pa,zbL x [63,35]=false:=fun x hx=>(zeo x).2.2.1 (zw.1 (zdS h.path) x hx);have nqu:(35:UInt8)∉qu:=fun hx=>(zeo 35).2.2.2 (zw.1 (zdS h.query) 35 hx) rfl;have hs:=h.slash;have hqn:=h.noq;have hfn:=h.nof;simp only at hno hs hqn hfn hl;have f35:(35:UInt8)∉zcg m i:=zgV hno (by decide);have f63:(63:UInt8)∉zcg m i:=zgV hno (by decide);have f47:(47:UInt8)∉zcg m i:=zgV hno (by decide);have p35:(35:UInt8)∉pa:=zgV npa (by decide);have p63:(63:UInt8)∉pa:=zgV npa (by decide);have q35:(35:UInt8)∉(if hq=true then [63]++qu else []):=by
  split
  ·simp[nqu]
  ·simp
 have e35:zay 35 (zcI ⟨m,i,pa,qu,fr,hq,hf⟩)=(zcg m i++pa++(if hq=true then [63]++qu else []),fr,hf):=by
  unfold zcI
  cases hf
  ·have:=hfn rfl;subst this;simp only[Bool.false_eq_true,if_false,jh];exact zdv 35 _ (by simp only[zt,not_or];exact⟨⟨f35,p35⟩,q35⟩)
  ·simp only[if_true];have:zcg m i++pa++(if hq=true then [63]++qu else [])++([35]++fr)=(zcg m i++pa++(if hq=true then [63]++qu else []))++35::fr:=by simp
   rw[this];exact zch 35 _ fr (by simp only[zt,not_or];exact⟨⟨f35,p35⟩,q35⟩)
 have e63:zay 63 (zcg m i++pa++(if hq=true then [63]++qu else []))=(zcg m i++pa,qu,hq):=by
  cases hq
  ·have:=hqn rfl;subst this;simp only[Bool.false_eq_true,if_false,jh];exact zdv 63 _ (by simp only[zt,not_or];exact⟨f63,p63⟩)
  ·simp only[if_true];have:zcg m i++pa++([63]++qu)=(zcg m i++pa)++63::qu:=by simp
   rw[this];exact zch 63 _ qu (by simp only[zt,not_or];exact⟨f63,p63⟩)
 have eb:zbt (zcI ⟨m,i,pa,qu,fr,hq,hf⟩)=zcg m i++pa:=by
  unfold zbt;rw[e35];simp only;rw[e63]
 have en:zcu (zcI ⟨m,i,pa,qu,fr,hq,hf⟩)=zcg m i:=by
  unfold zcu zfe;rw[eb];rcases hs with rfl|⟨r,rfl⟩
  ·rw[jh,zdv 47 _ f47]
  ·rw[zch 47 _ r f47]
 have hdl:(zcg m i).length<=4096:=by
  unfold zcI at hl;simp only[zm] at hl;omega
 unfold zdQ;rw[if_neg (by omega),en,zo5 h.meth h.id hdl,eb,e35];simp only;rw[e63];simp only;have ed:(zcg m i++pa).drop (zcg m i).length=pa:=by simp
 rw[ed,h.path,h.query,h.frag];simp
theorem zo4 {s m i:List UInt8} (h:zdf s=(0,m,i)):zcH m=true/\∃l,s=zcg m l/\idE l=(0,i)/\s.length<=4096:=by
 unfold zdf at h
 split at h
 ·cases h
 ·rename_i g0
  split at h
  ·cases h
  ·rename_i g1
   split at h
   ·cases h
   ·rename_i g2
    split at h
    ·cases h
    ·rename_i g3
     split at h
     ·rename_i g4;injection h with h1 _;exact absurd h1 g4
     ·rename_i g4;simp only[Decidable.not_not] at g4;injection h with _ h
      injection h with h1 h2
      subst h1 h2;simp only[Bool.not_eq_false] at g1 g2 g3;refine⟨g3,(zay 58 (s.drop 4)).2.1,?_,by rw[<-g4],by omega⟩;obtain⟨t,ht⟩:=List.isPrefixOf_iff_prefix.1 (show List.isPrefixOf zbs s=true from g1);have hj:=zdg 58 (s.drop 4);rw[g2,if_pos rfl] at hj;unfold zcg;have hd:s.drop 4=t:=by rw[<-ht];simp[zbs]
      rw[zy,zy,<-zy _ [58],zy _ [58],<-hj,hd,ht]
theorem idE_le {l i:List UInt8} (h:idE l=(0,i)):i.length<=3*l.length:=by
 unfold idE at h
 split at h
 ·rename_i g;injection h with h1 _;exact absurd h1 g
 ·split at h
  ·cases h
  ·split at h
   ·cases h
   ·split at h
    ·rename_i g;injection h with h1 _;exact absurd h1 g
    ·injection h with _ h
     have h1:=zeS l zaW;have h2:=zgF (zax l zaW).2;rw[<-h];omega
theorem CanD.of {s:List UInt8} {u:DidU} (hs:s.length<=1000) (h:zdQ s=(0,u)):CanD u:=by
 unfold zdQ at h
 split at h
 ·cases h
 ·split at h
  ·rename_i g;injection h with h1 _;exact absurd h1 g
  ·rename_i g1
   split at h
   ·rename_i g;injection h with h1 _;exact absurd h1 g
   ·rename_i g2
    split at h
    ·rename_i g;injection h with h1 _;exact absurd h1 g
    ·rename_i g3
     split at h
     ·rename_i g;injection h with h1 _;exact absurd h1 g
     ·rename_i g4;simp only[Decidable.not_not] at g1 g2 g3 g4;injection h with _ h
      have hd:zdf (zcu s)=(0,(zdf (zcu s)).2.1,(zdf (zcu s)).2.2):=by rw[<-g1]
      obtain⟨k1,l,k2,k3,k4⟩:=zo4 hd;have e2:zax ((zbt s).drop (zcu s).length) zaC=(0,(zax ((zbt s).drop (zcu s).length) zaC).2):=by rw[<-g2]
      have e3:zax (zay 63 (zay 35 s).1).2.1 zas=(0,(zax (zay 63 (zay 35 s).1).2.1 zas).2):=by rw[<-g3]
      have e4:zax (zay 35 s).2.1 zas=(0,(zax (zay 35 s).2.1 zas).2):=by rw[<-g4]
      have j1:=congrArg jg (zdg 35 s);have j2:=congrArg jg (zdg 63 (zay 35 s).1);have c1:=zex 35 s;have c2:=zex 63 (zay 35 s).1;have hnb:=(zg4 (zbt s)).2;have hnl:(zcu s).length<=(zbt s).length:=hnb;have hbl:(zbt s).length<=(zay 35 s).1.length:=zh1 63 _;have h35l:=zh1 35 s;have kl:(zcu s).length=(zdf (zcu s)).2.1.length+l.length+5:=by
       have hk2:=congrArg jg k2;simp only[zcg,zbs,zm,zx,qk] at hk2;omega
      have il:=idE_le k3;have pl:=(za8 _ _ _ e2).2.2;have ql:=(za8 _ _ _ e3).2.2;have fl:=(za8 _ _ _ e4).2.2;rw[qb] at pl;have ia:=zgf (l:=l) (by omega) (by omega) k3;have q0:(zay 63 (zay 35 s).1).2.1.length<=(zay 35 s).1.length:=(zb3 63 _).2;have f0:(zay 35 s).2.1.length<=s.length:=(zb3 35 _).2;have qs:(zbt s).length+(zay 63 (zay 35 s).1).2.1.length<=(zay 35 s).1.length:=by
       show (zay 63 (zay 35 s).1).1.length+_<=_;rcases hb:(zay 63 (zay 35 s).1).2.2 with _|_
       ·rw[(c2.2.2 hb).1,(c2.2.2 hb).2];simp
       ·have:=c2.2.1 hb;omega
      have fs:(zay 35 s).1.length+(zay 35 s).2.1.length<=s.length:=by
       rcases hb:(zay 35 s).2.2 with _|_
       ·rw[(c1.2.2 hb).1,(c1.2.2 hb).2];simp
       ·have:=c1.2.1 hb;omega
      have hslash:(zax ((zbt s).drop (zcu s).length) zaC).2=[]\/∃r,(zax ((zbt s).drop (zcu s).length) zaC).2=47::r:=by
       have hx:(zbt s).drop (zcu s).length=[]\/∃r,(zbt s).drop (zcu s).length=47::r:=by
        unfold zcu zfe;rcases zb0 47 (zbt s) with ⟨_,h3,_⟩|⟨k,_,hk,h3,h4⟩
        ·rw[h3];left;simp
        ·rw[h3];right;have e:((zbt s).take k).length=k:=by rw[qg];omega
         simp only[e];rw[jr hk];rw[zo hk] at h4;injection h4 with h4
         exact⟨_,by rw[h4]⟩
       rcases hx with hx|⟨r,hx⟩
       ·left;rw[hx];decide
       ·right;rw[hx] at e2 ⊢;have hlen:=zen e2;have hr:rwS (zcD zaC) 0 (47::r) []=(0,(zax (47::r) zaC).2):=by
         have e5:=e2;unfold zax zhM at e5;rw[if_neg (by omega)] at e5;rw[e5];unfold zax zhM;rw[if_neg (by omega)]
        have hp1:rwS (zcD zaC) 0 (47::r) []=rwS (zcD zaC) 0 r [47]:=by
         rw[rwS,if_neg (by decide),zbe rfl (by decide),if_pos rfl];rfl
        rw[hp1] at hr;obtain⟨y,a,k5,_⟩:=zf6 zaC r.length r [47] _ (ze _) hr;exact⟨y,k5⟩
      rw[<-h];refine⟨k1,ia.1,ia.2,(za8 _ _ _ e2).1,hslash,(za8 _ _ _ e3).1,(za8 _ _ _ e4).1,?_,?_,?_⟩
      ·intro hq;show (zax (zay 63 (zay 35 s).1).2.1 zas).2=[];rw[(c2.2.2 hq).2];rfl
      ·intro hf;show (zax (zay 35 s).2.1 zas).2=[];rw[(c1.2.2 hf).2];rfl
      ·unfold zcI;simp only[zm];have z1:((if (zay 63 (zay 35 s).1).2.2=true then [63]++(zax (zay 63 (zay 35 s).1).2.1 zas).2 else []):List UInt8).length<=(zax (zay 63 (zay 35 s).1).2.1 zas).2.length+1:=by
        split<;>simp
       have z2:((if (zay 35 s).2.2=true then [35]++(zax (zay 35 s).2.1 zas).2 else []):List UInt8).length<=(zax (zay 35 s).2.1 zas).2.length+1:=by
        split<;>simp
       have z3:(zcg (zdf (zcu s)).2.1 (zdf (zcu s)).2.2).length=(zdf (zcu s)).2.1.length+(zdf (zcu s)).2.2.length+5:=by simp[zcg,zbs];omega
       omega
section
open Go.RowKit Sx
section
variable {objs:List OB} {K:List OB->AV->Prop}
end
theorem CanD.lens {u:DidU} (h:CanD u):u.meth.length<=4096/\u.id.length<=4096/\u.path.length<=4096/\u.query.length<=16384/\u.frag.length<=16384:=by
 have hl:=h.len;have h1:=zen h.query;have h2:=zen h.frag;have h3:=zcy u.meth u.id;unfold zcI at hl;simp only[zm] at hl;omega
end
open Go.RowKit Sx
def jn2:List (List UInt8)->List UInt8
 | []=>[]
 | p::ps=>zbg p++jnc ps
theorem idE_list (d:List UInt8) (hl:d.length<=16384):idE d=if ¬(∀q∈zaQ 58 d,(zd4 q).1=0) then (2,[]) else if (zaQ 58 d).all (fun q=>q.all ppB)=false then (1,[]) else if (zaQ 58 d).getLastD []=[] then (3,[]) else (0,jn2 (zaQ 58 d)):=by
 obtain⟨p,ps,h⟩:=zbd 58 d;rw[zge d p ps hl h,h];rfl
theorem pp_iff (c:UInt8):ppB c=(c==37||idB c):=rfl
section
variable [Tabs Tryz.prog] {objs:List OB} {K:List OB->AV->Prop}
end
section
variable [Tabs Tryz.prog] {objs:List OB} {K:List OB->AV->Prop}
end
section
attribute [local irreducible] run
def rqB (m i:List UInt8) (e:Int):OB:=.box 76 [.s m,.s i,.i .i64 e]
section
variable [Tabs Tryz.prog] {objs:List OB} {K:List OB->AV->Prop}
end
end
section
attribute [local irreducible] run
def t5 (l:List JV):Int:=if l.all (fun y=>decide (y.kind=5))=true then 0 else 160
section
variable [Tabs Tryz.prog] {objs:List OB} {K:List OB->AV->Prop}
end
end
section
attribute [local irreducible] run
theorem Ext.keep {o o':List OB} {b:Nat} {X:OB} (h:Ext o o' b X) {j:Nat} {Y:OB} (hi:o[j]? = some Y) (hn:j≠b) (hp:PlO Y):o'[j]? = some Y:=h.2.2 j Y hn hi (hp.m _)
theorem zbb {o:List OB} {j:Nat} {Y:OB} (h:o[j]? = some Y) (z:OB):(o++[z])[j]? = some Y:=by rw[zp (zh.1 h).1];exact h
theorem set_keep {o:List OB} {j r:Nat} {Y:OB} (h:o[j]? = some Y) (hn:r≠j) (z:OB):(o.set r z)[j]? = some Y:=by rw[zf hn];exact h
section
variable [Tabs Tryz.prog] {objs:List OB} {K:List OB->AV->Prop}
end
end
open Nat renaming reduceAdd -> z6, reduceSub -> z7, reduceLeDiff -> z8, reduceLT -> j4, reduceMul -> j5, reduceEqDiff -> j6
open Int renaming reduceToNat -> j7, reduceAdd -> j8, reduceSub -> j9, reduceMul -> x6, reduceNeg -> x7, reduceLT -> x8, reduceLE -> x9, reduceEq -> y4, reduceNe -> y5
section
attribute [local irreducible] run
def hitB (m i id:List UInt8) (y:JV):Bool:=decide ((zd9 m i y).1=0)&&decide ((zd9 m i y).2=id)
def ziz (v:JV):List JV:=(za2 v zct).1.items++(za2 v zb6).1.items
def zjj (v:JV) (id:List UInt8):JV×Bool :=
 if (ddE v).1≠0 then (jvZ,false)
 else match (ziz v).find? (hitB (sbD v).2.1 (sbD v).2.2 id) with
  | some y=>(y,true)
  | none=>(jvZ,false)
theorem ddE_sb {v:JV} (h:(ddE v).1=0):(sbD v).1=0:=by
 unfold ddE at h
 by_cases c:(sbD v).1=0
 ·exact c
 ·rw[if_pos c] at h;exact absurd h c
def zlV (v:JV) (k:Nat):List JV:=if k=0 then [] else if k=1 then (za2 v zct).1.items else ziz v
theorem find_hit {p:JV->Bool} {a b:List JV} {y:JV} (ha:∀x∈a,p x=false) (hy:p y=true):(a++y::b).find? p=some y:=by
 rw[List.find?_append,List.find?_eq_none.2 (fun x hx=>by rw[ha x hx];decide),List.find?_cons_of_pos hy];rfl
section
variable [Tabs Tryz.prog] {objs:List OB} {K:List OB->AV->Prop}
theorem sel_k [Shp Tryz.prog] (v:JV) (id:List UInt8) (hv:JOk v) (hj:JBd v) (hb:IdB v) (hk:K objs (zbO (zjj v id))):zae Tryz.prog 13 [.agg (zak v),.s id] objs K:=by
 refine zgD (zbO (zjj v id)) ?_;have kz:zjj v id=(jvZ,false)->(∀G I y,Den G I (.tup [.agg [.i .i64 0,.s [],.nil,.nil],.b false]) y->Den G I (zbO (zjj v id)) y)/\K objs (zbO (zjj v id)):=fun he=>⟨fun G I y h=>by rw[he];exact zcn (fun z hz=>zo8 (k:=0) (t:=[]) hz) h,hk⟩;have ky:∀y:JV,zjj v id=(y,true)->(∀G I z,Den G I (.tup [.agg [.i .i64 y.kind,.s y.text,.row y.keys.length (y.keys.map .s),.row y.items.length (zac y.items)],.b true]) z->Den G I (zbO (zjj v id)) z)/\K objs (zbO (zjj v id)):=fun y he=>⟨fun G I z h=>by rw[he];unfold zbO;rw[zaf y];exact h,hk⟩;refine za5 is_diddoc_Select (by simp only[zap,AV.plain,zbj,Bool.and_self]) fun C _=>?_;rw[c_diddoc_Select];have ejv:=zaf v;have hsl:=zhq v;have hsb:=@ddE_sb v;rw[ejv];refine zaa fun Z hZ=>?_;simp only[sxZ,z6,z7,z8,j4,j5,j6,j7,j8,j9,x6,x7,x8,x9,y4,y5,reduceCtorEq,↓reduceIte];subst hZ;refine zaa fun Z hZ=>?_;simp only[sxZ,z6,z7,z8,j4,j5,j6,j7,j8,j9,x6,x7,x8,x9,y4,y5,reduceCtorEq,↓reduceIte];rw[<-ejv];refine zah (dd_k v hv hj hb ?_);unfold zjj at kz ky hk ⊢;generalize ddE v=R at kz ky hk hsb ⊢;obtain⟨e,d⟩:=R;dsimp only at kz ky hk hsb ⊢;unfold ddAV doc;rw[ejv];dsimp only;simp only[sxZ,z6,z7,z8,j4,j5,j6,j7,j8,j9,x6,x7,x8,x9,y4,y5,reduceCtorEq,↓reduceIte]
 by_cases c:e=0
 rotate_left
 ·rw[if_pos c] at kz hk ⊢;have:=kz rfl;simp only[sxZ,z6,z7,z8,j4,j5,j6,j7,j8,j9,x6,x7,x8,x9,y4,y5,reduceCtorEq,↓reduceIte,c];exact this
 subst c;rw[if_neg (show ¬((0:Int)≠0) by decide)] at kz ky hk ⊢;have hsb:=hsb rfl;simp only[sxZ,z6,z7,z8,j4,j5,j6,j7,j8,j9,x6,x7,x8,x9,y4,y5,reduceCtorEq,↓reduceIte];subst hZ;refine zaa fun Z hZ=>?_;simp only[sxZ,z6,z7,z8,j4,j5,j6,j7,j8,j9,x6,x7,x8,x9,y4,y5,reduceCtorEq,↓reduceIte];rw[<-ejv];refine zah (sub_k v hv hj hb.1 ?_);generalize sbD v=R at kz ky hk hsl hsb ⊢;obtain⟨e,m,i⟩:=R;dsimp only at kz ky hk hsl hsb ⊢;subst hsb;rw[ejv];simp only[sxZ,z6,z7,z8,j4,j5,j6,j7,j8,j9,x6,x7,x8,x9,y4,y5,reduceCtorEq,↓reduceIte];subst hZ;refine zaa fun Z hZ=>?_;simp only[sxZ,z6,z7,z8,j4,j5,j6,j7,j8,j9,x6,x7,x8,x9,y4,y5,reduceCtorEq,↓reduceIte];subst hZ;refine zaa fun Z hZ=>?_;refine zaa fun W hW=>?_;simp only[sxZ,z6,z7,z8,j4,j5,j6,j7,j8,j9,x6,x7,x8,x9,y4,y5,reduceCtorEq,↓reduceIte];subst hW;rw[zaR];refine zaH (fun n o tm=>∃k:Nat,k<=2/\n=2 - k/\(∀y∈zlV v k,hitB m i id y=false)/\o[0]? = some (OB.box 25 [.i .i64 v.kind,.s v.text,.row v.keys.length (v.keys.map .s),.row v.items.length (zac v.items)])/\o[1]? = some (OB.box 25 [.i .i64 0,.s [],.nil,.nil])/\o[3]? = some (.box 62 [.s m,.s i])/\tm.length=70/\tm[1]? = some (.s id)/\tm[2]? = some (.p 0 0)/\tm[4]? = some (.p 1 0)/\tm[8]? = some (.p 3 0)/\tm[34]? = some (.row 2 [.s [118,101,114,105,102,105,99,97,116,105,111,110,77,101,116,104,111,100],.s [115,101,114,118,105,99,101]])/\tm[35]? = some (.i .i64 2)/\tm[36]? = some (.i .i64 (k:Int))) 2 ⟨0,zd _,rfl,(fun y hy=>by cases hy),rfl,rfl,rfl,rfl,rfl,rfl,rfl,rfl,rfl,rfl,rfl⟩ ?_;rintro n o tm ⟨k,hk2,rfl,hno,o0,o1,o3,hlen,t1,t2,t4,t8,t34,t35,t36⟩;refine zaa fun W hW=>?_
 by_cases hlt:(k:Int)<2
 ·obtain⟨key,hkey,hpart,hrest⟩:∃key,([AV.s [118,101,114,105,102,105,99,97,116,105,111,110,77,101,116,104,111,100],.s [115,101,114,118,105,99,101]]:List AV)[k*1]? = some (.s key)/\zlV v (k+1)=zlV v k++(za2 v key).1.items/\∃post,ziz v=zlV v (k+1)++post:=by
   rcases(show k=0\/k=1 by omega) with rfl|rfl
   ·exact⟨zct,rfl,rfl,(za2 v zb6).1.items,rfl⟩
   ·exact⟨zb6,rfl,rfl,[],(jh _).symm⟩
  simp only[sxZ,z6,z7,z8,j4,j5,j6,j7,j8,j9,x6,x7,x8,x9,y4,y5,reduceCtorEq,↓reduceIte,za,hlen,t35,t36,hlt];subst hW;refine zaa fun W hW=>?_;simp only[sxZ,z6,z7,z8,j4,j5,j6,j7,j8,j9,x6,x7,x8,x9,y4,y5,reduceCtorEq,↓reduceIte,za,hlen];subst hW;refine zaa fun Y hY=>?_;rw[zaR];refine zaa fun W hW=>?_;simp only[sxZ,z6,z7,z8,j4,j5,j6,j7,j8,j9,x6,x7,x8,x9,y4,y5,reduceCtorEq,↓reduceIte,za,hlen,t34,t36,hkey]
  (and_intros<;>try omega)
  subst hW;refine zaa fun W hW=>?_;simp only[sxZ,z6,z7,z8,j4,j5,j6,j7,j8,j9,x6,x7,x8,x9,y4,y5,reduceCtorEq,↓reduceIte,za,hlen,t2,o0];rw[<-ejv];refine zah (zkU v key hv hj ?_);have hits:=hb.it hv hj key;have hbd:=(zkT hj key).lens.2;generalize za2 v key=R at hpart hits hbd ⊢;obtain⟨x,ok⟩:=R;unfold zbO;dsimp only at hpart hits hbd ⊢;rw[zaf x];simp only[sxZ,z6,z7,z8,j4,j5,j6,j7,j8,j9,x6,x7,x8,x9,y4,y5,reduceCtorEq,↓reduceIte,za,hlen,gn1,sn1];have a0:=zbb o0 (OB.box 25 [.i .i64 x.kind,.s x.text,.row x.keys.length (x.keys.map .s),.row x.items.length (zac x.items)]);have a1:=zbb o1 (OB.box 25 [.i .i64 x.kind,.s x.text,.row x.keys.length (x.keys.map .s),.row x.items.length (zac x.items)]);have a3:=zbb o3 (OB.box 25 [.i .i64 x.kind,.s x.text,.row x.keys.length (x.keys.map .s),.row x.items.length (zac x.items)]);have aX:(o++[OB.box 25 [.i .i64 x.kind,.s x.text,.row x.keys.length (x.keys.map .s),.row x.items.length (zac x.items)]])[o.length]? = some (OB.box 25 [.i .i64 x.kind,.s x.text,.row x.keys.length (x.keys.map .s),.row x.items.length (zac x.items)]):=gn1 _ _;generalize o.length=p at aX ⊢;generalize o++[OB.box 25 [.i .i64 x.kind,.s x.text,.row x.keys.length (x.keys.map .s),.row x.items.length (zac x.items)]]=oa at a0 a1 a3 aX ⊢;clear o0 o1 o3;subst hW;refine zaa fun W hW=>?_;simp only[sxZ,z6,z7,z8,j4,j5,j6,j7,j8,j9,x6,x7,x8,x9,y4,y5,reduceCtorEq,↓reduceIte,za,hlen,aX];subst hW;clear aX;generalize x.items=its at hpart hits hbd ⊢;have hl4:=zaE its;rw[zaR];refine zaH (fun n o tm=>∃j:Nat,j<=its.length/\n=its.length - j/\(∀y∈its.take j,hitB m i id y=false)/\o[0]? = some (OB.box 25 [.i .i64 v.kind,.s v.text,.row v.keys.length (v.keys.map .s),.row v.items.length (zac v.items)])/\o[1]? = some (OB.box 25 [.i .i64 0,.s [],.nil,.nil])/\o[3]? = some (.box 62 [.s m,.s i])/\tm.length=70/\tm[1]? = some (.s id)/\tm[2]? = some (.p 0 0)/\tm[4]? = some (.p 1 0)/\tm[8]? = some (.p 3 0)/\tm[34]? = some (.row 2 [.s [118,101,114,105,102,105,99,97,116,105,111,110,77,101,116,104,111,100],.s [115,101,114,118,105,99,101]])/\tm[35]? = some (.i .i64 2)/\tm[36]? = some (.i .i64 (k:Int))/\tm[47]? = some (.row its.length (zac its))/\tm[48]? = some (.i .i64 (its.length:Int))/\tm[49]? = some (.i .i64 (j:Int))) its.length ⟨0,zd _,rfl,(fun y hy=>by cases hy),a0,a1,a3,?_⟩ ?_
  ·simp only[sxZ,z6,z7,z8,j4,j5,j6,j7,j8,j9,x6,x7,x8,x9,y4,y5,reduceCtorEq,↓reduceIte,zi,za,hlen,t1,t2,t4,t8,t34,t35,t36,y8,and_self]
  clear hlen t1 t2 t4 t8 t34 t35 t36 a0 a1 a3 tm;rintro n o tm ⟨j,hjl,rfl,hnj,o0,o1,o3,hlen,t1,t2,t4,t8,t34,t35,t36,t47,t48,t49⟩;refine zaa fun W hW=>?_
  by_cases hlt2:(j:Int)<(its.length:Int)
  ·have hi':j<its.length:=by omega
   have kv:=zhQ hi';obtain⟨y1,y2,y3⟩:=hits its[j] (jn hi');have htk:its.take (j+1)=its.take j++[its[j]]:=by rw[y9,zo hi'];rfl
   have hsp:its=its.take j++its[j]::its.drop (j+1):=by rw[<-jr hi',List.take_append_drop]
   generalize its[j]=y at kv htk hsp y1 y2 y3;have ey:=zaf y;rw[ey] at kv;simp only[sxZ,z6,z7,z8,j4,j5,j6,j7,j8,j9,x6,x7,x8,x9,y4,y5,reduceCtorEq,↓reduceIte,za,hlen,t48,t49,hlt2];subst hW;refine zaa fun W hW=>?_;simp only[sxZ,z6,z7,z8,j4,j5,j6,j7,j8,j9,x6,x7,x8,x9,y4,y5,reduceCtorEq,↓reduceIte,za,hlen];subst hW;refine zaa fun U hU=>?_;rw[zaR];refine zaa fun W hW=>?_;simp only[sxZ,z6,z7,z8,j4,j5,j6,j7,j8,j9,x6,x7,x8,x9,y4,y5,reduceCtorEq,↓reduceIte,za,hlen,t47,t49,kv]
   (and_intros<;>try omega)
   simp only[sxZ,z6,z7,z8,j4,j5,j6,j7,j8,j9,x6,x7,x8,x9,y4,y5,reduceCtorEq,↓reduceIte,za,hlen,gn1,sn1];have b0:=zbb o0 (OB.box 25 [.i .i64 y.kind,.s y.text,.row y.keys.length (y.keys.map .s),.row y.items.length (zac y.items)]);have b1:=zbb o1 (OB.box 25 [.i .i64 y.kind,.s y.text,.row y.keys.length (y.keys.map .s),.row y.items.length (zac y.items)]);have b3:=zbb o3 (OB.box 25 [.i .i64 y.kind,.s y.text,.row y.keys.length (y.keys.map .s),.row y.items.length (zac y.items)]);have bY:(o++[OB.box 25 [.i .i64 y.kind,.s y.text,.row y.keys.length (y.keys.map .s),.row y.items.length (zac y.items)]])[o.length]? = some (OB.box 25 [.i .i64 y.kind,.s y.text,.row y.keys.length (y.keys.map .s),.row y.items.length (zac y.items)]):=gn1 _ _;generalize o.length=p at bY ⊢;generalize o++[OB.box 25 [.i .i64 y.kind,.s y.text,.row y.keys.length (y.keys.map .s),.row y.items.length (zac y.items)]]=ob at b0 b1 b3 bY ⊢;clear o0 o1 o3;subst hW;refine zaa fun W hW=>?_;simp only[sxZ,z6,z7,z8,j4,j5,j6,j7,j8,j9,x6,x7,x8,x9,y4,y5,reduceCtorEq,↓reduceIte,za,hlen,t8,bY,b3];rw[<-ey];refine zah (mid_k m i y y1 y2 (by omega) (by omega) y3 (resL m i) ?_);have hh:hitB m i id y=(decide ((zd9 m i y).1=0)&&decide ((zd9 m i y).2=id)):=rfl;generalize zd9 m i y=R at hh ⊢;obtain⟨e2,s⟩:=R;dsimp only at hh ⊢;simp only[sxZ,z6,z7,z8,j4,j5,j6,j7,j8,j9,x6,x7,x8,x9,y4,y5,reduceCtorEq,↓reduceIte,za,hlen];subst hW;have hl1:=(zh.1 b1).1
   by_cases c:e2=0
   ·subst c
    by_cases cs:s=id
    ·subst cs;have:=ky y (by
      obtain⟨post,hpost⟩:=hrest;have e9:∀(a b:List JV),its=a++y::b->zlV v k++its++post=(zlV v k++a)++y::(b++post):=fun a b h=>by rw[h];simp
      rw[hpost,hpart,e9 _ _ hsp,find_hit (fun z hz=>?_) (by rw[hh];simp)];rcases zt.1 hz with h|h
      ·exact hno z h
      ·exact hnj z h)
     simp only[sxZ,z6,z7,z8,j4,j5,j6,j7,j8,j9,x6,x7,x8,x9,y4,y5,reduceCtorEq,↓reduceIte,za,hlen,t1,t2,t4,t8,bY,b1,hl1,za3,za4];exact this
    ·simp only[sxZ,z6,z7,z8,j4,j5,j6,j7,j8,j9,x6,x7,x8,x9,y4,y5,reduceCtorEq,↓reduceIte,za,hlen,t1,cs];subst hU;simp only[sxZ,z6,z7,z8,j4,j5,j6,j7,j8,j9,x6,x7,x8,x9,y4,y5,reduceCtorEq,↓reduceIte,za,hlen,t1,t2,t4,t8,t34,t35,t36,t47,t48,t49];refine⟨by omega,its.length - (j+1),by omega,j+1,by omega,rfl,?_,b0,b1,b3,rfl⟩;intro z hz;rw[htk] at hz;rcases zt.1 hz with h|h
     ·exact hnj z h
     ·rw[jt] at h;subst h;rw[hh];simp[cs]
   ·simp only[sxZ,z6,z7,z8,j4,j5,j6,j7,j8,j9,x6,x7,x8,x9,y4,y5,reduceCtorEq,↓reduceIte,za,hlen,t1,c];subst hU;simp only[sxZ,z6,z7,z8,j4,j5,j6,j7,j8,j9,x6,x7,x8,x9,y4,y5,reduceCtorEq,↓reduceIte,za,hlen,t1,t2,t4,t8,t34,t35,t36,t47,t48,t49];refine⟨by omega,its.length - (j+1),by omega,j+1,by omega,rfl,?_,b0,b1,b3,rfl⟩;intro z hz;rw[htk] at hz;rcases zt.1 hz with h|h
    ·exact hnj z h
    ·rw[jt] at h;subst h;rw[hh];simp[c]
  have hn:j=its.length:=by omega
  rw[hn,jp (ze _)] at hnj;simp only[sxZ,z6,z7,z8,j4,j5,j6,j7,j8,j9,x6,x7,x8,x9,y4,y5,reduceCtorEq,↓reduceIte,za,hlen,t48,t49,hlt2];subst hW;simp only[sxZ,z6,z7,z8,j4,j5,j6,j7,j8,j9,x6,x7,x8,x9,y4,y5,reduceCtorEq,↓reduceIte,za,hlen];subst hY;simp only[sxZ,z6,z7,z8,j4,j5,j6,j7,j8,j9,x6,x7,x8,x9,y4,y5,reduceCtorEq,↓reduceIte,za,hlen,t1,t2,t4,t8,t34,t35,t36];refine⟨by omega,2 - (k+1),by omega,k+1,by omega,rfl,?_,by rw[ejv];exact o0,o1,o3,rfl⟩;rw[hpart];intro z hz;rcases zt.1 hz with h|h
  ·exact hno z h
  ·exact hnj z h
 have hn:k=2:=by omega
 subst hn;have:=kz (by
  rw[List.find?_eq_none.2 fun z hz=>by rw[hno z hz];decide])
 have hl1:=(zh.1 o1).1;simp only[sxZ,z6,z7,z8,j4,j5,j6,j7,j8,j9,x6,x7,x8,x9,y4,y5,reduceCtorEq,↓reduceIte,za,hlen,t35,t36,hlt];subst hW;simp only[sxZ,z6,z7,z8,j4,j5,j6,j7,j8,j9,x6,x7,x8,x9,y4,y5,reduceCtorEq,↓reduceIte,za,hlen];subst hZ;simp only[sxZ,z6,z7,z8,j4,j5,j6,j7,j8,j9,x6,x7,x8,x9,y4,y5,reduceCtorEq,↓reduceIte,za,hlen,t4,o1,hl1];exact this
end
end
theorem znS {x:Nat}:∀{l:List Nat},x∈l->x<=l.sum
 | a::l,h=>by
  rw[List.sum_cons];rcases zv.1 h with rfl|h
  ·omega
  ·have:=znS h;omega
theorem zgI (c:UInt8):∀l:List UInt8,((zaQ c l).map (fun q=>q.length+1)).sum=l.length+1
 | []=>by simp[zaQ]
 | x::t=>by
  have ih:=zgI c t;obtain⟨p,ps,e⟩:=zbd c t;rw[e] at ih;rw[zaU]
  by_cases h:x=c
  ·rw[if_pos h,e];simp at ih ⊢;omega
  ·rw[if_neg h,e];simp at ih ⊢;omega
theorem zeZ:∀(n:Nat) (l:List UInt8),l.length<=n->l.all ppB=true->(dcL l).1=0->(zea (dcL l).2).length<=l.length
 | 0,l,hl,_,_=>by
  obtain rfl:l=[]:=jk (by omega);exact ze _
 | n+1,[],_,_,_=>ze _
 | n+1,c::t,hl,hp,h=>by
  rw[ji,Bool.and_eq_true] at hp
  by_cases hc:c=37
  ·subst hc;rcases he:zbz (37::t) with _|_
   ·rw[zgn he] at h;cases h
   ·obtain⟨a,b,r,rfl⟩:=zbC he;have d:=ze0 he;rw[d.1] at h;have hr:=hp.2;rw[ji,ji,Bool.and_eq_true,Bool.and_eq_true] at hr;have:=zeZ n r (by simp at hl ⊢;omega) hr.2.2 h;rw[d.2 h,zco,zm];have h3:(if idB (zb7 (37::a::b::r))=true then [zb7 (37::a::b::r)] else zeF (zb7 (37::a::b::r))).length<=3:=by
     split
     ·simp
     ·rw[zk3];exact ze _
    simp only[zx];omega
  ·have d:=zd5 (c:=c) (t:=t) hc;rw[d.1] at h;have:=zeZ n t (by simp at hl;omega) hp.2 h;have hid:idB c=true:=by
    have:=hp.1;rw[pp_iff,Bool.or_eq_true] at this;rcases this with e|e
    ·exact absurd (by simpa using e) hc
    ·exact e
   rw[d.2 h,zco,zm,if_pos hid];simp only[zx,qk];omega
theorem jnc_le:∀xs:List (List UInt8),(∀q∈xs,(zbg q).length<=q.length)->(jnc xs).length<=(xs.map (fun q=>q.length+1)).sum
 | [],_=>ze _
 | p::ps,h=>by
  have ih:=jnc_le ps fun q hq=>h q (qp _ hq);have:=h p (by simp);have e:jnc (p::ps)=58::zbg p++jnc ps:=rfl;rw[e,zm,zl,List.sum_cons,zx];omega
theorem ziI {d i:List UInt8} (hl:d.length<=16384) (h:idE d=(0,i)):i.length<=d.length:=by
 rw[idE_list d hl] at h
 split at h
 ·cases h
 rename_i h1
 split at h
 ·cases h
 rename_i h2
 split at h
 ·cases h
 injection h with _ h
 have h1:∀q∈zaQ 58 d,(zd4 q).1=0:=Decidable.not_not.1 h1;have hs:=zgI 58 d;obtain⟨p,ps,e⟩:=zbd 58 d;rw[e] at h h1 h2 hs;have h2:∀q∈p::ps,q.all ppB=true:=by simpa only[Bool.not_eq_false,zw (l:=p::ps)] using h2
 have hq:∀q∈p::ps,(zbg q).length<=q.length:=fun q hm=>by
  have hql:q.length+1<=((p::ps).map (fun q=>q.length+1)).sum:=znS (qz.2 ⟨q,hm,rfl⟩);have hd:=zew (l:=q) (by omega);have:=h1 q hm;unfold zbg;rw[hd] at this ⊢;exact zeZ _ q (ze _) (h2 q hm) this
 have:=jnc_le ps fun q hm=>hq q (qp _ hm);have hp:=hq p (by simp);rw[<-h];show (zbg p++jnc ps).length<=_;rw[zm];rw[zl,List.sum_cons] at hs;omega
theorem did_can {s m i:List UInt8} (h:zdf s=(0,m,i)):zdf (zcg m i)=(0,m,i):=by
 obtain⟨h1,l,rfl,h3,h4⟩:=zo4 h;have hl:l.length<=4096:=by rw[zcy] at h4;omega
 have hi:=ziI (by omega) h3;exact zo5 h1 (zgf (by omega) (by omega) h3).1 (by rw[zcy] at h4 ⊢;omega)
theorem CanD.of4 {s:List UInt8} {u:DidU} (h:zdQ s=(0,u)):CanD u:=by
 have hs:s.length<=4096:=by
  by_cases c:4096<s.length
  ·unfold zdQ at h;rw[if_pos c] at h;cases h
  ·omega
 unfold zdQ at h
 split at h
 ·cases h
 ·split at h
  ·rename_i g;injection h with h1 _;exact absurd h1 g
  ·rename_i g1
   split at h
   ·rename_i g;injection h with h1 _;exact absurd h1 g
   ·rename_i g2
    split at h
    ·rename_i g;injection h with h1 _;exact absurd h1 g
    ·rename_i g3
     split at h
     ·rename_i g;injection h with h1 _;exact absurd h1 g
     ·rename_i g4;simp only[Decidable.not_not] at g1 g2 g3 g4;injection h with _ h
      have hd:zdf (zcu s)=(0,(zdf (zcu s)).2.1,(zdf (zcu s)).2.2):=by rw[<-g1]
      obtain⟨k1,l,k2,k3,k4⟩:=zo4 hd;have e2:zax ((zbt s).drop (zcu s).length) zaC=(0,(zax ((zbt s).drop (zcu s).length) zaC).2):=by rw[<-g2]
      have e3:zax (zay 63 (zay 35 s).1).2.1 zas=(0,(zax (zay 63 (zay 35 s).1).2.1 zas).2):=by rw[<-g3]
      have e4:zax (zay 35 s).2.1 zas=(0,(zax (zay 35 s).2.1 zas).2):=by rw[<-g4]
      have j1:=congrArg jg (zdg 35 s);have j2:=congrArg jg (zdg 63 (zay 35 s).1);have c1:=zex 35 s;have c2:=zex 63 (zay 35 s).1;have hnb:=(zg4 (zbt s)).2;have hnl:(zcu s).length<=(zbt s).length:=hnb;have hbl:(zbt s).length<=(zay 35 s).1.length:=zh1 63 _;have h35l:=zh1 35 s;have kl:(zcu s).length=(zdf (zcu s)).2.1.length+l.length+5:=by
       have hk2:=congrArg jg k2;simp only[zcg,zbs,zm,zx,qk] at hk2;omega
      have il:=ziI (by omega) k3;have pl:=(za8 _ _ _ e2).2.2;have ql:=(za8 _ _ _ e3).2.2;have fl:=(za8 _ _ _ e4).2.2;rw[qb] at pl;have ia:=zgf (l:=l) (by omega) (by omega) k3;have q0:(zay 63 (zay 35 s).1).2.1.length<=(zay 35 s).1.length:=(zb3 63 _).2;have f0:(zay 35 s).2.1.length<=s.length:=(zb3 35 _).2;have qs:(zbt s).length+(zay 63 (zay 35 s).1).2.1.length+(if (zay 63 (zay 35 s).1).2.2=true then 1 else 0)<=(zay 35 s).1.length:=by
       show (zay 63 (zay 35 s).1).1.length+_+_<=_;rcases hb:(zay 63 (zay 35 s).1).2.2 with _|_
       ·rw[(c2.2.2 hb).1,(c2.2.2 hb).2];simp
       ·have:=c2.2.1 hb;rw[if_pos rfl];omega
      have fs:(zay 35 s).1.length+(zay 35 s).2.1.length+(if (zay 35 s).2.2=true then 1 else 0)<=s.length:=by
       rcases hb:(zay 35 s).2.2 with _|_
       ·rw[(c1.2.2 hb).1,(c1.2.2 hb).2];simp
       ·have:=c1.2.1 hb;rw[if_pos rfl];omega
      have hslash:(zax ((zbt s).drop (zcu s).length) zaC).2=[]\/∃r,(zax ((zbt s).drop (zcu s).length) zaC).2=47::r:=by
       have hx:(zbt s).drop (zcu s).length=[]\/∃r,(zbt s).drop (zcu s).length=47::r:=by
        unfold zcu zfe;rcases zb0 47 (zbt s) with ⟨_,h3,_⟩|⟨k,_,hk,h3,h4⟩
        ·rw[h3];left;simp
        ·rw[h3];right;have e:((zbt s).take k).length=k:=by rw[qg];omega
         simp only[e];rw[jr hk];rw[zo hk] at h4;injection h4 with h4
         exact⟨_,by rw[h4]⟩
       rcases hx with hx|⟨r,hx⟩
       ·left;rw[hx];decide
       ·right;rw[hx] at e2 ⊢;have hlen:=zen e2;have hr:rwS (zcD zaC) 0 (47::r) []=(0,(zax (47::r) zaC).2):=by
         have e5:=e2;unfold zax zhM at e5;rw[if_neg (by omega)] at e5;rw[e5];unfold zax zhM;rw[if_neg (by omega)]
        have hp1:rwS (zcD zaC) 0 (47::r) []=rwS (zcD zaC) 0 r [47]:=by
         rw[rwS,if_neg (by decide),zbe rfl (by decide),if_pos rfl];rfl
        rw[hp1] at hr;obtain⟨y,a,k5,_⟩:=zf6 zaC r.length r [47] _ (ze _) hr;exact⟨y,k5⟩
      rw[<-h];refine⟨k1,ia.1,ia.2,(za8 _ _ _ e2).1,hslash,(za8 _ _ _ e3).1,(za8 _ _ _ e4).1,?_,?_,?_⟩
      ·intro hq;show (zax (zay 63 (zay 35 s).1).2.1 zas).2=[];rw[(c2.2.2 hq).2];rfl
      ·intro hf;show (zax (zay 35 s).2.1 zas).2=[];rw[(c1.2.2 hf).2];rfl
      ·unfold zcI;simp only[zm];have z1:((if (zay 63 (zay 35 s).1).2.2=true then [63]++(zax (zay 63 (zay 35 s).1).2.1 zas).2 else []):List UInt8).length<=(zax (zay 63 (zay 35 s).1).2.1 zas).2.length+(if (zay 63 (zay 35 s).1).2.2=true then 1 else 0):=by
        split<;>simp
       have z2:((if (zay 35 s).2.2=true then [35]++(zax (zay 35 s).2.1 zas).2 else []):List UInt8).length<=(zax (zay 35 s).2.1 zas).2.length+(if (zay 35 s).2.2=true then 1 else 0):=by
        split<;>simp
       have z3:(zcg (zdf (zcu s)).2.1 (zdf (zcu s)).2.2).length=(zdf (zcu s)).2.1.length+(zdf (zcu s)).2.2.length+5:=by simp[zcg,zbs];omega
       omega
section
attribute [local irreducible] run
def zde (v:JV):Bool:=!decide (v.text=[])||decide (0<v.items.length)
def zgz (ks:List (List UInt8)) (key:List UInt8) (v:JV):List (List UInt8):=if zde v=true then ks++[key] else ks
def zgA (its:List JV) (v:JV):List JV:=if zde v=true then its++[v] else its
def job (ks:List (List UInt8)) (its:List JV):JV:=.mk 7 [] ks its
theorem ObR.app {m b:Nat} {ks:List (List UInt8)} {its:List JV} {o:List OB} (h:ObR m b ks its o) (z:OB):ObR m b ks its (o++[z]):=by
 obtain⟨X,Y,h1,h2,h3⟩:=h;exact⟨X,Y,by rw[zp (zh.1 h1).1];exact h1,h2.mono z,h3.mono z⟩
section
variable [Tabs Tryz.prog] {objs:List OB} {K:List OB->AV->Prop}
theorem zdG (m b:Nat) (ks:List (List UInt8)) (its:List JV) (key:List UInt8) (v:JV) (hb:ObR m b ks its objs) (hm:m<=objs.length) (hbm:b<m) (h1:ks.length<=1000000) (h2:its.length<=1000000) (hk:∀o,ObR m b (zgz ks key v) (zgA its v) o->objs.length<=o.length->(∀i,i<m->i≠b->o[i]? = objs[i]?)->K o (.tup [])):zae Tryz.prog 48 [.p b 0,.s key,.agg (zak v)] objs K:=by
 have ejv:=zaf v;rw[ejv];refine zcX is_jsonmake_Object_AddFilled fun C _=>?_;rw[c_jsonmake_Object_AddFilled];refine zaa fun Z hZ=>?_;simp only[sxZ,z6,z7,z8,j4,j5,j6,j7,j8,j9,x6,x7,x8,x9,y4,y5,reduceCtorEq,↓reduceIte];rw[<-ejv];have hB:=hb.app (.box 25 (zak v));have fv:(objs++[OB.box 25 (zak v)])[objs.length]? = some (.box 25 [.i .i64 v.kind,.s v.text,.row v.keys.length (v.keys.map .s),.row v.items.length (zac v.items)]):=by rw[gn1,ejv]
 have hfr:∀i,i<m->(objs++[OB.box 25 (zak v)])[i]? = objs[i]?:=fun i hi=>zp (by omega);have hln:(objs++[OB.box 25 (zak v)]).length=objs.length+1:=by simp
 generalize objs++[OB.box 25 (zak v)]=o1 at hB fv hfr hln ⊢;subst hZ;refine zaa fun Z hZ=>?_;unfold zgz zgA at hk
 by_cases c:v.text=[]
 ·by_cases c2:(0:Int)<(v.items.length:Int)
  ·have hf:zde v=true:=by unfold zde;rw[decide_eq_true (show 0<v.items.length by omega)];simp
   rw[if_pos hf,if_pos hf] at hk;simp only[sxZ,z6,z7,z8,j4,j5,j6,j7,j8,j9,x6,x7,x8,x9,y4,y5,reduceCtorEq,↓reduceIte,fv,c,c2];subst hZ;simp only[sxZ,z6,z7,z8,j4,j5,j6,j7,j8,j9,x6,x7,x8,x9,y4,y5,reduceCtorEq,↓reduceIte,fv];rw[<-ejv];refine zah (zc8 m b ks its key v hB (by omega) hbm h1 h2 fun o3 q1 q2 q3=>?_);simp only[sxZ,z6,z7,z8,j4,j5,j6,j7,j8,j9,x6,x7,x8,x9,y4,y5,reduceCtorEq,↓reduceIte];exact hk _ q1 (by omega) fun i hi hn=>by rw[q3 i hi hn];exact hfr i hi
  ·have hf:¬zde v=true:=by unfold zde;rw[c,decide_eq_false (show ¬0<v.items.length by omega)];simp
   rw[if_neg hf,if_neg hf] at hk;simp only[sxZ,z6,z7,z8,j4,j5,j6,j7,j8,j9,x6,x7,x8,x9,y4,y5,reduceCtorEq,↓reduceIte,fv,c,c2];subst hZ;simp only[sxZ,z6,z7,z8,j4,j5,j6,j7,j8,j9,x6,x7,x8,x9,y4,y5,reduceCtorEq,↓reduceIte,fv];exact hk _ hB (by omega) fun i hi _=>hfr i hi
 ·have hf:zde v=true:=by unfold zde;rw[decide_eq_false c];rfl
  rw[if_pos hf,if_pos hf] at hk;simp only[sxZ,z6,z7,z8,j4,j5,j6,j7,j8,j9,x6,x7,x8,x9,y4,y5,reduceCtorEq,↓reduceIte,fv,c];subst hZ;simp only[sxZ,z6,z7,z8,j4,j5,j6,j7,j8,j9,x6,x7,x8,x9,y4,y5,reduceCtorEq,↓reduceIte,fv];rw[<-ejv];refine zah (zc8 m b ks its key v hB (by omega) hbm h1 h2 fun o3 q1 q2 q3=>?_);simp only[sxZ,z6,z7,z8,j4,j5,j6,j7,j8,j9,x6,x7,x8,x9,y4,y5,reduceCtorEq,↓reduceIte];exact hk _ q1 (by omega) fun i hi hn=>by rw[q3 i hi hn];exact hfr i hi
end
theorem zf4 {o:List OB} {r r' g n E sz g' n':Nat} {xs xs':List AV} (h:o[r']? = some (.orow E sz g' n' xs')) (hn:r'≠r):(zeE o r g n xs)[r']? = some (.orow E sz g' n' xs'):=by
 unfold zeE;rw[zf (fun e=>hn e.symm),qx,h];rfl
theorem zdB (o:List OB) (r g n:Nat) (xs:List AV):(zeE o r g n xs).length=o.length:=by unfold zeE;simp
theorem zhy {o o':List OB} {m b r g n:Nat} {xs:List AV} (h:∀i Y,i<m->i≠b->o[i]? = some Y->PlO Y->o'[i]? = some Y) (hr:m<=r):∀i Y,i<m->i≠b->o[i]? = some Y->PlO Y->(zeE o' r g n xs)[i]? = some Y:=by
 intro i Y hi hn ho hp;unfold zeE;rw[zf (by omega),qx,h i Y hi hn ho hp,je,zjf hp]
theorem zhY {ks:List (List UInt8)} {its:List JV} {X Y:AV} (hX:(ks=[]/\X=.nil)\/X=.row ks.length (ks.map .s)) (hY:(its=[]/\Y=.nil)\/Y=.row its.length (zac its)) {G:Gh} {I:Imm} {y:Value} (h:Den G I (.agg [.i .i64 7,.s [],X,Y]) y):Den G I (.agg (zak (job ks its))) y:=by
 unfold job;rw[zak];have hX':∀{z:Value},Den G I X z->Den G I (.row ks.length (ks.map .s)) z:=by
  intro z hz;rcases hX with ⟨rfl,rfl⟩|rfl
  ·exact za9 hz
  ·exact hz
 have hY':∀{z:Value},Den G I Y z->Den G I (.row its.length (zac its)) z:=by
  intro z hz;rcases hY with ⟨rfl,rfl⟩|rfl
  ·rw[zan];exact za9 hz
  ·exact hz
 generalize AV.row ks.length (ks.map .s)=A at hX' ⊢;generalize AV.row its.length (zac its)=B at hY' ⊢;simp only[zaj,Den] at h ⊢;obtain⟨zs,rfl,⟨z0,m0,rfl,q0,z1,m1,rfl,q1,z2,m2,rfl,q2,z3,m3,rfl,q3,q4⟩,hz⟩:=h;exact⟨_,rfl,⟨_,_,rfl,q0,_,_,rfl,q1,_,_,rfl,hX' q2,_,_,rfl,hY' q3,q4⟩,hz⟩
section
variable [Tabs Tryz.prog] {objs:List OB} {K:List OB->AV->Prop}
theorem zgb (m b:Nat) (ks:List (List UInt8)) (its:List JV) (hb:ObR m b ks its objs) (hm:m<=objs.length) (hbm:b<m) (hk:∀o,objs.length<=o.length->(∀i Y,i<m->i≠b->objs[i]? = some Y->PlO Y->o[i]? = some Y)->K o (.agg (zak (job ks its)))):zae Tryz.prog 53 [.p b 0] objs K:=by
 refine zgD (.agg (zak (job ks its))) ?_;refine zdh ?_;refine zdh ?_;obtain⟨X,Y,e0,hX,hY⟩:=hb;refine zcX is_jsonmake_Object_Value fun C _=>?_;rw[c_jsonmake_Object_Value];refine zaa fun Z hZ=>?_;simp only[sxZ,z6,z7,z8,j4,j5,j6,j7,j8,j9,x6,x7,x8,x9,y4,y5,reduceCtorEq,↓reduceIte];have g1:∀z,(objs++[z])[b]? = some (.box 93 [X,Y]):=fun z=>by rw[zp (by omega)];exact e0
 subst hZ;have hfr:∀z i Y,i<m->i≠b->objs[i]? = some Y->PlO Y->(objs++[z])[i]? = some Y:=fun z i Y hi _ h _=>by rw[zp (by omega)];exact h
 have hln:∀z,(objs++[z]).length=objs.length+1:=fun z=>by simp
 rcases hX with ⟨x0,rfl⟩|⟨r,g,rfl,hr0,hr⟩
 ·rcases hY with ⟨y0,rfl⟩|⟨r',g',rfl,hs0,hs⟩
  ·simp only[sxZ,z6,z7,z8,j4,j5,j6,j7,j8,j9,x6,x7,x8,x9,y4,y5,reduceCtorEq,↓reduceIte,g1,gn1,sn1];exact .inl (.inl ⟨fun G I y hy=>zhY (.inl ⟨x0,rfl⟩) (.inl ⟨y0,rfl⟩) hy,hk _ (by rw[hln];omega) (hfr _)⟩)
  ·simp only[sxZ,z6,z7,z8,j4,j5,j6,j7,j8,j9,x6,x7,x8,x9,y4,y5,reduceCtorEq,↓reduceIte,g1,gn1,sn1];refine .inr ⟨r',_,_,_,_,_,by rw[zp (zh.1 hs).1];exact hs,.inl ⟨fun G I y hy=>?_,hk _ (by rw[zdB,hln];omega) (zhy (hfr _) hs0)⟩⟩;refine zhY (X:=.nil) (.inl ⟨x0,rfl⟩) (.inr rfl) ?_;simpa[subD,zbq] using hy
 ·rcases hY with ⟨y0,rfl⟩|⟨r',g',rfl,hs0,hs⟩
  ·simp only[sxZ,z6,z7,z8,j4,j5,j6,j7,j8,j9,x6,x7,x8,x9,y4,y5,reduceCtorEq,↓reduceIte,g1,gn1,sn1];refine .inr ⟨r,_,_,_,_,_,by rw[zp (zh.1 hr).1];exact hr,.inl ⟨fun G I y hy=>?_,hk _ (by rw[zdB,hln];omega) (zhy (hfr _) hr0)⟩⟩;refine zhY (Y:=.nil) (.inr rfl) (.inl ⟨y0,rfl⟩) ?_;simpa[subD,zbq] using hy
  ·simp only[sxZ,z6,z7,z8,j4,j5,j6,j7,j8,j9,x6,x7,x8,x9,y4,y5,reduceCtorEq,↓reduceIte,g1,gn1,sn1];have hne:r'≠r:=fun h=>by rw[h,hr] at hs;cases hs
   refine .inr ⟨r,_,_,_,_,_,by rw[zp (zh.1 hr).1];exact hr,.inr ⟨r',_,_,_,_,_,zf4 (by rw[zp (zh.1 hs).1];exact hs) hne,fun G I y hy=>?_,hk _ (by rw[zdB,zdB,hln];omega) (zhy (zhy (hfr _) hr0) hs0)⟩⟩;refine zhY (.inr rfl) (.inr rfl) ?_;simpa[subD,zbq,hne,Ne.symm hne] using hy
end
end
theorem zd6 {P:Program} [Tabs P] {f:FuncId} {rest:List AV} {objs:List OB} {K:List OB->AV->Prop} (h:zae P f (.row 0 []::rest) objs K):zae P f (.nil::rest) objs K:=by
 intro C _ G I w hin hm ys hd;refine h C G I w hin hm ys ?_;simp only[zaj] at hd ⊢;obtain⟨y,ys',rfl,h1,h2⟩:=hd;refine⟨y,ys',rfl,?_,h2⟩;simp only[zaj,Den] at h1 ⊢;exact⟨none,0,[],h1,⟨ze _,fun ad h=>by cases h⟩,rfl,by simp,by simp⟩
section
attribute [local irreducible] run
theorem zga (s:List UInt8):zak (jtx s)=[.i .i64 5,.s s,.row 0 [],.row 0 []]:=by
 unfold jtx;rw[zak,zan];rfl
section
variable [Tabs Tryz.prog] {objs:List OB} {K:List OB->AV->Prop}
theorem zeq (l:List (List UInt8)) (hl:l.length<=1000000) (hk:K objs (.agg (zak (jar (l.map jtx))))):zae Tryz.prog 49 [.row l.length (l.map .s)] objs K:=by
 refine za5 is_jsonmake_Texts (by simp only[zap,AV.plain,zaI,Bool.and_self]) fun C _=>?_;rw[c_jsonmake_Texts];refine zaa fun Z hZ=>?_;simp only[sxZ,z6,z7,z8,j4,j5,j6,j7,j8,j9,x6,x7,x8,x9,y4,y5,reduceCtorEq,↓reduceIte];subst hZ;refine zaa fun Z hZ=>?_;simp only[sxZ,z6,z7,z8,j4,j5,j6,j7,j8,j9,x6,x7,x8,x9,y4,y5,reduceCtorEq,↓reduceIte];subst hZ;refine zaa fun Z hZ=>?_;refine zaa fun W hW=>?_;simp only[sxZ,z6,z7,z8,j4,j5,j6,j7,j8,j9,x6,x7,x8,x9,y4,y5,reduceCtorEq,↓reduceIte];subst hW;rw[zaR];refine zaH (fun n o tm=>∃i:Nat,i<=l.length/\n=l.length - i/\(∃z,o[0]? = some (.box 25 z)/\z.length=4)/\zpz 1 ((l.take i).map jtx) o (tm[3]?.getD .u)/\tm.length=20/\tm[2]? = some (.p 0 0)/\tm[6]? = some (.row l.length (l.map .s))/\tm[7]? = some (.i .i64 (l.length:Int))/\tm[8]? = some (.i .i64 (i:Int))) l.length ⟨0,zd _,rfl,⟨_,rfl,rfl⟩,.inl ⟨rfl,rfl⟩,rfl,rfl,rfl,rfl,rfl⟩ ?_;rintro n o tm ⟨i,hi,rfl,⟨z,e0,hz⟩,hA,hlen,t2,t6,t7,t8⟩;obtain⟨a3,t3⟩:∃a,tm[3]? = some a:=⟨_,zo (by omega)⟩;rw[t3,Option.getD_some] at hA;have hol:=(zh.1 e0).1;refine zaa fun W hW=>?_
 by_cases hlt:(i:Int)<(l.length:Int)
 ·have hi':i<l.length:=by omega
  have kv:(l.map AV.s)[i*1]? = some (.s l[i]):=by rw[Nat.mul_one,qx,zo hi'];rfl
  have htk:(l.take (i+1)).map jtx=(l.take i).map jtx++[jtx l[i]]:=by rw[y9,zo hi',jj];rfl
  have hfl:((l.take i).map jtx).length=i:=by rw[qo,qg];omega
  generalize l[i]=y at kv htk;generalize (l.take i).map jtx=acc at hA htk hfl;have hl4:=zaE acc;simp only[sxZ,z6,z7,z8,j4,j5,j6,j7,j8,j9,x6,x7,x8,x9,y4,y5,reduceCtorEq,↓reduceIte,za,hlen,t6,t7,t8,hlt];subst hW;refine zaa fun W hW=>?_;simp only[sxZ,z6,z7,z8,j4,j5,j6,j7,j8,j9,x6,x7,x8,x9,y4,y5,reduceCtorEq,↓reduceIte,za,hlen];subst hW;refine zaa fun V hV=>?_;rw[zaR];refine zaa fun W hW=>?_;simp only[sxZ,z6,z7,z8,j4,j5,j6,j7,j8,j9,x6,x7,x8,x9,y4,y5,reduceCtorEq,↓reduceIte,za,hlen,t6,t8,kv,qo];refine⟨⟨by omega,by omega,by omega⟩,?_⟩;subst hW;simp only[sxZ,z6,z7,z8,j4,j5,j6,j7,j8,j9,x6,x7,x8,x9,y4,y5,reduceCtorEq,↓reduceIte,za,hlen,t3];refine zah (zdF y ?_);rw[zga];rcases hA with ⟨h0,rfl⟩|⟨r,g,rfl,hr0,hr⟩
  ·simp only[sxZ,z6,z7,z8,j4,j5,j6,j7,j8,j9,x6,x7,x8,x9,y4,y5,reduceCtorEq,↓reduceIte,za,hlen,t3];subst hV;simp only[sxZ,z6,z7,z8,j4,j5,j6,j7,j8,j9,x6,x7,x8,x9,y4,y5,reduceCtorEq,↓reduceIte,za,hlen,t2,t6,t7,t8];refine⟨by omega,l.length - (i+1),by omega,i+1,by omega,rfl,⟨z,by rw[zp hol];exact e0,hz⟩,?_,rfl⟩;rw[htk,h0];exact .inr ⟨_,0,rfl,by omega,by rw[gn1,qd,zav,zan,zga];rfl⟩
  ·have hrl:=(zh.1 hr).1;simp only[sxZ,z6,z7,z8,j4,j5,j6,j7,j8,j9,x6,x7,x8,x9,y4,y5,reduceCtorEq,↓reduceIte,za,hlen,t3,hr];refine⟨⟨by omega,by omega⟩,?_⟩;subst hV;simp only[sxZ,z6,z7,z8,j4,j5,j6,j7,j8,j9,x6,x7,x8,x9,y4,y5,reduceCtorEq,↓reduceIte,za,hlen,t2,t6,t7,t8];refine⟨by omega,l.length - (i+1),by omega,i+1,by omega,rfl,⟨z,?_,hz⟩,?_,rfl⟩
   ·rw[if_neg (by omega)];exact e0
   ·rw[htk];refine .inr ⟨r,g+1,rfl,hr0,?_⟩;rw[zk hrl,zm,zbT,zav,zan,zga];rfl
 have hn:i=l.length:=by omega
 rw[hn,jp (ze _)] at hA;simp only[sxZ,z6,z7,z8,j4,j5,j6,j7,j8,j9,x6,x7,x8,x9,y4,y5,reduceCtorEq,↓reduceIte,za,hlen,t6,t7,t8,hlt];subst hW;simp only[sxZ,z6,z7,z8,j4,j5,j6,j7,j8,j9,x6,x7,x8,x9,y4,y5,reduceCtorEq,↓reduceIte,za,hlen];subst hZ;have hc:zak (jar (l.map jtx))=[.i .i64 6,.s [],.row 0 [],.row (l.map jtx).length (zac (l.map jtx))]:=by rw[zaf];rfl
 obtain⟨z0,z1,z2,z3,rfl⟩:∃z0 z1 z2 z3,z=[z0,z1,z2,z3]:=by
  match z,hz with
  | [a,b,c,d],_=>exact⟨a,b,c,d,rfl⟩
 rw[hc] at hk;have hjL:=za4 (l.map jtx);rcases hA with ⟨h0,rfl⟩|⟨r,g,rfl,hr0,hr⟩
 ·simp only[sxZ,z6,z7,z8,j4,j5,j6,j7,j8,j9,x6,x7,x8,x9,y4,y5,reduceCtorEq,↓reduceIte,za,hlen,t3];refine zah (zd6 ?_);have hA2:∀{K:List OB->AV->Prop},K o (.agg (zak (jar [])))->zae Tryz.prog 51 [.row 0 []] o K:=fun {K} h=>by
   have:=zcT (objs:=o) (K:=K) [] h
   rwa [zan] at this
  refine hA2 ?_;rw[<-h0,hc];simp only[sxZ,z6,z7,z8,j4,j5,j6,j7,j8,j9,x6,x7,x8,x9,y4,y5,reduceCtorEq,↓reduceIte,za,hlen,t2,e0,hol,hjL];exact hk
 ·simp only[sxZ,z6,z7,z8,j4,j5,j6,j7,j8,j9,x6,x7,x8,x9,y4,y5,reduceCtorEq,↓reduceIte,za,hlen,t3];refine zah (ze4 (b:=r) hr ?_);simp only[zbq,zl,zu,and_self,if_true];refine zcT (l.map jtx) ?_;rw[hc];generalize hcs:zac (l.map jtx)=cs at hr hk hjL ⊢;have e1:∃w0 w1 w2 w3,(zeE o r g (l.map jtx).length cs)[0]? = some (.box 25 [w0,w1,w2,w3]):=by
   unfold zeE;rw[zf (by omega),qx,e0];exact⟨_,_,_,_,rfl⟩
  obtain⟨w0,w1,w2,w3,e1⟩:=e1;have hl2:=(zh.1 e1).1;generalize zeE o r g (l.map jtx).length cs=o2 at e1 hl2 ⊢;simp only[sxZ,z6,z7,z8,j4,j5,j6,j7,j8,j9,x6,x7,x8,x9,y4,y5,reduceCtorEq,↓reduceIte,za,hlen,t2,e1,hl2,hjL];exact hk
end
end
section
attribute [local irreducible] run
section
variable [Tabs Tryz.prog] {objs:List OB} {K:List OB->AV->Prop}
end
section
variable [Tabs Tryz.prog] {objs:List OB} {K:List OB->AV->Prop}
end
end
section
attribute [local irreducible] run
end
section
attribute [local irreducible] run
section
variable [Tabs Tryz.prog] {objs:List OB} {K:List OB->AV->Prop}
end
end
section
attribute [local irreducible] run
section
variable [Tabs Tryz.prog] {objs:List OB} {K:List OB->AV->Prop}
end
end
section
attribute [local irreducible] run
section
variable [Tabs Tryz.prog] {objs:List OB} {K:List OB->AV->Prop}
end
end
section
attribute [local irreducible] run
section
variable [Tabs Tryz.prog] {objs:List OB} {K:List OB->AV->Prop}
end
end
section
attribute [local irreducible] run
section
variable [Tabs Tryz.prog] {objs:List OB} {K:List OB->AV->Prop}
end
end
section
attribute [local irreducible] run
section
variable [Tabs Tryz.prog] {objs:List OB} {K:List OB->AV->Prop}
end
end
section
attribute [local irreducible] run
section
variable [Tabs Tryz.prog] {objs:List OB} {K:List OB->AV->Prop}
end
end
section
attribute [local irreducible] run
theorem zeC (ks:List (List UInt8)) (key:List UInt8) (v:JV):(zgz ks key v).length<=ks.length+1:=by
 unfold zgz;split<;>simp
theorem zeD (its:List JV) (v:JV):(zgA its v).length<=its.length+1:=by
 unfold zgA;split<;>simp
section
variable [Tabs Tryz.prog] {objs:List OB} {K:List OB->AV->Prop}
end
end
section
attribute [local irreducible] run
theorem ObR.pub {m b:Nat} {ks:List (List UInt8)} {its:List JV} {oS o:List OB} (h:ObR m b ks its oS) (hfr:∀i,i<oS.length->o[i]? = oS[i]?) (r g n:Nat) (xs:List AV) (hr:oS.length<=r):ObR m b ks its (zeE o r g n xs):=by
 obtain⟨X,Y,h1,h2,h3⟩:=h;have hb:=(zh.1 h1).1;have eX:zbq r g n xs X=X:=by
  rcases h2 with ⟨_,rfl⟩|⟨r1,g1,rfl,_,hr1⟩
  ·rfl
  ·have:=(zh.1 hr1).1;simp only[zbq];rw[if_neg (by omega)]
 have eY:zbq r g n xs Y=Y:=by
  rcases h3 with ⟨_,rfl⟩|⟨r1,g1,rfl,_,hr1⟩
  ·rfl
  ·have:=(zh.1 hr1).1;simp only[zbq];rw[if_neg (by omega)]
 refine⟨X,Y,?_,?_,?_⟩
 ·unfold zeE;rw[zf (by omega),qx,hfr b hb,h1];simp only[je,zie,zl,zu,eX,eY]
 ·rcases h2 with h|⟨r1,g1,e,h0,hr1⟩
  ·exact .inl h
  ·have:=(zh.1 hr1).1;exact .inr ⟨r1,g1,e,h0,zf4 (by rw[hfr r1 this];exact hr1) (by omega)⟩
 ·rcases h3 with h|⟨r1,g1,e,h0,hr1⟩
  ·exact .inl h
  ·have:=(zh.1 hr1).1;exact .inr ⟨r1,g1,e,h0,zf4 (by rw[hfr r1 this];exact hr1) (by omega)⟩
theorem ObR.tr {m b:Nat} {ks:List (List UInt8)} {its:List JV} {oS o:List OB} (h:ObR m b ks its oS) (hfr:∀i,i<oS.length->o[i]? = oS[i]?):ObR m b ks its o:=by
 obtain⟨X,Y,h1,h2,h3⟩:=h;refine⟨X,Y,by rw[hfr b (zh.1 h1).1];exact h1,?_,?_⟩
 ·rcases h2 with h|⟨r1,g1,e,h0,hr1⟩
  ·exact .inl h
  ·exact .inr ⟨r1,g1,e,h0,by rw[hfr r1 (zh.1 hr1).1];exact hr1⟩
 ·rcases h3 with h|⟨r1,g1,e,h0,hr1⟩
  ·exact .inl h
  ·exact .inr ⟨r1,g1,e,h0,by rw[hfr r1 (zh.1 hr1).1];exact hr1⟩
section
variable [Tabs Tryz.prog] {objs:List OB} {K:List OB->AV->Prop}
end
end
section
attribute [local irreducible] run
theorem zgh {ks:List (List UInt8)} {its:List JV} {key:List UInt8} (h:key∉ks):za2 (job ks its) key=(jvZ,false) :=
 getJ_no fun j hj=>.inl fun e=>h (List.mem_of_getElem? e)
theorem zgg {ks:List (List UInt8)} {its:List JV} {key:List UInt8} {v:JV} (hl:ks.length=its.length) (h:key∉ks):za2 (job (ks++[key]) (its++[v])) key=(v,true):=by
 have hi:ks.length<(its++[v]).length:=by simp;omega
 have h1:=zjG (v:=job (ks++[key]) (its++[v])) (key:=key) (i:=ks.length) rfl (by show (ks++[key])[ks.length]? = _;simp) hi (fun j hj=>.inl (by
  show (ks++[key])[j]?≠_;rw[zp hj];exact fun e=>h (List.mem_of_getElem? e)))
 rw[h1];have:(its++[v])[ks.length]'hi=v:=by
  rw[List.getElem_append_right (by omega)];simp[hl]
 exact Prod.ext this rfl
theorem getJ_ne {ks:List (List UInt8)} {its:List JV} {k key:List UInt8} {v:JV} (hl:ks.length=its.length) (h:k≠key):za2 (job (ks++[k]) (its++[v])) key=za2 (job ks its) key:=by
 by_cases hm:key∈ks
 ·obtain⟨i,hi,hall⟩:∃i:Nat,ks[i]? = some key/\∀j:Nat,j<i->ks[j]?≠some key:=by
   obtain⟨i,hi,e⟩:=List.mem_iff_getElem.1 hm;have h1:ks[i]? = some key:=by rw[zo hi,e]
   have h2:=zgd h1;exact⟨zgv key ks,zeW (by omega),fun j hj e2=>by have:=zgd e2;omega⟩
  have hil:=(zh.1 hi).1;have h1:=zjG (v:=job ks its) (key:=key) (i:=i) rfl hi (by show i<its.length;omega) (fun j hj=>.inl (hall j hj));have h2:=zjG (v:=job (ks++[k]) (its++[v])) (key:=key) (i:=i) rfl (by show (ks++[k])[i]? = _;rw[zp hil];exact hi) (by show i<(its++[v]).length;simp;omega) (fun j hj=>.inl (by
   show (ks++[k])[j]?≠_;rw[zp (by omega)];exact hall j hj))
  rw[h1,h2];exact Prod.ext (List.getElem_append_left (by omega)) rfl
 ·rw[zgh hm,zgh (by
   intro h2;rcases zt.1 h2 with h2|h2
   ·exact hm h2
   ·rw[jt] at h2;exact h h2.symm)]
theorem ze7 {ks:List (List UInt8)} {its:List JV} {key:List UInt8} {v:JV} (hl:ks.length=its.length):(zgz ks key v).length=(zgA its v).length:=by
 unfold zgz zgA;split<;>simp[hl]
theorem zfB {ks:List (List UInt8)} {its:List JV} {key:List UInt8} {v:JV} (hl:ks.length=its.length) (h:key∉ks):za2 (job (zgz ks key v) (zgA its v)) key=if zde v=true then (v,true) else (jvZ,false):=by
 unfold zgz zgA
 by_cases c:zde v=true
 ·rw[if_pos c,if_pos c,if_pos c];exact zgg hl h
 ·rw[if_neg c,if_neg c,if_neg c];exact zgh h
theorem zaG {ks:List (List UInt8)} {its:List JV} {k key:List UInt8} {v:JV} (hl:ks.length=its.length) (h:k≠key):za2 (job (zgz ks k v) (zgA its v)) key=za2 (job ks its) key:=by
 unfold zgz zgA
 by_cases c:zde v=true
 ·rw[if_pos c,if_pos c];exact getJ_ne hl h
 ·rw[if_neg c,if_neg c]
theorem zdE {ks:List (List UInt8)} {k key:List UInt8} {v:JV} (h:key∉ks) (hn:k≠key):key∉zgz ks k v:=by
 unfold zgz
 split
 ·intro h2;rcases zt.1 h2 with h2|h2
  ·exact h h2
  ·rw[jt] at h2;exact hn h2.symm
 ·exact h
end
section
attribute [local irreducible] run
def PrOk (null:Bool) (p:PrP):Prop:=p.nul=true->null=true/\p.val=[]
end
section
attribute [local irreducible] run
theorem zbu {s:List UInt8} (hs:s.length<=1048576) (ρ:Rs):(zad s ρ).1.2.1.length<=1048576:=by
 unfold zad
 split
 ·exact zd _
 split
 ·exact zd _
 ·rename_i h;have h:(zbo s ρ.pos).2.2=0:=by simpa using h
  by_cases h0:0<=ρ.pos
  ·have:=(zhJ h0 h).2.1;show (zbo s ρ.pos).1.2.1.length<=_;omega
  ·exfalso;unfold zbo at h;rw[if_pos (.inl (by omega))] at h;exact absurd h (by decide)
theorem zbX {k:Int} {t:List UInt8} (hk:(Lit.int .i64 k).wf=true) (ht:t.length<=1048576):JOk (.mk k t [] []):=by
 rw[JOk];exact⟨hk,by omega,by simp,by simp,by simp,by rw[zdj];trivial⟩
theorem zfz:∀{a b:List JV},zdj a->zdj b->zdj (a++b)
 | [],b,_,hb=>hb
 | v::l,b,ha,hb=>by
  rw[zdj] at ha;rw[qw,zdj];exact⟨ha.1,zfz ha.2 hb⟩
def OkV (val:Rs->Tk->JV×Rs):Prop:=∀ρ t,t.2.1.length<=1048576->JOk (val ρ t).1
theorem zkl {s:List UInt8} (hs:s.length<=1048576) {val:Rs->Tk->JV×Rs} (hv:OkV val):∀(n:Nat) (ρ:Rs) (t:Tk) (acc:List JV),t.2.1.length<=1048576->zdj acc->zdj (zcs s val n ρ t acc).1
 | 0,ρ,t,acc,_,h=>h
 | n+1,ρ,t,acc,ht,h=>by
  rw[zcs]
  split
  ·exact h
  dsimp only;have h1:=hv ρ t ht;generalize val ρ t=a at h1 ⊢;have h2:zdj (acc++[a.1]):=zfz h (by rw[zdj,zdj];exact⟨h1,trivial⟩)
  split
  ·exact h2
  ·exact zkl hs hv n _ _ _ (zbu hs _) h2
theorem zj7 {s:List UInt8} (hs:s.length<=1048576) {val:Rs->Tk->JV×Rs} (hv:OkV val):∀(n:Nat) (ρ:Rs) (t:Tk) (ks:List (List UInt8)) (its:List JV),t.2.1.length<=1048576->(∀k∈ks,k.length<=1048576)->zdj its->zdj (zbM s val n ρ t ks its).1.2/\∀k∈(zbM s val n ρ t ks its).1.1,k.length<=1048576
 | 0,ρ,t,ks,its,_,hk,h=>⟨h,hk⟩
 | n+1,ρ,t,ks,its,ht,hk,h=>by
  rw[zbM]
  split
  ·exact⟨h,hk⟩
  dsimp only;generalize zad s (zki ρ t ks)=a;have hb:=zbu hs (za1 a.2 a.1 58);generalize zad s (za1 a.2 a.1 58)=b at hb ⊢;have h1:=hv b.2 b.1 hb;generalize val b.2 b.1=v at h1 ⊢;have h2:zdj (its++[v.1]):=zfz h (by rw[zdj,zdj];exact⟨h1,trivial⟩);have hk2:∀k∈ks++[t.2.1],k.length<=1048576:=by
   intro k hm;rcases zt.1 hm with hm|hm
   ·exact hk k hm
   ·rw[jt] at hm;subst hm;exact ht
  generalize zad s v.2=c
  split
  ·exact⟨h2,hk2⟩
  ·exact zj7 hs hv n _ _ _ _ (zbu hs _) hk2 h2
theorem word_wf (l:List UInt8):(Lit.int .i64 (zfj l)).wf=true:=by
 unfold zfj
 split
 ·decide
 split
 ·decide
 ·decide
theorem zkw (l:List UInt8):(zcG l).2.length<=100:=by
 unfold zcG
 split
 ·exact zd _
 ·exact can_len _ _
theorem zfW {s:List UInt8} (hs:s.length<=1048576):∀(f d:Nat),OkV (fun ρ t=>zau s f ρ t d)
 | 0,d=>fun ρ t _=>zbX (by decide) (zd _)
 | f+1,d=>fun ρ t ht=>by
  dsimp only;rw[zau]
  split
  ·exact zbX (by decide) (zd _)
  split
  ·exact zbX (by decide) (zd _)
  split
  ·exact zbX (by decide) (zd _)
  split
  ·exact zbX (word_wf _) (zd _)
  split
  ·unfold zgu;dsimp only
   split
   ·exact zbX (by decide) (zd _)
   ·have h1:=zkl hs (zfW hs f (d+1)) (s.length+2) (zad s (zaN ρ t)).2 (zad s (zaN ρ t)).1 [] (zbu hs _) (by rw[zdj];trivial);have h2:=(zhx (s:=s) (zdo hs f (d+1)) (s.length+2) (zad s (zaN ρ t)).2 (zad s (zaN ρ t)).1 [] (by rw[zcE];trivial)).2;rw[JOk];simp only[qk] at h2;exact⟨by decide,by simp,by simp,by simp,by omega,h1⟩
  split
  ·unfold zgB;dsimp only
   split
   ·exact zbX (by decide) (zd _)
   ·obtain⟨h1,h3⟩:=zj7 hs (zfW hs f (d+1)) (s.length+2) (zad s (zaN ρ t)).2 (zad s (zaN ρ t)).1 [] [] (zbu hs _) (by simp) (by rw[zdj];trivial);have h2:=(zht (s:=s) (zdo hs f (d+1)) (s.length+2) (zad s (zaN ρ t)).2 (zad s (zaN ρ t)).1 [] [] (by rw[zcE];trivial)).2;rw[JOk];simp only[qk] at h2;exact⟨by decide,by simp,by have:=h2.2;omega,fun k hm=>by have:=h3 k hm;omega,by have:=h2.1;omega,h1⟩
  split
  ·exact zbX (by decide) (by have:=zkw t.2.1;omega)
  ·exact zbX (by decide) ht
theorem zmN {s:List UInt8} (hs:s.length<=1048576):JOk (zbQ s).1:=by
 unfold zbQ;rw[if_neg (by omega)];dsimp only;generalize hρ:(if (zad s (zau s 65 (zad s rs0).2 (zad s rs0).1 0).2).2.fail=0/\¬(zad s (zau s 65 (zad s rs0).2 (zad s rs0).1 0).2).1.1=1 then zaV (zad s (zau s 65 (zad s rs0).2 (zad s rs0).1 0).2).2 (zad s (zau s 65 (zad s rs0).2 (zad s rs0).1 0).2).1.2.2 140 else (zad s (zau s 65 (zad s rs0).2 (zad s rs0).1 0).2).2)=ρ
 by_cases c:¬ρ.fail=0
 ·rw[if_pos c];exact zbX (by decide) (zd _)
 ·rw[if_neg c];exact zfW hs 65 0 _ _ (zbu hs _)
end
section
attribute [local irreducible] run
def PrF (null:Bool) (p:PrP):Prop:=PrOk null p/\p.name.length<=140737488351232/\p.val.length<=140737488351232
def PsF (null:Bool) (l:List PrP):Prop:=l.length<=64/\∀p∈l,PrF null p
structure LkF (x:LkP):Prop where
 rel:x.rel.length<=140737488351232
 typ:x.typ.length<=140737488351232
 href:x.href.length<=140737488351232
 tmp:x.tmp.length<=140737488351232
 tit:PsF false x.tit
 pro:PsF true x.pro
structure JrF (subj:List UInt8) (al:List (List UInt8)) (pr:List PrP) (lk:List LkP):Prop where
 sl:subj.length<=140737488351232
 aln:al.length<=64
 alb:∀a∈al,a.length<=140737488351232
 prf:PsF true pr
 lkn:lk.length<=64
 lkf:∀x∈lk,LkF x
theorem PsF.ok {null:Bool} {l:List PrP} (h:PsF null l):∀p∈l,PrOk null p:=fun p hp=>(h.2 p hp).1
/-! what a decoder gives is as it should be, if there was no error -/
theorem JOk.txt {v:JV} (h:JOk v):v.text.length<=140737488351232:=h.lens.2.2.1
/-! the value that was made is a value that may be decoded -/
structure ObF (ks:List (List UInt8)) (its:List JV) (n:Nat):Prop where
 kl:ks.length<=n
 il:its.length<=n
 kb:∀k∈ks,k.length<=140737488351232
 ok:zdj its
 bd:zcE its
theorem ObF.nil:ObF [] [] 0:=⟨ze 0,ze 0,by simp,by rw[zdj];trivial,by rw[zcE];trivial⟩
theorem ObF.snoc {ks:List (List UInt8)} {its:List JV} {n:Nat} {key:List UInt8} {v:JV} (h:ObF ks its n) (hk:key.length<=140737488351232) (hv:JOk v/\JBd v):ObF (ks++[key]) (its++[v]) (n+1) :=
 ⟨by have:=h.kl;simp;exact this,by have:=h.il;simp;exact this,fun k hm=>by
  rcases zt.1 hm with hm|hm
  ·exact h.kb k hm
  ·rw[jt] at hm;subst hm;exact hk,zfz h.ok (by rw[zdj,zdj];exact⟨hv.1,trivial⟩),zfA h.bd (by rw[zcE,zcE];exact⟨hv.2,trivial⟩)⟩
theorem ObF.add {ks:List (List UInt8)} {its:List JV} {n:Nat} {key:List UInt8} {v:JV} (h:ObF ks its n) (hk:key.length<=140737488351232) (hv:JOk v/\JBd v):ObF (zgz ks key v) (zgA its v) (n+1):=by
 unfold zgz zgA
 by_cases c:zde v=true
 ·rw[if_pos c,if_pos c];exact h.snoc hk hv
 ·rw[if_neg c,if_neg c];exact⟨Nat.le_succ_of_le h.kl,Nat.le_succ_of_le h.il,h.kb,h.ok,h.bd⟩
theorem ObF.val {ks:List (List UInt8)} {its:List JV} {n:Nat} (h:ObF ks its n) (hn:n<=1000000):JOk (job ks its)/\JBd (job ks its):=by
 have h1:=h.kl;have h2:=h.il;unfold job;rw[JOk,JBd];exact⟨⟨by decide,by simp,by omega,h.kb,by omega,h.ok⟩,by omega,by omega,h.bd⟩
theorem zg0 {s:List UInt8} (h:s.length<=140737488351232):JOk (jtx s)/\JBd (jtx s):=by
 unfold jtx;rw[JOk];exact⟨⟨by decide,h,by simp,by simp,by simp,by rw[zdj];trivial⟩,zbJ _ _⟩
theorem zol:∀{l:List JV},(∀y∈l,JOk y/\JBd y)->zdj l/\zcE l
 | [],_=>by rw[zdj,zcE];exact⟨trivial,trivial⟩
 | v::l,h=>by
  rw[zdj,zcE];have h1:=h v (List.mem_cons_self ..);have h2:=zol fun y hy=>h y (qp _ hy);exact⟨⟨h1.1,h2.1⟩,h1.2,h2.2⟩
theorem zos {l:List JV} (hl:l.length<=1000000) (h:∀y∈l,JOk y/\JBd y):JOk (jar l)/\JBd (jar l):=by
 have h2:=zol h;unfold jar;rw[JOk,JBd];exact⟨⟨by decide,by simp,by simp,by simp,by omega,h2.1⟩,by simp,by omega,h2.2⟩
def PsB (l:List PrP):Prop:=l.length<=1000000/\∀p∈l,p.name.length<=140737488351232/\p.val.length<=140737488351232
theorem PsF.b {null:Bool} {l:List PrP} (h:PsF null l):PsB l:=⟨qq h.1 (by decide),fun p hp=>(h.2 p hp).2⟩
structure LkB (x:LkP):Prop where
 rel:x.rel.length<=140737488351232
 typ:x.typ.length<=140737488351232
 href:x.href.length<=140737488351232
 tmp:x.tmp.length<=140737488351232
 tit:PsB x.tit
 pro:PsB x.pro
theorem LkF.b {x:LkP} (h:LkF x):LkB x:=⟨h.rel,h.typ,h.href,h.tmp,h.tit.b,h.pro.b⟩
structure JrBd (subj:List UInt8) (al:List (List UInt8)) (pr:List PrP) (lk:List LkP):Prop where
 sl:subj.length<=140737488351232
 aln:al.length<=1000000
 alb:∀a∈al,a.length<=140737488351232
 prf:PsB pr
 lkn:lk.length<=1000000
 lkf:∀x∈lk,LkB x
theorem JrF.b {subj:List UInt8} {al:List (List UInt8)} {pr:List PrP} {lk:List LkP} (h:JrF subj al pr lk):JrBd subj al pr lk :=
 ⟨h.sl,qq h.aln (by decide),h.alb,h.prf.b,qq h.lkn (by decide),fun x hx=>(h.lkf x hx).b⟩
end
section
attribute [local irreducible] run
mutual
def JTx:JV->Prop
 | .mk k t ks its=>t.length<=1048576/\zfI its
def zfI:List JV->Prop
 | []=>True
 | v::l=>JTx v/\zfI l
end
theorem zok:∀{l:List JV} (h:zfI l) {i:Nat} (hi:i<l.length),JTx l[i]
 | a::l,h,0,hi=>by rw[zfI] at h;exact h.1
 | a::l,h,i+1,hi=>by rw[zfI] at h;exact zok h.2 (by simpa using hi)
theorem JTx.its {v:JV} (h:JTx v) {i:Nat} (hi:i<v.items.length):JTx v.items[i]:=by
 cases v with
 | mk k t ks its=>rw[JTx] at h;exact zok h.2 hi
theorem JTx.txt {v:JV} (h:JTx v):v.text.length<=1048576:=by
 cases v;rw[JTx] at h;exact h.1
theorem zbW {k:Int} {t:List UInt8} (ht:t.length<=1048576):JTx (.mk k t [] []):=by
 rw[JTx];exact⟨ht,by rw[zfI];trivial⟩
theorem zhN:∀{a b:List JV},zfI a->zfI b->zfI (a++b)
 | [],b,_,hb=>hb
 | v::l,b,ha,hb=>by
  rw[zfI] at ha;rw[qw,zfI];exact⟨ha.1,zhN ha.2 hb⟩
def TxV (val:Rs->Tk->JV×Rs):Prop:=∀ρ t,t.2.1.length<=1048576->JTx (val ρ t).1
theorem zkk {s:List UInt8} (hs:s.length<=1048576) {val:Rs->Tk->JV×Rs} (hv:TxV val):∀(n:Nat) (ρ:Rs) (t:Tk) (acc:List JV),t.2.1.length<=1048576->zfI acc->zfI (zcs s val n ρ t acc).1
 | 0,ρ,t,acc,_,h=>h
 | n+1,ρ,t,acc,ht,h=>by
  rw[zcs]
  split
  ·exact h
  dsimp only;have h1:=hv ρ t ht;generalize val ρ t=a at h1 ⊢;have h2:zfI (acc++[a.1]):=zhN h (by rw[zfI,zfI];exact⟨h1,trivial⟩)
  split
  ·exact h2
  ·exact zkk hs hv n _ _ _ (zbu hs _) h2
theorem zj6 {s:List UInt8} (hs:s.length<=1048576) {val:Rs->Tk->JV×Rs} (hv:TxV val):∀(n:Nat) (ρ:Rs) (t:Tk) (ks:List (List UInt8)) (its:List JV),t.2.1.length<=1048576->zfI its->zfI (zbM s val n ρ t ks its).1.2
 | 0,ρ,t,ks,its,_,h=>h
 | n+1,ρ,t,ks,its,ht,h=>by
  rw[zbM]
  split
  ·exact h
  dsimp only;generalize zad s (zki ρ t ks)=a;have hb:=zbu hs (za1 a.2 a.1 58);generalize zad s (za1 a.2 a.1 58)=b at hb ⊢;have h1:=hv b.2 b.1 hb;generalize val b.2 b.1=v at h1 ⊢;have h2:zfI (its++[v.1]):=zhN h (by rw[zfI,zfI];exact⟨h1,trivial⟩);generalize zad s v.2=c
  split
  ·exact h2
  ·exact zj6 hs hv n _ _ _ _ (zbu hs _) h2
theorem zfV {s:List UInt8} (hs:s.length<=1048576):∀(f d:Nat),TxV (fun ρ t=>zau s f ρ t d)
 | 0,d=>fun ρ t _=>zbW (zd _)
 | f+1,d=>fun ρ t ht=>by
  dsimp only;rw[zau]
  split
  ·exact zbW (zd _)
  split
  ·exact zbW (zd _)
  split
  ·exact zbW (zd _)
  split
  ·exact zbW (zd _)
  split
  ·unfold zgu;dsimp only
   split
   ·exact zbW (zd _)
   ·have h1:=zkk hs (zfV hs f (d+1)) (s.length+2) (zad s (zaN ρ t)).2 (zad s (zaN ρ t)).1 [] (zbu hs _) (by rw[zfI];trivial);rw[JTx];exact⟨by simp,h1⟩
  split
  ·unfold zgB;dsimp only
   split
   ·exact zbW (zd _)
   ·have h1:=zj6 hs (zfV hs f (d+1)) (s.length+2) (zad s (zaN ρ t)).2 (zad s (zaN ρ t)).1 [] [] (zbu hs _) (by rw[zfI];trivial);rw[JTx];exact⟨by simp,h1⟩
  split
  ·exact zbW (by have:=zkw t.2.1;omega)
  ·exact zbW ht
theorem zmM {s:List UInt8} (hs:s.length<=1048576):JTx (zbQ s).1:=by
 unfold zbQ;rw[if_neg (by omega)];dsimp only;generalize hρ:(if (zad s (zau s 65 (zad s rs0).2 (zad s rs0).1 0).2).2.fail=0/\¬(zad s (zau s 65 (zad s rs0).2 (zad s rs0).1 0).2).1.1=1 then zaV (zad s (zau s 65 (zad s rs0).2 (zad s rs0).1 0).2).2 (zad s (zau s 65 (zad s rs0).2 (zad s rs0).1 0).2).1.2.2 140 else (zad s (zau s 65 (zad s rs0).2 (zad s rs0).1 0).2).2)=ρ
 by_cases c:¬ρ.fail=0
 ·rw[if_pos c];exact zbW (zd _)
 ·rw[if_neg c];exact zfV hs 65 0 _ _ (zbu hs _)
theorem jtx_z:JTx jvZ:=by rw[jvZ,JTx];exact⟨by simp,by rw[zfI];trivial⟩
theorem zjF {v:JV} (hv:JTx v) (key:List UInt8):JTx (za2 v key).1:=by
 unfold za2
 split
 ·split
  ·rename_i x hx;obtain⟨hi,rfl⟩:=zh.1 hx;exact hv.its hi
  ·exact jtx_z
 ·exact jtx_z
end
section
attribute [local irreducible] run
def vB14 (X Y:AV):OB:=.box 25 [.i .i64 7,.s [],X,Y]
section
variable [Tabs Tryz.prog] {objs:List OB} {K:List OB->AV->Prop} {L:List (Nat×OB)}
theorem znd {X Y:AV} {R1 R2:List (Nat×OB)} (ks:List (List UInt8)) (its:List JV) (key:List UInt8) (hl:its.length=ks.length) (hlen0:ks.length<=10000000) (hX:SlO 9 1 ks.length (ks.map .s) X R1) (hY:SlO 25 4 its.length (zac its) Y R2) (hO:zaL (R1++(R2++L)) objs)
  (h1:key∈ks->∀o w,zaL (R1++(R2++L)) o->K o (.tup [.agg (zak w),.b true])) (h2:¬key∈ks->∀o,zaL (R1++(R2++L)) o->K o (.tup [.agg [.i .i64 0,.s [],.nil,.nil],.b false])):zae Tryz.prog 42 [.agg [.i .i64 7,.s [],X,Y],.s key] objs K:=by
 refine zcX is_ref14_Get fun C _=>?_;rw[c_ref14_Get];have hO2:=(hO.new (vB14 X Y)).new zvB;unfold vB14 zvB at hO2;refine zaa fun Z hZ=>?_;have flatX:X.flat=true:=by rcases hX with ⟨_,_,rfl,_⟩|⟨_,_,rfl,_⟩<;>rfl
 have flatY:Y.flat=true:=by rcases hY with ⟨_,_,rfl,_⟩|⟨_,_,rfl,_⟩<;>rfl
 have flatV:(AV.agg [.i .i64 7,.s [],X,Y]).flat=true:=by
  rcases hX with ⟨_,_,rfl,_⟩|⟨_,_,rfl,_⟩<;>rcases hY with ⟨_,_,rfl,_⟩|⟨_,_,rfl,_⟩<;>rfl
 simp only[sxZ,z6,z7,z8,j4,j5,j6,j7,j8,j9,x6,x7,x8,x9,y4,y5,reduceCtorEq,↓reduceIte,flatV];have elen:(objs++[OB.box 25 [.i .i64 7,.s [],X,Y]]).length=objs.length+1:=by simp
 rw[elen] at hO2;generalize objs.length=qv at hO2 ⊢;generalize objs++[OB.box 25 [.i .i64 7,.s [],X,Y]]++[OB.box 25 [.i .i64 0,.s [],.nil,.nil]]=o at hO2 ⊢;have e0:=hO2.get (i:=qv) (x:=.box 25 [.i .i64 7,.s [],X,Y]) (by simp);have e1:=hO2.get (i:=qv+1) (x:=.box 25 [.i .i64 0,.s [],.nil,.nil]) (by simp);have gs:∀x,(o.set (qv+1) x)[qv+1]? = some x:=fun x=>zk (hO2.lt (i:=qv+1) (x:=.box 25 [.i .i64 0,.s [],.nil,.nil]) (by simp));have fin:∀x,zaL (R1++(R2++L)) (o.set (qv+1) x):=fun x=>(zaL.set (A:=[]) x hO2).sub ((jo _ _).trans (jo _ _));subst hZ;refine zaa fun Z hZ=>?_;simp only[sxZ,z6,z7,z8,j4,j5,j6,j7,j8,j9,x6,x7,x8,x9,y4,y5,reduceCtorEq,↓reduceIte,e0,decide_true,Bool.not_true];subst hZ;refine zaa fun Z hZ=>?_;refine zaa fun W hW=>?_;refine zaD (fun o' tm=>o=o'/\tm.length=38/\tm[1]? = some (.s key)/\tm[2]? = some (.p qv 0)/\tm[4]? = some (.p (qv+1) 0)/\tm[13]? = some (.i .i64 (ks.length:Int))/\tm[14]? = some (.i .i64 0)) ?_ ?_
 ·rcases id hX with ⟨z1,z2,rfl,_⟩|⟨b1,g1,rfl,rfl⟩
  ·simp only[sxZ,z6,z7,z8,j4,j5,j6,j7,j8,j9,x6,x7,x8,x9,y4,y5,reduceCtorEq,↓reduceIte,zab,e0,z1,y8,and_self]
  ·have eb1:=hO2.get (i:=b1) (x:=.orow 9 1 g1 ks.length (ks.map .s)) (by simp);simp only[sxZ,z6,z7,z8,j4,j5,j6,j7,j8,j9,x6,x7,x8,x9,y4,y5,reduceCtorEq,↓reduceIte,zab,e0,eb1,and_self]
 rintro _ tm ⟨rfl,hlen,t1,t2,t4,t13,t14⟩;subst hW;rw[zaR];refine zaH (fun n o' tm=>∃i:Nat,i<=ks.length/\n=ks.length - i/\o=o'/\(∀j,j<i->ks[j]?≠some key)/\tm.length=38/\tm[1]? = some (.s key)/\tm[2]? = some (.p qv 0)/\tm[4]? = some (.p (qv+1) 0)/\tm[13]? = some (.i .i64 (ks.length:Int))/\tm[14]? = some (.i .i64 (i:Int))) ks.length ⟨0,zd _,rfl,rfl,fun j h=>by omega,hlen,t1,t2,t4,t13,t14⟩ ?_;clear hlen t1 t2 t4 t13 t14;rintro n _ tm ⟨i,hi,rfl,rfl,hall,hlen,t1,t2,t4,t13,t14⟩;refine zaa fun W hW=>?_
 by_cases hlt:(i:Int)<(ks.length:Int)
 ·have hi':i<ks.length:=by omega
  have hi2:i<its.length:=by omega
  rcases hX with ⟨z1,_⟩|⟨b1,g1,rfl,rfl⟩
  ·omega
  rcases hY with ⟨z1,_⟩|⟨b2,g2,rfl,rfl⟩
  ·omega
  have eb1:=hO2.get (i:=b1) (x:=.orow 9 1 g1 ks.length (ks.map .s)) (by simp);have eb2:=hO2.get (i:=b2) (x:=.orow 25 4 g2 its.length (zac its)) (by simp);have kv:(ks.map AV.s)[i*1]? = some (.s ks[i]):=by rw[Nat.mul_one,qx,zo hi'];rfl
  have kv2:ks[i]? = some ks[i]:=zo hi';have kv3:ks[i]∈ks:=jn hi';generalize ks[i]=x at kv kv2 kv3;simp only[sxZ,z6,z7,z8,j4,j5,j6,j7,j8,j9,x6,x7,x8,x9,y4,y5,reduceCtorEq,↓reduceIte,za,hlen,t1,t2,t4,t13,t14,hlt];subst hW;refine zaa fun W hW=>?_;simp only[sxZ,z6,z7,z8,j4,j5,j6,j7,j8,j9,x6,x7,x8,x9,y4,y5,reduceCtorEq,↓reduceIte,za,hlen];subst hW;refine zaa fun V hV=>?_;rw[zaR];refine zaa fun W hW=>?_;simp only[sxZ,z6,z7,z8,j4,j5,j6,j7,j8,j9,x6,x7,x8,x9,y4,y5,reduceCtorEq,↓reduceIte,za,hlen,t14];subst hW;refine zaa fun W hW=>?_
  by_cases c2:x=key
  ·have hlt2:(i:Int)<(its.length:Int):=by omega
   have jv:=zhQ hi2;have jvl:=zaE its;have hw:=fun o ho=>h1 (by rw[<-c2];exact kv3) o its[i] ho;have hq:=zaf its[i];rw[hq] at jv;simp only[sxZ,z6,z7,z8,j4,j5,j6,j7,j8,j9,x6,x7,x8,x9,y4,y5,reduceCtorEq,↓reduceIte,za,hlen,t1,t2,e0,eb1,eb2,kv,qo,c2,hlt2,decide_true];refine⟨⟨by omega,by omega⟩,?_⟩;subst hW;simp only[sxZ,z6,z7,z8,j4,j5,j6,j7,j8,j9,x6,x7,x8,x9,y4,y5,reduceCtorEq,↓reduceIte,za,hlen,t1,t2,t4,e0,e1,eb2,jv,gs];refine⟨⟨by omega,by omega⟩,by omega,?_⟩;rw[<-hq];exact hw _ (fin _)
  ·simp only[sxZ,z6,z7,z8,j4,j5,j6,j7,j8,j9,x6,x7,x8,x9,y4,y5,reduceCtorEq,↓reduceIte,za,hlen,t1,t2,e0,eb1,kv,qo,c2,decide_false];refine⟨⟨by omega,by omega⟩,?_⟩;subst hW;simp only[sxZ,z6,z7,z8,j4,j5,j6,j7,j8,j9,x6,x7,x8,x9,y4,y5,reduceCtorEq,↓reduceIte,za,hlen,t1,t2,t4];subst hV;simp only[sxZ,z6,z7,z8,j4,j5,j6,j7,j8,j9,x6,x7,x8,x9,y4,y5,reduceCtorEq,↓reduceIte,za,hlen,t1,t2,t4,t13,t14];refine⟨by omega,ks.length - (i+1),by omega,i+1,by omega,rfl,fun j hj=>?_,rfl⟩
   by_cases e:j=i
   ·subst e;rw[kv2];intro h;injection h with h;exact c2 h
   ·exact hall j (by omega)
 simp only[sxZ,z6,z7,z8,j4,j5,j6,j7,j8,j9,x6,x7,x8,x9,y4,y5,reduceCtorEq,↓reduceIte,za,hlen,t1,t2,t4,t13,t14,hlt];subst hW;subst hZ;simp only[sxZ,z6,z7,z8,j4,j5,j6,j7,j8,j9,x6,x7,x8,x9,y4,y5,reduceCtorEq,↓reduceIte,za,hlen,t1,t2,t4,t13,t14,hlt,e1,gs];refine h2 (fun h=>?_) _ (fin _);obtain⟨j,hj⟩:=List.mem_iff_getElem?.1 h;exact hall j (by have:=(zh.1 hj).1;omega) hj
end
end
section
attribute [local irreducible] run
theorem zjN {i:Nat} {T T':Nat} {cs cs':List AV} {L:List (Nat×OB)} (h:zaK ((i,.box T cs)::L)) (hp:zap cs'=true):zaK ((i,.box T' cs')::L):=by
 intro y hy b g n xs hb;rcases zv.1 hy with rfl|hy
 ·show OB.box T' _=_;rw[zdT hp]
 ·exact h y (qp _ hy) b g n xs fun y hy=>by
   rcases zv.1 hy with rfl|hy
   ·exact hb (i,.box T' cs') (by simp)
   ·exact hb y (qp _ hy)
theorem zgr {p:Nat} {s:List UInt8} {ρ ρ':Rs} {L:List (Nat×OB)} (h:zaK ((p,zaJ s ρ)::L)):zaK ((p,zaJ s ρ')::L):=zjN h rfl
theorem zha {E1 s1 n1 E2 s2 n2:Nat} {x1 x2:List AV} {X Y:AV} {R1 R2 L:List (Nat×OB)} {p qt qv qr:Nat} {s:List UInt8} {ρ ρ':Rs} {T:Tk} {k:Int} (h1:SlO E1 s1 n1 x1 X R1) (h2:SlO E2 s2 n2 x2 Y R2) (h:zaK ((p,zaJ s ρ)::L)):zaK ((p,zaJ s ρ')::(qt,za0 T)::(qv,jvB k X Y)::(qr,zvB)::(R1++(R2++L))):=by
 intro y hy b g m ys hb;simp only[zv,zt] at hy;rcases hy with rfl|rfl|rfl|rfl|hy|hy|hy
 ·exact congrArg (OB.box _) (zdT rfl)
 ·exact congrArg (OB.box _) (zdT rfl)
 ·have q1:=zjh h1 (b:=b) (g:=g) (m:=m) (ys:=ys) fun y hy=>hb y (by simp[hy]);have q2:=zjh h2 (b:=b) (g:=g) (m:=m) (ys:=ys) fun y hy=>hb y (by simp[hy]);show OB.box _ _=_;simp only[zl,zu,q1,q2]
  rfl
 ·exact congrArg (OB.box _) (zdT rfl)
 ·rcases h1 with ⟨_,_,_,rfl⟩|⟨b',g',_,rfl⟩
  ·cases hy
  ·simp only[zv,jw,or_false] at hy;subst hy;rfl
 ·rcases h2 with ⟨_,_,_,rfl⟩|⟨b',g',_,rfl⟩
  ·cases hy
  ·simp only[zv,jw,or_false] at hy;subst hy;rfl
 ·refine h y (qp _ hy) b g m ys fun z hz=>?_;rcases zv.1 hz with rfl|hz
  ·exact hb (p,zaJ s ρ') (by simp)
  ·exact hb z (by simp[hz])
section
variable [Tabs Tryz.prog] [Utf Tryz.prog] {objs:List OB} {K:List OB->AV->Prop} {L:List (Nat×OB)} {p:Nat} {s:List UInt8} {ρ:Rs}
def ValK (s:List UInt8) (p:Nat) (d:Nat) (val:Rs->Tk->JV×Rs):Prop :=
 ∀{objs:List OB} {K:List OB->AV->Prop} {L:List (Nat×OB)} {ρ:Rs} (t:Tk),GB s ρ->GT ρ t->t.2.1.length<=s.length->zaK ((p,zaJ s ρ)::L)->zaL ((p,zaJ s ρ)::L) objs->(∀o,zaL ((p,zaJ s (val ρ t).2)::L) o->K o (.agg (zak (val ρ t).1)))->zae Tryz.prog 20 [.p p 0,zh9 t,.i .i64 (d:Int)] objs K
omit [Tabs Tryz.prog] [Utf Tryz.prog] in
theorem zbI (h:GB s ρ):(zad s ρ).1.2.1.length<=s.length:=by
 unfold zad
 split
 ·exact zd _
 split
 ·exact zd _
 ·rename_i h1 h2;have:=zhJ (s:=s) h.p0 (by simpa using h2);exact this.2.1
theorem array_k {val:Rs->Tk->JV×Rs} {d:Nat} (hv:ValK s p d val) (hg:GV s val) (hn:∀ρ t,(val ρ t).2.fail=0->ρ.nodes+1<=(val ρ t).2.nodes) (hs:s.length<=1048576) (hB:GB s ρ) (hC:zaK ((p,zaJ s ρ)::L)) (hO:zaL ((p,zaJ s ρ)::L) objs)
  (hk:∀o,zaL ((p,zaJ s (zgu s val ρ).2)::L) o->K o (.agg (zak (zgu s val ρ).1))):zae Tryz.prog 61 [.p p 0,.i .i64 (d:Int)] objs K:=by
 refine znb (E1:=9) (s1:=1) (E2:=25) (s2:=4) (zgu s val ρ).1 (zgr hC) hk ?_;refine zcX is_ref14_parser_array fun C _=>?_;have fin:∀{o:List OB} {ρ':Rs} {acc:List JV} {X:AV} {R:List (Nat×OB)} {qt qv qr:Nat} {T V W:OB},zgu s val ρ=(.mk 6 [] [] acc,ρ')->SlO 25 4 acc.length (zac acc) X R->zaL ((p,zaJ s ρ')::(qt,T)::(qv,V)::(qr,W)::(R++L)) o ->
   ∃X' R1 Y R2,SlO 9 1 (zgu s val ρ).1.keys.length ((zgu s val ρ).1.keys.map .s) X' R1/\SlO 25 4 (zgu s val ρ).1.items.length (zac (zgu s val ρ).1.items) Y R2/\zaL ((p,zaJ s (zgu s val ρ).2)::(R1++(R2++L))) (o.set qr (jvB 6 .nil X))/\AV.agg [.i .i64 6,.s [],.nil,X]=.agg [.i .i64 (zgu s val ρ).1.kind,.s (zgu s val ρ).1.text,X',Y]:=by
  intro o ρ' acc X R qt qv qr T V W he hS hO;rw[he];refine⟨.nil,[],X,R,.inl ⟨rfl,rfl,rfl,rfl⟩,hS,?_,rfl⟩;exact(zaL.set (A:=[(p,zaJ s ρ'),(qt,T),(qv,V)]) (jvB 6 .nil X) hO).sub ((((jo _ _).trans (jo _ _)).trans (jo _ _)).cons_cons _)
 rw[c_ref14_parser_array];refine zaa fun Y hY=>?_;simp only[sxZ,z6,z7,z8,j4,j5,j6,j7,j8,j9,x6,x7,x8,x9,y4,y5,reduceCtorEq,↓reduceIte];have hO1:=hO.new zvB;unfold zvB at hO1;generalize hqr:objs.length=qr at hO1 ⊢;generalize objs++[OB.box 25 [.i .i64 0,.s [],.nil,.nil]]=o1 at hO1 ⊢;subst hY;refine zaa fun Y hY=>?_;simp only[sxZ,z6,z7,z8,j4,j5,j6,j7,j8,j9,x6,x7,x8,x9,y4,y5,reduceCtorEq,↓reduceIte,gn1,sn1];have hO2:=hO1.new (jvB 6 .nil .nil);unfold jvB at hO2;generalize hqv:o1.length=qv at hO2 ⊢;generalize o1++[OB.box 25 [.i .i64 6,.s [],.nil,.nil]]=o2 at hO2 ⊢;subst hY;refine zaa fun Y hY=>?_;simp only[sxZ,z6,z7,z8,j4,j5,j6,j7,j8,j9,x6,x7,x8,x9,y4,y5,reduceCtorEq,↓reduceIte];have hO2':zaL ((p,zaJ s ρ)::(qv,jvB 6 .nil .nil)::(qr,zvB)::L) o2:=hO2.perm ((ja.cons _ (ja.swap _ _ _)).trans (ja.swap _ _ _));refine zah (zcF (by omega) hO2' fun o3 hO3=>?_);have hB1:=zbp hB;have hT1:=zbI hB;have hrarr:zgu s val ρ=if isP (zad s ρ).1 93=true then (.mk 6 [] [] [],(zad s ρ).2) else (.mk 6 [] [] (zcs s val (s.length+2) (zad s ρ).2 (zad s ρ).1 []).1,(zcs s val (s.length+2) (zad s ρ).2 (zad s ρ).1 []).2):=rfl
 have hn0:=zbh s ρ;generalize zad s ρ=N at hO3 hB1 hT1 hrarr hn0 ⊢;obtain⟨T,ρ1⟩:=N;simp only at hO3 hB1 hT1 hrarr hn0 ⊢;unfold zh9 tkC;simp only[sxZ,z6,z7,z8,j4,j5,j6,j7,j8,j9,x6,x7,x8,x9,y4,y5,reduceCtorEq,↓reduceIte,gn1,sn1];have f1:∀x y z,OB.box 56 [.i .i64 x,.s y,.i .i64 z]=za0 (x,y,z):=fun _ _ _=>rfl;rw[f1];have hO4:=hO3.new (za0 T);have hO4:zaL ((p,zaJ s ρ1)::(o3.length,za0 T)::(qv,jvB 6 .nil .nil)::(qr,zvB)::([]++L)) (o3++[za0 T]):=hO4.perm (ja.swap _ _ _);generalize o3.length=qt at hO4 ⊢;generalize o3++[za0 (T.1,T.2.1,T.2.2)]=o4 at hO4 ⊢;have st:∀(o:List OB) (ρ':Rs) (T':Tk) (X:AV) (R:List (Nat×OB)),zaL ((p,zaJ s ρ')::(qt,za0 T')::(qv,jvB 6 .nil X)::(qr,zvB)::(R++L)) o->o[p]? = some (.box 53 [.s s,.i .i64 ρ'.pos,.i .i64 (ρ'.nodes:Int),.i .i64 ρ'.fail,.i .i64 ρ'.wh])/\o[qt]? = some (.box 56 [.i .i64 T'.1,.s T'.2.1,.i .i64 T'.2.2])/\o[qv]? = some (.box 25 [.i .i64 6,.s [],.nil,X])/\o[qr]? = some (.box 25 [.i .i64 0,.s [],.nil,.nil])/\(∀x,(o.set qr x)[qr]? = some x)/\(∀x,(o.set qt x)[qt]? = some x)/\(∀x,(o.set qv x)[qv]? = some x) :=
  fun o ρ' T' X R h=>⟨h.get (by simp[zaJ]),h.get (by simp[za0,tkC]),h.get (by simp[jvB]),h.get (by simp[zvB]),fun x=>zk (h.lt (i:=qr) (x:=zvB) (by simp)),fun x=>zk (h.lt (i:=qt) (x:=za0 T') (by simp)),fun x=>zk (h.lt (i:=qv) (x:=jvB 6 .nil X) (by simp))⟩
 subst hY;refine zaa fun Y hY=>?_;obtain⟨e1,e2,e3,e4,s1,s2,s3⟩:=st _ _ _ _ _ hO4;simp only[sxZ,z6,z7,z8,j4,j5,j6,j7,j8,j9,x6,x7,x8,x9,y4,y5,reduceCtorEq,↓reduceIte,e2];refine zah (zfY T 93 ?_)
 cases hcl:isP T 93 with
 | true=>
  rw[hcl,if_pos rfl] at hrarr;simp only[sxZ,z6,z7,z8,j4,j5,j6,j7,j8,j9,x6,x7,x8,x9,y4,y5,reduceCtorEq,↓reduceIte,e3,e4,s1];exact fin hrarr (.inl ⟨rfl,by rw[zan],rfl,rfl⟩) hO4
 | false=>
  rw[hcl,if_neg Bool.false_ne_true] at hrarr;simp only[sxZ,z6,z7,z8,j4,j5,j6,j7,j8,j9,x6,x7,x8,x9,y4,y5,reduceCtorEq,↓reduceIte];subst hY;refine zaa fun Y hY=>?_;clear e1 e2 e3 e4 s1 s2 s3;have last:∀(o:List OB) (ρ':Rs) (T':Tk) (acc:List JV) (X:AV) (R:List (Nat×OB)) (tm:List AV),zgu s val ρ=(.mk 6 [] [] acc,ρ')->SlO 25 4 acc.length (zac acc) X R->zaL ((p,zaJ s ρ')::(qt,za0 T')::(qv,jvB 6 .nil X)::(qr,zvB)::(R++L)) o->True:=fun _ _ _ _ _ _ _ _ _ _=>trivial;simp only[sxZ,z6,z7,z8,j4,j5,j6,j7,j8,j9,x6,x7,x8,x9,y4,y5,reduceCtorEq,↓reduceIte];refine zaH (fun n o tm=>∃(i:Nat) (ρ':Rs) (T':Tk) (acc:List JV) (X:AV) (R:List (Nat×OB)),n=s.length+2 - i/\acc.length=i/\zgu s val ρ=(.mk 6 [] [] (zcs s val n ρ' T' acc).1,(zcs s val n ρ' T' acc).2)/\GB s ρ'/\GT ρ' T'/\T'.2.1.length<=s.length/\(ρ'.fail=0->i<=ρ'.nodes)/\SlO 25 4 acc.length (zac acc) X R/\zaL ((p,zaJ s ρ')::(qt,za0 T')::(qv,jvB 6 .nil X)::(qr,zvB)::(R++L)) o /\
    tm.length=49/\tm[0]? = some (.p p 0)/\tm[1]? = some (.i .i64 (d:Int))/\tm[4]? = some (.p qr 0)/\tm[5]? = some (.p qv 0)/\tm[6]? = some (.p qt 0)) (s.length+2) ⟨0,ρ1,T,[],.nil,[],rfl,rfl,hrarr,hB1.1,hB1.2,hT1,fun _=>zd _,.inl ⟨rfl,by rw[zan],rfl,rfl⟩,hO4,rfl,rfl,rfl,rfl,rfl,rfl⟩ ?_
  clear hO hO1 hO2 hO2' hO3 hO4 hrarr hB1 hT1 hcl hn0;rintro n o tm ⟨i,ρ',T',acc,X,R,rfl,hi,hrarr,hGB,hGT,hTx,hnd,hS,hO,hlen,t0,t1,t4,t5,t6⟩;obtain⟨e1,e2,e3,e4,s1,s2,s3⟩:=st _ _ _ _ _ hO;refine zaa fun Z hZ=>?_
  by_cases c1:ρ'.fail=0
  rotate_left
  ·have he:zcs s val (s.length+2 - i) ρ' T' acc=(acc,ρ'):=by
    cases s.length+2 - i with
    | zero=>rw[zcs]
    | succ m=>rw[zcs,if_pos c1]
   rw[he] at hrarr;simp only[sxZ,z6,z7,z8,j4,j5,j6,j7,j8,j9,x6,x7,x8,x9,y4,y5,reduceCtorEq,↓reduceIte,za,hlen,t0,e1,c1];subst hZ;subst hY;simp only[sxZ,z6,z7,z8,j4,j5,j6,j7,j8,j9,x6,x7,x8,x9,y4,y5,reduceCtorEq,↓reduceIte,za,hlen,t4,t5,e3,e4,s1];exact fin hrarr hS hO
  have hil:i<=s.length:=by
   have h1:=hnd c1;have h2:=hGB.n0 c1;have h3:=hGB.p1;omega
  obtain⟨m,hm⟩:∃m,s.length+2 - i=m+1:=⟨s.length+1 - i,by omega⟩;rw[hm,zcs,if_neg (fun h=>h c1)] at hrarr;simp only at hrarr;simp only[sxZ,z6,z7,z8,j4,j5,j6,j7,j8,j9,x6,x7,x8,x9,y4,y5,reduceCtorEq,↓reduceIte,za,hlen,t0,e1,c1];subst hZ;rw[zaR];refine zaa fun Z hZ=>?_;have hvc:=fun {objs:List OB} {K:List OB->AV->Prop} {L:List (Nat×OB)} (h1) (h2) (h3)=>hv (objs:=objs) (K:=K) (L:=L) (ρ:=ρ') T' hGB hGT hTx h1 h2 h3;have hg1:=hg ρ' T' hGB hGT;have hn1:=hn ρ' T';generalize val ρ' T'=a at hvc hg1 hn1 hrarr;obtain⟨v,ρ2⟩:=a;simp only at hvc hg1 hn1 hrarr;obtain⟨c0,c1',c2,c3,hcv⟩:∃c0 c1 c2 c3,zak v=[c0,c1,c2,c3]:=⟨_,_,_,_,zaf v⟩;have hCL:zaK ((p,zaJ s ρ')::(qt,za0 T')::(qv,jvB 6 .nil X)::(qr,zvB)::(R++L)):=zha (E1:=0) (s1:=0) (R1:=[]) (.inl ⟨rfl,rfl,rfl,rfl⟩) hS hC;refine zaD (fun o tm=>∃X' R',SlO 25 4 (acc++[v]).length (zac (acc++[v])) X' R'/\zaL ((p,zaJ s ρ2)::(qt,za0 T')::(qv,jvB 6 .nil X')::(qr,zvB)::(R'++L)) o/\tm.length=49/\tm[0]? = some (.p p 0)/\tm[1]? = some (.i .i64 (d:Int))/\tm[4]? = some (.p qr 0)/\tm[5]? = some (.p qv 0)/\tm[6]? = some (.p qt 0)) ?_ ?_
  ·simp only[sxZ,z6,z7,z8,j4,j5,j6,j7,j8,j9,x6,x7,x8,x9,y4,y5,reduceCtorEq,↓reduceIte,za,hlen,t0,t1,t5,t6,e2,e3];refine zah (hvc hCL hO fun o2 hO2=>?_);obtain⟨e1',e2',e3',e4',s1',s2',s3'⟩:=st _ _ _ _ _ hO2;rw[hcv];rcases hS with ⟨z1,z2,rfl,rfl⟩|⟨b,g,rfl,rfl⟩
   ·have a0:acc=[]:=jk z1;have hlt:=hO2.lt (i:=qv) (x:=jvB 6 .nil .nil) (by simp);have hne:¬o2.length=qv:=by omega
    have gx:∀x,(o2++[x])[qv]? = some (.box 25 [.i .i64 6,.s [],.nil,.nil]):=fun x=>by rw[zp hlt];exact e3'
    simp only[sxZ,z6,z7,z8,j4,j5,j6,j7,j8,j9,x6,x7,x8,x9,y4,y5,reduceCtorEq,↓reduceIte,za,hlen,t0,t1,t5,t6,e2',e3',gn1,sn1,gx,hne,zab,zi,t4,and_self,and_true];have hN:=hO2.new (.orow 25 4 0 1 [c0,c1',c2,c3]);have hR:=hN.set (A:=[(o2.length,OB.orow 25 4 0 1 [c0,c1',c2,c3]),(p,zaJ s ρ2),(qt,za0 T')]) (jvB 6 .nil (.orow o2.length 0));refine⟨_,[(o2.length,.orow 25 4 0 1 [c0,c1',c2,c3])],.inr ⟨_,_,rfl,by rw[a0,qd,zav,zan,hcv];rfl⟩,hR.perm ?_⟩;exact List.perm_middle (l₁:=[(p,zaJ s ρ2),(qt,za0 T'),(qv,jvB 6 .nil (.orow o2.length 0)),(qr,zvB)]).symm
   ·have e5:=hO2.get (i:=b) (x:=.orow 25 4 g acc.length (zac acc)) (by simp);have hlt:=hO2.lt (i:=qv) (x:=jvB 6 .nil (.orow b g)) (by simp);have hlt4:=hO2.lt (i:=b) (x:=.orow 25 4 g acc.length (zac acc)) (by simp);have hne:¬b=qv:=by
     intro h;have:=hO2.1;simp only[zl,jj,List.nodup_cons] at this;exact this.2.2.1 (by simp[h])
    have gs:∀x,(o2.set b x)[b]? = some x:=fun x=>zk hlt4;have gx:∀x,(o2.set b x)[qv]? = some (.box 25 [.i .i64 6,.s [],.nil,.orow b g]):=fun x=>by rw[zf hne];exact e3'
    have hjl:=zaE acc;simp only[sxZ,z6,z7,z8,j4,j5,j6,j7,j8,j9,x6,x7,x8,x9,y4,y5,reduceCtorEq,↓reduceIte,za,hlen,t0,t1,t5,t6,e2',e3',e5,gs,gx,hne,zab,zi,t4,and_self,and_true];refine⟨⟨by omega,by omega⟩,?_⟩;have hN:=hO2.set (A:=[(p,zaJ s ρ2),(qt,za0 T'),(qv,jvB 6 .nil (.orow b g)),(qr,zvB)]) (.orow 25 4 (g+1) (acc.length+1) (zac acc++[c0,c1',c2,c3]));have hR:=hN.set (A:=[(p,zaJ s ρ2),(qt,za0 T')]) (jvB 6 .nil (.orow b (g+1)));exact⟨_,[(b,.orow 25 4 (g+1) (acc.length+1) (zac acc++[c0,c1',c2,c3]))],.inr ⟨_,_,rfl,by rw[zbT,zav,zan,hcv];rfl⟩,hR⟩
  ·clear hO hS hlen t0 t1 t4 t5 t6 e1 e2 e3 e4 s1 s2 s3 hCL hvc hv hg hn;rintro o5 tm ⟨X',R',hS,hO5,hlen,t0,t1,t4,t5,t6⟩;subst hZ;refine zaa fun Z hZ=>?_;simp only[sxZ,z6,z7,z8,j4,j5,j6,j7,j8,j9,x6,x7,x8,x9,y4,y5,reduceCtorEq,↓reduceIte,za,hlen,t0];refine zah (zcF (by omega) hO5 fun o6 hO6=>?_);have hB2:=zbp hg1;have hT2:=zbI hg1;have hn2:=zbh s ρ2;have hfz:=zcf s ρ2;generalize zad s ρ2=N at hO6 hB2 hT2 hn2 hfz hrarr ⊢;obtain⟨T2,ρ3⟩:=N;simp only at hO6 hB2 hT2 hn2 hfz hrarr ⊢;obtain⟨e1,e2,e3,e4,s1,s2,s3⟩:=st _ _ _ _ _ hO6;unfold zh9 tkC;simp only[sxZ,z6,z7,z8,j4,j5,j6,j7,j8,j9,x6,x7,x8,x9,y4,y5,reduceCtorEq,↓reduceIte,za,hlen,t6,e2,s2];rw[f1];have hO7:=zaL.set (A:=[(p,zaJ s ρ3)]) (za0 T2) hO6;have hO7:zaL ((p,zaJ s ρ3)::(qt,za0 T2)::(qv,jvB 6 .nil X')::(qr,zvB)::(R'++L)) (o6.set qt (za0 (T2.1,T2.2.1,T2.2.2))):=hO7;generalize o6.set qt (za0 (T2.1,T2.2.1,T2.2.2))=o7 at hO7 ⊢;refine zc6 (fun t=>t.length=49/\t[0]? = some (.p p 0)/\t[1]? = some (.i .i64 (d:Int))/\t[4]? = some (.p qr 0)/\t[5]? = some (.p qv 0)/\t[6]? = some (.p qt 0)) ?_ ?_
   ·simp only[sxZ,z6,z7,z8,j4,j5,j6,j7,j8,j9,x6,x7,x8,x9,y4,y5,reduceCtorEq,↓reduceIte,zi,za,hlen,t0,t1,t4,t5,t6,and_self]
   clear hO6 hO5 hlen t0 t1 t4 t5 t6 e1 e2 e3 e4 s1 s2 s3;rintro tm ⟨hlen,t0,t1,t4,t5,t6⟩;obtain⟨e1,e2,e3,e4,s1,s2,s3⟩:=st _ _ _ _ _ hO7;subst hZ;refine zaa fun Z hZ=>?_;simp only[sxZ,z6,z7,z8,j4,j5,j6,j7,j8,j9,x6,x7,x8,x9,y4,y5,reduceCtorEq,↓reduceIte,za,hlen,t6,e2];refine zah (zfY T2 93 ?_)
   cases hcl:isP T2 93 with
   | true=>
    rw[hcl,if_pos rfl] at hrarr;simp only[sxZ,z6,z7,z8,j4,j5,j6,j7,j8,j9,x6,x7,x8,x9,y4,y5,reduceCtorEq,↓reduceIte,za,hlen,t4,t5,e3,e4,s1];exact fin hrarr hS hO7
   | false=>
    rw[hcl,if_neg Bool.false_ne_true] at hrarr;simp only[sxZ,z6,z7,z8,j4,j5,j6,j7,j8,j9,x6,x7,x8,x9,y4,y5,reduceCtorEq,↓reduceIte,za,hlen];subst hZ;refine zaa fun Z hZ=>?_;refine zaD (fun o tm=>zaL ((p,zaJ s (za1 ρ3 T2 44))::(qt,za0 T2)::(qv,jvB 6 .nil X')::(qr,zvB)::(R'++L)) o/\tm.length=49/\tm[0]? = some (.p p 0)/\tm[1]? = some (.i .i64 (d:Int))/\tm[4]? = some (.p qr 0)/\tm[5]? = some (.p qv 0)/\tm[6]? = some (.p qt 0)) ?_ ?_
    ·refine zaa fun W hW=>?_
     by_cases c3:ρ3.fail=0
     rotate_left
     ·have hw:za1 ρ3 T2 44=ρ3:=by unfold za1;rw[if_neg (fun h=>c3 h.1)]
      simp only[sxZ,z6,z7,z8,j4,j5,j6,j7,j8,j9,x6,x7,x8,x9,y4,y5,reduceCtorEq,↓reduceIte,za,hlen,t0,e1,c3];subst hW;simp only[sxZ,z6,z7,z8,j4,j5,j6,j7,j8,j9,x6,x7,x8,x9,y4,y5,reduceCtorEq,↓reduceIte,zab,zi,za,hlen,t0,t1,t4,t5,t6,hw,and_self,and_true];exact hO7
     ·simp only[sxZ,z6,z7,z8,j4,j5,j6,j7,j8,j9,x6,x7,x8,x9,y4,y5,reduceCtorEq,↓reduceIte,za,hlen,t0,t6,e1,e2,c3];refine zah (zfY T2 44 ?_)
      cases h44:isP T2 44 with
      | true=>
       have hw:za1 ρ3 T2 44=ρ3:=by unfold za1;rw[if_neg (fun h=>by rw[h44] at h;cases h.2)]
       simp only[sxZ,z6,z7,z8,j4,j5,j6,j7,j8,j9,x6,x7,x8,x9,y4,y5,reduceCtorEq,↓reduceIte,za,hlen];subst hW;simp only[sxZ,z6,z7,z8,j4,j5,j6,j7,j8,j9,x6,x7,x8,x9,y4,y5,reduceCtorEq,↓reduceIte,zab,zi,za,hlen,t0,t1,t4,t5,t6,hw,and_self,and_true];exact hO7
      | false=>
       have hw:za1 ρ3 T2 44=zaV ρ3 T2.2.2 140:=by unfold za1;rw[if_pos ⟨c3,h44⟩]
       simp only[sxZ,z6,z7,z8,j4,j5,j6,j7,j8,j9,x6,x7,x8,x9,y4,y5,reduceCtorEq,↓reduceIte,za,hlen];subst hW;simp only[sxZ,z6,z7,z8,j4,j5,j6,j7,j8,j9,x6,x7,x8,x9,y4,y5,reduceCtorEq,↓reduceIte,za,hlen,t0,t6,e2];refine zah (zcm hO7 T2.2.2 140 fun o8 hO8=>?_);simp only[sxZ,z6,z7,z8,j4,j5,j6,j7,j8,j9,x6,x7,x8,x9,y4,y5,reduceCtorEq,↓reduceIte,zab,zi,za,hlen,t0,t1,t4,t5,t6,hw,and_self,and_true];exact hO8
    ·clear hO7 hlen t0 t1 t4 t5 t6 e1 e2 e3 e4 s1 s2 s3;rintro o8 tm ⟨hO8,hlen,t0,t1,t4,t5,t6⟩;subst hZ;have hB3:=zeY hB2.1 T2 44;have hn3:=zeK ρ3 T2 44;have hfz3:=zeL ρ3 T2 44;generalize za1 ρ3 T2 44=ρ4 at hO8 hB3 hn3 hfz3 hrarr;simp only[sxZ,z6,z7,z8,j4,j5,j6,j7,j8,j9,x6,x7,x8,x9,y4,y5,reduceCtorEq,↓reduceIte,za,hlen,t0];refine zah (zcF (by omega) hO8 fun o9 hO9=>?_);have hB4:=zbp hB3;have hT4:=zbI hB3;have hn4:=zbh s ρ4;have hfz4:=zcf s ρ4;generalize zad s ρ4=N at hO9 hB4 hT4 hn4 hfz4 hrarr ⊢;obtain⟨T5,ρ5⟩:=N;simp only at hO9 hB4 hT4 hn4 hfz4 hrarr ⊢;obtain⟨e1,e2,e3,e4,s1,s2,s3⟩:=st _ _ _ _ _ hO9;unfold zh9 tkC;simp only[sxZ,z6,z7,z8,j4,j5,j6,j7,j8,j9,x6,x7,x8,x9,y4,y5,reduceCtorEq,↓reduceIte,za,hlen,t6,e2,s2];rw[f1];have hO10:zaL ((p,zaJ s ρ5)::(qt,za0 T5)::(qv,jvB 6 .nil X')::(qr,zvB)::(R'++L)) (o9.set qt (za0 (T5.1,T5.2.1,T5.2.2))):=zaL.set (A:=[(p,zaJ s ρ5)]) (za0 T5) hO9;generalize o9.set qt (za0 (T5.1,T5.2.1,T5.2.2))=o10 at hO10 ⊢;refine⟨m,by omega,i+1,ρ5,T5,acc++[v],X',R',by omega,by rw[zm,hi];rfl,hrarr,hB4.1,hB4.2,hT4,fun hf=>?_,hS,hO10,?_⟩
     ·have q4:ρ4.fail=0:=by
       by_cases c:ρ4.fail=0
       ·exact c
       ·exact absurd ((hfz4 c).1.symm.trans hf) c
      have q3:ρ3.fail=0:=by
       by_cases c:ρ3.fail=0
       ·exact c
       ·exact absurd ((hfz3 c).1.symm.trans q4) c
      have q2:ρ2.fail=0:=by
       by_cases c:ρ2.fail=0
       ·exact c
       ·exact absurd ((hfz c).1.symm.trans q3) c
      have:=hn1 q2;have:=hnd c1;omega
     ·simp only[sxZ,z6,z7,z8,j4,j5,j6,j7,j8,j9,x6,x7,x8,x9,y4,y5,reduceCtorEq,↓reduceIte,zi,za,hlen,t0,t1,t4,t5,t6,and_self]
end
end
end Go.Proofs.YtceenajkieomoaaGreatDoor
