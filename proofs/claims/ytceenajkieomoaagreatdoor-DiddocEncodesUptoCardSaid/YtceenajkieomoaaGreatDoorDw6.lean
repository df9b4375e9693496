/- The texts that the proofs of these statements reach, in their order, as few files. -/
import Derived.Lib.LastIndexByte
import Derived.Lib.Replace
import Derived.Lib.CountLaws
import Derived.Lib.Join
import Derived.Test.YtceenajkieomoaaGreatDoorProg
import Derived.Test.YtceenajkieomoaaGreatDoorDw5
set_option linter.unusedVariables false
set_option linter.unusedSimpArgs false
set_option maxRecDepth 100000
namespace Go.Proofs.YtceenajkieomoaaGreatDoor
open Go.RowKit
open Lib renaming hid->zb
open List renaming append_assoc->qc, append_nil->ji
open Nat renaming le_refl->zd, zero_le->zh
abbrev ziG:=List UInt8->UInt8->Bool->Int×List UInt8
def rwS (add:ziG):Nat->List UInt8->List UInt8->Int×List UInt8
 | _,[],out=>(0,out)
 | n+1,_::l,out=>rwS add n l out
 | 0,c::l,out=>
  if c=37 then
   if zbG (c::l)=true then
    if (add out (zcm (c::l)) true).1=0 then rwS add 2 l (add out (zcm (c::l)) true).2 else ((add out (zcm (c::l)) true).1,[])
   else (2,[])
  else if (add out c false).1=0 then rwS add 0 l (add out c false).2 else ((add out c false).1,[])
section
variable (add:ziG) (s:ByteArray) (k:Nat) (out:List UInt8)
theorem zmg (n:Nat) (h:¬k<s.size):rwS add n (s.data.toList.drop k) out=(0,out):=by
 rw[List.drop_of_length_le (by rw[zap];omega),rwS]
theorem zjE (m:Nat) (h:k<s.size) (hm:k<m):rwS add (m - k) (s.data.toList.drop k) out=rwS add (m - (k+1)) (s.data.toList.drop (k+1)) out:=by
 rw[zaV s k h,show m - k=(m - (k+1))+1 from by omega,rwS]
theorem zmh (h:k<s.size) (hc:s[k]=37) (he:zbG (s.data.toList.drop k)=false):rwS add 0 (s.data.toList.drop k) out=(2,[]):=by
 rw[zaV s k h] at he ⊢;rw[rwS,if_pos hc,if_neg (by rw[he];exact Bool.false_ne_true)]
theorem zmf (h:k<s.size) (hc:s[k]=37) (he:zbG (s.data.toList.drop k)=true) (ha:(add out (zcm (s.data.toList.drop k)) true).1=0) :
  rwS add 0 (s.data.toList.drop k) out=rwS add (k+3 - (k+1)) (s.data.toList.drop (k+1)) (add out (zcm (s.data.toList.drop k)) true).2:=by
 rw[zaV s k h] at he ha;rw[show k+3 - (k+1)=2 from by omega]
 conv=>lhs;rw[zaV s k h]
 rw[rwS,if_pos hc,if_pos he,if_pos ha,<-zaV s k h]
theorem zfw (h:k<s.size) (hc:s[k]=37) (he:zbG (s.data.toList.drop k)=true) (ha:(add out (zcm (s.data.toList.drop k)) true).1≠0) :
  rwS add 0 (s.data.toList.drop k) out=((add out (zcm (s.data.toList.drop k)) true).1,[]):=by
 rw[zaV s k h] at he ha ⊢;rw[rwS,if_pos hc,if_pos he,if_neg ha]
theorem zme (h:k<s.size) (hc:s[k]≠37) (ha:(add out s[k] false).1=0) :
  rwS add 0 (s.data.toList.drop k) out=rwS add (k+1 - (k+1)) (s.data.toList.drop (k+1)) (add out s[k] false).2:=by
 rw[Nat.sub_self]
 conv=>lhs;rw[zaV s k h]
 rw[rwS,if_neg hc,if_pos ha]
theorem zfv (h:k<s.size) (hc:s[k]≠37) (ha:(add out s[k] false).1≠0) :
  rwS add 0 (s.data.toList.drop k) out=((add out s[k] false).1,[]):=by
 conv=>lhs;rw[zaV s k h]
 rw[rwS,if_neg hc,if_neg ha]
theorem zlH (he:zbG (s.data.toList.drop k)=true):k+2<s.size:=by
 rcases Nat.lt_or_ge (k+2) s.size with h|h
 ·exact h
 ·rw[zfQ s k (by omega)] at he;cases he
theorem zim (he:zbG (s.data.toList.drop k)=true):∃h:k+2<s.size,za0 s[k+1]=true/\za0 s[k+2]=true/\(zcm (s.data.toList.drop k)).toNat=16*(hv s[k+1]).toNat+(hv s[k+2]).toNat:=by
 have h:=zlH s k he;rw[drop3 s k h] at he ⊢;simp only[zbG,Bool.and_eq_true] at he;exact⟨h,he.1,he.2,escV_nat he.1 he.2⟩
end
def zb1:ziG:=fun out x _=>(0,out++[x])
def zc6 (also:List UInt8):ziG:=fun out x e=>if (e&&!zaH x)=true then (0,out++zeD x) else if zcb x also=true then (0,out++[x]) else (1,[])
def ziI (r:Int×List UInt8) (n:Nat):Int×List UInt8:=if 16384<n then (5,[]) else r
def zeg (l:List UInt8):Int×List UInt8:=ziI (rwS zb1 0 l []) l.length
def zaC (l also:List UInt8):Int×List UInt8:=ziI (rwS (zc6 also) 0 l []) l.length
theorem or_shl:∀a b:Fin 16,bits .or .u8 (((a.val*16:Nat):Int)) ((b.val:Nat):Int)=((16*a.val+b.val:Nat):Int):=by decide +kernel
def zpa (r:Int×List UInt8) (B:Nat) (w:World) (en:Ending) (w':World):Prop :=
 ∃v',en=.returned (.tuple #[v',.int .i64 r.1])/\(r.1=0->zcz w' B v' r.2)/\Below B w w'
theorem zgF (v:Value) (l:List UInt8) (x:UInt8) (e:Bool) (B:Nat) (w:World) (h:zcz w B v l) (hl:l.length<=1000000000) (hB:B<=w.heap.size) :
  Calls Tryz.prog 124 #[v,.int .u8 x.toNat,.bool e] w (zpa (zb1 l x e) B w):=by
 go_enter Tryz.func124,Tryz.ntmps124
 go_wp2_with (at_builtin;refine zbJ rfl (.tmp 8) (.tmp 10) rfl B v l [x] rfl (h.alloc _) _ _ _ rfl rfl (news1 _ _) (by simp;omega) (by simp;omega) ?_;intro v1 w1 hr1 hb1)
 go_ret2
 exact⟨v1,rfl,fun _=>hr1,((Below.refl B w).alloc hB _).trans hb1⟩
theorem zfi {also l:List UInt8} {x:UInt8} (hu:zaH x=false):zc6 also l x true=(0,l++zeD x):=by unfold zc6;rw[if_pos (by rw[hu];rfl)]
theorem zbz {also l:List UInt8} {x:UInt8} {e:Bool} (hu:(e&&!zaH x)=false) (hp:zcb x also=true):zc6 also l x e=(0,l++[x]):=by
 unfold zc6;rw[if_neg (by rw[hu];exact Bool.false_ne_true),if_pos hp]
theorem zk9 {also l:List UInt8} {x:UInt8} {e:Bool} (hu:(e&&!zaH x)=false) (hp:zcb x also=false):zc6 also l x e=(1,[]):=by
 unfold zc6;rw[if_neg (by rw[hu];exact Bool.false_ne_true),if_neg (by rw[hp];exact Bool.false_ne_true)]
theorem zk8 {also l:List UInt8} {x:UInt8} {e:Bool}:(zc6 also l x e).2.length<=l.length+3:=by
 unfold zc6
 repeat' split
 all_goals simp[zeD]
theorem zla {l:List UInt8} {x:UInt8} {e:Bool}:(zb1 l x e).2.length<=l.length+3:=by simp[zb1]
theorem zfK (v:Value) (l:List UInt8) (x:UInt8) (e:Bool) (B g:Nat) (also:ByteArray) (w:World) (h:zcz w B v l) (hl:l.length<=1000000000) (hB:B<=w.heap.size) (hc:w.cell? ⟨g,0,none⟩=some (.string also)) :
  Calls Tryz.prog 126 #[v,.int .u8 x.toNat,.bool e,.pointer (some ⟨g,0,none⟩)] w (zpa (zc6 also.data.toList l x e) B w):=by
 rcases hu:(e&&!zaH x) with _|_
 ·rcases hp:zcb x also.data.toList with _|_
  ·rw[zk9 hu hp]
   cases e
   ·clear hu
    go_enter Tryz.func126,Tryz.ntmps126
    go_wp2_with (go_at_call 129;refine(zc0 _ _ _).mono ?_;rintro e w' ⟨rfl,rfl⟩)
    go_ret2
    exact⟨_,rfl,fun h=>absurd h (by decide),Below.refl _ _⟩
   ·have hu':zaH x=true:=by simpa using hu
    clear hu
    go_enter Tryz.func126,Tryz.ntmps126
    go_wp2_with (first|(go_at_call 127;refine(zc7 _ _).mono ?_;rintro e w' ⟨rfl,rfl⟩)|(go_at_call 129;refine(zc0 _ _ _).mono ?_;rintro e w' ⟨rfl,rfl⟩))
    go_ret2
    exact⟨_,rfl,fun h=>absurd h (by decide),Below.refl _ _⟩
  ·rw[zbz hu hp]
   cases e
   ·clear hu
    go_enter Tryz.func126,Tryz.ntmps126
    go_wp2_with (first|(go_at_call 129;refine(zc0 _ _ _).mono ?_;rintro e w' ⟨rfl,rfl⟩)|(at_builtin;refine zbJ rfl (.tmp 23) (.tmp 25) rfl B v l [x] rfl (h.alloc _) _ _ _ rfl rfl (news1 _ _) (by simp;omega) (by simp;omega) ?_;intro v1 w1 hr1 hb1))
    go_ret2
    exact⟨v1,rfl,fun _=>hr1,((Below.refl B _).alloc hB _).trans hb1⟩
   ·have hu':zaH x=true:=by simpa using hu
    clear hu
    go_enter Tryz.func126,Tryz.ntmps126
    go_wp2_with (first|(go_at_call 127;refine(zc7 _ _).mono ?_;rintro e w' ⟨rfl,rfl⟩)|(go_at_call 129;refine(zc0 _ _ _).mono ?_;rintro e w' ⟨rfl,rfl⟩)|(at_builtin;refine zbJ rfl (.tmp 23) (.tmp 25) rfl B v l [x] rfl (h.alloc _) _ _ _ rfl rfl (news1 _ _) (by simp;omega) (by simp;omega) ?_;intro v1 w1 hr1 hb1))
    go_ret2
    exact⟨v1,rfl,fun _=>hr1,((Below.refl B _).alloc hB _).trans hb1⟩
 ·have he:e=true:=by cases e<;>simp_all
  subst he;have hu':zaH x=false:=by simpa using hu
  clear hu;rw[zfi hu']
  go_enter Tryz.func126,Tryz.ntmps126
  go_wp2_with (first|(go_at_call 127;refine(zc7 _ _).mono ?_;rintro e w' ⟨rfl,rfl⟩)|(go_at_call 128;refine(ze5 v l x B _ h hl hB).mono ?_;rintro e w1 ⟨v1,rfl,hr1,hb1⟩))
  go_ret2
  exact⟨v1,rfl,fun _=>hr1,hb1⟩
set_option maxHeartbeats 800000 in
theorem zhW (s:ByteArray) (w:World) (hs:s.size<=16384) :
  Calls Tryz.prog 123 #[.string s,.func (.func 124) #[] #[]] w fun e w'=>e=.returned (zls (rwS zb1 0 s.data.toList []))/\Qb w w':=by
 have hmk:=fun W=>zia s.size (by omega) W
 go_enter Tryz.func123,Tryz.ntmps123
 go_wp2_with fail
 clear hmk
 go_loopw [6,7,8,9,10,11,20] (fun v m _ _ _ _ i wr=>∃k j:Nat,∃l,k<=s.size/\k<=j/\j<=s.size/\m=.int .i64 j/\i=.int .i64 k/\zcz wr w.heap.size v l/\l.length<=3*k/\Hid (rwS zb1 0 s.data.toList []=rwS zb1 (j - k) (s.data.toList.drop k) l)/\Qb w wr) (fun _ _ _ _ _ _ i _=>s.size - (intOf i).toNat)
 case atStart=>exact⟨0,0,[],zh _,zd _,zh _,rfl,rfl,ziC w _ 0 _ (zd _) (zh _) (by omega),zh _,zb rfl,(Qb.refl w).alloc _⟩
 case round=>
  obtain⟨k,j,l,hk,hkj,hj,rfl,rfl,hrow,hlen,HR,hq⟩:=hrel
  by_cases hlt:k<s.size
  ·by_cases hskip:k<j
   ·have HS:=zb (zjE zb1 s k l j hlt hskip)
    go_wp2_with fail
    go_roundw
    case rel=>exact⟨k+1,j,l,by omega,by omega,hj,rfl,by go_num,hrow,by omega,zb (HR.out.trans HS.out),hq⟩
    case measure=>simp[intOf];omega
   ·obtain rfl:k=j:=by omega
    rw[Nat.sub_self] at HR;have hB:w.heap.size<=wr.heap.size:=hq.size
    by_cases hc:s[k]=37
    ·have h37:((s[k].toNat:Int)==37)=true:=by rw[hc];rfl
     have HC:=zb hc;clear hc;rcases he:zbG (s.data.toList.drop k) with _|_
     ·have HE:=zb (zmh zb1 s k l hlt HC.out he)
      go_wp2_with (go_at_call 137;refine(zbM s k (by omega) (by unfold maxLen;omega) _).mono ?_;rintro e w' ⟨rfl,rfl⟩)
      go_ret2
      exact⟨by rw[HR.out,HE.out];rfl,hq⟩
     ·obtain⟨h2,ha,hb,hv2⟩:=zim s k he;have n1:=(zc8 ha).2;rw[<-(zc8 ha).1] at n1;have n2:=(zc8 hb).2;rw[<-(zc8 hb).1] at n2;have hor:bits .or .u8 (((hv s[k+1]).toNat:Int)*16) ((hv s[k+2]).toNat:Int)=((zcm (s.data.toList.drop k)).toNat:Int):=by
       rw[hv2,<-or_shl ⟨_,n1⟩ ⟨_,n2⟩];rfl
      have HV:=zb hor;have HE0:=zb he;clear hv2 hor;have q1:IntKind.i64.wrap ((k:Int)+1)=(k:Int)+1:=IntWalk.i64_in _ (by omega);have q2:(0:Int)<=(k:Int)+1:=by omega
      have q3:((k:Int)+1).toNat=k+1:=by omega
      have q4:(k:Int)+1<s.size:=by omega
      have q5:IntKind.i64.wrap ((k:Int)+2)=(k:Int)+2:=IntWalk.i64_in _ (by omega);have q6:(0:Int)<=(k:Int)+2:=by omega
      have q7:((k:Int)+2).toNat=k+2:=by omega
      have q8:(k:Int)+2<s.size:=by omega
      go_wp2_with (go_at_call 137;refine(zbM s k (by omega) (by unfold maxLen;omega) _).mono ?_;rintro e w' ⟨rfl,rfl⟩)
      go_quiet ((go_at_call 138;exact zgn (zgp _ (by assumption) _)))
      clear he
      go_wp2_with fail
      rw[HV.out];refine(zgF _ l (zcm (s.data.toList.drop k)) true w.heap.size _ (by exact hrow) (by omega) (by exact hB)).mono ?_;rintro en w2 ⟨v2,rfl,hr2,hb2⟩;have hq2:Qb w w2:=Below.trans (hq.drewN _) hb2;have hl2:=zla (l:=l) (x:=zcm (s.data.toList.drop k)) (e:=true)
      by_cases h0:(zb1 l (zcm (s.data.toList.drop k)) true).1=0
      ·have hr3:=hr2 h0;have HE:=zb (zmf zb1 s k l hlt HC.out HE0.out h0);clear hr2;generalize hout:(zb1 l (zcm (s.data.toList.drop k)) true).2=l2 at *;have HO:=zb hout;clear hout
       go_wp2_with fail
       go_roundw
       case rel=>exact⟨k+1,k+3,l2,by omega,by omega,by omega,by go_num,by go_num,hr3,by omega,zb (HR.out.trans HE.out),hq2⟩
       case measure=>simp[intOf];omega
      ·have HE:=zb (zfw zb1 s k l hlt HC.out HE0.out h0);have h1:(((zb1 l (zcm (s.data.toList.drop k)) true).1) != 0)=true:=bne_iff_ne.2 h0;clear h0 hr2
       go_wp2_with fail
       go_ret2
       exact⟨by rw[HR.out,HE.out];rfl,hq2⟩
    ·have h37:((s[k].toNat:Int)==37)=false:=by
      rw[beq_eq_false_iff_ne];intro e;exact hc (UInt8.toNat_inj.1 (show s[k].toNat=37 from by omega))
     have HC:=zb hc;clear hc
     all_goals
      go_wp2_with fail
      refine(zgF _ l (s[k]) false w.heap.size _ (by exact hrow) (by omega) (by exact hB)).mono ?_;rintro en w2 ⟨v2,rfl,hr2,hb2⟩;have hq2:Qb w w2:=Below.trans hq hb2;have hl2:=zla (l:=l) (x:=s[k]) (e:=false)
      by_cases h0:(zb1 l (s[k]) false).1=0
      ·have hr3:=hr2 h0;have HE:=zb (zme zb1 s k l hlt HC.out h0);clear hr2;generalize hout:(zb1 l (s[k]) false).2=l2 at *;have HO:=zb hout;clear hout
       go_wp2_with fail
       go_roundw
       case rel=>exact⟨k+1,k+1,l2,by omega,by omega,by omega,by go_num,by go_num,hr3,by omega,zb (HR.out.trans HE.out),hq2⟩
       case measure=>simp[intOf];omega
      ·have HE:=zb (zfv zb1 s k l hlt HC.out h0);have h1:(((zb1 l (s[k]) false).1) != 0)=true:=bne_iff_ne.2 h0;clear h0 hr2
       go_wp2_with fail
       go_ret2
       exact⟨by rw[HR.out,HE.out];rfl,hq2⟩
  ·have HE:=zb (zmg zb1 s k l (j - k) hlt);have hst:=zmn hrow
   go_wp2_with fail
   go_ret2
   exact⟨by rw[HR.out,HE.out];rfl,hq⟩
set_option maxHeartbeats 800000 in
theorem zhV (s:ByteArray) (g:Nat) (also:ByteArray) (w:World) (hs:s.size<=16384) (hg:g<w.heap.size) (hc0:w.cell? ⟨g,0,none⟩=some (.string also)) :
  Calls Tryz.prog 123 #[.string s,.func (.func 126) #[] #[.pointer (some ⟨g,0,none⟩)]] w fun e w'=>e=.returned (zls (rwS (zc6 also.data.toList) 0 s.data.toList []))/\Qb w w':=by
 have hmk:=fun W=>zia s.size (by omega) W
 go_enter Tryz.func123,Tryz.ntmps123
 go_wp2_with fail
 clear hmk
 go_loopw [6,7,8,9,10,11,20] (fun v m _ _ _ _ i wr=>∃k j:Nat,∃l,k<=s.size/\k<=j/\j<=s.size/\m=.int .i64 j/\i=.int .i64 k/\zcz wr w.heap.size v l/\l.length<=3*k/\Hid (rwS (zc6 also.data.toList) 0 s.data.toList []=rwS (zc6 also.data.toList) (j - k) (s.data.toList.drop k) l)/\Qb w wr) (fun _ _ _ _ _ _ i _=>s.size - (intOf i).toNat)
 case atStart=>exact⟨0,0,[],zh _,zd _,zh _,rfl,rfl,ziC w _ 0 _ (zd _) (zh _) (by omega),zh _,zb rfl,(Qb.refl w).alloc _⟩
 case round=>
  obtain⟨k,j,l,hk,hkj,hj,rfl,rfl,hrow,hlen,HR,hq⟩:=hrel
  by_cases hlt:k<s.size
  ·by_cases hskip:k<j
   ·have HS:=zb (zjE (zc6 also.data.toList) s k l j hlt hskip)
    go_wp2_with fail
    go_roundw
    case rel=>exact⟨k+1,j,l,by omega,by omega,hj,rfl,by go_num,hrow,by omega,zb (HR.out.trans HS.out),hq⟩
    case measure=>simp[intOf];omega
   ·obtain rfl:k=j:=by omega
    rw[Nat.sub_self] at HR;have hB:w.heap.size<=wr.heap.size:=hq.size;have hcw:wr.cell? ⟨g,0,none⟩=some (.string also):=(hq.below.cell (p:=⟨g,0,none⟩) hg).trans hc0
    by_cases hc:s[k]=37
    ·have h37:((s[k].toNat:Int)==37)=true:=by rw[hc];rfl
     have HC:=zb hc;clear hc;rcases he:zbG (s.data.toList.drop k) with _|_
     ·have HE:=zb (zmh (zc6 also.data.toList) s k l hlt HC.out he)
      go_wp2_with (go_at_call 137;refine(zbM s k (by omega) (by unfold maxLen;omega) _).mono ?_;rintro e w' ⟨rfl,rfl⟩)
      go_ret2
      exact⟨by rw[HR.out,HE.out];rfl,hq⟩
     ·obtain⟨h2,ha,hb,hv2⟩:=zim s k he;have n1:=(zc8 ha).2;rw[<-(zc8 ha).1] at n1;have n2:=(zc8 hb).2;rw[<-(zc8 hb).1] at n2;have hor:bits .or .u8 (((hv s[k+1]).toNat:Int)*16) ((hv s[k+2]).toNat:Int)=((zcm (s.data.toList.drop k)).toNat:Int):=by
       rw[hv2,<-or_shl ⟨_,n1⟩ ⟨_,n2⟩];rfl
      have HV:=zb hor;have HE0:=zb he;clear hv2 hor;have q1:IntKind.i64.wrap ((k:Int)+1)=(k:Int)+1:=IntWalk.i64_in _ (by omega);have q2:(0:Int)<=(k:Int)+1:=by omega
      have q3:((k:Int)+1).toNat=k+1:=by omega
      have q4:(k:Int)+1<s.size:=by omega
      have q5:IntKind.i64.wrap ((k:Int)+2)=(k:Int)+2:=IntWalk.i64_in _ (by omega);have q6:(0:Int)<=(k:Int)+2:=by omega
      have q7:((k:Int)+2).toNat=k+2:=by omega
      have q8:(k:Int)+2<s.size:=by omega
      go_wp2_with (go_at_call 137;refine(zbM s k (by omega) (by unfold maxLen;omega) _).mono ?_;rintro e w' ⟨rfl,rfl⟩)
      go_quiet ((go_at_call 138;exact zgn (zgp _ (by assumption) _)))
      clear he
      go_wp2_with fail
      rw[HV.out];refine(zfK _ l (zcm (s.data.toList.drop k)) true w.heap.size g also _ (by exact hrow) (by omega) (by exact hB) (by exact hcw)).mono ?_;rintro en w2 ⟨v2,rfl,hr2,hb2⟩;have hq2:Qb w w2:=Below.trans (hq.drewN _) hb2;have hl2:=zk8 (also:=also.data.toList) (l:=l) (x:=zcm (s.data.toList.drop k)) (e:=true)
      by_cases h0:((zc6 also.data.toList) l (zcm (s.data.toList.drop k)) true).1=0
      ·have hr3:=hr2 h0;have HE:=zb (zmf (zc6 also.data.toList) s k l hlt HC.out HE0.out h0);clear hr2;generalize hout:((zc6 also.data.toList) l (zcm (s.data.toList.drop k)) true).2=l2 at *;have HO:=zb hout;clear hout
       go_wp2_with fail
       go_roundw
       case rel=>exact⟨k+1,k+3,l2,by omega,by omega,by omega,by go_num,by go_num,hr3,by omega,zb (HR.out.trans HE.out),hq2⟩
       case measure=>simp[intOf];omega
      ·have HE:=zb (zfw (zc6 also.data.toList) s k l hlt HC.out HE0.out h0);have h1:((((zc6 also.data.toList) l (zcm (s.data.toList.drop k)) true).1) != 0)=true:=bne_iff_ne.2 h0;clear h0 hr2
       go_wp2_with fail
       go_ret2
       exact⟨by rw[HR.out,HE.out];rfl,hq2⟩
    ·have h37:((s[k].toNat:Int)==37)=false:=by
      rw[beq_eq_false_iff_ne];intro e;exact hc (UInt8.toNat_inj.1 (show s[k].toNat=37 from by omega))
     have HC:=zb hc;clear hc
     all_goals
      go_wp2_with fail
      refine(zfK _ l (s[k]) false w.heap.size g also _ (by exact hrow) (by omega) (by exact hB) (by exact hcw)).mono ?_;rintro en w2 ⟨v2,rfl,hr2,hb2⟩;have hq2:Qb w w2:=Below.trans hq hb2;have hl2:=zk8 (also:=also.data.toList) (l:=l) (x:=s[k]) (e:=false)
      by_cases h0:((zc6 also.data.toList) l (s[k]) false).1=0
      ·have hr3:=hr2 h0;have HE:=zb (zme (zc6 also.data.toList) s k l hlt HC.out h0);clear hr2;generalize hout:((zc6 also.data.toList) l (s[k]) false).2=l2 at *;have HO:=zb hout;clear hout
       go_wp2_with fail
       go_roundw
       case rel=>exact⟨k+1,k+1,l2,by omega,by omega,by omega,by go_num,by go_num,hr3,by omega,zb (HR.out.trans HE.out),hq2⟩
       case measure=>simp[intOf];omega
      ·have HE:=zb (zfv (zc6 also.data.toList) s k l hlt HC.out h0);have h1:((((zc6 also.data.toList) l (s[k]) false).1) != 0)=true:=bne_iff_ne.2 h0;clear h0 hr2
       go_wp2_with fail
       go_ret2
       exact⟨by rw[HR.out,HE.out];rfl,hq2⟩
  ·have HE:=zb (zmg (zc6 also.data.toList) s k l (j - k) hlt);have hst:=zmn hrow
   go_wp2_with fail
   go_ret2
   exact⟨by rw[HR.out,HE.out];rfl,hq⟩
theorem zd2 (s:ByteArray) (f:Value) (w:World) (hs:¬s.size<=16384) :
  Calls Tryz.prog 123 #[.string s,f] w fun e w'=>e=.returned (zls (5,[]))/\w=w':=by
 go_enter Tryz.func123,Tryz.ntmps123
 go_wp2_with fail
 go_ret2
 exact⟨rfl,rfl⟩
theorem zi3 (s:ByteArray) (w:World) :
  Calls Tryz.prog 110 #[.string s] w fun e w'=>e=.returned (zls (zeg s.data.toList))/\Qb w w':=by
 have hmf:∀(fn:Fn) (first cap:Array Value) (w:World),(Instr.makeFunc fn first cap).run Tryz.prog w=.ok (.func fn first cap) w:=fun _ _ _ _=>rfl
 by_cases hs:s.size<=16384
 ·have hd:zeg s.data.toList=rwS zb1 0 s.data.toList []:=by unfold zeg ziI;rw[if_neg (by rw[zap];omega)]
  rw[hd]
  go_enter Tryz.func110,Tryz.ntmps110
  go_wp2_with fail
  refine(zhW s _ hs).mono ?_;rintro e w1 ⟨rfl,hq1⟩;unfold zls
  go_wp2_with fail
  go_ret2
  exact⟨rfl,hq1⟩
 ·have hd:zeg s.data.toList=(5,[]):=by unfold zeg ziI;rw[if_pos (by rw[zap];omega)]
  rw[hd]
  go_enter Tryz.func110,Tryz.ntmps110
  go_wp2_with fail
  refine(zd2 s _ _ hs).mono ?_;rintro e w1 ⟨rfl,rfl⟩;unfold zls
  go_wp2_with fail
  go_ret2
  exact⟨rfl,Qb.refl _⟩
theorem zm2 (s a:ByteArray) (w:World) :
  Calls Tryz.prog 112 #[.string s,.string a] w fun e w'=>e=.returned (zls (zaC s.data.toList a.data.toList))/\Qb w w':=by
 have hmf:∀(fn:Fn) (first cap:Array Value) (w:World),(Instr.makeFunc fn first cap).run Tryz.prog w=.ok (.func fn first cap) w:=fun _ _ _ _=>rfl
 by_cases hs:s.size<=16384
 ·have hd:zaC s.data.toList a.data.toList=rwS (zc6 a.data.toList) 0 s.data.toList []:=by unfold zaC ziI;rw[if_neg (by rw[zap];omega)]
  rw[hd]
  go_enter Tryz.func112,Tryz.ntmps112
  go_wp2_with fail
  refine(zhV s w.heap.size a _ hs (by simp) (by rw[World.cell?_alloc_at _ _ _ _ rfl];rfl)).mono ?_;rintro e w1 ⟨rfl,hq1⟩;unfold zls
  go_wp2_with fail
  go_ret2
  exact⟨rfl,((Qb.refl w).alloc _).trans hq1⟩
 ·have hd:zaC s.data.toList a.data.toList=(5,[]):=by unfold zaC ziI;rw[if_pos (by rw[zap];omega)]
  rw[hd]
  go_enter Tryz.func112,Tryz.ntmps112
  go_wp2_with fail
  refine(zd2 s _ _ hs).mono ?_;rintro e w1 ⟨rfl,rfl⟩;unfold zls
  go_wp2_with fail
  go_ret2
  exact⟨rfl,(Qb.refl w).alloc _⟩
theorem escB_len (c:UInt8):(zeD c).length=3:=rfl
theorem zbY (add:ziG):∀(n:Nat) (l out:List UInt8),rwS add n l out=rwS add 0 (l.drop n) out
 | 0,l,out=>rfl
 | n+1,[],out=>by rw[List.drop_nil,rwS,rwS]
 | n+1,_::l,out=>by rw[rwS,List.drop_succ_cons];exact zbY add n l out
theorem zdg {c:UInt8} {l:List UInt8} (h:zaH c=true):zcb c l=true:=by unfold zcb;rw[h];rfl
theorem u37:zaH 37=false:=by decide
theorem zgz:∀n:Fin 16,za0 (zeB n.val)=true/\hvN (zeB n.val)=n.val/\zeB n.val≠37:=by decide
theorem zoh (c:UInt8) (r:List UInt8):zbG (zeD c++r)=true/\zcm (zeD c++r)=c:=by
 have hc:=c.toNat_lt;have h1:=zgz ⟨c.toNat / 16,by omega⟩;have h2:=zgz ⟨c.toNat % 16,by omega⟩;simp only at h1 h2
 constructor
 ·show (za0 (zeB (c.toNat / 16))&&za0 (zeB (c.toNat % 16)))=true;rw[h1.1,h2.1];rfl
 ·show UInt8.ofNat (16*hvN (zeB (c.toNat / 16))+hvN (zeB (c.toNat % 16)))=c;rw[h1.2.1,h2.2.1,show 16*(c.toNat / 16)+c.toNat % 16=c.toNat from by omega];exact UInt8.ofNat_toNat
theorem zjF (add:ziG) (c:UInt8) (r out:List UInt8) (o2:List UInt8) (h:add out c true=(0,o2)):rwS add 0 (zeD c++r) out=rwS add 0 r o2:=by
 have h1:=zoh c r;show rwS add 0 (37::([zeB (c.toNat / 16),zeB (c.toNat % 16)]++r)) out=_;have e:(37::([zeB (c.toNat / 16),zeB (c.toNat % 16)]++r):List UInt8)=zeD c++r:=rfl;rw[rwS,if_pos rfl,e,if_pos h1.1,h1.2,h,if_pos rfl,zbY]
 rfl
theorem zd1 (add:ziG) (c:UInt8) (r out:List UInt8) (o2:List UInt8) (hc:c≠37) (h:add out c false=(0,o2)):rwS add 0 ([c]++r) out=rwS add 0 r o2:=by
 show rwS add 0 (c::r) out=_;rw[rwS,if_neg hc,h,if_pos rfl]
def Canon (also l y a:List UInt8):Prop :=
 (∀o r,rwS (zc6 also) 0 (y++r) o=rwS (zc6 also) 0 r (o++y))/\(∀o,rwS zb1 0 l o=(0,o++a))/\(∀o r,rwS zb1 0 (y++r) o=rwS zb1 0 r (o++a))/\y.length<=l.length
theorem zb4 {c:UInt8} {t:List UInt8} (h:zbG (c::t)=true):∃a b r,t=a::b::r:=by
 match t,h with
 | a::b::r,_=>exact⟨a,b,r,rfl⟩
theorem zgy {x:UInt8} (h:zaH x=true):x≠37:=by
 rintro rfl;rw[u37] at h;cases h
theorem zh8 (also:List UInt8):∀(n:Nat) (l out x:List UInt8),l.length<=n->rwS (zc6 also) 0 l out=(0,x)->∃y a,x=out++y/\Canon also l y a:=by
 intro n
 induction n with
 | zero=>
  intro l out x hl h;have:l=[]:=List.eq_nil_of_length_eq_zero (by omega);subst this;rw[rwS] at h;obtain rfl:out=x:=by injection h
  exact⟨[],[],by simp,by simp,by intro o;rw[rwS,ji],by simp,zd _⟩
 | succ n ih=>
  intro l out x hl h
  cases l with
  | nil=>
   rw[rwS] at h;obtain rfl:out=x:=by injection h
   exact⟨[],[],by simp,by simp,by intro o;rw[rwS,ji],by simp,zd _⟩
  | cons c t=>
   by_cases hc:c=37
   ·rcases he:zbG (c::t) with _|_
    ·rw[rwS,if_pos hc,if_neg (by rw[he];exact Bool.false_ne_true)] at h;injection h with h1 _
     exact absurd h1 (by decide)
    ·obtain⟨a,b,r,rfl⟩:=zb4 he;have hd:∀o,rwS zb1 0 (c::a::b::r) o=rwS zb1 0 r (o++[zcm (c::a::b::r)]):=by
      intro o;rw[rwS,if_pos hc,if_pos he];show (if (0:Int)=0 then rwS zb1 2 (a::b::r) _ else _)=_;rw[if_pos rfl,zbY]
      rfl
     rcases hu:zaH (zcm (c::a::b::r)) with _|_
     ·rw[rwS,if_pos hc,if_pos he,zfi hu,if_pos rfl,zbY] at h;obtain⟨y,m,rfl,h1,h2,h3,h4⟩:=ih r _ x (by simp at hl ⊢;omega) h;refine⟨zeD (zcm (c::a::b::r))++y,zcm (c::a::b::r)::m,by simp,?_,?_,?_,?_⟩
      ·intro o r';rw[qc,zjF _ _ _ _ _ (zfi hu),h1,qc]
      ·intro o;rw[hd,h2,qc];rfl
      ·intro o r';rw[qc,zjF zb1 _ _ _ _ rfl,h3,qc];rfl
      ·rw[List.length_append,escB_len];simp;omega
     ·rw[rwS,if_pos hc,if_pos he,zbz (by rw[hu];rfl) (zdg hu),if_pos rfl,zbY] at h;obtain⟨y,m,rfl,h1,h2,h3,h4⟩:=ih r _ x (by simp at hl ⊢;omega) h;refine⟨[zcm (c::a::b::r)]++y,zcm (c::a::b::r)::m,by simp,?_,?_,?_,?_⟩
      ·intro o r';rw[qc,zd1 _ _ _ _ _ (zgy hu) (zbz rfl (zdg hu)),h1,qc]
      ·intro o;rw[hd,h2,qc];rfl
      ·intro o r';rw[qc,zd1 zb1 _ _ _ _ (zgy hu) rfl,h3,qc];rfl
      ·simp;omega
   ·rcases hp:zcb c also with _|_
    ·rw[rwS,if_neg hc,zk9 rfl hp,if_neg (by decide)] at h;injection h with h1 _
     exact absurd h1 (by decide)
    ·rw[rwS,if_neg hc,zbz rfl hp,if_pos rfl] at h;obtain⟨y,m,rfl,h1,h2,h3,h4⟩:=ih t _ x (by simp at hl;omega) h;refine⟨[c]++y,c::m,by simp,?_,?_,?_,?_⟩
     ·intro o r';rw[qc,zd1 _ _ _ _ _ hc (zbz rfl hp),h1,qc]
     ·intro o;rw[rwS,if_neg hc];show (if (0:Int)=0 then rwS zb1 0 t _ else _)=_;rw[if_pos rfl,h2];show (0,(o++[c])++m)=_;rw[qc];rfl
     ·intro o r';rw[qc,zd1 zb1 _ _ _ _ hc rfl,h3,qc];rfl
     ·simp;omega
theorem zcc (l also x:List UInt8) (h:zaC l also=(0,x)):zaC x also=(0,x)/\(∃a,zeg l=(0,a)/\zeg x=(0,a))/\x.length<=l.length:=by
 unfold zaC ziI at h
 by_cases hlen:16384<l.length
 ·rw[if_pos hlen] at h;injection h with h1 _
  exact absurd h1 (by decide)
 ·rw[if_neg hlen] at h;obtain⟨y,a,rfl,h1,h2,h3,h4⟩:=zh8 also l.length l [] x (zd _) h;have e1:=h1 [] [];have e3:=h3 [] [];rw[ji,rwS,List.nil_append] at e1 e3;refine⟨?_,⟨a,?_,?_⟩,h4⟩
  ·unfold zaC ziI;rw[if_neg (by omega),e1]
  ·unfold zeg ziI;rw[if_neg hlen,h2];rfl
  ·unfold zeg ziI;rw[if_neg (by omega),e3]
theorem zcW (add:ziG):∀(l out:List UInt8) (n:Nat),(rwS add n l out).1≠0->(rwS add n l out).2=[]
 | [],out,n=>by intro h;cases n<;>(rw[rwS] at h;exact absurd rfl h)
 | c::l,out,n+1=>by intro h;rw[rwS] at h ⊢;exact zcW add l out n h
 | c::l,out,0=>by
  intro h;rw[rwS] at h ⊢
  split at h
  ·rename_i hc;rw[if_pos hc]
   split at h
   ·rename_i he;rw[if_pos he]
    split at h
    ·rename_i ha;rw[if_pos ha];exact zcW add l _ 2 h
    ·rename_i ha;rw[if_neg ha]
   ·rename_i he;rw[if_neg he]
  ·rename_i hc;rw[if_neg hc]
   split at h
   ·rename_i ha;rw[if_pos ha];exact zcW add l _ 0 h
   ·rename_i ha;rw[if_neg ha]
theorem zh9 (l also:List UInt8) (h:(zaC l also).1≠0):(zaC l also).2=[]:=by
 unfold zaC ziI at h ⊢
 split
 ·rfl
 ·rename_i hl;rw[if_neg hl] at h;exact zcW _ _ _ _ h
end Go.Proofs.YtceenajkieomoaaGreatDoor
namespace Go.Proofs.YtceenajkieomoaaGreatDoor
open List renaming mem_cons->zu
theorem ze9 {l also x:List UInt8} (h:zaC l also=(0,x)):l.length<=16384:=by
 unfold zaC ziI at h
 split at h
 ·injection h with h1 _
  exact absurd h1 (by decide)
 ·omega
theorem zgG (c:UInt8):∀(a b:List UInt8),c∉a->zaE c (a++c::b)=(a,b,true)
 | [],b,_=>by simp[zaE]
 | x::a,b,h=>by
  simp only[zu,not_or] at h;rw[List.cons_append,zck,if_neg (fun e=>h.1 e.symm),zgG c a b h.2]
theorem zix (c:UInt8):∀(a:List UInt8),c∉a->zaE c a=(a,[],false)
 | [],_=>rfl
 | x::a,h=>by
  simp only[zu,not_or] at h;rw[zck,if_neg (fun e=>h.1 e.symm),zix c a h.2]
open Go.RowKit Sx
section
variable [Tabs Tryz.prog] {objs:List OB} {K:List OB->AV->Prop}
theorem zhb (s also:List UInt8) (hk:K objs (.tup [.s (zaC s also).2,.i .i64 (zaC s also).1])):zad Tryz.prog 112 [.s s,.s also] objs K :=
 conv (vs:=[.string (S s),.string (S also)]) rfl rfl (fun w=>zm2 (S s) (S also) w) hk
theorem zm3 (s:List UInt8) (hk:K objs (.tup [.s (zeg s).2,.i .i64 (zeg s).1])):zad Tryz.prog 110 [.s s] objs K :=
 conv (vs:=[.string (S s)]) rfl rfl (fun w=>zi3 (S s) w) hk
end
section
variable [Tabs Tryz.prog] {objs:List OB} {K:List OB->AV->Prop}
end
section
variable [Tabs Tryz.prog] {objs:List OB} {K:List OB->AV->Prop}
end
section
variable [Tabs Tryz.prog] {objs:List OB} {K:List OB->AV->Prop}
end
end Go.Proofs.YtceenajkieomoaaGreatDoor
namespace Go.Proofs.YtceenajkieomoaaGreatDoor
theorem zeh (c:UInt8):∀l:List UInt8,l=(zaE c l).1++(if (zaE c l).2.2=true then [c]++(zaE c l).2.1 else [])
 | []=>rfl
 | x::t=>by
  have ih:=zeh c t;rw[zck]
  by_cases hx:x=c
  ·subst hx;simp
  ·rw[if_neg hx];show x::t=x::((zaE c t).1++_);rw[<-ih]
theorem zoL (c:UInt8) (l:List UInt8):(zaE c l).1.length<=l.length:=by
 have h:=congrArg List.length (zeh c l);rw[List.length_append] at h;omega
structure UrlP where
 host:List UInt8
 port:Int
 path:List UInt8
 query:List UInt8
 frag:List UInt8
 hq:Bool
 hf:Bool
def zbd:List UInt8:=[33,36,38,39,40,41,42,43,44,59,61,58,64,47]
def zaA:List UInt8:=[33,36,38,39,40,41,42,43,44,59,61,58,64,47,63]
instance:DecidableEq UrlP:=fun a b=>
 decidable_of_iff (a.host=b.host/\a.port=b.port/\a.path=b.path/\a.query=b.query/\a.frag=b.frag/\a.hq=b.hq/\a.hf=b.hf) (by
  cases a;cases b;simp)
theorem zev (l also:List UInt8):(zaC l also).2.length<=l.length/\(zaC l also).2.length<=16384:=by
 by_cases h:(zaC l also).1=0
 ·have e:zaC l also=(0,(zaC l also).2):=by rw[<-h]
  have h1:=(zcc l also _ e).2.2;have h2:=ze9 e;omega
 ·rw[zh9 l also h];simp
open Go.RowKit Sx
section
variable [Tabs Tryz.prog] {objs:List OB} {K:List OB->AV->Prop}
end
end Go.Proofs.YtceenajkieomoaaGreatDoor
namespace Go.Proofs.YtceenajkieomoaaGreatDoor
open Lib renaming indexByte->xj
open List renaming all_eq_true->qd, eq_nil_of_length_eq_zero->jo, flatMap_cons->xe, getElem?_append_left->zj, getElem?_eq_getElem->zl, getElem?_eq_some_iff->zf, getElem?_set->za, getElem?_set_ne->ze, getElem?_set_self->zk, getElem_mem->jg, length_append->zp, length_cons->zx, length_drop->qb, length_map->qg, length_take->qh, map_append->qy, mem_append->zw, mem_cons_of_mem->qq, mem_iff_getElem->yc, mem_singleton->xt, take_add_one->xo, take_of_length_le->jh
open Nat renaming le_refl->zd, zero_le->zh
open Option renaming getD_some->qj, map_some->ja
def idB (c:UInt8):Bool:=zbu c||zaq c||zcl c [46,45,95]
def zaT:List UInt8:=[46,45,95,58]
def meB (c:UInt8):Bool:=zaq c||(decide (97<=c.toNat)&&decide (c.toNat<=122))
def zex (l:List UInt8):Bool:=l.all meB&&!l.isEmpty
def ziH (c:UInt8) (new s:List UInt8):List UInt8:=s.flatMap fun x=>if x=c then new else [x]
def zb8 (s:List UInt8):List UInt8:=ziH 126 [37,55,69] s
def ibB (c:UInt8):Bool:=c==37||idB c||c==58
def idE (l:List UInt8):Int×List UInt8 :=
 if (zeg l).1≠0 then ((zeg l).1,[])
 else if l.all ibB=false then (1,[])
 else if l=[]\/l.getLast? = some 58 then (3,[])
 else if (zaC l zaT).1≠0 then ((zaC l zaT).1,[])
 else (0,zb8 (zaC l zaT).2)
def zcj:List UInt8:=[100,105,100,58]
def ze4 (s:List UInt8):Int×List UInt8×List UInt8 :=
 if 4096<s.length then (5,[],[])
 else if Lib.hasPrefix s zcj=false then (60,[],[])
 else if (zaE 58 (s.drop 4)).2.2=false then (6,[],[])
 else if zex (zaE 58 (s.drop 4)).1=false then (100,[],[])
 else if (idE (zaE 58 (s.drop 4)).2.1).1≠0 then ((idE (zaE 58 (s.drop 4)).2.1).1,[],[])
 else (0,(zaE 58 (s.drop 4)).1,(idE (zaE 58 (s.drop 4)).2.1).2)
structure DidU where
 meth:List UInt8
 id:List UInt8
 path:List UInt8
 query:List UInt8
 frag:List UInt8
 hq:Bool
 hf:Bool
instance:DecidableEq DidU:=fun a b=>
 decidable_of_iff (a.meth=b.meth/\a.id=b.id/\a.path=b.path/\a.query=b.query/\a.frag=b.frag/\a.hq=b.hq/\a.hf=b.hf) (by
  cases a;cases b;simp)
def zlJ:DidU:=⟨[],[],[],[],[],false,false⟩
def zeV (s:List UInt8):List UInt8:=zgB (zdb s)
def zhp (s:List UInt8):Int×DidU :=
 if 4096<s.length then (5,zlJ)
 else if (ze4 (zeV s)).1≠0 then ((ze4 (zeV s)).1,zlJ)
 else if (zaC ((zdb s).drop (zeV s).length) zbd).1≠0 then ((zaC ((zdb s).drop (zeV s).length) zbd).1,zlJ)
 else if (zaC (zaE 63 (zaE 35 s).1).2.1 zaA).1≠0 then ((zaC (zaE 63 (zaE 35 s).1).2.1 zaA).1,zlJ)
 else if (zaC (zaE 35 s).2.1 zaA).1≠0 then ((zaC (zaE 35 s).2.1 zaA).1,zlJ)
 else (0,⟨(ze4 (zeV s)).2.1,(ze4 (zeV s)).2.2,(zaC ((zdb s).drop (zeV s).length) zbd).2,(zaC (zaE 63 (zaE 35 s).1).2.1 zaA).2,(zaC (zaE 35 s).2.1 zaA).2,(zaE 63 (zaE 35 s).1).2.2,(zaE 35 s).2.2⟩)
def ziJ (m i:List UInt8):List UInt8:=zcj++m++[58]++i
def zhk (u:DidU):List UInt8:=ziJ u.meth u.id++u.path++(if u.hq=true then [63]++u.query else [])++(if u.hf=true then [35]++u.frag else [])
def zfB (m i r:List UInt8):Int×DidU :=
 if Lib.hasPrefix r zcj=true then zhp r
 else if r=[]\/(r.head?.map fun c=>zcl c [47,63,35])=some true then zhp (ziJ m i++r)
 else (6,zlJ)
theorem zfN (c:UInt8):∀s:List UInt8,Lib.index s [c]=xj s c
 | []=>rfl
 | b::l=>by
  have ih:=zfN c l;unfold Lib.index xj;rw[ih]
  by_cases h:b=c
  ·subst h;simp
  ·have h':¬c=b:=fun e=>h e.symm;simp[h,h']
theorem zd4 (c:UInt8) (new:List UInt8):∀s:List UInt8,c∉s->ziH c new s=s
 | [],_=>rfl
 | x::s,h=>by
  simp only[List.mem_cons,not_or] at h;unfold ziH;rw[xe,if_neg (fun e=>h.1 e.symm)];show [x]++ziH c new s=_;rw[zd4 c new s h.2];rfl
theorem zdL (c:UInt8) (new a b:List UInt8):ziH c new (a++b)=ziH c new a++ziH c new b:=by simp[ziH]
theorem zhZ (c:UInt8) (new:List UInt8):∀(n:Nat) (s:List UInt8),s.length<=n->Lib.replaceK [c] new (Lib.count s [c]) s=ziH c new s:=by
 intro n
 induction n with
 | zero=>
  intro s hs;obtain rfl:s=[]:=jo (by omega)
  rfl
 | succ n ih=>
  intro s hs;rcases zbZ c s with ⟨h1,_,h2⟩|⟨k,h1,h2,_,h3⟩
  ·rw[Lib.count_miss (by rw[zfN];exact h1),zd4 c new s h2];rfl
  ·have hi:Lib.index s [c]=k:=by rw[zfN];exact h1
   rw[Lib.count_hit (by simp) hi,Nat.add_comm,Lib.replaceK_hit _ _ _ _ _ hi];have:=ih (s.drop (k+[c].length)) (by rw[qb];simp;omega);rw[this];have hk:s[k]=c:=by rw[zl h2] at h3;injection h3
   have hpre:c∉s.take k:=by
    intro hm;obtain⟨j,hj,hjc⟩:=yc.1 hm;have hj':j<k:=by rw[qh] at hj;omega
    have:=(Lib.indexByte_some h1).2 j hj';rw[List.getElem_take] at hjc;exact this (by rw[zl (by omega),hjc])
   conv=>rhs;rw[<-List.take_append_drop k s,List.drop_eq_getElem_cons h2,hk,zdL,zd4 c new _ hpre]
   show _=s.take k++ziH c new ([c]++s.drop (k+1));rw[zdL];simp[ziH]
theorem zf7 (c:UInt8) (new s:List UInt8) (h:new≠[c]):Lib.replaceAll s [c] new=ziH c new s:=by
 unfold Lib.replaceAll Lib.replace;rw[if_neg (by simp;exact fun e=>h e.symm)];unfold Lib.replaceNum;rw[if_pos (.inl (by decide))];exact zhZ c new s.length s (zd _)
theorem ziy (c:UInt8) (s:List UInt8):Lib.count s [c]<=s.length+1:=Lib.count_le s [c]
theorem zf9 (s:List UInt8):(zb8 s).length<=3*s.length:=by
 induction s with
 | nil=>exact zd _
 | cons x s ih=>
  unfold zb8 ziH at ih ⊢;rw[xe,zp,zx]
  split<;>simp only[zx,List.length_nil]<;>omega
def zeb (l:List UInt8):List UInt8:=l.flatMap fun c=>if idB c=true then [c] else zeD c
def zbm (p:List UInt8):List UInt8:=zeb (zeg p).2
def jnc (ps:List (List UInt8)):List UInt8:=ps.flatMap fun q=>58::zbm q
theorem id256:∀n:Fin 256,(idB (UInt8.ofNat n.val)=true->zcb (UInt8.ofNat n.val) zaT=true/\UInt8.ofNat n.val≠126/\UInt8.ofNat n.val≠58/\UInt8.ofNat n.val≠37) /\
  (zaH (UInt8.ofNat n.val)=true->UInt8.ofNat n.val≠126->idB (UInt8.ofNat n.val)=true)/\(zaH (UInt8.ofNat n.val)=false->idB (UInt8.ofNat n.val)=false) /\
  ((zeD (UInt8.ofNat n.val)).all (fun c=>c != 126))=true/\(za0 (UInt8.ofNat n.val)=true->UInt8.ofNat n.val≠58/\idB (UInt8.ofNat n.val)=true):=by decide +kernel
theorem zc1 (c:UInt8):(idB c=true->zcb c zaT=true/\c≠126/\c≠58/\c≠37)/\(zaH c=true->c≠126->idB c=true)/\(zaH c=false->idB c=false)/\(zeD c).all (fun c=>c != 126)=true/\(za0 c=true->c≠58/\idB c=true):=by
 have:=id256 ⟨c.toNat,UInt8.toNat_lt c⟩;simpa using this
theorem zcT (a b:List UInt8):zb8 (a++b)=zb8 a++zb8 b:=zdL _ _ a b
theorem zem {c:UInt8} (h:c≠126):zb8 [c]=[c]:=by simp[zb8,ziH,h]
theorem zlh (c:UInt8):zb8 (zeD c)=zeD c:=zd4 _ _ _ (fun hm=>by
 have:=qd.1 (zc1 c).2.2.2.1 126 hm;simp at this)
theorem zdl (c:UInt8) (l:List UInt8):zeb (c::l)=(if idB c=true then [c] else zeD c)++zeb l:=by simp[zeb]
theorem zgi:∀(n:Nat) (l o:List UInt8),l.length<=n->(rwS zb1 0 l o).1=(rwS zb1 0 l []).1/\((rwS zb1 0 l []).1=0->(rwS zb1 0 l o).2=o++(rwS zb1 0 l []).2):=by
 intro n
 induction n with
 | zero=>
  intro l o hl;obtain rfl:l=[]:=jo (by omega);simp[rwS]
 | succ n ih=>
  intro l o hl
  cases l with
  | nil=>simp[rwS]
  | cons c t=>
   by_cases hc:c=37
   ·rcases he:zbG (c::t) with _|_
    ·simp[rwS,hc,he,show zbG (37::t)=false from by rw[<-hc];exact he]
    ·obtain⟨a,b,r,rfl⟩:=zb4 he;have hd:∀o,rwS zb1 0 (c::a::b::r) o=rwS zb1 0 r (o++[zcm (c::a::b::r)]):=by
      intro o;rw[rwS,if_pos hc,if_pos he];show (if (0:Int)=0 then rwS zb1 2 (a::b::r) _ else _)=_;rw[if_pos rfl,zbY]
      rfl
     rw[hd,hd];have i1:=ih r (o++[zcm (c::a::b::r)]) (by simp at hl ⊢;omega);have i2:=ih r ([]++[zcm (c::a::b::r)]) (by simp at hl ⊢;omega);refine⟨by rw[i1.1,i2.1],fun h=>?_⟩;rw[i2.1] at h;rw[i1.2 h,i2.2 h];simp
   ·have hd:∀o,rwS zb1 0 (c::t) o=rwS zb1 0 t (o++[c]):=by
     intro o;rw[rwS,if_neg hc];show (if (0:Int)=0 then rwS zb1 0 t _ else _)=_;rw[if_pos rfl];rfl
    rw[hd,hd];have i1:=ih t (o++[c]) (by simp at hl;omega);have i2:=ih t ([]++[c]) (by simp at hl;omega);refine⟨by rw[i1.1,i2.1],fun h=>?_⟩;rw[i2.1] at h;rw[i1.2 h,i2.2 h];simp
theorem rwD_esc {c:UInt8} {t:List UInt8} (hc:c=37) (a b:UInt8) (r:List UInt8) (ht:t=a::b::r) (he:zbG (c::t)=true) (o:List UInt8):rwS zb1 0 (c::t) o=rwS zb1 0 r (o++[zcm (c::t)]):=by
 subst ht;rw[rwS,if_pos hc,if_pos he];show (if (0:Int)=0 then rwS zb1 2 (a::b::r) _ else _)=_;rw[if_pos rfl,zbY]
 rfl
theorem rwD_one {c:UInt8} {t:List UInt8} (hc:c≠37) (o:List UInt8):rwS zb1 0 (c::t) o=rwS zb1 0 t (o++[c]):=by
 rw[rwS,if_neg hc];show (if (0:Int)=0 then rwS zb1 0 t _ else _)=_;rw[if_pos rfl];rfl
def dcL (l:List UInt8):Int×List UInt8:=rwS zb1 0 l []
theorem zff {l:List UInt8} (h:l.length<=16384):zeg l=dcL l:=by unfold zeg ziI;rw[if_neg (by omega)];rfl
theorem zeF {c:UInt8} {t:List UInt8} (hc:c≠37):(dcL (c::t)).1=(dcL t).1/\((dcL t).1=0->(dcL (c::t)).2=c::(dcL t).2):=by
 unfold dcL;rw[rwD_one hc];have:=zgi t.length t ([]++[c]) (zd _);exact⟨this.1,fun h=>by rw[this.2 h];rfl⟩
theorem zfV {a b:UInt8} {r:List UInt8} (he:zbG (37::a::b::r)=true):(dcL (37::a::b::r)).1=(dcL r).1/\((dcL r).1=0->(dcL (37::a::b::r)).2=zcm (37::a::b::r)::(dcL r).2):=by
 unfold dcL;rw[rwD_esc rfl a b r rfl he];have:=zgi r.length r ([]++[zcm (37::a::b::r)]) (zd _);exact⟨this.1,fun h=>by rw[this.2 h];rfl⟩
theorem zhs {t:List UInt8} (he:zbG (37::t)=false):(dcL (37::t)).1=2:=by
 unfold dcL;rw[rwS,if_pos rfl,if_neg (by rw[he];exact Bool.false_ne_true)]
theorem dcL_err:∀(n:Nat) (l:List UInt8),l.length<=n->(dcL l).1=0\/(dcL l).1=2:=by
 intro n
 induction n with
 | zero=>
  intro l hl;obtain rfl:l=[]:=jo (by omega);exact .inl rfl
 | succ n ih=>
  intro l hl
  cases l with
  | nil=>exact .inl rfl
  | cons c t=>
   by_cases hc:c=37
   ·subst hc;rcases he:zbG (37::t) with _|_
    ·exact .inr (zhs he)
    ·obtain⟨a,b,r,rfl⟩:=zb4 he;rw[(zfV he).1];exact ih r (by simp at hl ⊢;omega)
   ·rw[(zeF hc).1];exact ih t (by simp at hl;omega)
open Go.RowKit Sx
section
attribute [local irreducible] run
def kId:List UInt8:=[105,100]
def zbF:List UInt8:=[116,121,112,101]
def zbQ:List UInt8:=[99,111,110,116,114,111,108,108,101,114]
def zdE:List UInt8:=[115,101,114,118,105,99,101,69,110,100,112,111,105,110,116]
def zcY:List UInt8:=[97,108,115,111,75,110,111,119,110,65,115]
def zdi:List UInt8:=[118,101,114,105,102,105,99,97,116,105,111,110,77,101,116,104,111,100]
def zcf:List UInt8:=[115,101,114,118,105,99,101]
structure MtP where
 id:List UInt8
 typ:List UInt8
 ctl:List UInt8
structure SvP where
 id:List UInt8
 typ:List (List UInt8)
 eps:List (List UInt8)
structure DoP where
 id:List UInt8
 also:List (List UInt8)
 ctl:List (List UInt8)
 mts:List MtP
 svs:List SvP
def mtZ:MtP:=⟨[],[],[]⟩
def svZ:SvP:=⟨[],[],[]⟩
def doZ:DoP:=⟨[],[],[],[],[]⟩
def tmD (v:JV) (key:List UInt8):List UInt8×Bool:=if (zbA v key).2=true/\(zbA v key).1.kind=5 then ((zbA v key).1.text,true) else ([],false)
def txD (l:List JV):Int×List (List UInt8) :=
 if 64<l.length then (161,[]) else if l.all (fun x=>decide (x.kind=5))=true then (0,l.map JV.text) else (160,[])
def ltD (v:JV):Int×List (List UInt8):=if v.kind=6 then txD v.items else (160,[])
def olD (v:JV):Int×List (List UInt8):=if v.kind=6 then txD v.items else txD [v]
def zib (m i:List UInt8) (v:JV):Int×List UInt8 :=
 if (tmD v kId).2=false then (160,[]) else if (zfB m i (tmD v kId).1).1≠0 then (160,[]) else (0,zhk (zfB m i (tmD v kId).1).2)
def mtD (m i:List UInt8) (v:JV):Int×MtP :=
 if (zib m i v).1≠0 then ((zib m i v).1,mtZ)
 else if (tmD v zbF).2=true/\(tmD v zbQ).2=true then (0,⟨(zib m i v).2,(tmD v zbF).1,(tmD v zbQ).1⟩) else (160,mtZ)
def svD (m i:List UInt8) (v:JV):Int×SvP :=
 if (zib m i v).1≠0 then ((zib m i v).1,svZ)
 else if (olD (zbA v zbF).1).1≠0 then ((olD (zbA v zbF).1).1,svZ)
 else if (zbA v zdE).1.kind=7 then (0,⟨(zib m i v).2,(olD (zbA v zbF).1).2,[]⟩)
 else if (olD (zbA v zdE).1).1≠0 then ((olD (zbA v zdE).1).1,svZ)
 else (0,⟨(zib m i v).2,(olD (zbA v zbF).1).2,(olD (zbA v zdE).1).2⟩)
def zoj {α:Type} (f:JV->Int×α):List JV->Int×List α
 | []=>(0,[])
 | y::l=>if (f y).1≠0 then ((f y).1,[]) else if (zoj f l).1≠0 then ((zoj f l).1,[]) else (0,(f y).2::(zoj f l).2)
def elD {α:Type} (f:JV->Int×α) (v:JV):Int×List α:=if v.kind=6 then (if 64<v.items.length then (161,[]) else zoj f v.items) else (160,[])
def opD {α:Type} (v:JV) (key:List UInt8) (f:JV->Int×List α):Int×List α:=if (zbA v key).2=true then f (zbA v key).1 else (0,[])
def sbD (v:JV):Int×List UInt8×List UInt8 :=
 if (tmD v kId).2=false then (160,[],[]) else if (ze4 (tmD v kId).1).1≠0 then (160,[],[]) else (0,(ze4 (tmD v kId).1).2)
def ddE (v:JV):Int×DoP :=
 if (sbD v).1≠0 then ((sbD v).1,doZ)
 else if (opD v zcY ltD).1≠0 then ((opD v zcY ltD).1,doZ)
 else if (opD v zbQ olD).1≠0 then ((opD v zbQ olD).1,doZ)
 else if (opD v zdi (elD (mtD (sbD v).2.1 (sbD v).2.2))).1≠0 then ((opD v zdi (elD (mtD (sbD v).2.1 (sbD v).2.2))).1,doZ)
 else if (opD v zcf (elD (svD (sbD v).2.1 (sbD v).2.2))).1≠0 then ((opD v zcf (elD (svD (sbD v).2.1 (sbD v).2.2))).1,doZ)
 else (0,⟨ziJ (sbD v).2.1 (sbD v).2.2,(opD v zcY ltD).2,(opD v zbQ olD).2,(opD v zdi (elD (mtD (sbD v).2.1 (sbD v).2.2))).2,(opD v zcf (elD (svD (sbD v).2.1 (sbD v).2.2))).2⟩)
end
open Nat renaming reduceAdd -> z6, reduceSub -> z7, reduceLeDiff -> z8, reduceLT -> j4, reduceMul -> j5, reduceEqDiff -> j6
open Int renaming reduceToNat -> j7, reduceAdd -> j8, reduceSub -> j9, reduceMul -> x3, reduceNeg -> x4, reduceLT -> x5, reduceLE -> x6, reduceEq -> x7, reduceNe -> x8
theorem meB_iff (c:UInt8) (hd:zaq c=false):meB c=(decide (97<=c.toNat)&&decide (c.toNat<=122)):=by unfold meB;rw[hd];rfl
theorem ib256:∀n:Fin 256,ibB (UInt8.ofNat n.val)=(UInt8.ofNat n.val==37||(zbu (UInt8.ofNat n.val)||zaq (UInt8.ofNat n.val)||zcl (UInt8.ofNat n.val) [46,45,95,58])):=by decide +kernel
theorem ib_form (c:UInt8):ibB c=(c==37||(zbu c||zaq c||zcl c [46,45,95,58])):=by
 have:=ib256 ⟨c.toNat,UInt8.toNat_lt c⟩;simpa using this
theorem trim_did {s:List UInt8} (h:Lib.hasPrefix s zcj=true):Lib.trimPrefix s zcj=s.drop 4:=by unfold Lib.trimPrefix;rw[if_pos h];rfl
theorem idE_len (s:List UInt8):(idE s).2.length<=50000:=by
 have h1:=zev s zaT;have h2:=zf9 (zaC s zaT).2;unfold idE
 repeat' split
 all_goals first
  | exact zh _
  | (show (zb8 (zaC s zaT).2).length<=50000;omega)
theorem zfc (m i:List UInt8):(ziJ m i).length=m.length+i.length+5:=by simp[ziJ,zcj];omega
section
variable [Tabs Tryz.prog] {objs:List OB} {K:List OB->AV->Prop}
theorem ziT [Shp Tryz.prog] (s new:List UInt8) (c:UInt8) (hs:s.length<=100000) (hn:new.length<=100) (hne:new≠[c]) (hk:K objs (.s (ziH c new s))):zad Tryz.prog 113 [.s s,.s [c],.s new] objs K:=by
 have hc:Lib.countB (S s) (S [c])<=s.length+1:=ziy c s;have hl:(S s).size+Lib.countB (S s) (S [c])*(S new).size<=140737488355328:=by
  have h1:Lib.countB (S s) (S [c])*(S new).size<=100001*100:=Nat.mul_le_mul (by omega) (by rw[zcQ];omega);rw[zcQ];omega
 have e:Lib.replaceAll s [c] new=ziH c new s:=zf7 c new s hne;rw[<-e] at hk;exact convT (vs:=[.string (S s),.string (S [c]),.string (S new)]) rfl rfl (fun w hT=>Tryz.strings_ReplaceAll_shaped (S s) (S [c]) (S new) w (Shp.sh w hT) (by rw[zcQ];omega) (by rw[zcQ];simp) hl) hk
theorem zoG (s:List UInt8) (hs:s.length<=1000000) (hk:K objs (.b (zex s))):zad Tryz.prog 94 [.s s] objs K:=by
 refine zaL is_did_isMethod rfl fun C _=>?_;unfold zex at hk;simp only[c_did_isMethod,sxZ,z6,z7,z8,j4,j5,j6,j7,j8,j9,x3,x4,x5,x6,x7,x8,reduceCtorEq,↓reduceIte];refine zaF (fun n objs tm=>∃i:Nat,i<=s.length/\n=s.length - i/\objs=[]/\(∀j (h:j<s.length),j<i->meB s[j]=true)/\tm.length=29/\tm[0]? = some (.s s)/\tm[5]? = some (.i .i64 s.length)/\tm[6]? = some (.i .i64 i)) s.length ⟨0,zh _,rfl,rfl,fun j h h0=>absurd h0 (by omega),rfl,rfl,rfl,rfl⟩ ?_;rintro n _ tm ⟨i,hi,rfl,rfl,hall,hlen,t0,t5,t6⟩
 by_cases hlt:(i:Int)<s.length
 ·have hlt':i<s.length:=by omega
  have hg:=zaW hlt';have hfin:meB s[i]=false->K objs (.b false):=fun h=>by
   rw[zo3 hlt' h] at hk;exact hk
  have hnext:meB s[i]=true->∀j (h:j<s.length),j<i+1->meB s[j]=true:=by
   intro h j hj hji;rcases Nat.lt_or_ge j i with h1|h1
   ·exact hall j hj h1
   ·have:j=i:=by omega
    subst this;exact h
  simp only[sxZ,z6,z7,z8,j4,j5,j6,j7,j8,j9,x3,x4,x5,x6,x7,x8,reduceCtorEq,↓reduceIte,za,hlen,t0,t5,t6,hlt];refine⟨by omega,?_⟩;rw[hg];generalize s[i]=c at *;refine zai (zlb c ?_)
  by_cases hd:zaq c=true
  ·have hm:meB c=true:=by unfold meB;rw[hd];rfl
   simp only[hd,sxZ,z6,z7,z8,j4,j5,j6,j7,j8,j9,x3,x4,x5,x6,x7,x8,reduceCtorEq,↓reduceIte,za,hlen,t0,t5,t6];exact⟨⟨by omega,by omega⟩,s.length - (i+1),by omega,i+1,by omega,rfl,hnext hm,rfl⟩
  ·simp only[Bool.not_eq_true] at hd;have hm:=meB_iff c hd
   by_cases h97:((c.toNat:Nat):Int)<97
   ·have hm2:meB c=false:=by rw[hm,decide_eq_false (by omega)];rfl
    simp only[hd,hg,h97,sxZ,z6,z7,z8,j4,j5,j6,j7,j8,j9,x3,x4,x5,x6,x7,x8,reduceCtorEq,↓reduceIte,za,hlen,t0,t5,t6];exact⟨⟨by omega,by omega⟩,hfin hm2⟩
   ·by_cases h122:(122:Int)<((c.toNat:Nat):Int)
    ·have hm2:meB c=false:=by rw[hm,decide_eq_false (p:=c.toNat<=122) (by omega),Bool.and_false]
     simp only[hd,hg,h97,h122,sxZ,z6,z7,z8,j4,j5,j6,j7,j8,j9,x3,x4,x5,x6,x7,x8,reduceCtorEq,↓reduceIte,za,hlen,t0,t5,t6];exact⟨⟨by omega,by omega⟩,⟨by omega,by omega⟩,hfin hm2⟩
    ·have hm2:meB c=true:=by rw[hm,decide_eq_true (by omega),decide_eq_true (by omega)];rfl
     simp only[hd,hg,h97,h122,sxZ,z6,z7,z8,j4,j5,j6,j7,j8,j9,x3,x4,x5,x6,x7,x8,reduceCtorEq,↓reduceIte,za,hlen,t0,t5,t6];exact⟨⟨by omega,by omega⟩,⟨by omega,by omega⟩,⟨by omega,by omega⟩,s.length - (i+1),by omega,i+1,by omega,rfl,hnext hm2,rfl⟩
 ·have hie:i=s.length:=by omega
  subst hie;have ha:s.all meB=true:=all_of fun j h=>hall j h h;rw[ha] at hk;simp only[sxZ,z6,z7,z8,j4,j5,j6,j7,j8,j9,x3,x4,x5,x6,x7,x8,reduceCtorEq,↓reduceIte,za,hlen,t0,t5,t6,hlt];have e:decide (¬s=[])=(true&&!s.isEmpty):=by cases s<;>simp
  rw[e];exact hk
theorem zoH (c:UInt8) (hk:K objs (.b (zbu c||zaq c||zcl c [46,45,95,58]))):zad Tryz.prog 111 [.i .u8 c.toNat] objs K:=by
 refine zaL is_did_isIDByte rfl fun C _=>?_;simp only[c_did_isIDByte,sxZ,z6,z7,z8,j4,j5,j6,j7,j8,j9,x3,x4,x5,x6,x7,x8,reduceCtorEq,↓reduceIte];refine zai (aAlpha_k c ?_)
 by_cases h1:zbu c=true
 ·simp only[h1,Bool.true_or] at hk;simp only[h1,sxZ,z6,z7,z8,j4,j5,j6,j7,j8,j9,x3,x4,x5,x6,x7,x8,reduceCtorEq,↓reduceIte];exact hk
 ·simp only[h1,sxZ,z6,z7,z8,j4,j5,j6,j7,j8,j9,x3,x4,x5,x6,x7,x8,reduceCtorEq,↓reduceIte];refine zai (zlb c ?_)
  by_cases h2:zaq c=true
  ·simp only[h1,h2,Bool.true_or,Bool.or_true,Bool.false_or] at hk;simp only[h2,sxZ,z6,z7,z8,j4,j5,j6,j7,j8,j9,x3,x4,x5,x6,x7,x8,reduceCtorEq,↓reduceIte];exact hk
  ·simp only[h1,h2,Bool.false_or] at hk;simp only[h2,sxZ,z6,z7,z8,j4,j5,j6,j7,j8,j9,x3,x4,x5,x6,x7,x8,reduceCtorEq,↓reduceIte];refine zai (zeO _ c ?_);simp only[sxZ,z6,z7,z8,j4,j5,j6,j7,j8,j9,x3,x4,x5,x6,x7,x8,reduceCtorEq,↓reduceIte];rw[zn2];exact hk
set_option maxHeartbeats 4000000 in
theorem zlM [Shp Tryz.prog] (s:List UInt8) (hs:s.length<=16384) (hk:K objs (.tup [.s (idE s).2,.i .i64 (idE s).1])):zad Tryz.prog 95 [.s s] objs K:=by
 refine zaL is_did_parseID rfl fun C _=>?_;have hid:idE s=if (zeg s).1≠0 then ((zeg s).1,[]) else if s.all ibB=false then (1,[]) else if s=[]\/s.getLast? = some 58 then (3,[]) else if (zaC s zaT).1≠0 then ((zaC s zaT).1,[]) else (0,zb8 (zaC s zaT).2):=rfl
 simp only[c_did_parseID,sxZ,z6,z7,z8,j4,j5,j6,j7,j8,j9,x3,x4,x5,x6,x7,x8,reduceCtorEq,↓reduceIte];refine zai (zm3 s ?_)
 by_cases h1:(zeg s).1=0
 ·simp only[h1,sxZ,z6,z7,z8,j4,j5,j6,j7,j8,j9,x3,x4,x5,x6,x7,x8,reduceCtorEq,↓reduceIte] at hid ⊢;refine zaF (fun n objs tm=>∃i:Nat,i<=s.length/\n=s.length - i/\objs=[]/\(∀j (h:j<s.length),j<i->ibB s[j]=true)/\tm.length=54/\tm[0]? = some (.s s)/\tm[18]? = some (.i .i64 s.length)/\tm[19]? = some (.i .i64 i)) s.length ⟨0,zh _,rfl,rfl,fun j h h0=>absurd h0 (by omega),rfl,rfl,rfl,rfl⟩ ?_;rintro n _ tm ⟨i,hi,rfl,rfl,hall,hlen,t0,t5,t6⟩
  by_cases hlt:(i:Int)<s.length
  ·have hlt':i<s.length:=by omega
   have hg:=zaW hlt';have hfin:ibB s[i]=false->K objs (.tup [.s [],.i .i64 1]):=fun h=>by
    rw[zo3 hlt' h] at hid;simp only[sxZ,z6,z7,z8,j4,j5,j6,j7,j8,j9,x3,x4,x5,x6,x7,x8,reduceCtorEq,↓reduceIte] at hid;rw[hid] at hk;exact hk
   have hnext:ibB s[i]=true->∀j (h:j<s.length),j<i+1->ibB s[j]=true:=by
    intro h j hj hji;rcases Nat.lt_or_ge j i with h1|h1
    ·exact hall j hj h1
    ·have:j=i:=by omega
     subst this;exact h
   clear hk hid;generalize s[i]=c at *;have hib:=ib_form c
   by_cases h37:c=37
   ·have e37:((c.toNat:Nat):Int)=37:=by rw[h37];rfl
    have hb:ibB c=true:=by rw[hib,h37];rfl
    simp only[sxZ,z6,z7,z8,j4,j5,j6,j7,j8,j9,x3,x4,x5,x6,x7,x8,reduceCtorEq,↓reduceIte,za,hlen,t0,t5,t6,hlt,hg,e37];exact⟨by omega,⟨by omega,by omega⟩,s.length - (i+1),by omega,i+1,by omega,rfl,hnext hb,rfl⟩
   ·have e37:¬((c.toNat:Nat):Int)=37:=fun e=>h37 (UInt8.toNat_inj.1 (by have:(37:UInt8).toNat=37:=rfl;omega));have hne:(c==37)=false:=by simpa using h37
    simp only[sxZ,z6,z7,z8,j4,j5,j6,j7,j8,j9,x3,x4,x5,x6,x7,x8,reduceCtorEq,↓reduceIte,za,hlen,t0,t5,t6,hlt,hg,e37];refine⟨by omega,by omega,?_⟩;refine zai (zoH c ?_);rw[hne,Bool.false_or] at hib;rw[<-hib]
    by_cases hb:ibB c=true
    ·simp only[hb,sxZ,z6,z7,z8,j4,j5,j6,j7,j8,j9,x3,x4,x5,x6,x7,x8,reduceCtorEq,↓reduceIte,za,hlen,t0,t5,t6];exact⟨⟨by omega,by omega⟩,s.length - (i+1),by omega,i+1,by omega,rfl,hnext hb,rfl⟩
    ·simp only[Bool.not_eq_true] at hb;simp only[hb,sxZ,z6,z7,z8,j4,j5,j6,j7,j8,j9,x3,x4,x5,x6,x7,x8,reduceCtorEq,↓reduceIte,za,hlen,t0,t5,t6];exact hfin hb
  ·have hie:i=s.length:=by omega
   subst hie;have ha:s.all ibB=true:=all_of fun j h=>hall j h h;simp only[ha,sxZ,z6,z7,z8,j4,j5,j6,j7,j8,j9,x3,x4,x5,x6,x7,x8,reduceCtorEq,↓reduceIte] at hid;simp only[sxZ,z6,z7,z8,j4,j5,j6,j7,j8,j9,x3,x4,x5,x6,x7,x8,reduceCtorEq,↓reduceIte,za,hlen,t0,t5,t6,hlt]
   by_cases hs0:s=[]
   ·have ho:s=[]\/s.getLast? = some 58:=.inl hs0;rw[if_pos ho] at hid;rw[hid] at hk;simp only[sxZ,z6,z7,z8,j4,j5,j6,j7,j8,j9,x3,x4,x5,x6,x7,x8,reduceCtorEq,↓reduceIte,za,hlen,t0,t5,t6,hs0];exact hk
   ·have hpos:0<s.length:=by
     rcases Nat.eq_zero_or_pos s.length with h|h
     ·exact absurd (jo h) hs0
     ·exact h
    have hgl:s.getLast? = some s[s.length - 1]:=by rw[List.getLast?_eq_getElem?,zl (by omega)]
    have hg2:s.getD ((s.length:Int) - 1).toNat 0=s[s.length - 1]:=by
     rw[show ((s.length:Int) - 1).toNat=s.length - 1 by omega];exact zaW (by omega)
    by_cases h58:s[s.length - 1]=58
    ·have ho:s=[]\/s.getLast? = some 58:=.inr (by rw[hgl,h58]);have e58:((s[s.length - 1].toNat:Nat):Int)=58:=by rw[h58];rfl
     rw[if_pos ho] at hid;rw[hid] at hk;simp only[sxZ,z6,z7,z8,j4,j5,j6,j7,j8,j9,x3,x4,x5,x6,x7,x8,reduceCtorEq,↓reduceIte,za,hlen,t0,t5,t6,hs0];refine⟨⟨by omega,by omega⟩,⟨by omega,by omega⟩,?_⟩;rw[hg2];simp only[sxZ,z6,z7,z8,j4,j5,j6,j7,j8,j9,x3,x4,x5,x6,x7,x8,reduceCtorEq,↓reduceIte,za,hlen,t0,t5,t6,e58];exact hk
    ·have ho:¬(s=[]\/s.getLast? = some 58):=by
      rw[hgl];rintro(h|h)
      ·exact hs0 h
      ·injection h with h;exact h58 h
     have e58:¬((s[s.length - 1].toNat:Nat):Int)=58:=fun e=>h58 (UInt8.toNat_inj.1 (by have:(58:UInt8).toNat=58:=rfl;omega));rw[if_neg ho] at hid;simp only[sxZ,z6,z7,z8,j4,j5,j6,j7,j8,j9,x3,x4,x5,x6,x7,x8,reduceCtorEq,↓reduceIte,za,hlen,t0,t5,t6,hs0];refine⟨⟨by omega,by omega⟩,⟨by omega,by omega⟩,?_⟩;rw[hg2];simp only[sxZ,z6,z7,z8,j4,j5,j6,j7,j8,j9,x3,x4,x5,x6,x7,x8,reduceCtorEq,↓reduceIte,za,hlen,t0,t5,t6,e58];refine zai (zhb s zaT ?_)
     by_cases h3:(zaC s zaT).1=0
     ·have nl:=zev s zaT;simp only[h3,sxZ,z6,z7,z8,j4,j5,j6,j7,j8,j9,x3,x4,x5,x6,x7,x8,reduceCtorEq,↓reduceIte] at hid;simp only[h3,sxZ,z6,z7,z8,j4,j5,j6,j7,j8,j9,x3,x4,x5,x6,x7,x8,reduceCtorEq,↓reduceIte,za,hlen];refine zai (ziT _ _ 126 (by omega) (by decide) (by decide) ?_);rw[hid] at hk;simp only[sxZ,z6,z7,z8,j4,j5,j6,j7,j8,j9,x3,x4,x5,x6,x7,x8,reduceCtorEq,↓reduceIte,za,hlen];exact hk
     ·simp only[h3,sxZ,z6,z7,z8,j4,j5,j6,j7,j8,j9,x3,x4,x5,x6,x7,x8,reduceCtorEq,↓reduceIte] at hid;simp only[h3,sxZ,z6,z7,z8,j4,j5,j6,j7,j8,j9,x3,x4,x5,x6,x7,x8,reduceCtorEq,↓reduceIte,za,hlen];rw[hid] at hk;exact hk
 ·simp only[h1,sxZ,z6,z7,z8,j4,j5,j6,j7,j8,j9,x3,x4,x5,x6,x7,x8,reduceCtorEq,↓reduceIte] at hid ⊢;rw[hid] at hk;exact hk
theorem zfW [Shp Tryz.prog] (s:List UInt8) (hs:s.length<=maxLen) (hk:K objs (.tup [.agg [.s (ze4 s).2.1,.s (ze4 s).2.2],.i .i64 (ze4 s).1])):zad Tryz.prog 66 [.s s] objs K:=by
 have hm:maxLen=2 ^ 63 - 1:=rfl;refine zaL is_did_ParseDID rfl fun C _=>?_;unfold ze4 at hk
 by_cases c0:(4096:Int)<↑s.length
 ·have c0':4096<s.length:=by omega
  simp only[c0',if_true] at hk;simp only[c0,c_did_ParseDID,sxZ,z6,z7,z8,j4,j5,j6,j7,j8,j9,x3,x4,x5,x6,x7,x8,reduceCtorEq,↓reduceIte];exact hk
 ·have c0':¬4096<s.length:=by omega
  simp only[c0',if_false] at hk;simp only[c0,c_did_ParseDID,sxZ,z6,z7,z8,j4,j5,j6,j7,j8,j9,x3,x4,x5,x6,x7,x8,reduceCtorEq,↓reduceIte];refine zai (zhO s zcj ?_)
  by_cases c1:Lib.hasPrefix s zcj=true
  ·have ct:=zcP 58 (s.drop 4);have hdl:(s.drop 4).length<=s.length:=by rw[qb];omega
   rw[trim_did c1];simp only[c1,sxZ,z6,z7,z8,j4,j5,j6,j7,j8,j9,x3,x4,x5,x6,x7,x8,reduceCtorEq,↓reduceIte] at hk ⊢;generalize s.drop 4=r at *;refine zai (zjD r 58 (by omega) ?_)
   by_cases c2:(zaE 58 r).2.2=true
   ·simp only[c2,sxZ,z6,z7,z8,j4,j5,j6,j7,j8,j9,x3,x4,x5,x6,x7,x8,reduceCtorEq,↓reduceIte] at hk ⊢;refine zai (zoG _ (by omega) ?_)
    by_cases c3:zex (zaE 58 r).1=true
    ·simp only[c3,sxZ,z6,z7,z8,j4,j5,j6,j7,j8,j9,x3,x4,x5,x6,x7,x8,reduceCtorEq,↓reduceIte] at hk ⊢;refine zai (zlM _ (by omega) ?_)
     by_cases c4:(idE (zaE 58 r).2.1).1=0
     ·simp only[c4,sxZ,z6,z7,z8,j4,j5,j6,j7,j8,j9,x3,x4,x5,x6,x7,x8,reduceCtorEq,↓reduceIte] at hk ⊢;exact hk
     ·simp only[c4,sxZ,z6,z7,z8,j4,j5,j6,j7,j8,j9,x3,x4,x5,x6,x7,x8,reduceCtorEq,↓reduceIte] at hk ⊢;exact hk
    ·simp only[c3,sxZ,z6,z7,z8,j4,j5,j6,j7,j8,j9,x3,x4,x5,x6,x7,x8,reduceCtorEq,↓reduceIte] at hk ⊢;exact hk
   ·simp only[c2,sxZ,z6,z7,z8,j4,j5,j6,j7,j8,j9,x3,x4,x5,x6,x7,x8,reduceCtorEq,↓reduceIte] at hk ⊢;exact hk
  ·simp only[c1,sxZ,z6,z7,z8,j4,j5,j6,j7,j8,j9,x3,x4,x5,x6,x7,x8,reduceCtorEq,↓reduceIte] at hk ⊢;exact hk
def zdT (u:DidU):AV:=.agg [.s u.meth,.s u.id,.s u.path,.s u.query,.s u.frag,.b u.hq,.b u.hf]
set_option maxHeartbeats 4000000 in
theorem zht [Shp Tryz.prog] (s:List UInt8) (hs:s.length<=maxLen) (hk:K objs (.tup [zdT (zhp s).2,.i .i64 (zhp s).1])):zad Tryz.prog 101 [.s s] objs K:=by
 have hm:maxLen=2 ^ 63 - 1:=rfl;refine zaL is_did_Parse rfl fun C _=>?_;unfold zhp at hk
 by_cases c0:(4096:Int)<↑s.length
 ·have c0':4096<s.length:=by omega
  simp only[c0',if_true,zdT,zlJ] at hk;simp only[c0,c_did_Parse,sxZ,z6,z7,z8,j4,j5,j6,j7,j8,j9,x3,x4,x5,x6,x7,x8,reduceCtorEq,↓reduceIte];exact hk
 ·have c0':¬4096<s.length:=by omega
  simp only[c0',if_false] at hk;simp only[c0,c_did_Parse,sxZ,z6,z7,z8,j4,j5,j6,j7,j8,j9,x3,x4,x5,x6,x7,x8,reduceCtorEq,↓reduceIte];refine zai (zjD s 35 (by omega) ?_);simp only[sxZ,z6,z7,z8,j4,j5,j6,j7,j8,j9,x3,x4,x5,x6,x7,x8,reduceCtorEq,↓reduceIte];have l1:=zcP 35 s;refine zai (zjD _ 63 (by omega) ?_);have l2:=zcP 63 (zaE 35 s).1;simp only[sxZ,z6,z7,z8,j4,j5,j6,j7,j8,j9,x3,x4,x5,x6,x7,x8,reduceCtorEq,↓reduceIte];refine zai (zjD _ 47 (by omega) ?_);have l3:=zcP 47 (zaE 63 (zaE 35 s).1).1;simp only[sxZ,z6,z7,z8,j4,j5,j6,j7,j8,j9,x3,x4,x5,x6,x7,x8,reduceCtorEq,↓reduceIte];have en:(zaE 47 (zaE 63 (zaE 35 s).1).1).1=zeV s:=rfl;have eb:(zaE 63 (zaE 35 s).1).1=zdb s:=rfl;rw[en,eb] at l3;rw[eb] at l2;rw[en,eb];generalize zeV s=nm at *;generalize zdb s=bd at *;generalize (zaE 63 (zaE 35 s).1).2.1=qu at *;generalize (zaE 63 (zaE 35 s).1).2.2=bq at *;generalize (zaE 35 s).2.1=fr at *;generalize (zaE 35 s).2.2=bf at *;refine zai (zfW nm (by omega) ?_)
  by_cases c1:(ze4 nm).1=0
  ·simp only[c1,sxZ,z6,z7,z8,j4,j5,j6,j7,j8,j9,x3,x4,x5,x6,x7,x8,reduceCtorEq,↓reduceIte] at hk ⊢;refine⟨⟨by omega,by omega⟩,?_⟩;refine zai (zhb _ zbd ?_)
   by_cases c2:(zaC (bd.drop nm.length) zbd).1=0
   ·simp only[c2,sxZ,z6,z7,z8,j4,j5,j6,j7,j8,j9,x3,x4,x5,x6,x7,x8,reduceCtorEq,↓reduceIte] at hk ⊢;refine zai (zhb _ zaA ?_)
    by_cases c3:(zaC qu zaA).1=0
    ·simp only[c3,sxZ,z6,z7,z8,j4,j5,j6,j7,j8,j9,x3,x4,x5,x6,x7,x8,reduceCtorEq,↓reduceIte] at hk ⊢;refine zai (zhb _ zaA ?_)
     by_cases c4:(zaC fr zaA).1=0
     ·simp only[c4,zdT,sxZ,z6,z7,z8,j4,j5,j6,j7,j8,j9,x3,x4,x5,x6,x7,x8,reduceCtorEq,↓reduceIte] at hk ⊢;exact hk
     ·simp only[c4,zdT,zlJ,sxZ,z6,z7,z8,j4,j5,j6,j7,j8,j9,x3,x4,x5,x6,x7,x8,reduceCtorEq,↓reduceIte] at hk ⊢;exact hk
    ·simp only[c3,zdT,zlJ,sxZ,z6,z7,z8,j4,j5,j6,j7,j8,j9,x3,x4,x5,x6,x7,x8,reduceCtorEq,↓reduceIte] at hk ⊢;exact hk
   ·simp only[c2,zdT,zlJ,sxZ,z6,z7,z8,j4,j5,j6,j7,j8,j9,x3,x4,x5,x6,x7,x8,reduceCtorEq,↓reduceIte] at hk ⊢;exact hk
  ·simp only[c1,zdT,zlJ,sxZ,z6,z7,z8,j4,j5,j6,j7,j8,j9,x3,x4,x5,x6,x7,x8,reduceCtorEq,↓reduceIte] at hk ⊢;exact hk
theorem zct (m i:List UInt8) (h1:m.length<=200000000000000) (h2:i.length<=200000000000000) (hk:K objs (.s (ziJ m i))):zad Tryz.prog 25 [.agg [.s m,.s i]] objs K:=by
 refine zaL is_did_FormatDID rfl fun C _=>?_;simp only[c_did_FormatDID,sxZ,z6,z7,z8,j4,j5,j6,j7,j8,j9,x3,x4,x5,x6,x7,x8,reduceCtorEq,↓reduceIte];exact⟨by omega,by omega,by omega,by simpa[ziJ,zcj] using hk⟩
theorem zoI (u:DidU) (h1:u.meth.length<=200000000000000) (h2:u.id.length<=200000000000000) (h3:u.path.length<=200000000000000) (h4:u.query.length<=200000000000000) (h5:u.frag.length<=200000000000000) (hk:K objs (.s (zhk u))):zad Tryz.prog 80 [zdT u] objs K:=by
 refine zaL is_did_Format rfl fun C _=>?_;have hl:=zfc u.meth u.id;unfold zhk at hk;simp only[zdT,c_did_Format,sxZ,z6,z7,z8,j4,j5,j6,j7,j8,j9,x3,x4,x5,x6,x7,x8,reduceCtorEq,↓reduceIte];refine za5 (zct u.meth u.id h1 h2 ⟨rfl,rfl⟩) ?_;simp only[sxZ,z6,z7,z8,j4,j5,j6,j7,j8,j9,x3,x4,x5,x6,x7,x8,reduceCtorEq,↓reduceIte];refine⟨by omega,?_⟩
 by_cases c1:u.hq=true
 all_goals by_cases c2:u.hf=true
 all_goals simp only[c1,c2,if_true,if_false,Bool.false_eq_true,List.append_nil] at hk
 all_goals simp only[c1,c2,sxZ,z6,z7,z8,j4,j5,j6,j7,j8,j9,x3,x4,x5,x6,x7,x8,reduceCtorEq,↓reduceIte]
 ·exact⟨by omega,by omega,by omega,by omega,by simpa using hk⟩
 ·exact⟨by omega,by omega,by simpa using hk⟩
 ·exact⟨by omega,by omega,by simpa using hk⟩
 ·exact hk
theorem zlL [Shp Tryz.prog] (m i r:List UInt8) (h1:m.length<=200000000) (h2:i.length<=200000000) (hr:r.length<=200000000) (hk:K objs (.tup [zdT (zfB m i r).2,.i .i64 (zfB m i r).1])):zad Tryz.prog 79 [.agg [.s m,.s i],.s r] objs K:=by
 have hm:maxLen=2 ^ 63 - 1:=rfl;have hl:=zfc m i;refine zaL is_did_Resolve rfl fun C _=>?_;unfold zfB at hk;simp only[c_did_Resolve,sxZ,z6,z7,z8,j4,j5,j6,j7,j8,j9,x3,x4,x5,x6,x7,x8,reduceCtorEq,↓reduceIte];refine zai (zhN r zcj ?_)
 by_cases c1:Lib.hasPrefix r zcj=true
 ·simp only[c1,sxZ,z6,z7,z8,j4,j5,j6,j7,j8,j9,x3,x4,x5,x6,x7,x8,reduceCtorEq,↓reduceIte] at hk ⊢;refine zai (zht r (by omega) ?_);simp only[zdT,sxZ,z6,z7,z8,j4,j5,j6,j7,j8,j9,x3,x4,x5,x6,x7,x8,reduceCtorEq,↓reduceIte] at hk ⊢;exact hk
 ·cases r with
  | nil=>
   simp only[c1,sxZ,z6,z7,z8,j4,j5,j6,j7,j8,j9,x3,x4,x5,x6,x7,x8,reduceCtorEq,↓reduceIte] at hk ⊢;refine zai (zct m i (by omega) (by omega) ?_);simp only[sxZ,z6,z7,z8,j4,j5,j6,j7,j8,j9,x3,x4,x5,x6,x7,x8,reduceCtorEq,↓reduceIte];refine⟨by omega,?_⟩;refine zai (zht _ (by omega) ?_);simp only[zdT,sxZ,z6,z7,z8,j4,j5,j6,j7,j8,j9,x3,x4,x5,x6,x7,x8,reduceCtorEq,↓reduceIte,true_or] at hk ⊢;exact hk
  | cons c t=>
   simp only[c1,sxZ,z6,z7,z8,j4,j5,j6,j7,j8,j9,x3,x4,x5,x6,x7,x8,reduceCtorEq,↓reduceIte,List.head?_cons,Option.some.injEq,false_or] at hk;simp only[c1,sxZ,z6,z7,z8,j4,j5,j6,j7,j8,j9,x3,x4,x5,x6,x7,x8,reduceCtorEq,↓reduceIte,List.getD_cons_zero];refine⟨by omega,?_⟩;refine zai (zeO _ c ?_);have hix:=zn2 [47,63,35] c
   by_cases c2:zcl c [47,63,35]=true
   ·rw[c2] at hix;have h0:=of_decide_eq_true hix;simp only[c2,sxZ,z6,z7,z8,j4,j5,j6,j7,j8,j9,x3,x4,x5,x6,x7,x8,reduceCtorEq,↓reduceIte] at hk;simp only[h0,sxZ,z6,z7,z8,j4,j5,j6,j7,j8,j9,x3,x4,x5,x6,x7,x8,reduceCtorEq,↓reduceIte];refine zai (zct m i (by omega) (by omega) ?_);simp only[sxZ,z6,z7,z8,j4,j5,j6,j7,j8,j9,x3,x4,x5,x6,x7,x8,reduceCtorEq,↓reduceIte];simp only[zx] at hr;refine⟨by omega,?_⟩;refine zai (zht _ (by simp only[zp,zx];omega) ?_);simp only[zdT,sxZ,z6,z7,z8,j4,j5,j6,j7,j8,j9,x3,x4,x5,x6,x7,x8,reduceCtorEq,↓reduceIte] at hk ⊢;exact hk
   ·simp only[Bool.not_eq_true] at c2;rw[c2] at hix;have h0:=of_decide_eq_false hix;simp only[c2,sxZ,z6,z7,z8,j4,j5,j6,j7,j8,j9,x3,x4,x5,x6,x7,x8,reduceCtorEq,↓reduceIte] at hk;simp only[h0,sxZ,z6,z7,z8,j4,j5,j6,j7,j8,j9,x3,x4,x5,x6,x7,x8,reduceCtorEq,↓reduceIte];simp only[zdT,zlJ,sxZ,z6,z7,z8,j4,j5,j6,j7,j8,j9,x3,x4,x5,x6,x7,x8,reduceCtorEq,↓reduceIte] at hk;exact hk
end
section
attribute [local irreducible] run
theorem zdP:IsFn Tryz.prog 64:=⟨_,Tryz.func64,by kernel_rfl,of_decide_eq_true (by kernel_rfl)⟩
theorem zl9 (v:JV) (key:List UInt8) (n:Nat) (h:(zbA v key).1.text.length<=n):(tmD v key).1.length<=n:=by
 unfold tmD;split
 ·exact h
 ·exact zh _
section
variable [Tabs Tryz.prog] {objs:List OB} {K:List OB->AV->Prop}
theorem znn (v:JV) (hk:K (objs++[.box 25 (zae v)]) (.fn 64 [] [.p objs.length 0])):zad Tryz.prog 23 [.agg (zae v)] objs K:=by
 refine zcN is_diddoc_membersOf fun C _=>?_;rw[c_diddoc_membersOf];rw[zaf v] at hk ⊢;simp only[sxZ,z6,z7,z8,j4,j5,j6,j7,j8,j9,x3,x4,x5,x6,x7,x8,reduceCtorEq,↓reduceIte];exact hk
theorem zja (v:JV) (key:List UInt8) (b:Nat) (hb:objs[b]? = some (.box 25 (zae v))) (hv:JOk v) (hj:JBd v) (hk:∀z,K (objs++[z]) (zbS (zbA v key))):zad Tryz.prog 64 [.s key,.p b 0] objs K:=by
 refine zcN is_diddoc_membersOf_1 fun C _=>?_;rw[c_diddoc_membersOf_1];have ejv:=zaf v;have hbl:=(zf.1 hb).1;refine zaa fun Z hZ=>?_;simp only[sxZ,z6,z7,z8,j4,j5,j6,j7,j8,j9,x3,x4,x5,x6,x7,x8,reduceCtorEq,↓reduceIte];have eb:(objs++[OB.box 25 [.i .i64 0,.s [],.nil,.nil]])[b]? = some (.box 25 (zae v)):=by rw[zj hbl];exact hb
 have eX:(objs++[OB.box 25 [.i .i64 0,.s [],.nil,.nil]])[objs.length]? = some (.box 25 [.i .i64 0,.s [],.nil,.nil]):=gn1 _ _;have eS:∀Y,(objs++[OB.box 25 [.i .i64 0,.s [],.nil,.nil]]).set objs.length Y=objs++[Y]:=fun Y=>sn1 _ _ _;have eG:∀Y:OB,(objs++[Y])[objs.length]? = some Y:=fun Y=>gn1 _ _;rw[ejv] at eb;generalize objs++[OB.box 25 [.i .i64 0,.s [],.nil,.nil]]=o1 at eb eX eS ⊢;generalize objs.length=q at eX eS eG ⊢;subst hZ;refine zaa fun Z hZ=>?_;simp only[sxZ,z6,z7,z8,j4,j5,j6,j7,j8,j9,x3,x4,x5,x6,x7,x8,reduceCtorEq,↓reduceIte,eb];rw[<-ejv];refine zai (zku v key hv hj ?_);unfold zbS at hk ⊢;generalize zbA v key=R at hk ⊢;obtain⟨x,ok⟩:=R;dsimp only at hk ⊢;rw[zaf x] at hk ⊢;simp only[sxZ,z6,z7,z8,j4,j5,j6,j7,j8,j9,x3,x4,x5,x6,x7,x8,reduceCtorEq,↓reduceIte,eX,eS];subst hZ;simp only[sxZ,z6,z7,z8,j4,j5,j6,j7,j8,j9,x3,x4,x5,x6,x7,x8,reduceCtorEq,↓reduceIte,eG];exact hk _
theorem tm_k (v:JV) (key:List UInt8) (hv:JOk v) (hj:JBd v) (hk:K objs (.tup [.s (tmD v key).1,.b (tmD v key).2])):zad Tryz.prog 65 [.agg (zae v),.s key] objs K:=by
 refine zaL is_diddoc_textMember (by simp only[zal,AV.plain,zaP,Bool.and_self]) fun C _=>?_;rw[c_diddoc_textMember];have ejv:=zaf v;rw[ejv];refine zaa fun Z hZ=>?_;simp only[sxZ,z6,z7,z8,j4,j5,j6,j7,j8,j9,x3,x4,x5,x6,x7,x8,reduceCtorEq,↓reduceIte];subst hZ;refine zaa fun Z hZ=>?_;simp only[sxZ,z6,z7,z8,j4,j5,j6,j7,j8,j9,x3,x4,x5,x6,x7,x8,reduceCtorEq,↓reduceIte];rw[<-ejv];refine zai (znn v ?_);simp only[sxZ,z6,z7,z8,j4,j5,j6,j7,j8,j9,x3,x4,x5,x6,x7,x8,reduceCtorEq,↓reduceIte];refine zd8 zdP (zja v key 1 rfl hv hj fun z=>?_);unfold tmD at hk;unfold zbS;generalize zbA v key=R at hk ⊢;obtain⟨x,ok⟩:=R;dsimp only at hk ⊢;rw[zaf x];simp only[sxZ,z6,z7,z8,j4,j5,j6,j7,j8,j9,x3,x4,x5,x6,x7,x8,reduceCtorEq,↓reduceIte];subst hZ;refine zaa fun Z hZ=>?_
 cases ok with
 | false=>
  rw[if_neg (show ¬(false=true/\x.kind=5) from fun e=>by cases e.1)] at hk;simp only[sxZ,z6,z7,z8,j4,j5,j6,j7,j8,j9,x3,x4,x5,x6,x7,x8,reduceCtorEq,↓reduceIte];exact hk
 | true=>
  by_cases c:x.kind=5
  ·rw[if_pos ⟨rfl,c⟩] at hk;simp only[sxZ,z6,z7,z8,j4,j5,j6,j7,j8,j9,x3,x4,x5,x6,x7,x8,reduceCtorEq,↓reduceIte,c];subst hZ;simp only[sxZ,z6,z7,z8,j4,j5,j6,j7,j8,j9,x3,x4,x5,x6,x7,x8,reduceCtorEq,↓reduceIte];exact hk
  ·rw[if_neg (fun e=>c e.2)] at hk;simp only[sxZ,z6,z7,z8,j4,j5,j6,j7,j8,j9,x3,x4,x5,x6,x7,x8,reduceCtorEq,↓reduceIte,c];exact hk
theorem mid_k [Shp Tryz.prog] (m i:List UInt8) (v:JV) (hv:JOk v) (hj:JBd v) (h1:m.length<=100000) (h2:i.length<=100000) (ht:(zbA v kId).1.text.length<=100000000) (hl:∀r:List UInt8,r.length<=100000000->(zfB m i r).1=0->(zfB m i r).2.meth.length<=200000000000000/\(zfB m i r).2.id.length<=200000000000000/\(zfB m i r).2.path.length<=200000000000000/\(zfB m i r).2.query.length<=200000000000000/\(zfB m i r).2.frag.length<=200000000000000)
  (hk:K objs (.tup [.s (zib m i v).2,.i .i64 (zib m i v).1])):zad Tryz.prog 41 [.agg (zae v),.agg [.s m,.s i]] objs K:=by
 refine zaL is_diddoc_memberID (by simp only[zal,AV.plain,zaP,Bool.and_self]) fun C _=>?_;rw[c_diddoc_memberID];have ejv:=zaf v;have htl:=zl9 v kId _ ht;rw[ejv];refine zaa fun Z hZ=>?_;simp only[sxZ,z6,z7,z8,j4,j5,j6,j7,j8,j9,x3,x4,x5,x6,x7,x8,reduceCtorEq,↓reduceIte];subst hZ;refine zaa fun Z hZ=>?_;simp only[sxZ,z6,z7,z8,j4,j5,j6,j7,j8,j9,x3,x4,x5,x6,x7,x8,reduceCtorEq,↓reduceIte];rw[<-ejv];refine zai (tm_k v kId hv hj ?_);unfold zib at hk;generalize tmD v kId=R at hk htl ⊢;obtain⟨x,ok⟩:=R;dsimp only at hk htl ⊢;rw[ejv];simp only[sxZ,z6,z7,z8,j4,j5,j6,j7,j8,j9,x3,x4,x5,x6,x7,x8,reduceCtorEq,↓reduceIte];subst hZ;refine zaa fun Z hZ=>?_
 cases ok with
 | false=>
  rw[if_pos rfl] at hk;simp only[sxZ,z6,z7,z8,j4,j5,j6,j7,j8,j9,x3,x4,x5,x6,x7,x8,reduceCtorEq,↓reduceIte];exact hk
 | true=>
  rw[if_neg (by decide)] at hk;simp only[sxZ,z6,z7,z8,j4,j5,j6,j7,j8,j9,x3,x4,x5,x6,x7,x8,reduceCtorEq,↓reduceIte];subst hZ;refine zaa fun Z hZ=>?_;simp only[sxZ,z6,z7,z8,j4,j5,j6,j7,j8,j9,x3,x4,x5,x6,x7,x8,reduceCtorEq,↓reduceIte];refine zai (zlL m i x (by omega) (by omega) (by omega) ?_);have hl:=hl x htl;generalize zfB m i x=R at hk hl ⊢;obtain⟨e,u⟩:=R;dsimp only at hk hl ⊢;unfold zdT;simp only[sxZ,z6,z7,z8,j4,j5,j6,j7,j8,j9,x3,x4,x5,x6,x7,x8,reduceCtorEq,↓reduceIte];subst hZ;refine zaa fun Z hZ=>?_
  by_cases c:e=0
  ·subst c;rw[if_neg (by decide)] at hk;obtain⟨q1,q2,q3,q4,q5⟩:=hl rfl;simp only[sxZ,z6,z7,z8,j4,j5,j6,j7,j8,j9,x3,x4,x5,x6,x7,x8,reduceCtorEq,↓reduceIte];subst hZ;refine zaa fun Z hZ=>?_;simp only[sxZ,z6,z7,z8,j4,j5,j6,j7,j8,j9,x3,x4,x5,x6,x7,x8,reduceCtorEq,↓reduceIte];refine zai (zoI u q1 q2 q3 q4 q5 ?_);simp only[sxZ,z6,z7,z8,j4,j5,j6,j7,j8,j9,x3,x4,x5,x6,x7,x8,reduceCtorEq,↓reduceIte];subst hZ;simp only[sxZ,z6,z7,z8,j4,j5,j6,j7,j8,j9,x3,x4,x5,x6,x7,x8,reduceCtorEq,↓reduceIte];exact hk
  ·rw[if_pos c] at hk;simp only[sxZ,z6,z7,z8,j4,j5,j6,j7,j8,j9,x3,x4,x5,x6,x7,x8,reduceCtorEq,↓reduceIte,c];exact hk
end
end
section
attribute [local irreducible] run
theorem zcd {G:Gh} {I:Imm} {a a' b:AV} {y:Value} (h:∀z,Den G I a z->Den G I a' z) (hd:Den G I (.tup [a,b]) y):Den G I (.tup [a',b]) y:=by
 simp only[Den,zah] at hd ⊢;obtain⟨ys,rfl,y1,ys1,rfl,h1,h2⟩:=hd;exact⟨_,rfl,y1,ys1,rfl,h _ h1,h2⟩
def zjz (R:Int×List (List UInt8)):AV:=.tup [.row R.2.length (R.2.map .s),.i .i64 R.1]
section
variable [Tabs Tryz.prog] {objs:List OB} {K:List OB->AV->Prop}
theorem zma (l:List JV) (hk:K objs (zjz (txD l))):zad Tryz.prog 67 [.row l.length (zac l)] objs K:=by
 refine zew (zjz (txD l)) ?_;have knil:∀e:Int,txD l=(e,[])->(∀G I y,Den G I (.tup [.nil,.i .i64 e]) y->Den G I (zjz (txD l)) y)/\K objs (zjz (txD l)):=fun e he=>⟨fun G I y h=>by rw[he];exact zcd (fun z hz=>za3 hz) h,hk⟩;refine zaL is_diddoc_texts (by simp only[zal,AV.plain,zaG,Bool.and_self]) fun C _=>?_;rw[c_diddoc_texts];have hl4:=zav l;refine zaa fun Z hZ=>?_;simp only[sxZ,z6,z7,z8,j4,j5,j6,j7,j8,j9,x3,x4,x5,x6,x7,x8,reduceCtorEq,↓reduceIte];subst hZ;refine zaa fun Z hZ=>?_
 by_cases hl:(64:Int)<(l.length:Int)
 ·have:=knil 161 (by unfold txD;rw[if_pos (by omega)]);simp only[sxZ,z6,z7,z8,j4,j5,j6,j7,j8,j9,x3,x4,x5,x6,x7,x8,reduceCtorEq,↓reduceIte,hl,decide_true];exact this
 simp only[sxZ,z6,z7,z8,j4,j5,j6,j7,j8,j9,x3,x4,x5,x6,x7,x8,reduceCtorEq,↓reduceIte,hl,decide_false];subst hZ;refine zaa fun Z hZ=>?_;simp only[sxZ,z6,z7,z8,j4,j5,j6,j7,j8,j9,x3,x4,x5,x6,x7,x8,reduceCtorEq,↓reduceIte];subst hZ;refine zaa fun Z hZ=>?_;refine zaa fun W hW=>?_;simp only[sxZ,z6,z7,z8,j4,j5,j6,j7,j8,j9,x3,x4,x5,x6,x7,x8,reduceCtorEq,↓reduceIte];subst hW;rw[zaO];refine zaF (fun n o tm=>∃i:Nat,i<=l.length/\n=l.length - i/\RowT 0 ((l.take i).map JV.text) o (tm[4]?.getD .u)/\(∀y∈l.take i,y.kind=5)/\tm.length=26/\tm[10]? = some (.row l.length (zac l))/\tm[11]? = some (.i .i64 (l.length:Int))/\tm[12]? = some (.i .i64 (i:Int))) l.length ⟨0,zh _,rfl,.inl ⟨rfl,rfl⟩,(by simp),rfl,rfl,rfl,rfl⟩ ?_;rintro n o tm ⟨i,hi,rfl,hA,hall,hlen,t10,t11,t12⟩;obtain⟨a4,t4⟩:∃a,tm[4]? = some a:=⟨_,zl (by omega)⟩;rw[t4,qj] at hA;refine zaa fun W hW=>?_
 by_cases hlt:(i:Int)<(l.length:Int)
 ·have hi':i<l.length:=by omega
  have kv:=zfM hi';have htk:l.take (i+1)=l.take i++[l[i]]:=by rw[xo,zl hi'];rfl
  have hfl:((l.take i).map JV.text).length=i:=by rw[qg,qh];omega
  have hmem:l[i]∈l:=jg hi';generalize l[i]=y at kv htk hmem;rw[zaf y] at kv;simp only[sxZ,z6,z7,z8,j4,j5,j6,j7,j8,j9,x3,x4,x5,x6,x7,x8,reduceCtorEq,↓reduceIte,za,hlen,t11,t12,hlt];subst hW;refine zaa fun W hW=>?_;simp only[sxZ,z6,z7,z8,j4,j5,j6,j7,j8,j9,x3,x4,x5,x6,x7,x8,reduceCtorEq,↓reduceIte,za,hlen];subst hW;refine zaa fun V hV=>?_;rw[zaO];refine zaa fun W hW=>?_;simp only[sxZ,z6,z7,z8,j4,j5,j6,j7,j8,j9,x3,x4,x5,x6,x7,x8,reduceCtorEq,↓reduceIte,za,hlen,t10,t12,kv];refine⟨⟨by omega,by omega,by omega⟩,by omega,?_⟩;simp only[sxZ,z6,z7,z8,j4,j5,j6,j7,j8,j9,x3,x4,x5,x6,x7,x8,reduceCtorEq,↓reduceIte,za,hlen,gn1,sn1];subst hW;have hA2:=hA.mono (.box 25 [.i .i64 y.kind,.s y.text,.row y.keys.length (y.keys.map .s),.row y.items.length (zac y.items)]);have eB:(o++[OB.box 25 [.i .i64 y.kind,.s y.text,.row y.keys.length (y.keys.map .s),.row y.items.length (zac y.items)]])[o.length]? = some (.box 25 [.i .i64 y.kind,.s y.text,.row y.keys.length (y.keys.map .s),.row y.items.length (zac y.items)]):=gn1 _ _;generalize hpp:o.length=p at eB ⊢;generalize o++[OB.box 25 [.i .i64 y.kind,.s y.text,.row y.keys.length (y.keys.map .s),.row y.items.length (zac y.items)]]=o1 at hA2 eB ⊢;refine zaa fun W hW=>?_
  by_cases c:y.kind=5
  ·simp only[sxZ,z6,z7,z8,j4,j5,j6,j7,j8,j9,x3,x4,x5,x6,x7,x8,reduceCtorEq,↓reduceIte,za,hlen,eB,c];subst hW;have hall2:∀z∈l.take (i+1),z.kind=5:=by
    intro z hz;rw[htk] at hz;rcases zw.1 hz with h|h
    ·exact hall z h
    ·rw[xt] at h;subst h;exact c
   generalize hacc:(l.take i).map JV.text=acc at hA2 hfl;rcases hA2 with ⟨rfl,rfl⟩|⟨r,g,rfl,hr0,hr⟩
   ·simp only[sxZ,z6,z7,z8,j4,j5,j6,j7,j8,j9,x3,x4,x5,x6,x7,x8,reduceCtorEq,↓reduceIte,za,hlen,t4,eB];subst hV;simp only[sxZ,z6,z7,z8,j4,j5,j6,j7,j8,j9,x3,x4,x5,x6,x7,x8,reduceCtorEq,↓reduceIte,za,hlen,t10,t11,t12];refine⟨by omega,l.length - (i+1),by omega,i+1,by omega,rfl,?_,hall2,rfl⟩;rw[htk,qy,hacc];exact .inr ⟨o1.length,0,rfl,zh _,by rw[gn1];rfl⟩
   ·have hrl:=(zf.1 hr).1;simp only[sxZ,z6,z7,z8,j4,j5,j6,j7,j8,j9,x3,x4,x5,x6,x7,x8,reduceCtorEq,↓reduceIte,za,hlen,t4,eB,hr];refine⟨⟨by omega,by omega⟩,?_⟩;subst hV;simp only[sxZ,z6,z7,z8,j4,j5,j6,j7,j8,j9,x3,x4,x5,x6,x7,x8,reduceCtorEq,↓reduceIte,za,hlen,t10,t11,t12];refine⟨by omega,l.length - (i+1),by omega,i+1,by omega,rfl,?_,hall2,rfl⟩;rw[htk,qy,hacc];exact .inr ⟨r,g+1,rfl,hr0,by rw[zk hrl,zp,qy];rfl⟩
  ·have:=knil 160 (by
    unfold txD;rw[if_neg (by omega),if_neg];intro ha;rw[qd] at ha;exact c (by simpa using ha y hmem))
   simp only[sxZ,z6,z7,z8,j4,j5,j6,j7,j8,j9,x3,x4,x5,x6,x7,x8,reduceCtorEq,↓reduceIte,za,hlen,eB,c];exact this
 have hn:i=l.length:=by omega
 rw[hn,jh (zd _)] at hA hall;have e:txD l=(0,l.map JV.text):=by
  unfold txD;rw[if_neg (by omega),if_pos (by rw[qd];intro y hy;simpa using hall y hy)]
 simp only[sxZ,z6,z7,z8,j4,j5,j6,j7,j8,j9,x3,x4,x5,x6,x7,x8,reduceCtorEq,↓reduceIte,za,hlen,t11,t12,hlt];subst hW;simp only[sxZ,z6,z7,z8,j4,j5,j6,j7,j8,j9,x3,x4,x5,x6,x7,x8,reduceCtorEq,↓reduceIte,za,hlen];subst hZ;rcases hA with ⟨h0,rfl⟩|⟨r,g,rfl,hr0,hr⟩
 ·have:=knil 0 (by rw[e,h0]);simp only[sxZ,z6,z7,z8,j4,j5,j6,j7,j8,j9,x3,x4,x5,x6,x7,x8,reduceCtorEq,↓reduceIte,za,hlen,t4];exact this
 ·simp only[sxZ,z6,z7,z8,j4,j5,j6,j7,j8,j9,x3,x4,x5,x6,x7,x8,reduceCtorEq,↓reduceIte,za,hlen,t4,hr,zdN (zaD _),ja];rw[e] at hk ⊢;exact⟨fun G I y hy=>hy,hk⟩
theorem zj8 (v:JV) (hk:K objs (zjz (ltD v))):zad Tryz.prog 26 [.agg (zae v)] objs K:=by
 refine zew (zjz (ltD v)) ?_;refine zaL is_diddoc_listed (by simp only[zal,AV.plain,zaP,Bool.and_self]) fun C _=>?_;rw[c_diddoc_listed];unfold ltD at hk ⊢;rw[zaf v];refine zaa fun Z hZ=>?_;simp only[sxZ,z6,z7,z8,j4,j5,j6,j7,j8,j9,x3,x4,x5,x6,x7,x8,reduceCtorEq,↓reduceIte];subst hZ;refine zaa fun Z hZ=>?_
 by_cases c:v.kind=6
 ·rw[if_pos c] at hk ⊢;simp only[sxZ,z6,z7,z8,j4,j5,j6,j7,j8,j9,x3,x4,x5,x6,x7,x8,reduceCtorEq,↓reduceIte,c];subst hZ;refine zaa fun Z hZ=>?_;simp only[sxZ,z6,z7,z8,j4,j5,j6,j7,j8,j9,x3,x4,x5,x6,x7,x8,reduceCtorEq,↓reduceIte];refine zai (zma v.items ?_);unfold zjz at hk ⊢;simp only[sxZ,z6,z7,z8,j4,j5,j6,j7,j8,j9,x3,x4,x5,x6,x7,x8,reduceCtorEq,↓reduceIte];subst hZ;simp only[sxZ,z6,z7,z8,j4,j5,j6,j7,j8,j9,x3,x4,x5,x6,x7,x8,reduceCtorEq,↓reduceIte,zaD];exact⟨fun G I y hy=>hy,hk⟩
 ·rw[if_neg c] at hk ⊢;simp only[sxZ,z6,z7,z8,j4,j5,j6,j7,j8,j9,x3,x4,x5,x6,x7,x8,reduceCtorEq,↓reduceIte,c];exact⟨fun G I y hy=>zcd (fun z hz=>za3 hz) hy,hk⟩
theorem ol_k (v:JV) (hk:K objs (zjz (olD v))):zad Tryz.prog 27 [.agg (zae v)] objs K:=by
 refine zaL is_diddoc_oneOrListed (by simp only[zal,AV.plain,zaP,Bool.and_self]) fun C _=>?_;rw[c_diddoc_oneOrListed];unfold olD at hk;have ejv:=zaf v;rw[ejv];refine zaa fun Z hZ=>?_;simp only[sxZ,z6,z7,z8,j4,j5,j6,j7,j8,j9,x3,x4,x5,x6,x7,x8,reduceCtorEq,↓reduceIte];subst hZ;refine zaa fun Z hZ=>?_
 by_cases c:v.kind=6
 ·rw[if_pos c] at hk;simp only[sxZ,z6,z7,z8,j4,j5,j6,j7,j8,j9,x3,x4,x5,x6,x7,x8,reduceCtorEq,↓reduceIte,c];rw[<-c,<-ejv];refine zai (zj8 v ?_);unfold ltD;rw[if_pos c];unfold zjz at hk ⊢;simp only[sxZ,z6,z7,z8,j4,j5,j6,j7,j8,j9,x3,x4,x5,x6,x7,x8,reduceCtorEq,↓reduceIte,zaD];exact hk
 ·rw[if_neg c] at hk;simp only[sxZ,z6,z7,z8,j4,j5,j6,j7,j8,j9,x3,x4,x5,x6,x7,x8,reduceCtorEq,↓reduceIte,c];subst hZ;refine zaa fun Z hZ=>?_;simp only[sxZ,z6,z7,z8,j4,j5,j6,j7,j8,j9,x3,x4,x5,x6,x7,x8,reduceCtorEq,↓reduceIte];have e1:zac [v]=[.i .i64 v.kind,.s v.text,.row v.keys.length (v.keys.map .s),.row v.items.length (zac v.items)]:=by rw[zao,zak,ejv];rfl
  rw[<-e1];refine zai (zma [v] ?_);unfold zjz at hk ⊢;simp only[sxZ,z6,z7,z8,j4,j5,j6,j7,j8,j9,x3,x4,x5,x6,x7,x8,reduceCtorEq,↓reduceIte];subst hZ;simp only[sxZ,z6,z7,z8,j4,j5,j6,j7,j8,j9,x3,x4,x5,x6,x7,x8,reduceCtorEq,↓reduceIte,zaD];exact hk
end
end
section
attribute [local irreducible] run
def ResL (m i:List UInt8):Prop:=∀r:List UInt8,r.length<=100000000->(zfB m i r).1=0->(zfB m i r).2.meth.length<=200000000000000/\(zfB m i r).2.id.length<=200000000000000/\(zfB m i r).2.path.length<=200000000000000/\(zfB m i r).2.query.length<=200000000000000/\(zfB m i r).2.frag.length<=200000000000000
def mtc (x:MtP):List AV:=[.s x.id,.s x.typ,.s x.ctl]
def svc (x:SvP):List AV:=[.s x.id,.row x.typ.length (x.typ.map .s),.row x.eps.length (x.eps.map .s)]
def zce (l:List MtP):List AV:=l.flatMap mtc
def zb2 (l:List SvP):List AV:=l.flatMap svc
theorem zhf (l:List MtP):(zce l).length=l.length*3:=by
 unfold zce
 induction l with
 | nil=>rfl
 | cons a l ih=>rw[xe,zp,ih,zx];show 3+_=_;omega
theorem zgX (l:List SvP):(zb2 l).length=l.length*3:=by
 unfold zb2
 induction l with
 | nil=>rfl
 | cons a l ih=>rw[xe,zp,ih,zx];show 3+_=_;omega
theorem mtcs_app (a b:List MtP):zce (a++b)=zce a++zce b:=by unfold zce;rw[List.flatMap_append]
theorem svcs_app (a b:List SvP):zb2 (a++b)=zb2 a++zb2 b:=by unfold zb2;rw[List.flatMap_append]
theorem zdh (l:List MtP):zal (zce l)=true:=by
 unfold zce
 induction l with
 | nil=>rfl
 | cons a l ih=>rw[xe,zcg,ih];rfl
theorem zdc (l:List SvP):zal (zb2 l)=true:=by
 unfold zb2
 induction l with
 | nil=>rfl
 | cons a l ih=>
  rw[xe,zcg,ih];unfold svc;simp only[zal,AV.plain,zaD,Bool.and_self]
theorem den_sv {G:Gh} {I:Imm} {a a' b b' c:AV} {t:List UInt8} {y:Value} (h1:∀z,Den G I a z->Den G I a' z) (h2:∀z,Den G I b z->Den G I b' z) (hd:Den G I (.tup [.agg [.s t,a,b],c]) y):Den G I (.tup [.agg [.s t,a',b'],c]) y:=by
 refine zcd (fun z hz=>?_) hd;simp only[zah,Den] at hz ⊢;obtain⟨zs,rfl,⟨z0,m0,rfl,q0,z1,m1,rfl,q1,z2,m2,rfl,q2,q3⟩,hz⟩:=hz;exact⟨_,rfl,⟨_,_,rfl,q0,_,_,rfl,h1 _ q1,_,_,rfl,h2 _ q2,q3⟩,hz⟩
def RowM (l:List MtP) (o:List OB) (X:AV):Prop:=(l=[]/\X=.nil)\/∃r g,X=.orow r g/\o[r]? = some (.orow 48 3 g l.length (zce l))
def RowV (l:List SvP) (o:List OB) (X:AV):Prop:=(l=[]/\X=.nil)\/∃r g,X=.orow r g/\o[r]? = some (.orow 46 3 g l.length (zb2 l))
theorem RowM.mono {l:List MtP} {o:List OB} {X:AV} (h:RowM l o X) (z:OB):RowM l (o++[z]) X:=by
 rcases h with h|⟨r,g,h1,h2⟩
 ·exact .inl h
 ·exact .inr ⟨r,g,h1,by rw[zj (zf.1 h2).1];exact h2⟩
theorem RowV.mono {l:List SvP} {o:List OB} {X:AV} (h:RowV l o X) (z:OB):RowV l (o++[z]) X:=by
 rcases h with h|⟨r,g,h1,h2⟩
 ·exact .inl h
 ·exact .inr ⟨r,g,h1,by rw[zj (zf.1 h2).1];exact h2⟩
theorem zio {α:Type} (f:JV->Int×α) {l:List JV} {i:Nat} (hi:i<l.length) (h:∀y∈l.take i,(f y).1=0) (h2:(f l[i]).1≠0):zoj f l=((f l[i]).1,[]):=by
 induction l generalizing i with
 | nil=>simp at hi
 | cons a l ih=>
  cases i with
  | zero=>rw[zoj];exact if_pos h2
  | succ i=>
   have ih2:=ih (i:=i) (by simpa using hi) (fun y hy=>h y (by rw[List.take_succ_cons];exact qq _ hy)) h2;have h0:=h a (by simp);rw[zoj,if_neg (fun e=>e h0),ih2];exact if_pos h2
theorem zkE {α:Type} (f:JV->Int×α) {l:List JV} (h:∀y∈l,(f y).1=0):zoj f l=(0,l.map fun y=>(f y).2):=by
 induction l with
 | nil=>rfl
 | cons a l ih=>
  have h0:=h a (by simp);rw[zoj,if_neg (fun e=>e h0),ih fun y hy=>h y (qq _ hy)]
  rfl
theorem dm_isFn:IsFn Tryz.prog 29:=⟨_,Tryz.func29,by kernel_rfl,of_decide_eq_true (by kernel_rfl)⟩
theorem ds_isFn:IsFn Tryz.prog 31:=⟨_,Tryz.func31,by kernel_rfl,of_decide_eq_true (by kernel_rfl)⟩
section
variable [Tabs Tryz.prog] {objs:List OB} {K:List OB->AV->Prop}
theorem dm_k [Shp Tryz.prog] (m i:List UInt8) (v:JV) (hv:JOk v) (hj:JBd v) (h1:m.length<=100000) (h2:i.length<=100000) (ht:(zbA v kId).1.text.length<=100000000) (hl:ResL m i)
  (hk:K objs (.tup [.agg (mtc (mtD m i v).2),.i .i64 (mtD m i v).1])):zad Tryz.prog 29 [.agg (zae v),.agg [.s m,.s i]] objs K:=by
 refine zaL is_diddoc_decodeMethod (by simp only[zal,AV.plain,zaP,Bool.and_self]) fun C _=>?_;rw[c_diddoc_decodeMethod];have ejv:=zaf v;rw[ejv];refine zaa fun Z hZ=>?_;simp only[sxZ,z6,z7,z8,j4,j5,j6,j7,j8,j9,x3,x4,x5,x6,x7,x8,reduceCtorEq,↓reduceIte];subst hZ;refine zaa fun Z hZ=>?_;simp only[sxZ,z6,z7,z8,j4,j5,j6,j7,j8,j9,x3,x4,x5,x6,x7,x8,reduceCtorEq,↓reduceIte];rw[<-ejv];refine zai (mid_k m i v hv hj h1 h2 ht hl ?_);unfold mtD at hk;generalize zib m i v=R at hk ⊢;obtain⟨e,x⟩:=R;dsimp only at hk ⊢;rw[ejv];simp only[sxZ,z6,z7,z8,j4,j5,j6,j7,j8,j9,x3,x4,x5,x6,x7,x8,reduceCtorEq,↓reduceIte];subst hZ;refine zaa fun Z hZ=>?_
 by_cases c:e=0
 rotate_left
 ·rw[if_pos c] at hk;simp only[sxZ,z6,z7,z8,j4,j5,j6,j7,j8,j9,x3,x4,x5,x6,x7,x8,reduceCtorEq,↓reduceIte,c];exact hk
 subst c;rw[if_neg (by decide)] at hk;simp only[sxZ,z6,z7,z8,j4,j5,j6,j7,j8,j9,x3,x4,x5,x6,x7,x8,reduceCtorEq,↓reduceIte];subst hZ;refine zaa fun Z hZ=>?_;simp only[sxZ,z6,z7,z8,j4,j5,j6,j7,j8,j9,x3,x4,x5,x6,x7,x8,reduceCtorEq,↓reduceIte];rw[<-ejv];refine zai (tm_k v zbF hv hj ?_);generalize tmD v zbF=T at hk ⊢;obtain⟨t,okt⟩:=T;dsimp only at hk ⊢;rw[ejv];simp only[sxZ,z6,z7,z8,j4,j5,j6,j7,j8,j9,x3,x4,x5,x6,x7,x8,reduceCtorEq,↓reduceIte];subst hZ;refine zaa fun Z hZ=>?_;simp only[sxZ,z6,z7,z8,j4,j5,j6,j7,j8,j9,x3,x4,x5,x6,x7,x8,reduceCtorEq,↓reduceIte];rw[<-ejv];refine zai (tm_k v zbQ hv hj ?_);generalize tmD v zbQ=U at hk ⊢;obtain⟨u,oku⟩:=U;dsimp only at hk ⊢;rw[ejv];simp only[sxZ,z6,z7,z8,j4,j5,j6,j7,j8,j9,x3,x4,x5,x6,x7,x8,reduceCtorEq,↓reduceIte];subst hZ;refine zaa fun Z hZ=>?_
 cases okt with
 | false=>
  rw[if_neg (fun e=>by cases e.1)] at hk;simp only[sxZ,z6,z7,z8,j4,j5,j6,j7,j8,j9,x3,x4,x5,x6,x7,x8,reduceCtorEq,↓reduceIte];exact hk
 | true=>
  cases oku with
  | false=>
   rw[if_neg (fun e=>by cases e.2)] at hk;simp only[sxZ,z6,z7,z8,j4,j5,j6,j7,j8,j9,x3,x4,x5,x6,x7,x8,reduceCtorEq,↓reduceIte];exact hk
  | true=>
   rw[if_pos ⟨rfl,rfl⟩] at hk;simp only[sxZ,z6,z7,z8,j4,j5,j6,j7,j8,j9,x3,x4,x5,x6,x7,x8,reduceCtorEq,↓reduceIte];subst hZ;simp only[sxZ,z6,z7,z8,j4,j5,j6,j7,j8,j9,x3,x4,x5,x6,x7,x8,reduceCtorEq,↓reduceIte];exact hk
theorem ds_k [Shp Tryz.prog] (m i:List UInt8) (v:JV) (hv:JOk v) (hj:JBd v) (h1:m.length<=100000) (h2:i.length<=100000) (ht:(zbA v kId).1.text.length<=100000000) (hl:ResL m i)
  (hk:K objs (.tup [.agg (svc (svD m i v).2),.i .i64 (svD m i v).1])):zad Tryz.prog 31 [.agg (zae v),.agg [.s m,.s i]] objs K:=by
 refine zew (.tup [.agg (svc (svD m i v).2),.i .i64 (svD m i v).1]) ?_;have kz:∀e:Int,svD m i v=(e,svZ)->(∀G I y,Den G I (.tup [.agg [.s [],.nil,.nil],.i .i64 e]) y->Den G I (.tup [.agg (svc (svD m i v).2),.i .i64 (svD m i v).1]) y)/\K objs (.tup [.agg (svc (svD m i v).2),.i .i64 (svD m i v).1]):=fun e he=>⟨fun G I y h=>by rw[he];exact den_sv (fun z hz=>za3 hz) (fun z hz=>za3 hz) h,hk⟩;refine zaL is_diddoc_decodeService (by simp only[zal,AV.plain,zaP,Bool.and_self]) fun C _=>?_;rw[c_diddoc_decodeService];have ejv:=zaf v;rw[ejv];refine zaa fun Z hZ=>?_;simp only[sxZ,z6,z7,z8,j4,j5,j6,j7,j8,j9,x3,x4,x5,x6,x7,x8,reduceCtorEq,↓reduceIte];subst hZ;refine zaa fun Z hZ=>?_;simp only[sxZ,z6,z7,z8,j4,j5,j6,j7,j8,j9,x3,x4,x5,x6,x7,x8,reduceCtorEq,↓reduceIte];rw[<-ejv];refine zai (znn v ?_);rw[ejv];simp only[sxZ,z6,z7,z8,j4,j5,j6,j7,j8,j9,x3,x4,x5,x6,x7,x8,reduceCtorEq,↓reduceIte];subst hZ;refine zaa fun Z hZ=>?_;simp only[sxZ,z6,z7,z8,j4,j5,j6,j7,j8,j9,x3,x4,x5,x6,x7,x8,reduceCtorEq,↓reduceIte];rw[<-ejv];refine zai (mid_k m i v hv hj h1 h2 ht hl ?_);unfold svD at kz hk ⊢;generalize zib m i v=R at kz hk ⊢;obtain⟨e,x⟩:=R;dsimp only at kz hk ⊢;rw[ejv];simp only[sxZ,z6,z7,z8,j4,j5,j6,j7,j8,j9,x3,x4,x5,x6,x7,x8,reduceCtorEq,↓reduceIte];subst hZ;refine zaa fun Z hZ=>?_
 by_cases c:e=0
 rotate_left
 ·rw[if_pos c] at kz hk ⊢;have:=kz e rfl;simp only[sxZ,z6,z7,z8,j4,j5,j6,j7,j8,j9,x3,x4,x5,x6,x7,x8,reduceCtorEq,↓reduceIte,c];exact this
 subst c;rw[if_neg (show ¬((0:Int)≠0) by decide)] at kz hk ⊢;simp only[sxZ,z6,z7,z8,j4,j5,j6,j7,j8,j9,x3,x4,x5,x6,x7,x8,reduceCtorEq,↓reduceIte];subst hZ;refine zaa fun Z hZ=>?_;simp only[sxZ,z6,z7,z8,j4,j5,j6,j7,j8,j9,x3,x4,x5,x6,x7,x8,reduceCtorEq,↓reduceIte];subst hZ;refine zaa fun Z hZ=>?_;simp only[sxZ,z6,z7,z8,j4,j5,j6,j7,j8,j9,x3,x4,x5,x6,x7,x8,reduceCtorEq,↓reduceIte];refine zd8 zdP (zja v zbF 3 (by rw[ejv];rfl) hv hj fun z=>?_);unfold zbS;generalize zbA v zbF=T at kz hk ⊢;obtain⟨x1,ok1⟩:=T;dsimp only at kz hk ⊢;have ex1:=zaf x1;rw[ex1];simp only[sxZ,z6,z7,z8,j4,j5,j6,j7,j8,j9,x3,x4,x5,x6,x7,x8,reduceCtorEq,↓reduceIte];subst hZ;refine zaa fun Z hZ=>?_;simp only[sxZ,z6,z7,z8,j4,j5,j6,j7,j8,j9,x3,x4,x5,x6,x7,x8,reduceCtorEq,↓reduceIte];rw[<-ex1];refine zai (ol_k x1 ?_);generalize olD x1=O at kz hk ⊢;obtain⟨e1,l1⟩:=O;dsimp only at kz hk ⊢;unfold zjz;rw[ex1];simp only[sxZ,z6,z7,z8,j4,j5,j6,j7,j8,j9,x3,x4,x5,x6,x7,x8,reduceCtorEq,↓reduceIte]
 by_cases c1:e1=0
 rotate_left
 ·rw[if_pos c1] at kz hk ⊢;have:=kz e1 rfl;simp only[sxZ,z6,z7,z8,j4,j5,j6,j7,j8,j9,x3,x4,x5,x6,x7,x8,reduceCtorEq,↓reduceIte,c1];exact this
 subst c1;rw[if_neg (show ¬((0:Int)≠0) by decide)] at kz hk ⊢;simp only[sxZ,z6,z7,z8,j4,j5,j6,j7,j8,j9,x3,x4,x5,x6,x7,x8,reduceCtorEq,↓reduceIte];subst hZ;refine zaa fun Z hZ=>?_;simp only[sxZ,z6,z7,z8,j4,j5,j6,j7,j8,j9,x3,x4,x5,x6,x7,x8,reduceCtorEq,↓reduceIte];refine zd8 zdP (zja v zdE 3 (by rw[ejv];rfl) hv hj fun z2=>?_);unfold zbS;generalize zbA v zdE=T at kz hk ⊢;obtain⟨x2,ok2⟩:=T;dsimp only at kz hk ⊢;have ex2:=zaf x2;rw[ex2];simp only[sxZ,z6,z7,z8,j4,j5,j6,j7,j8,j9,x3,x4,x5,x6,x7,x8,reduceCtorEq,↓reduceIte];subst hZ;refine zaa fun Z hZ=>?_
 by_cases c2:x2.kind=7
 ·rw[if_pos c2] at kz hk ⊢;simp only[sxZ,z6,z7,z8,j4,j5,j6,j7,j8,j9,x3,x4,x5,x6,x7,x8,reduceCtorEq,↓reduceIte,c2,zaD];exact⟨fun G I y h=>den_sv (fun z hz=>hz) (fun z hz=>za3 hz) h,hk⟩
 rw[if_neg c2] at kz hk ⊢;simp only[sxZ,z6,z7,z8,j4,j5,j6,j7,j8,j9,x3,x4,x5,x6,x7,x8,reduceCtorEq,↓reduceIte,c2];subst hZ;refine zaa fun Z hZ=>?_;simp only[sxZ,z6,z7,z8,j4,j5,j6,j7,j8,j9,x3,x4,x5,x6,x7,x8,reduceCtorEq,↓reduceIte];rw[<-ex2];refine zai (ol_k x2 ?_);generalize olD x2=O at kz hk ⊢;obtain⟨e2,l2⟩:=O;dsimp only at kz hk ⊢;unfold zjz;rw[ex2];simp only[sxZ,z6,z7,z8,j4,j5,j6,j7,j8,j9,x3,x4,x5,x6,x7,x8,reduceCtorEq,↓reduceIte]
 by_cases c3:e2=0
 rotate_left
 ·rw[if_pos c3] at kz hk ⊢;have:=kz e2 rfl;simp only[sxZ,z6,z7,z8,j4,j5,j6,j7,j8,j9,x3,x4,x5,x6,x7,x8,reduceCtorEq,↓reduceIte,c3];exact this
 subst c3;rw[if_neg (show ¬((0:Int)≠0) by decide)] at kz hk ⊢;simp only[sxZ,z6,z7,z8,j4,j5,j6,j7,j8,j9,x3,x4,x5,x6,x7,x8,reduceCtorEq,↓reduceIte];subst hZ;simp only[sxZ,z6,z7,z8,j4,j5,j6,j7,j8,j9,x3,x4,x5,x6,x7,x8,reduceCtorEq,↓reduceIte,zaD];exact⟨fun G I y h=>h,hk⟩
theorem elM_k [Shp Tryz.prog] (m i:List UInt8) (v:JV) (hv:∀y∈v.items,JOk y/\JBd y/\(zbA y kId).1.text.length<=100000000) (h1:m.length<=100000) (h2:i.length<=100000) (hl:ResL m i)
  (hk:K objs (.tup [.row (elD (mtD m i) v).2.length (zce (elD (mtD m i) v).2),.i .i64 (elD (mtD m i) v).1])):zad Tryz.prog 28 [.agg (zae v),.agg [.s m,.s i],.fn 29 [] []] objs K:=by
 refine zew (.tup [.row (elD (mtD m i) v).2.length (zce (elD (mtD m i) v).2),.i .i64 (elD (mtD m i) v).1]) ?_;have knil:∀e:Int,elD (mtD m i) v=(e,[])->(∀G I y,Den G I (.tup [.nil,.i .i64 e]) y->Den G I (.tup [.row (elD (mtD m i) v).2.length (zce (elD (mtD m i) v).2),.i .i64 (elD (mtD m i) v).1]) y)/\K objs (.tup [.row (elD (mtD m i) v).2.length (zce (elD (mtD m i) v).2),.i .i64 (elD (mtD m i) v).1]):=fun e he=>⟨fun G I y h=>by rw[he];exact zcd (fun z hz=>za3 hz) h,hk⟩;refine zaL is_diddoc_elements__api_Method (by simp only[zal,AV.plain,zaP,Bool.and_self]) fun C _=>?_;rw[c_diddoc_elements__api_Method];unfold elD at knil hk ⊢;have ejv:=zaf v;have hl4:=zav v.items;rw[ejv];refine zaa fun Z hZ=>?_;simp only[sxZ,z6,z7,z8,j4,j5,j6,j7,j8,j9,x3,x4,x5,x6,x7,x8,reduceCtorEq,↓reduceIte];subst hZ;refine zaa fun Z hZ=>?_
 by_cases c6:v.kind=6
 rotate_left
 ·rw[if_neg c6] at knil hk ⊢;have:=knil 160 rfl;simp only[sxZ,z6,z7,z8,j4,j5,j6,j7,j8,j9,x3,x4,x5,x6,x7,x8,reduceCtorEq,↓reduceIte,c6];exact this
 rw[if_pos c6] at knil hk ⊢;simp only[sxZ,z6,z7,z8,j4,j5,j6,j7,j8,j9,x3,x4,x5,x6,x7,x8,reduceCtorEq,↓reduceIte,c6];subst hZ;refine zaa fun Z hZ=>?_
 by_cases c64:(64:Int)<(v.items.length:Int)
 ·rw[if_pos (show 64<v.items.length by omega)] at knil hk ⊢;have:=knil 161 rfl;simp only[sxZ,z6,z7,z8,j4,j5,j6,j7,j8,j9,x3,x4,x5,x6,x7,x8,reduceCtorEq,↓reduceIte,c64,decide_true];exact this
 rw[if_neg (show ¬64<v.items.length by omega)] at knil hk ⊢;simp only[sxZ,z6,z7,z8,j4,j5,j6,j7,j8,j9,x3,x4,x5,x6,x7,x8,reduceCtorEq,↓reduceIte,c64,decide_false];subst hZ;refine zaa fun Z hZ=>?_;simp only[sxZ,z6,z7,z8,j4,j5,j6,j7,j8,j9,x3,x4,x5,x6,x7,x8,reduceCtorEq,↓reduceIte];subst hZ;refine zaa fun Z hZ=>?_;refine zaa fun W hW=>?_;simp only[sxZ,z6,z7,z8,j4,j5,j6,j7,j8,j9,x3,x4,x5,x6,x7,x8,reduceCtorEq,↓reduceIte];subst hW;rw[zaO];generalize v.items=l at hv knil hk hl4 c64 ⊢;refine zaF (fun n o tm=>∃j:Nat,j<=l.length/\n=l.length - j/\RowM ((l.take j).map fun y=>(mtD m i y).2) o (tm[8]?.getD .u)/\(∀y∈l.take j,(mtD m i y).1=0)/\o[1]? = some (.box 62 [.s m,.s i])/\tm.length=43/\tm[2]? = some (.fn 29 [] [])/\tm[4]? = some (.p 1 0)/\tm[21]? = some (.row l.length (zac l))/\tm[22]? = some (.i .i64 (l.length:Int))/\tm[23]? = some (.i .i64 (j:Int))) l.length ⟨0,zh _,rfl,.inl ⟨rfl,rfl⟩,(by simp),rfl,rfl,rfl,rfl,rfl,rfl,rfl⟩ ?_;rintro n o tm ⟨j,hj,rfl,hA,hall,e1,hlen,t2,t4,t21,t22,t23⟩;obtain⟨a8,t8⟩:∃a,tm[8]? = some a:=⟨_,zl (by omega)⟩;rw[t8,qj] at hA;refine zaa fun W hW=>?_
 by_cases hlt:(j:Int)<(l.length:Int)
 ·have hj':j<l.length:=by omega
  have kv:=zfM hj';have htk:l.take (j+1)=l.take j++[l[j]]:=by rw[xo,zl hj'];rfl
  have hfl:((l.take j).map fun y=>(mtD m i y).2).length=j:=by rw[qg,qh];omega
  obtain⟨y1,y2,y3⟩:=hv l[j] (jg hj');have hbad:(mtD m i l[j]).1≠0->zoj (mtD m i) l=((mtD m i l[j]).1,[]):=fun h=>zio (mtD m i) hj' hall h;generalize l[j]=y at kv htk y1 y2 y3 hbad;have ey:=zaf y;rw[ey] at kv;simp only[sxZ,z6,z7,z8,j4,j5,j6,j7,j8,j9,x3,x4,x5,x6,x7,x8,reduceCtorEq,↓reduceIte,za,hlen,t22,t23,hlt];subst hW;refine zaa fun W hW=>?_;simp only[sxZ,z6,z7,z8,j4,j5,j6,j7,j8,j9,x3,x4,x5,x6,x7,x8,reduceCtorEq,↓reduceIte,za,hlen];subst hW;refine zaa fun V hV=>?_;rw[zaO];refine zaa fun W hW=>?_;simp only[sxZ,z6,z7,z8,j4,j5,j6,j7,j8,j9,x3,x4,x5,x6,x7,x8,reduceCtorEq,↓reduceIte,za,hlen,t21,t23,kv];refine⟨⟨by omega,by omega,by omega⟩,by omega,?_⟩;simp only[sxZ,z6,z7,z8,j4,j5,j6,j7,j8,j9,x3,x4,x5,x6,x7,x8,reduceCtorEq,↓reduceIte,za,hlen,gn1,sn1];subst hW;have hol:1<o.length:=(zf.1 e1).1;have hA2:=hA.mono (.box 25 [.i .i64 y.kind,.s y.text,.row y.keys.length (y.keys.map .s),.row y.items.length (zac y.items)]);have eB:(o++[OB.box 25 [.i .i64 y.kind,.s y.text,.row y.keys.length (y.keys.map .s),.row y.items.length (zac y.items)]])[o.length]? = some (.box 25 [.i .i64 y.kind,.s y.text,.row y.keys.length (y.keys.map .s),.row y.items.length (zac y.items)]):=gn1 _ _;have e11:(o++[OB.box 25 [.i .i64 y.kind,.s y.text,.row y.keys.length (y.keys.map .s),.row y.items.length (zac y.items)]])[1]? = some (.box 62 [.s m,.s i]):=by rw[zj hol];exact e1
  generalize hpp:o.length=p at eB ⊢;generalize o++[OB.box 25 [.i .i64 y.kind,.s y.text,.row y.keys.length (y.keys.map .s),.row y.items.length (zac y.items)]]=o1 at hA2 eB e11 ⊢;refine zaa fun W hW=>?_;simp only[sxZ,z6,z7,z8,j4,j5,j6,j7,j8,j9,x3,x4,x5,x6,x7,x8,reduceCtorEq,↓reduceIte,za,hlen,t2,t4,eB,e11];rw[<-ey];refine zd8 dm_isFn (dm_k m i y y1 y2 h1 h2 y3 hl ?_);generalize hfd:mtD m i y=R at hbad ⊢;obtain⟨e,x⟩:=R;dsimp only at hbad ⊢;unfold mtc;simp only[sxZ,z6,z7,z8,j4,j5,j6,j7,j8,j9,x3,x4,x5,x6,x7,x8,reduceCtorEq,↓reduceIte,za,hlen,gn1,sn1];have hol1:1<o1.length:=(zf.1 e11).1;have hA3:=hA2.mono (.box 48 (mtc x));have eC:(o1++[OB.box 48 (mtc x)])[o1.length]? = some (.box 48 (mtc x)):=gn1 _ _;have e12:(o1++[OB.box 48 (mtc x)])[1]? = some (.box 62 [.s m,.s i]):=by rw[zj hol1];exact e11
  unfold mtc at hA3 eC e12;generalize o1.length=q at eC ⊢;generalize o1++[OB.box 48 _]=o2 at hA3 eC e12 ⊢;subst hW;refine zaa fun W hW=>?_
  by_cases c:e=0
  ·subst c;simp only[sxZ,z6,z7,z8,j4,j5,j6,j7,j8,j9,x3,x4,x5,x6,x7,x8,reduceCtorEq,↓reduceIte,za,hlen];subst hW;have hall2:∀z∈l.take (j+1),(mtD m i z).1=0:=by
    intro z hz;rw[htk] at hz;rcases zw.1 hz with h|h
    ·exact hall z h
    ·rw[xt] at h;subst h;rw[hfd]
   have hmp:(l.take (j+1)).map (fun y=>(mtD m i y).2)=(l.take j).map (fun y=>(mtD m i y).2)++[x]:=by rw[htk,qy];simp[hfd]
   generalize hacc:(l.take j).map (fun y=>(mtD m i y).2)=acc at hA3 hfl hmp;rcases hA3 with ⟨rfl,rfl⟩|⟨r,g,rfl,hr⟩
   ·simp only[sxZ,z6,z7,z8,j4,j5,j6,j7,j8,j9,x3,x4,x5,x6,x7,x8,reduceCtorEq,↓reduceIte,za,hlen,t8,eC];subst hV;simp only[sxZ,z6,z7,z8,j4,j5,j6,j7,j8,j9,x3,x4,x5,x6,x7,x8,reduceCtorEq,↓reduceIte,za,hlen,t2,t4,t21,t22,t23];refine⟨by omega,l.length - (j+1),by omega,j+1,by omega,rfl,?_,hall2,?_,rfl⟩
    ·rw[hmp];exact .inr ⟨o2.length,0,rfl,by rw[gn1];rfl⟩
    ·rw[zj (zf.1 e12).1];exact e12
   ·have hrl:=(zf.1 hr).1;have hr1:r≠1:=fun e=>by rw[e,e12] at hr;injection hr with hr;cases hr
    simp only[sxZ,z6,z7,z8,j4,j5,j6,j7,j8,j9,x3,x4,x5,x6,x7,x8,reduceCtorEq,↓reduceIte,za,hlen,t8,eC,hr];have hcl:=zhf acc;refine⟨⟨by omega,by omega⟩,?_⟩;subst hV;simp only[sxZ,z6,z7,z8,j4,j5,j6,j7,j8,j9,x3,x4,x5,x6,x7,x8,reduceCtorEq,↓reduceIte,za,hlen,t2,t4,t21,t22,t23];refine⟨by omega,l.length - (j+1),by omega,j+1,by omega,rfl,?_,hall2,?_,rfl⟩
    ·rw[hmp];exact .inr ⟨r,g+1,rfl,by rw[zk hrl,zp,mtcs_app];rfl⟩
    ·rw[if_neg hr1];exact e12
  ·have:=knil e (hbad c);simp only[sxZ,z6,z7,z8,j4,j5,j6,j7,j8,j9,x3,x4,x5,x6,x7,x8,reduceCtorEq,↓reduceIte,za,hlen,c];exact this
 have hn:j=l.length:=by omega
 rw[hn,jh (zd _)] at hA hall;have e:=zkE (mtD m i) hall;simp only[sxZ,z6,z7,z8,j4,j5,j6,j7,j8,j9,x3,x4,x5,x6,x7,x8,reduceCtorEq,↓reduceIte,za,hlen,t22,t23,hlt];subst hW;simp only[sxZ,z6,z7,z8,j4,j5,j6,j7,j8,j9,x3,x4,x5,x6,x7,x8,reduceCtorEq,↓reduceIte,za,hlen];subst hZ;rcases hA with ⟨h0,rfl⟩|⟨r,g,rfl,hr⟩
 ·have:=knil 0 (by rw[e,h0]);simp only[sxZ,z6,z7,z8,j4,j5,j6,j7,j8,j9,x3,x4,x5,x6,x7,x8,reduceCtorEq,↓reduceIte,za,hlen,t8];exact this
 ·simp only[sxZ,z6,z7,z8,j4,j5,j6,j7,j8,j9,x3,x4,x5,x6,x7,x8,reduceCtorEq,↓reduceIte,za,hlen,t8,hr,zdN (zdh _),ja];rw[e] at hk ⊢;exact⟨fun G I y hy=>hy,hk⟩
theorem elV_k [Shp Tryz.prog] (m i:List UInt8) (v:JV) (hv:∀y∈v.items,JOk y/\JBd y/\(zbA y kId).1.text.length<=100000000) (h1:m.length<=100000) (h2:i.length<=100000) (hl:ResL m i)
  (hk:K objs (.tup [.row (elD (svD m i) v).2.length (zb2 (elD (svD m i) v).2),.i .i64 (elD (svD m i) v).1])):zad Tryz.prog 30 [.agg (zae v),.agg [.s m,.s i],.fn 31 [] []] objs K:=by
 refine zew (.tup [.row (elD (svD m i) v).2.length (zb2 (elD (svD m i) v).2),.i .i64 (elD (svD m i) v).1]) ?_;have knil:∀e:Int,elD (svD m i) v=(e,[])->(∀G I y,Den G I (.tup [.nil,.i .i64 e]) y->Den G I (.tup [.row (elD (svD m i) v).2.length (zb2 (elD (svD m i) v).2),.i .i64 (elD (svD m i) v).1]) y)/\K objs (.tup [.row (elD (svD m i) v).2.length (zb2 (elD (svD m i) v).2),.i .i64 (elD (svD m i) v).1]):=fun e he=>⟨fun G I y h=>by rw[he];exact zcd (fun z hz=>za3 hz) h,hk⟩;refine zaL is_diddoc_elements__api_Service (by simp only[zal,AV.plain,zaP,Bool.and_self]) fun C _=>?_;rw[c_diddoc_elements__api_Service];unfold elD at knil hk ⊢;have ejv:=zaf v;have hl4:=zav v.items;rw[ejv];refine zaa fun Z hZ=>?_;simp only[sxZ,z6,z7,z8,j4,j5,j6,j7,j8,j9,x3,x4,x5,x6,x7,x8,reduceCtorEq,↓reduceIte];subst hZ;refine zaa fun Z hZ=>?_
 by_cases c6:v.kind=6
 rotate_left
 ·rw[if_neg c6] at knil hk ⊢;have:=knil 160 rfl;simp only[sxZ,z6,z7,z8,j4,j5,j6,j7,j8,j9,x3,x4,x5,x6,x7,x8,reduceCtorEq,↓reduceIte,c6];exact this
 rw[if_pos c6] at knil hk ⊢;simp only[sxZ,z6,z7,z8,j4,j5,j6,j7,j8,j9,x3,x4,x5,x6,x7,x8,reduceCtorEq,↓reduceIte,c6];subst hZ;refine zaa fun Z hZ=>?_
 by_cases c64:(64:Int)<(v.items.length:Int)
 ·rw[if_pos (show 64<v.items.length by omega)] at knil hk ⊢;have:=knil 161 rfl;simp only[sxZ,z6,z7,z8,j4,j5,j6,j7,j8,j9,x3,x4,x5,x6,x7,x8,reduceCtorEq,↓reduceIte,c64,decide_true];exact this
 rw[if_neg (show ¬64<v.items.length by omega)] at knil hk ⊢;simp only[sxZ,z6,z7,z8,j4,j5,j6,j7,j8,j9,x3,x4,x5,x6,x7,x8,reduceCtorEq,↓reduceIte,c64,decide_false];subst hZ;refine zaa fun Z hZ=>?_;simp only[sxZ,z6,z7,z8,j4,j5,j6,j7,j8,j9,x3,x4,x5,x6,x7,x8,reduceCtorEq,↓reduceIte];subst hZ;refine zaa fun Z hZ=>?_;refine zaa fun W hW=>?_;simp only[sxZ,z6,z7,z8,j4,j5,j6,j7,j8,j9,x3,x4,x5,x6,x7,x8,reduceCtorEq,↓reduceIte];subst hW;rw[zaO];generalize v.items=l at hv knil hk hl4 c64 ⊢;refine zaF (fun n o tm=>∃j:Nat,j<=l.length/\n=l.length - j/\RowV ((l.take j).map fun y=>(svD m i y).2) o (tm[8]?.getD .u)/\(∀y∈l.take j,(svD m i y).1=0)/\o[1]? = some (.box 62 [.s m,.s i])/\tm.length=43/\tm[2]? = some (.fn 31 [] [])/\tm[4]? = some (.p 1 0)/\tm[21]? = some (.row l.length (zac l))/\tm[22]? = some (.i .i64 (l.length:Int))/\tm[23]? = some (.i .i64 (j:Int))) l.length ⟨0,zh _,rfl,.inl ⟨rfl,rfl⟩,(by simp),rfl,rfl,rfl,rfl,rfl,rfl,rfl⟩ ?_;rintro n o tm ⟨j,hj,rfl,hA,hall,e1,hlen,t2,t4,t21,t22,t23⟩;obtain⟨a8,t8⟩:∃a,tm[8]? = some a:=⟨_,zl (by omega)⟩;rw[t8,qj] at hA;refine zaa fun W hW=>?_
 by_cases hlt:(j:Int)<(l.length:Int)
 ·have hj':j<l.length:=by omega
  have kv:=zfM hj';have htk:l.take (j+1)=l.take j++[l[j]]:=by rw[xo,zl hj'];rfl
  have hfl:((l.take j).map fun y=>(svD m i y).2).length=j:=by rw[qg,qh];omega
  obtain⟨y1,y2,y3⟩:=hv l[j] (jg hj');have hbad:(svD m i l[j]).1≠0->zoj (svD m i) l=((svD m i l[j]).1,[]):=fun h=>zio (svD m i) hj' hall h;generalize l[j]=y at kv htk y1 y2 y3 hbad;have ey:=zaf y;rw[ey] at kv;simp only[sxZ,z6,z7,z8,j4,j5,j6,j7,j8,j9,x3,x4,x5,x6,x7,x8,reduceCtorEq,↓reduceIte,za,hlen,t22,t23,hlt];subst hW;refine zaa fun W hW=>?_;simp only[sxZ,z6,z7,z8,j4,j5,j6,j7,j8,j9,x3,x4,x5,x6,x7,x8,reduceCtorEq,↓reduceIte,za,hlen];subst hW;refine zaa fun V hV=>?_;rw[zaO];refine zaa fun W hW=>?_;simp only[sxZ,z6,z7,z8,j4,j5,j6,j7,j8,j9,x3,x4,x5,x6,x7,x8,reduceCtorEq,↓reduceIte,za,hlen,t21,t23,kv];refine⟨⟨by omega,by omega,by omega⟩,by omega,?_⟩;simp only[sxZ,z6,z7,z8,j4,j5,j6,j7,j8,j9,x3,x4,x5,x6,x7,x8,reduceCtorEq,↓reduceIte,za,hlen,gn1,sn1];subst hW;have hol:1<o.length:=(zf.1 e1).1;have hA2:=hA.mono (.box 25 [.i .i64 y.kind,.s y.text,.row y.keys.length (y.keys.map .s),.row y.items.length (zac y.items)]);have eB:(o++[OB.box 25 [.i .i64 y.kind,.s y.text,.row y.keys.length (y.keys.map .s),.row y.items.length (zac y.items)]])[o.length]? = some (.box 25 [.i .i64 y.kind,.s y.text,.row y.keys.length (y.keys.map .s),.row y.items.length (zac y.items)]):=gn1 _ _;have e11:(o++[OB.box 25 [.i .i64 y.kind,.s y.text,.row y.keys.length (y.keys.map .s),.row y.items.length (zac y.items)]])[1]? = some (.box 62 [.s m,.s i]):=by rw[zj hol];exact e1
  generalize hpp:o.length=p at eB ⊢;generalize o++[OB.box 25 [.i .i64 y.kind,.s y.text,.row y.keys.length (y.keys.map .s),.row y.items.length (zac y.items)]]=o1 at hA2 eB e11 ⊢;refine zaa fun W hW=>?_;simp only[sxZ,z6,z7,z8,j4,j5,j6,j7,j8,j9,x3,x4,x5,x6,x7,x8,reduceCtorEq,↓reduceIte,za,hlen,t2,t4,eB,e11];rw[<-ey];refine zd8 ds_isFn (ds_k m i y y1 y2 h1 h2 y3 hl ?_);generalize hfd:svD m i y=R at hbad ⊢;obtain⟨e,x⟩:=R;dsimp only at hbad ⊢;unfold svc;simp only[sxZ,z6,z7,z8,j4,j5,j6,j7,j8,j9,x3,x4,x5,x6,x7,x8,reduceCtorEq,↓reduceIte,za,hlen,gn1,sn1];have hol1:1<o1.length:=(zf.1 e11).1;have hA3:=hA2.mono (.box 46 (svc x));have eC:(o1++[OB.box 46 (svc x)])[o1.length]? = some (.box 46 (svc x)):=gn1 _ _;have e12:(o1++[OB.box 46 (svc x)])[1]? = some (.box 62 [.s m,.s i]):=by rw[zj hol1];exact e11
  unfold svc at hA3 eC e12;generalize o1.length=q at eC ⊢;generalize o1++[OB.box 46 _]=o2 at hA3 eC e12 ⊢;subst hW;refine zaa fun W hW=>?_
  by_cases c:e=0
  ·subst c;simp only[sxZ,z6,z7,z8,j4,j5,j6,j7,j8,j9,x3,x4,x5,x6,x7,x8,reduceCtorEq,↓reduceIte,za,hlen];subst hW;have hall2:∀z∈l.take (j+1),(svD m i z).1=0:=by
    intro z hz;rw[htk] at hz;rcases zw.1 hz with h|h
    ·exact hall z h
    ·rw[xt] at h;subst h;rw[hfd]
   have hmp:(l.take (j+1)).map (fun y=>(svD m i y).2)=(l.take j).map (fun y=>(svD m i y).2)++[x]:=by rw[htk,qy];simp[hfd]
   generalize hacc:(l.take j).map (fun y=>(svD m i y).2)=acc at hA3 hfl hmp;rcases hA3 with ⟨rfl,rfl⟩|⟨r,g,rfl,hr⟩
   ·simp only[sxZ,z6,z7,z8,j4,j5,j6,j7,j8,j9,x3,x4,x5,x6,x7,x8,reduceCtorEq,↓reduceIte,za,hlen,t8,eC];subst hV;simp only[sxZ,z6,z7,z8,j4,j5,j6,j7,j8,j9,x3,x4,x5,x6,x7,x8,reduceCtorEq,↓reduceIte,za,hlen,t2,t4,t21,t22,t23];refine⟨by omega,l.length - (j+1),by omega,j+1,by omega,rfl,?_,hall2,?_,rfl⟩
    ·rw[hmp];exact .inr ⟨o2.length,0,rfl,by rw[gn1];rfl⟩
    ·rw[zj (zf.1 e12).1];exact e12
   ·have hrl:=(zf.1 hr).1;have hr1:r≠1:=fun e=>by rw[e,e12] at hr;injection hr with hr;cases hr
    simp only[sxZ,z6,z7,z8,j4,j5,j6,j7,j8,j9,x3,x4,x5,x6,x7,x8,reduceCtorEq,↓reduceIte,za,hlen,t8,eC,hr];have hcl:=zgX acc;refine⟨⟨by omega,by omega⟩,?_⟩;subst hV;simp only[sxZ,z6,z7,z8,j4,j5,j6,j7,j8,j9,x3,x4,x5,x6,x7,x8,reduceCtorEq,↓reduceIte,za,hlen,t2,t4,t21,t22,t23];refine⟨by omega,l.length - (j+1),by omega,j+1,by omega,rfl,?_,hall2,?_,rfl⟩
    ·rw[hmp];exact .inr ⟨r,g+1,rfl,by rw[zk hrl,zp,svcs_app];rfl⟩
    ·rw[if_neg hr1];exact e12
  ·have:=knil e (hbad c);simp only[sxZ,z6,z7,z8,j4,j5,j6,j7,j8,j9,x3,x4,x5,x6,x7,x8,reduceCtorEq,↓reduceIte,za,hlen,c];exact this
 have hn:j=l.length:=by omega
 rw[hn,jh (zd _)] at hA hall;have e:=zkE (svD m i) hall;simp only[sxZ,z6,z7,z8,j4,j5,j6,j7,j8,j9,x3,x4,x5,x6,x7,x8,reduceCtorEq,↓reduceIte,za,hlen,t22,t23,hlt];subst hW;simp only[sxZ,z6,z7,z8,j4,j5,j6,j7,j8,j9,x3,x4,x5,x6,x7,x8,reduceCtorEq,↓reduceIte,za,hlen];subst hZ;rcases hA with ⟨h0,rfl⟩|⟨r,g,rfl,hr⟩
 ·have:=knil 0 (by rw[e,h0]);simp only[sxZ,z6,z7,z8,j4,j5,j6,j7,j8,j9,x3,x4,x5,x6,x7,x8,reduceCtorEq,↓reduceIte,za,hlen,t8];exact this
 ·simp only[sxZ,z6,z7,z8,j4,j5,j6,j7,j8,j9,x3,x4,x5,x6,x7,x8,reduceCtorEq,↓reduceIte,za,hlen,t8,hr,zdN (zdc _),ja];rw[e] at hk ⊢;exact⟨fun G I y hy=>hy,hk⟩
end
end
section
attribute [local irreducible] run
theorem zfT (s:List UInt8):(ze4 s).2.1.length<=4096/\(ze4 s).2.2.length<=50000:=by
 have h1:=(zhu 58 (s.drop 4)).1;have h2:(s.drop 4).length=s.length - 4:=qb;have h3:=idE_len (zaE 58 (s.drop 4)).2.1;unfold ze4
 by_cases c0:4096<s.length
 ·rw[if_pos c0];exact⟨zh _,zh _⟩
 rw[if_neg c0]
 repeat' split
 all_goals first
  | exact⟨zh _,zh _⟩
  | (refine⟨?_,h3⟩;show (zaE 58 (s.drop 4)).1.length<=4096;omega)
def ShD (u:DidU):Prop:=u.meth.length<=4096/\u.id.length<=50000/\u.path.length<=16384/\u.query.length<=16384/\u.frag.length<=16384
theorem shZ:ShD zlJ:=⟨zh _,zh _,zh _,zh _,zh _⟩
theorem zgD (s:List UInt8):ShD (zhp s).2:=by
 unfold zhp
 repeat' split
 all_goals first
  | exact shZ
  | exact⟨(zfT _).1,(zfT _).2,(zev _ _).2,(zev _ _).2,(zev _ _).2⟩
theorem zhX (m i r:List UInt8):ShD (zfB m i r).2:=by
 unfold zfB
 repeat' split
 ·exact zgD _
 ·exact zgD _
 ·exact shZ
theorem resL (m i:List UInt8):ResL m i:=fun r _ _=>by
 obtain⟨h1,h2,h3,h4,h5⟩:=zhX m i r;exact⟨by omega,by omega,by omega,by omega,by omega⟩
theorem zjC (v:JV):(sbD v).2.1.length<=4096/\(sbD v).2.2.length<=50000:=by
 unfold sbD
 repeat' split
 ·exact⟨zh _,zh _⟩
 ·exact⟨zh _,zh _⟩
 ·exact zfT _
def ziF (A:AV) (n:Nat) (cs:List AV):Prop:=A=.row n cs\/(A=.nil/\n=0/\cs=[])
theorem ziF.den {A:AV} {n:Nat} {cs:List AV} (h:ziF A n cs) {G:Gh} {I:Imm} (z:Value) (hz:Den G I A z):Den G I (.row n cs) z:=by
 rcases h with rfl|⟨rfl,rfl,rfl⟩
 ·exact hz
 ·exact za3 hz
theorem ziF.pl {A:AV} {n:Nat} {cs:List AV} (h:ziF A n cs) (hp:zal cs=true):A.plain=true:=by
 rcases h with rfl|⟨rfl,_,_⟩
 ·exact hp
 ·rfl
theorem den_do {G:Gh} {I:Imm} {a a' b b' c c' d d' x:AV} {t:List UInt8} {y:Value} (h1:∀z,Den G I a z->Den G I a' z) (h2:∀z,Den G I b z->Den G I b' z) (h3:∀z,Den G I c z->Den G I c' z) (h4:∀z,Den G I d z->Den G I d' z) (hd:Den G I (.tup [.agg [.s t,a,b,c,d],x]) y):Den G I (.tup [.agg [.s t,a',b',c',d'],x]) y:=by
 refine zcd (fun z hz=>?_) hd;simp only[zah,Den] at hz ⊢;obtain⟨zs,rfl,⟨z0,m0,rfl,q0,z1,m1,rfl,q1,z2,m2,rfl,q2,z3,m3,rfl,q3,z4,m4,rfl,q4,q5⟩,hz⟩:=hz;exact⟨_,rfl,⟨_,_,rfl,q0,_,_,rfl,h1 _ q1,_,_,rfl,h2 _ q2,_,_,rfl,h3 _ q3,_,_,rfl,h4 _ q4,q5⟩,hz⟩
def doc (d:DoP):List AV:=[.s d.id,.row d.also.length (d.also.map .s),.row d.ctl.length (d.ctl.map .s),.row d.mts.length (zce d.mts),.row d.svs.length (zb2 d.svs)]
def ddAV (R:Int×DoP):AV:=.tup [.agg (doc R.2),.i .i64 R.1]
def IdB (v:JV):Prop:=(zbA v kId).1.text.length<=100000000/\∀key,∀y∈(zbA v key).1.items,(zbA y kId).1.text.length<=100000000
theorem IdB.it {v:JV} (h:IdB v) (hv:JOk v) (hj:JBd v) (key:List UInt8):∀y∈(zbA v key).1.items,JOk y/\JBd y/\(zbA y kId).1.text.length<=100000000:=fun y hy=>by
 have h1:=jgetJ_ok hv key;have h2:=zks hj key;refine⟨?_,?_,h.2 key y hy⟩
 ·obtain⟨i,hi,rfl⟩:=yc.1 hy;exact h1.its hi
 ·obtain⟨i,hi,rfl⟩:=yc.1 hy;exact h2.its hi
section
variable [Tabs Tryz.prog] {objs:List OB} {K:List OB->AV->Prop}
theorem sub_k [Shp Tryz.prog] (v:JV) (hv:JOk v) (hj:JBd v) (ht:(zbA v kId).1.text.length<=100000000) (hk:K objs (.tup [.agg [.s (sbD v).2.1,.s (sbD v).2.2],.i .i64 (sbD v).1])):zad Tryz.prog 24 [.agg (zae v)] objs K:=by
 refine zaL is_diddoc_subject (by simp only[zal,AV.plain,zaP,Bool.and_self]) fun C _=>?_;rw[c_diddoc_subject];have ejv:=zaf v;have htl:=zl9 v kId _ ht;have hm:maxLen=2 ^ 63 - 1:=rfl;rw[ejv];refine zaa fun Z hZ=>?_;simp only[sxZ,z6,z7,z8,j4,j5,j6,j7,j8,j9,x3,x4,x5,x6,x7,x8,reduceCtorEq,↓reduceIte];subst hZ;refine zaa fun Z hZ=>?_;simp only[sxZ,z6,z7,z8,j4,j5,j6,j7,j8,j9,x3,x4,x5,x6,x7,x8,reduceCtorEq,↓reduceIte];rw[<-ejv];refine zai (tm_k v kId hv hj ?_);unfold sbD at hk;generalize tmD v kId=R at hk htl ⊢;obtain⟨x,ok⟩:=R;dsimp only at hk htl ⊢;rw[ejv];simp only[sxZ,z6,z7,z8,j4,j5,j6,j7,j8,j9,x3,x4,x5,x6,x7,x8,reduceCtorEq,↓reduceIte];subst hZ;refine zaa fun Z hZ=>?_
 cases ok with
 | false=>
  rw[if_pos rfl] at hk;simp only[sxZ,z6,z7,z8,j4,j5,j6,j7,j8,j9,x3,x4,x5,x6,x7,x8,reduceCtorEq,↓reduceIte];exact hk
 | true=>
  rw[if_neg (show ¬(true=false) by decide)] at hk;simp only[sxZ,z6,z7,z8,j4,j5,j6,j7,j8,j9,x3,x4,x5,x6,x7,x8,reduceCtorEq,↓reduceIte];subst hZ;refine zaa fun Z hZ=>?_;simp only[sxZ,z6,z7,z8,j4,j5,j6,j7,j8,j9,x3,x4,x5,x6,x7,x8,reduceCtorEq,↓reduceIte];refine zai (zfW x (by omega) ?_);generalize ze4 x=R at hk ⊢;obtain⟨e,m,i⟩:=R;dsimp only at hk ⊢;simp only[sxZ,z6,z7,z8,j4,j5,j6,j7,j8,j9,x3,x4,x5,x6,x7,x8,reduceCtorEq,↓reduceIte];subst hZ;refine zaa fun Z hZ=>?_
  by_cases c:e=0
  ·subst c;rw[if_neg (show ¬((0:Int)≠0) by decide)] at hk;simp only[sxZ,z6,z7,z8,j4,j5,j6,j7,j8,j9,x3,x4,x5,x6,x7,x8,reduceCtorEq,↓reduceIte];subst hZ;simp only[sxZ,z6,z7,z8,j4,j5,j6,j7,j8,j9,x3,x4,x5,x6,x7,x8,reduceCtorEq,↓reduceIte];exact hk
  ·rw[if_pos c] at hk;simp only[sxZ,z6,z7,z8,j4,j5,j6,j7,j8,j9,x3,x4,x5,x6,x7,x8,reduceCtorEq,↓reduceIte,c];exact hk
theorem dd_k [Shp Tryz.prog] (v:JV) (hv:JOk v) (hj:JBd v) (hb:IdB v) (hk:K objs (ddAV (ddE v))):zad Tryz.prog 10 [.agg (zae v)] objs K:=by
 refine zew (ddAV (ddE v)) ?_;have kz:∀e:Int,ddE v=(e,doZ)->(∀G I y,Den G I (.tup [.agg [.s [],.nil,.nil,.nil,.nil],.i .i64 e]) y->Den G I (ddAV (ddE v)) y)/\K objs (ddAV (ddE v)):=fun e he=>⟨fun G I y h=>by rw[he];exact den_do (fun z hz=>za3 hz) (fun z hz=>za3 hz) (fun z hz=>za3 hz) (fun z hz=>za3 hz) h,hk⟩;refine zaL is_diddoc_Decode (by simp only[zal,AV.plain,zaP,Bool.and_self]) fun C _=>?_;rw[c_diddoc_Decode];have ejv:=zaf v;have hsl:=zjC v;rw[ejv];refine zaa fun Z hZ=>?_;simp only[sxZ,z6,z7,z8,j4,j5,j6,j7,j8,j9,x3,x4,x5,x6,x7,x8,reduceCtorEq,↓reduceIte];subst hZ;refine zaa fun Z hZ=>?_;simp only[sxZ,z6,z7,z8,j4,j5,j6,j7,j8,j9,x3,x4,x5,x6,x7,x8,reduceCtorEq,↓reduceIte];rw[<-ejv];refine zai (znn v ?_);rw[ejv];simp only[sxZ,z6,z7,z8,j4,j5,j6,j7,j8,j9,x3,x4,x5,x6,x7,x8,reduceCtorEq,↓reduceIte];subst hZ;refine zaa fun Z hZ=>?_;simp only[sxZ,z6,z7,z8,j4,j5,j6,j7,j8,j9,x3,x4,x5,x6,x7,x8,reduceCtorEq,↓reduceIte];rw[<-ejv];refine zai (sub_k v hv hj hb.1 ?_);unfold ddE at kz hk ⊢;generalize sbD v=R at kz hk hsl ⊢;obtain⟨e,m,i⟩:=R;dsimp only at kz hk hsl ⊢;rw[ejv];simp only[sxZ,z6,z7,z8,j4,j5,j6,j7,j8,j9,x3,x4,x5,x6,x7,x8,reduceCtorEq,↓reduceIte];subst hZ;refine zaa fun Z hZ=>?_
 by_cases c:e=0
 rotate_left
 ·rw[if_pos c] at kz hk ⊢;have:=kz e rfl;simp only[sxZ,z6,z7,z8,j4,j5,j6,j7,j8,j9,x3,x4,x5,x6,x7,x8,reduceCtorEq,↓reduceIte,c];exact this
 subst c;rw[if_neg (show ¬((0:Int)≠0) by decide)] at kz hk ⊢;simp only[sxZ,z6,z7,z8,j4,j5,j6,j7,j8,j9,x3,x4,x5,x6,x7,x8,reduceCtorEq,↓reduceIte];subst hZ;refine zaa fun Z hZ=>?_;simp only[sxZ,z6,z7,z8,j4,j5,j6,j7,j8,j9,x3,x4,x5,x6,x7,x8,reduceCtorEq,↓reduceIte];refine zai (zct m i (by omega) (by omega) ?_);simp only[sxZ,z6,z7,z8,j4,j5,j6,j7,j8,j9,x3,x4,x5,x6,x7,x8,reduceCtorEq,↓reduceIte];subst hZ;refine zaa fun Z hZ=>?_;obtain⟨⟨e1,L1⟩,hO1⟩:∃R,opD v zcY ltD=R:=⟨_,rfl⟩;rw[hO1] at kz hk ⊢;dsimp only at kz hk ⊢;refine zaz (fun o t=>∃A1 z1 b1,o=[OB.box 25 [.i .i64 v.kind,.s v.text,.row v.keys.length (v.keys.map .s),.row v.items.length (zac v.items)],OB.box 34 [.s [],.nil,.nil,.nil,.nil],OB.box 25 [.i .i64 v.kind,.s v.text,.row v.keys.length (v.keys.map .s),.row v.items.length (zac v.items)],OB.box 62 [.s m,.s i],OB.box 34 [.s (ziJ m i),A1,.nil,.nil,.nil],z1,b1]/\e1=0/\ziF A1 L1.length (L1.map .s)/\t.length=97/\t[2]? = some (.p 1 0)/\t[4]? = some (.fn 64 [] [.p 2 0])/\t[5]? = some (.p 3 0)/\t[7]? = some (.p 4 0)) ?_ ?_
 ·simp only[sxZ,z6,z7,z8,j4,j5,j6,j7,j8,j9,x3,x4,x5,x6,x7,x8,reduceCtorEq,↓reduceIte];refine zd8 zdP (zja v zcY 2 (by rw[ejv];rfl) hv hj fun z=>?_);unfold zbS;unfold opD at hO1;obtain⟨⟨x,ok⟩,hg⟩:∃R,zbA v zcY=R:=⟨_,rfl⟩;have hgx:x=(zbA v zcY).1:=by rw[hg]
  rw[hg] at hO1 ⊢;dsimp only at hO1 ⊢;have ex:=zaf x;rw[ex];simp only[sxZ,z6,z7,z8,j4,j5,j6,j7,j8,j9,x3,x4,x5,x6,x7,x8,reduceCtorEq,↓reduceIte]
  cases ok with
  | false=>
   rw[if_neg (show ¬(false=true) by decide)] at hO1;injection hO1 with h1 h2
   subst h1 h2;simp only[sxZ,z6,z7,z8,j4,j5,j6,j7,j8,j9,x3,x4,x5,x6,x7,x8,reduceCtorEq,↓reduceIte,zab];exact⟨_,_,_,rfl,.inr ⟨rfl,rfl,rfl⟩⟩
  | true=>
   rw[if_pos rfl] at hO1;simp only[sxZ,z6,z7,z8,j4,j5,j6,j7,j8,j9,x3,x4,x5,x6,x7,x8,reduceCtorEq,↓reduceIte];rw[<-ex];refine zai (zj8 x ?_);rw[hO1,ex];unfold zjz;simp only[sxZ,z6,z7,z8,j4,j5,j6,j7,j8,j9,x3,x4,x5,x6,x7,x8,reduceCtorEq,↓reduceIte]
   by_cases c1:e1=0
   ·subst c1;simp only[sxZ,z6,z7,z8,j4,j5,j6,j7,j8,j9,x3,x4,x5,x6,x7,x8,reduceCtorEq,↓reduceIte,zab];exact⟨_,_,_,rfl,.inl rfl⟩
   ·rw[if_pos c1] at kz hk ⊢;have:=kz e1 rfl;simp only[sxZ,z6,z7,z8,j4,j5,j6,j7,j8,j9,x3,x4,x5,x6,x7,x8,reduceCtorEq,↓reduceIte,c1,zfg];exact this
 rintro o tm ⟨A1,z1,b1,rfl,rfl,hA1,hlen,t2,t4,t5,t7⟩;rw[if_neg (show ¬((0:Int)≠0) by decide)] at kz hk ⊢;subst hZ;refine zaa fun Z hZ=>?_;obtain⟨⟨e2,L2⟩,hO2⟩:∃R,opD v zbQ olD=R:=⟨_,rfl⟩;rw[hO2] at kz hk ⊢;dsimp only at kz hk ⊢;refine zaz (fun o t=>∃A2 z2 b2,o=[OB.box 25 [.i .i64 v.kind,.s v.text,.row v.keys.length (v.keys.map .s),.row v.items.length (zac v.items)],OB.box 34 [.s [],.nil,.nil,.nil,.nil],OB.box 25 [.i .i64 v.kind,.s v.text,.row v.keys.length (v.keys.map .s),.row v.items.length (zac v.items)],OB.box 62 [.s m,.s i],OB.box 34 [.s (ziJ m i),A1,A2,.nil,.nil],z1,b1,z2,b2]/\e2=0/\ziF A2 L2.length (L2.map .s)/\t.length=97/\t[2]? = some (.p 1 0)/\t[4]? = some (.fn 64 [] [.p 2 0])/\t[5]? = some (.p 3 0)/\t[7]? = some (.p 4 0)) ?_ ?_
 ·simp only[sxZ,z6,z7,z8,j4,j5,j6,j7,j8,j9,x3,x4,x5,x6,x7,x8,reduceCtorEq,↓reduceIte,za,hlen,t2,t4,t5,t7];refine zd8 zdP (zja v zbQ 2 (by rw[ejv];rfl) hv hj fun z=>?_);unfold zbS;unfold opD at hO2;obtain⟨⟨x,ok⟩,hg⟩:∃R,zbA v zbQ=R:=⟨_,rfl⟩;have hgx:x=(zbA v zbQ).1:=by rw[hg]
  rw[hg] at hO2 ⊢;dsimp only at hO2 ⊢;have ex:=zaf x;rw[ex];simp only[sxZ,z6,z7,z8,j4,j5,j6,j7,j8,j9,x3,x4,x5,x6,x7,x8,reduceCtorEq,↓reduceIte,za,hlen,t2,t4,t5,t7]
  cases ok with
  | false=>
   rw[if_neg (show ¬(false=true) by decide)] at hO2;injection hO2 with h1 h2
   subst h1 h2;simp only[sxZ,z6,z7,z8,j4,j5,j6,j7,j8,j9,x3,x4,x5,x6,x7,x8,reduceCtorEq,↓reduceIte,za,hlen,t2,t4,t5,t7,zab];exact⟨_,_,_,rfl,.inr ⟨rfl,rfl,rfl⟩⟩
  | true=>
   rw[if_pos rfl] at hO2;simp only[sxZ,z6,z7,z8,j4,j5,j6,j7,j8,j9,x3,x4,x5,x6,x7,x8,reduceCtorEq,↓reduceIte,za,hlen,t2,t4,t5,t7];rw[<-ex];refine zai (ol_k x ?_);rw[hO2,ex];unfold zjz;simp only[sxZ,z6,z7,z8,j4,j5,j6,j7,j8,j9,x3,x4,x5,x6,x7,x8,reduceCtorEq,↓reduceIte,za,hlen,t2,t4,t5,t7]
   by_cases c1:e2=0
   ·subst c1;simp only[sxZ,z6,z7,z8,j4,j5,j6,j7,j8,j9,x3,x4,x5,x6,x7,x8,reduceCtorEq,↓reduceIte,za,hlen,t2,t4,t5,t7,zab];exact⟨_,_,_,rfl,.inl rfl⟩
   ·rw[if_pos c1] at kz hk ⊢;have:=kz e2 rfl;simp only[sxZ,z6,z7,z8,j4,j5,j6,j7,j8,j9,x3,x4,x5,x6,x7,x8,reduceCtorEq,↓reduceIte,za,hlen,t2,t4,t5,t7,c1,zfg];exact this
 rintro o tm ⟨A2,z2,b2,rfl,rfl,hA2,hlen,t2,t4,t5,t7⟩;rw[if_neg (show ¬((0:Int)≠0) by decide)] at kz hk ⊢;subst hZ;refine zaa fun Z hZ=>?_;obtain⟨⟨e3,L3⟩,hO3⟩:∃R,opD v zdi (elD (mtD m i))=R:=⟨_,rfl⟩;rw[hO3] at kz hk ⊢;dsimp only at kz hk ⊢;refine zaz (fun o t=>∃A3 z3 b3,o=[OB.box 25 [.i .i64 v.kind,.s v.text,.row v.keys.length (v.keys.map .s),.row v.items.length (zac v.items)],OB.box 34 [.s [],.nil,.nil,.nil,.nil],OB.box 25 [.i .i64 v.kind,.s v.text,.row v.keys.length (v.keys.map .s),.row v.items.length (zac v.items)],OB.box 62 [.s m,.s i],OB.box 34 [.s (ziJ m i),A1,A2,A3,.nil],z1,b1,z2,b2,z3,b3]/\e3=0/\ziF A3 L3.length (zce L3)/\t.length=97/\t[2]? = some (.p 1 0)/\t[4]? = some (.fn 64 [] [.p 2 0])/\t[5]? = some (.p 3 0)/\t[7]? = some (.p 4 0)) ?_ ?_
 ·simp only[sxZ,z6,z7,z8,j4,j5,j6,j7,j8,j9,x3,x4,x5,x6,x7,x8,reduceCtorEq,↓reduceIte,za,hlen,t2,t4,t5,t7];refine zd8 zdP (zja v zdi 2 (by rw[ejv];rfl) hv hj fun z=>?_);unfold zbS;unfold opD at hO3;obtain⟨⟨x,ok⟩,hg⟩:∃R,zbA v zdi=R:=⟨_,rfl⟩;have hgx:x=(zbA v zdi).1:=by rw[hg]
  rw[hg] at hO3 ⊢;dsimp only at hO3 ⊢;have ex:=zaf x;rw[ex];simp only[sxZ,z6,z7,z8,j4,j5,j6,j7,j8,j9,x3,x4,x5,x6,x7,x8,reduceCtorEq,↓reduceIte,za,hlen,t2,t4,t5,t7]
  cases ok with
  | false=>
   rw[if_neg (show ¬(false=true) by decide)] at hO3;injection hO3 with h1 h2
   subst h1 h2;simp only[sxZ,z6,z7,z8,j4,j5,j6,j7,j8,j9,x3,x4,x5,x6,x7,x8,reduceCtorEq,↓reduceIte,za,hlen,t2,t4,t5,t7,zab];exact⟨_,_,_,rfl,.inr ⟨rfl,rfl,rfl⟩⟩
  | true=>
   rw[if_pos rfl] at hO3;simp only[sxZ,z6,z7,z8,j4,j5,j6,j7,j8,j9,x3,x4,x5,x6,x7,x8,reduceCtorEq,↓reduceIte,za,hlen,t2,t4,t5,t7];rw[<-ex];refine zai (elM_k m i x (by rw[hgx];exact hb.it hv hj zdi) (by omega) (by omega) (resL m i) ?_);rw[hO3,ex];dsimp only;simp only[sxZ,z6,z7,z8,j4,j5,j6,j7,j8,j9,x3,x4,x5,x6,x7,x8,reduceCtorEq,↓reduceIte,za,hlen,t2,t4,t5,t7]
   by_cases c1:e3=0
   ·subst c1;simp only[sxZ,z6,z7,z8,j4,j5,j6,j7,j8,j9,x3,x4,x5,x6,x7,x8,reduceCtorEq,↓reduceIte,za,hlen,t2,t4,t5,t7,zab];exact⟨_,_,_,rfl,.inl rfl⟩
   ·rw[if_pos c1] at kz hk ⊢;have:=kz e3 rfl;simp only[sxZ,z6,z7,z8,j4,j5,j6,j7,j8,j9,x3,x4,x5,x6,x7,x8,reduceCtorEq,↓reduceIte,za,hlen,t2,t4,t5,t7,c1,zfg];exact this
 rintro o tm ⟨A3,z3,b3,rfl,rfl,hA3,hlen,t2,t4,t5,t7⟩;rw[if_neg (show ¬((0:Int)≠0) by decide)] at kz hk ⊢;subst hZ;refine zaa fun Z hZ=>?_;obtain⟨⟨e4,L4⟩,hO4⟩:∃R,opD v zcf (elD (svD m i))=R:=⟨_,rfl⟩;rw[hO4] at kz hk ⊢;dsimp only at kz hk ⊢;refine zaz (fun o t=>∃A4 z4 b4,o=[OB.box 25 [.i .i64 v.kind,.s v.text,.row v.keys.length (v.keys.map .s),.row v.items.length (zac v.items)],OB.box 34 [.s [],.nil,.nil,.nil,.nil],OB.box 25 [.i .i64 v.kind,.s v.text,.row v.keys.length (v.keys.map .s),.row v.items.length (zac v.items)],OB.box 62 [.s m,.s i],OB.box 34 [.s (ziJ m i),A1,A2,A3,A4],z1,b1,z2,b2,z3,b3,z4,b4]/\e4=0/\ziF A4 L4.length (zb2 L4)/\t.length=97/\t[2]? = some (.p 1 0)/\t[4]? = some (.fn 64 [] [.p 2 0])/\t[5]? = some (.p 3 0)/\t[7]? = some (.p 4 0)) ?_ ?_
 ·simp only[sxZ,z6,z7,z8,j4,j5,j6,j7,j8,j9,x3,x4,x5,x6,x7,x8,reduceCtorEq,↓reduceIte,za,hlen,t2,t4,t5,t7];refine zd8 zdP (zja v zcf 2 (by rw[ejv];rfl) hv hj fun z=>?_);unfold zbS;unfold opD at hO4;obtain⟨⟨x,ok⟩,hg⟩:∃R,zbA v zcf=R:=⟨_,rfl⟩;have hgx:x=(zbA v zcf).1:=by rw[hg]
  rw[hg] at hO4 ⊢;dsimp only at hO4 ⊢;have ex:=zaf x;rw[ex];simp only[sxZ,z6,z7,z8,j4,j5,j6,j7,j8,j9,x3,x4,x5,x6,x7,x8,reduceCtorEq,↓reduceIte,za,hlen,t2,t4,t5,t7]
  cases ok with
  | false=>
   rw[if_neg (show ¬(false=true) by decide)] at hO4;injection hO4 with h1 h2
   subst h1 h2;simp only[sxZ,z6,z7,z8,j4,j5,j6,j7,j8,j9,x3,x4,x5,x6,x7,x8,reduceCtorEq,↓reduceIte,za,hlen,t2,t4,t5,t7,zab];exact⟨_,_,_,rfl,.inr ⟨rfl,rfl,rfl⟩⟩
  | true=>
   rw[if_pos rfl] at hO4;simp only[sxZ,z6,z7,z8,j4,j5,j6,j7,j8,j9,x3,x4,x5,x6,x7,x8,reduceCtorEq,↓reduceIte,za,hlen,t2,t4,t5,t7];rw[<-ex];refine zai (elV_k m i x (by rw[hgx];exact hb.it hv hj zcf) (by omega) (by omega) (resL m i) ?_);rw[hO4,ex];dsimp only;simp only[sxZ,z6,z7,z8,j4,j5,j6,j7,j8,j9,x3,x4,x5,x6,x7,x8,reduceCtorEq,↓reduceIte,za,hlen,t2,t4,t5,t7]
   by_cases c1:e4=0
   ·subst c1;simp only[sxZ,z6,z7,z8,j4,j5,j6,j7,j8,j9,x3,x4,x5,x6,x7,x8,reduceCtorEq,↓reduceIte,za,hlen,t2,t4,t5,t7,zab];exact⟨_,_,_,rfl,.inl rfl⟩
   ·rw[if_pos c1] at kz hk ⊢;have:=kz e4 rfl;simp only[sxZ,z6,z7,z8,j4,j5,j6,j7,j8,j9,x3,x4,x5,x6,x7,x8,reduceCtorEq,↓reduceIte,za,hlen,t2,t4,t5,t7,c1,zfg];exact this
 rintro o tm ⟨A4,z4,b4,rfl,rfl,hA4,hlen,t2,t4,t5,t7⟩;rw[if_neg (show ¬((0:Int)≠0) by decide)] at kz hk ⊢;subst hZ;refine zaa fun Z hZ=>?_;have p1:=hA1.pl (zaD L1);have p2:=hA2.pl (zaD L2);have p3:=hA3.pl (zdh L3);have p4:=hA4.pl (zdc L4);simp only[sxZ,z6,z7,z8,j4,j5,j6,j7,j8,j9,x3,x4,x5,x6,x7,x8,reduceCtorEq,↓reduceIte,za,hlen,t2,t4,t5,t7];subst hZ;simp only[sxZ,z6,z7,z8,j4,j5,j6,j7,j8,j9,x3,x4,x5,x6,x7,x8,reduceCtorEq,↓reduceIte,za,hlen,t2,t4,t5,t7,zh5 p1,zh5 p2,zh5 p3,zh5 p4,ja];exact⟨fun G I y h=>den_do hA1.den hA2.den hA3.den hA4.den h,hk⟩
end
end
section
attribute [local irreducible] run
theorem jkp_z:JKp jvZ:=by rw[jvZ,JKp];exact⟨by simp,by simp,by simp,by simp,by rw[zjv];trivial⟩
theorem zhh {v:JV} (hv:JKp v) (key:List UInt8):JKp (zbA v key).1:=by
 unfold zbA
 split
 ·split
  ·rename_i x hx;obtain⟨hi,rfl⟩:=zf.1 hx;exact hv.its hi
  ·exact jkp_z
 ·exact jkp_z
theorem JKp.idB {v:JV} (hv:JKp v):IdB v:=by
 refine⟨Nat.le_trans (zhh hv kId).lens.2.2.1 (by decide),fun key y hy=>?_⟩;obtain⟨i,hi,rfl⟩:=yc.1 hy;exact Nat.le_trans (zhh ((zhh hv key).its hi) kId).lens.2.2.1 (by decide)
def ShV (x:SvP):Prop:=x.typ.length<=64/\x.eps.length<=64
end
section
attribute [local irreducible] run
def zlc (m:Nat) (l:List JV) (o:List OB) (X:AV):Prop:=(l=[]/\X=.nil)\/∃r g,X=.orow r g/\m<=r/\o[r]? = some (.orow 25 4 g l.length (zac l))
def ObR (m b:Nat) (ks:List (List UInt8)) (its:List JV) (o:List OB):Prop:=∃X Y,o[b]? = some (.box 93 [X,Y])/\RowT m ks o X/\zlc m its o Y
def jtx (s:List UInt8):JV:=.mk 5 s [] []
def jar (l:List JV):JV:=.mk 6 [] [] l
theorem zlc.mono {m:Nat} {l:List JV} {o:List OB} {X:AV} (h:zlc m l o X) (z:OB):zlc m l (o++[z]) X:=by
 rcases h with h|⟨r,g,h1,h0,h2⟩
 ·exact .inl h
 ·exact .inr ⟨r,g,h1,h0,by rw[zj (zf.1 h2).1];exact h2⟩
theorem zlc.set {m:Nat} {l:List JV} {o:List OB} {X:AV} (h:zlc m l o X) {r:Nat} {Z:OB} (hz:o[r]? = some Z) (hne:∀g n cs,Z≠.orow 25 4 g n cs) (W:OB):zlc m l (o.set r W) X:=by
 rcases h with h|⟨r',g,h1,h0,h2⟩
 ·exact .inl h
 ·refine .inr ⟨r',g,h1,h0,?_⟩;rw[ze (fun e=>by rw[e,h2] at hz;injection hz with hz;exact hne _ _ _ hz.symm)];exact h2
theorem RowT.set {m:Nat} {l:List (List UInt8)} {o:List OB} {X:AV} (h:RowT m l o X) {r:Nat} {Z:OB} (hz:o[r]? = some Z) (hne:∀g n cs,Z≠.orow 9 1 g n cs) (W:OB):RowT m l (o.set r W) X:=by
 rcases h with h|⟨r',g,h1,h0,h2⟩
 ·exact .inl h
 ·refine .inr ⟨r',g,h1,h0,?_⟩;rw[ze (fun e=>by rw[e,h2] at hz;injection hz with hz;exact hne _ _ _ hz.symm)];exact h2
theorem zeE {k:Int} {t:List UInt8} {G:Gh} {I:Imm} {y:Value} (h:Den G I (.agg [.i .i64 k,.s t,.nil,.nil]) y):Den G I (.agg (zae (.mk k t [] []))) y:=by
 rw[zae,zak];simp only[zah,Den] at h ⊢;obtain⟨zs,rfl,⟨z0,m0,rfl,q0,z1,m1,rfl,q1,z2,m2,rfl,q2,z3,m3,rfl,q3,q4⟩,hz⟩:=h;refine⟨_,rfl,⟨_,_,rfl,q0,_,_,rfl,q1,_,_,rfl,?_,_,_,rfl,?_,q4⟩,hz⟩
 ·exact⟨none,0,[],q2,⟨zd _,fun ad h=>by cases h⟩,rfl,by simp,by simp⟩
 ·exact⟨none,0,[],q3,⟨zd _,fun ad h=>by cases h⟩,rfl,by simp,by simp⟩
theorem zjm {k:Int} {t:List UInt8} {n:Nat} {cs:List AV} {its:List JV} (hn:n=its.length) (hc:cs=zac its) {G:Gh} {I:Imm} {y:Value} (h:Den G I (.agg [.i .i64 k,.s t,.nil,.row n cs]) y):Den G I (.agg (zae (.mk k t [] its))) y:=by
 subst hn hc;rw[zae];simp only[zah,Den] at h ⊢;obtain⟨zs,rfl,⟨z0,m0,rfl,q0,z1,m1,rfl,q1,z2,m2,rfl,q2,z3,m3,rfl,q3,q4⟩,hz⟩:=h;refine⟨_,rfl,⟨_,_,rfl,q0,_,_,rfl,q1,_,_,rfl,?_,_,_,rfl,q3,q4⟩,hz⟩;exact⟨none,0,[],q2,⟨zd _,fun ad h=>by cases h⟩,rfl,by simp,by simp⟩
section
variable [Tabs Tryz.prog] {objs:List OB} {K:List OB->AV->Prop}
theorem zdu (s:List UInt8) (hk:K objs (.agg (zae (jtx s)))):zad Tryz.prog 47 [.s s] objs K:=by
 refine zew (.agg (zae (jtx s))) ?_;refine zaL is_jsonmake_Text rfl fun C _=>?_;rw[c_jsonmake_Text];simp only[sxZ,z6,z7,z8,j4,j5,j6,j7,j8,j9,x3,x4,x5,x6,x7,x8,reduceCtorEq,↓reduceIte];exact⟨fun G I y hy=>zeE hy,hk⟩
theorem zcJ (l:List JV) (hk:K objs (.agg (zae (jar l)))):zad Tryz.prog 51 [.row l.length (zac l)] objs K:=by
 refine zew (.agg (zae (jar l))) ?_;refine zaL is_jsonmake_Array (by simp only[zal,AV.plain,zaG,Bool.and_self]) fun C _=>?_;rw[c_jsonmake_Array];simp only[sxZ,z6,z7,z8,j4,j5,j6,j7,j8,j9,x3,x4,x5,x6,x7,x8,reduceCtorEq,↓reduceIte,zaG];exact⟨fun G I y hy=>zjm rfl rfl hy,hk⟩
theorem zcZ (m b:Nat) (ks:List (List UInt8)) (its:List JV) (key:List UInt8) (v:JV) (hb:ObR m b ks its objs) (hm:m<=objs.length) (hbm:b<m) (h1:ks.length<=1000000) (h2:its.length<=1000000) (hk:∀o,ObR m b (ks++[key]) (its++[v]) o->objs.length<=o.length->(∀i,i<m->i≠b->o[i]? = objs[i]?)->K o (.tup [])):zad Tryz.prog 46 [.p b 0,.s key,.agg (zae v)] objs K:=by
 obtain⟨X,Y,e0,hX,hY⟩:=hb;have hl4:=zav its;obtain⟨v0,v1,v2,v3,hv⟩:∃v0 v1 v2 v3,zae v=[v0,v1,v2,v3]:=⟨_,_,_,_,zaf v⟩;rw[hv];refine zcN is_jsonmake_Object_Add fun C _=>?_;rw[c_jsonmake_Object_Add];refine zaa fun Z hZ=>?_;simp only[sxZ,z6,z7,z8,j4,j5,j6,j7,j8,j9,x3,x4,x5,x6,x7,x8,reduceCtorEq,↓reduceIte];have f0:(objs++[OB.box 25 [v0,v1,v2,v3]])[b]? = some (.box 93 [X,Y]):=by rw[zj (by omega)];exact e0
 have fv:(objs++[OB.box 25 [v0,v1,v2,v3]])[objs.length]? = some (.box 25 [v0,v1,v2,v3]):=gn1 _ _;have hX1:=hX.mono (.box 25 [v0,v1,v2,v3]);subst hZ;refine zaa fun Z hZ=>?_;have hY1:=hY.mono (.box 25 [v0,v1,v2,v3]);have hol:(objs++[OB.box 25 [v0,v1,v2,v3]]).length=objs.length+1:=by simp
 refine zaz (fun o2 t2=>∃X',o2[b]? = some (.box 93 [X',Y])/\RowT m (ks++[key]) o2 X'/\zlc m its o2 Y/\o2[objs.length]? = some (.box 25 [v0,v1,v2,v3])/\objs.length+1<=o2.length/\(∀i,i<m->i≠b->o2[i]? = objs[i]?)/\t2.length=27/\t2[0]? = some (.p b 0)/\t2[5]? = some (.p objs.length 0)) ?_ ?_
 ·rcases hX1 with ⟨rfl,rfl⟩|⟨r,g,rfl,hr0,hr⟩
  ·have f1:∀z,(objs++[OB.box 25 [v0,v1,v2,v3]]++[z])[b]? = some (.box 93 [.nil,Y]):=fun z=>by rw[zj (by omega)];exact f0
   simp only[sxZ,z6,z7,z8,j4,j5,j6,j7,j8,j9,x3,x4,x5,x6,x7,x8,reduceCtorEq,↓reduceIte,f0,f1,zab];refine⟨_,zk (by simp;omega),.inr ⟨objs.length+1,0,rfl,by omega,?_⟩,?_,?_,by simp,fun i hi hn=>?_⟩
   ·rw[ze (by omega),gn2];rfl
   ·exact(hY1.mono _).set (f1 _) (fun _ _ _ h=>by cases h) _
   ·rw[ze (by omega),zj (by omega)];exact fv
   ·rw[ze (by omega),zj (by omega),zj (by omega)]
  ·have hrl:=(zf.1 hr).1;have hrv:r≠objs.length:=fun h=>by rw[h,fv] at hr;cases hr
   have f1:∀W,((objs++[OB.box 25 [v0,v1,v2,v3]]).set r W)[b]? = some (.box 93 [.orow r g,Y]):=fun W=>by rw[ze (by omega)];exact f0
   simp only[sxZ,z6,z7,z8,j4,j5,j6,j7,j8,j9,x3,x4,x5,x6,x7,x8,reduceCtorEq,↓reduceIte,f0,f1,hr,zab];refine⟨⟨by omega,by omega⟩,_,zk (by simp;omega),.inr ⟨r,g+1,rfl,hr0,?_⟩,?_,?_,by simp,fun i hi hn=>?_⟩
   ·rw[ze (by omega),zk hrl,zp,qy];rfl
   ·exact(hY1.set hr (fun _ _ _ h=>by cases h) _).set (f1 _) (fun _ _ _ h=>by cases h) _
   ·rw[ze (by omega),ze hrv];exact fv
   ·rw[ze (by omega),ze (by omega),zj (by omega)]
 rintro o2 tm2 ⟨X',g0,hX2,hY2,gv,hlo,hfr,hlen,t0,t5⟩;subst hZ;have hl4':=zcK v;rcases hY2 with ⟨rfl,rfl⟩|⟨r,g,rfl,hr0,hr⟩
 ·have g1:∀z,(o2++[z])[b]? = some (.box 93 [X',.nil]):=fun z=>by rw[zj (by omega)];exact g0
  simp only[sxZ,z6,z7,z8,j4,j5,j6,j7,j8,j9,x3,x4,x5,x6,x7,x8,reduceCtorEq,↓reduceIte,za,hlen,t0,t5,g0,gv,gn1,sn1,g1,Int.toNat_zero];refine⟨by omega,by omega,?_⟩;refine hk _ ⟨X',.orow o2.length 0,zk (by simp;omega),?_,.inr ⟨o2.length,0,rfl,by omega,?_⟩⟩ (by simp;omega) fun i hi hn=>?_
  ·exact(hX2.mono _).set (g1 _) (fun _ _ _ h=>by cases h) _
  ·rw[ze (by omega),gn1,<-hv];simp[zao,zak]
  ·rw[ze (by omega),zj (by omega)];exact hfr i hi hn
 ·have hrl:=(zf.1 hr).1;have hrb:r≠b:=by omega
  simp only[sxZ,z6,z7,z8,j4,j5,j6,j7,j8,j9,x3,x4,x5,x6,x7,x8,reduceCtorEq,↓reduceIte,za,hlen,t0,t5,g0,gv,hr,hrl,hrb];refine⟨⟨by omega,by omega⟩,⟨by omega,by omega⟩,by omega,?_⟩;rw[spE _ _ _ _ _ _ _ _ _ _ hl4,List.set_set];have g2:∀W,(o2.set r W)[b]? = some (.box 93 [X',.orow r g]):=fun W=>by rw[ze hrb];exact g0
  refine hk _ ⟨X',.orow r (g+1),zk (by simp;omega),?_,.inr ⟨r,g+1,rfl,hr0,?_⟩⟩ (by simp;omega) fun i hi hn=>?_
  ·exact(hX2.set hr (fun _ _ _ h=>by cases h) _).set (g2 _) (fun _ _ _ h=>by cases h) _
  ·rw[ze (by omega),zk hrl,<-hv];simp[za4,zao,zak]
  ·rw[ze (by omega),ze (by omega)];exact hfr i hi hn
end
end
instance tabs:Tabs Tryz.prog:=⟨fun w=>w.ShapedOpen Tryz.prog,fun _ _ h hk _=>ziS h hk⟩
instance tabs_shp:Shp Tryz.prog:=⟨fun _ h=>h⟩
end Go.Proofs.YtceenajkieomoaaGreatDoor
namespace Go.Proofs.YtceenajkieomoaaGreatDoor
open Int renaming cast_ofNat_Int->y6
open List renaming Perm->qz, all_cons->jl, all_eq_true->qd, append_assoc->qc, append_nil->ji, drop_eq_getElem_cons->jn, eq_nil_of_length_eq_zero->jo, flatMap_cons->xe, getElem?_append_left->zj, getElem?_eq_getElem->zl, getElem?_eq_some_iff->zf, getElem?_map->qm, getElem?_set->za, getElem?_set_ne->ze, getElem?_set_self->zk, getElem_mem->jg, length->jp, length_append->zp, length_cons->zx, length_map->qg, length_set->zi, length_take->qh, map_append->qy, map_cons->zo, map_nil->zr, mem_append->zw, mem_cons->zu, mem_cons_of_mem->qq, mem_map->jd, mem_singleton->xt, nil_append->zy, not_mem_nil->xh, sublist_cons_self->jk, take_add_one->xo, take_of_length_le->jh
open Nat renaming le_refl->zd, le_trans->qp, zero_le->zh
open Option renaming map_some->ja
def ppB (c:UInt8):Bool:=c==37||idB c
theorem zmb {a b:UInt8} (r:List UInt8) (ha:a≠58) (hb:b≠58) {p:List UInt8} {ps:List (List UInt8)} (h:za8 58 r=p::ps):za8 58 (37::a::b::r)=(37::a::b::p)::ps:=by
 rw[zaZ,if_neg (by decide),zaZ,if_neg ha,zaZ,if_neg hb,h]
theorem addN_out (c:UInt8) (out:List UInt8) (h:zcb c zaT=true):zc6 zaT out c false=(0,out++[c]):=zbz rfl h
theorem zmi {c:UInt8} (t out:List UInt8) (hc:c≠37) (h:zcb c zaT=true):rwS (zc6 zaT) 0 (c::t) out=rwS (zc6 zaT) 0 t (out++[c]):=by
 rw[rwS,if_neg hc,addN_out c out h,if_pos rfl]
theorem rwN_esc (a b:UInt8) (r out:List UInt8) (he:zbG (37::a::b::r)=true):rwS (zc6 zaT) 0 (37::a::b::r) out=rwS (zc6 zaT) 0 r (out++(if zaH (zcm (37::a::b::r))=true then [zcm (37::a::b::r)] else zeD (zcm (37::a::b::r)))):=by
 rw[rwS,if_pos rfl,if_pos he];rcases hu:zaH (zcm (37::a::b::r)) with _|_
 ·rw[zfi hu,if_pos rfl,zbY,if_neg Bool.false_ne_true];rfl
 ·rw[zbz (by rw[hu];rfl) (zdg hu),if_pos rfl,zbY,if_pos rfl];rfl
theorem zlG (v:UInt8):zb8 (if zaH v=true then [v] else zeD v)=if idB v=true then [v] else zeD v:=by
 have hf:=zc1 v;rcases hu:zaH v with _|_
 ·rw[if_neg Bool.false_ne_true,hf.2.2.1 hu,if_neg Bool.false_ne_true,zlh]
 ·rw[if_pos rfl]
  by_cases h:v=126
  ·subst h;decide
  ·rw[hf.2.1 hu h,if_pos rfl,zem h]
theorem zlx:∀(n:Nat) (l p:List UInt8) (ps:List (List UInt8)),l.length<=n->za8 58 l=p::ps->((dcL l).1=0↔∀q∈p::ps,(dcL q).1=0) /\
  (l.all ibB=true->(dcL l).1=0->∀out,∃y,rwS (zc6 zaT) 0 l out=(0,out++y)/\zb8 y=zeb (dcL p).2++ps.flatMap fun q=>58::zeb (dcL q).2):=by
 intro n
 induction n with
 | zero=>
  intro l p ps hl hs;obtain rfl:l=[]:=jo (by omega);obtain⟨rfl,rfl⟩:p=[]/\ps=[]:=by
   have:za8 58 []=[[]]:=rfl;rw[this] at hs;injection hs with h1 h2;exact⟨h1.symm,h2.symm⟩
  exact⟨by simp,fun _ _ out=>⟨[],by rw[rwS,ji],rfl⟩⟩
 | succ n ih=>
  intro l p ps hl hs
  cases l with
  | nil=>
   obtain⟨rfl,rfl⟩:p=[]/\ps=[]:=by
    have:za8 58 []=[[]]:=rfl;rw[this] at hs;injection hs with h1 h2;exact⟨h1.symm,h2.symm⟩
   exact⟨by simp,fun _ _ out=>⟨[],by rw[rwS,ji],rfl⟩⟩
  | cons c t=>
   simp only[zx] at hl
   by_cases hc:c=37
   ·subst hc;rcases he:zbG (37::t) with _|_
    ·obtain⟨p',ps',e'⟩:=zbo 58 t;rw[zaZ,if_neg (by decide),e'] at hs;injection hs with h1 h2
     have hb:=zhs he;have hp:zbG p=false:=by
      rw[<-h1];rcases hq:zbG (37::p') with _|_
      ·rfl
      ·obtain⟨a,b,r,rfl⟩:=zb4 hq;have hx:(za0 a&&za0 b)=true:=hq;have ht:t=a::b::t.drop 2:=by
        have h3:za8 58 t=(a::b::r)::ps':=e';rw[zcD] at h3;rcases zbZ 58 t with ⟨_,h4,_⟩|⟨k,_,hk,h4,_⟩
        ·rw[h4] at h3;simp only[Bool.false_eq_true,if_false,List.cons.injEq] at h3;rw[h3.1];rfl
        ·rw[h4] at h3;simp only[if_true,List.cons.injEq] at h3;have h5:=h3.1
         match t,k,h5 with
         | [],k,h5=>simp at h5
         | [x],0,h5=>simp at h5
         | [x],k+1,h5=>simp at h5
         | x::y::t,0,h5=>simp at h5
         | x::y::t,1,h5=>simp at h5
         | x::y::t,k+2,h5=>simp at h5;rw[h5.1,h5.2.1];rfl
       rw[ht] at he;have:zbG (37::a::b::t.drop 2)=(za0 a&&za0 b):=rfl;rw[this,hx] at he;cases he
     have hpb:(dcL p).1=2:=by rw[<-h1] at hp ⊢;exact zhs hp
     exact⟨⟨(fun h=>by rw[hb] at h;cases h),(fun h=>by have:=h p (by simp);rw[hpb] at this;cases this)⟩,(fun _ h=>by rw[hb] at h;cases h)⟩
    ·obtain⟨a,b,r,rfl⟩:=zb4 he;have hx:za0 a=true/\za0 b=true:=by
      have:(za0 a&&za0 b)=true:=he;simpa using this
     have ha:=((zc1 a).2.2.2.2 hx.1).1;have hb:=((zc1 b).2.2.2.2 hx.2).1;obtain⟨p',ps',e'⟩:=zbo 58 r;rw[zmb r ha hb e'] at hs;injection hs with h1 h2
     subst h1 h2;have hep:zbG (37::a::b::p')=true:=he;have hv:zcm (37::a::b::p')=zcm (37::a::b::r):=rfl;obtain⟨i1,i2⟩:=ih r p' ps' (by simp at hl;omega) e';have d1:=zfV he;have d2:=zfV hep;refine⟨?_,fun hall h0 out=>?_⟩
     ·rw[d1.1,i1];simp only[zu,forall_eq_or_imp,d2.1]
     ·rw[d1.1] at h0;have hall':r.all ibB=true:=by
       simp only[jl,Bool.and_eq_true] at hall;exact hall.2.2.2
      obtain⟨y,y1,y2⟩:=i2 hall' h0 (out++(if zaH (zcm (37::a::b::r))=true then [zcm (37::a::b::r)] else zeD (zcm (37::a::b::r))));have hp0:=(i1.1 h0) p' (by simp);refine⟨(if zaH (zcm (37::a::b::r))=true then [zcm (37::a::b::r)] else zeD (zcm (37::a::b::r)))++y,?_,?_⟩
      ·rw[rwN_esc a b r out he,y1,qc]
      ·rw[zcT,zlG,y2,d2.2 hp0,hv,zdl,qc]
   ·by_cases h58:c=58
    ·subst h58;obtain⟨p',ps',e'⟩:=zbo 58 t;rw[zaZ,if_pos rfl,e'] at hs;injection hs with h1 h2
     subst h1 h2;obtain⟨i1,i2⟩:=ih t p' ps' (by omega) e';have d1:=zeF (c:=58) (t:=t) (by decide);refine⟨?_,fun hall h0 out=>?_⟩
     ·rw[d1.1,i1];simp only[zu,forall_eq_or_imp];exact⟨fun h=>⟨rfl,h⟩,fun h=>h.2⟩
     ·rw[d1.1] at h0;have hall':t.all ibB=true:=by
       simp only[jl,Bool.and_eq_true] at hall;exact hall.2
      obtain⟨y,y1,y2⟩:=i2 hall' h0 (out++[58]);refine⟨58::y,?_,?_⟩
      ·rw[zmi t out (by decide) (by decide),y1,qc];rfl
      ·show zb8 ([58]++y)=_;rw[zcT,zem (by decide),y2];simp[zeb,dcL,rwS]
    ·obtain⟨p',ps',e'⟩:=zbo 58 t;rw[zaZ,if_neg h58,e'] at hs;injection hs with h1 h2
     subst h1 h2;obtain⟨i1,i2⟩:=ih t p' ps' (by omega) e';have d1:=zeF (c:=c) (t:=t) hc;have d2:=zeF (c:=c) (t:=p') hc;refine⟨?_,fun hall h0 out=>?_⟩
     ·rw[d1.1,i1];simp only[zu,forall_eq_or_imp,d2.1]
     ·rw[d1.1] at h0;simp only[jl,Bool.and_eq_true] at hall;have hid:idB c=true:=by
       have:=hall.1;unfold ibB at this;simp only[Bool.or_eq_true,beq_iff_eq] at this;rcases this with (h|h)|h
       ·exact absurd h hc
       ·exact h
       ·exact absurd h h58
      have hf:=(zc1 c).1 hid;obtain⟨y,y1,y2⟩:=i2 hall.2 h0 (out++[c]);have hp0:=(i1.1 h0) p' (by simp);refine⟨c::y,?_,?_⟩
      ·rw[zmi t out hc hf.1,y1,qc];rfl
      ·show zb8 ([c]++y)=_;rw[zcT,zem hf.2.1,y2,d2.2 hp0,zdl,if_pos hid,qc]
theorem zek:∀l:List UInt8,l.all ibB=(za8 58 l).all fun q=>q.all ppB
 | []=>rfl
 | c::t=>by
  have ih:=zek t;obtain⟨p',ps',e'⟩:=zbo 58 t;rw[zaZ]
  by_cases h:c=58
  ·subst h;rw[if_pos rfl,jl,ih,jl];rfl
  ·rw[if_neg h,e',jl,ih,e',jl,jl,jl,<-Bool.and_assoc]
   congr 2
   unfold ibB ppB;have:(c==58)=false:=by simpa using h
   rw[this,Bool.or_false]
theorem zie:∀l:List UInt8,(za8 58 l).getLastD []=[]↔(l=[]\/l.getLast? = some 58)
 | []=>by simp[za8]
 | [c]=>by
  by_cases h:c=58
  ·subst h;simp[za8]
  ·rw[zaZ,if_neg h];simp[za8,h]
 | c::d::t=>by
  have ih:=zie (d::t);obtain⟨p',ps',e'⟩:=zbo 58 (d::t);rw[zaZ];simp only[reduceCtorEq,false_or,List.getLast?_cons_cons] at ih ⊢;rw[<-ih]
  by_cases h:c=58
  ·subst h;rw[if_pos rfl,e'];simp
  ·rw[if_neg h,e']
   cases ps' with
   | nil=>
    simp only[List.getLastD_cons,List.getLastD_nil];rw[e'] at ih;simp only[List.getLastD_cons,List.getLastD_nil] at ih
    constructor
    ·intro h2;cases h2
    ·intro h2;subst h2;exfalso;have hsp:=zcD 58 (d::t);rw[e'] at hsp
     split at hsp
     ·rename_i h3;injection hsp with _ h4
      have:=zll 58 (zaE 58 (d::t)).2.1;rw[<-h4] at this;simp at this
     ·injection hsp with h4 _;cases h4
   | cons q qs=>simp
theorem zih (l p:List UInt8) (ps:List (List UInt8)) (hl:l.length<=16384) (hs:za8 58 l=p::ps) :
  idE l=if ¬(∀q∈p::ps,(zeg q).1=0) then (2,[]) else if (p::ps).all (fun q=>q.all ppB)=false then (1,[]) else if (p::ps).getLastD []=[] then (3,[]) else (0,zbm p++jnc ps):=by
 obtain⟨m1,m2⟩:=zlx l.length l p ps (zd _) hs;have hq:∀q∈p::ps,zeg q=dcL q:=fun q hq=>zff (by
  rw[<-hs] at hq;have:=ze7 58 l q hq;omega)
 have e1:(∀q∈p::ps,(zeg q).1=0)↔(dcL l).1=0:=by
  rw[m1];exact forall_congr' fun q=>forall_congr' fun h=>by rw[hq q h]
 unfold idE;rw[zff hl,<-hs,zek,hs];have e2:=zie l;rw[hs] at e2
 by_cases h0:(dcL l).1=0
 ·rw[if_neg (show ¬(dcL l).1≠0 from fun h=>h h0),if_neg (show ¬¬(∀q∈p::ps,(zeg q).1=0) from fun h=>h (e1.2 h0))]
  by_cases h1:((p::ps).all fun q=>q.all ppB)=false
  ·rw[if_pos h1,if_pos h1]
  ·rw[if_neg h1,if_neg h1]
   by_cases h2:(p::ps).getLastD []=[]
   ·rw[if_pos h2,if_pos (e2.1 h2)]
   ·rw[if_neg h2,if_neg (fun h=>h2 (e2.2 h))];obtain⟨y,y1,y2⟩:=m2 (by rw[zek,hs];simpa using h1) h0 [];have hn:zaC l zaT=(0,y):=by
     unfold zaC ziI;rw[if_neg (by omega),y1];rfl
    rw[hn,if_neg (by simp)];simp only;rw[y2];have e3:zbm p=zeb (dcL p).2:=by unfold zbm;rw[hq p (by simp)]
    have e4:jnc ps=ps.flatMap fun q=>58::zeb (dcL q).2:=by
     unfold jnc;have:∀qs:List (List UInt8),(∀q∈qs,zeg q=dcL q)->qs.flatMap (fun q=>58::zbm q)=qs.flatMap fun q=>58::zeb (dcL q).2:=by
      intro qs
      induction qs with
      | nil=>intro _;rfl
      | cons q qs ih=>
       intro h;rw[xe,xe,ih (fun q' h'=>h q' (by simp[h']))];unfold zbm;rw[h q (by simp)]
     exact this ps (fun q h=>hq q (by simp[h]))
    rw[e3,e4]
 ·have h2:(dcL l).1=2:=(dcL_err l.length l (zd _)).resolve_left h0;rw[if_pos h0,if_pos (by rw[e1];exact h0),h2]
theorem zkV:∀d:List UInt8,dcL (zeb d)=(0,d)
 | []=>rfl
 | c::d=>by
  have ih:=zkV d;rw[zdl]
  by_cases h:idB c=true
  ·rw[if_pos h];have h37:=((zc1 c).1 h).2.2.2;have d1:=zeF (c:=c) (t:=zeb d) h37;show dcL (c::zeb d)=_;rw[ih] at d1;have e2:=d1.2 rfl;have:dcL (c::zeb d)=((dcL (c::zeb d)).1,(dcL (c::zeb d)).2):=rfl;rw[this,d1.1,e2]
  ·rw[if_neg h];have he:=zoh c (zeb d);have d1:=zfV (a:=zeB (c.toNat / 16)) (b:=zeB (c.toNat % 16)) (r:=zeb d) he.1;have e:zeD c++zeb d=37::zeB (c.toNat / 16)::zeB (c.toNat % 16)::zeb d:=rfl;rw[e];rw[ih] at d1;have e2:=d1.2 rfl;have hv:zcm (37::zeB (c.toNat / 16)::zeB (c.toNat % 16)::zeb d)=c:=he.2;rw[hv] at e2;have:dcL (37::zeB (c.toNat / 16)::zeB (c.toNat % 16)::zeb d)=((dcL (37::zeB (c.toNat / 16)::zeB (c.toNat % 16)::zeb d)).1,(dcL (37::zeB (c.toNat / 16)::zeB (c.toNat % 16)::zeb d)).2):=rfl;rw[this,d1.1,e2]
theorem zof:∀n:Fin 256,(zeD (UInt8.ofNat n.val)).all (fun c=>ppB c&&c != 58)=true:=by decide +kernel
theorem zjk:∀d:List UInt8,(zeb d).all (fun c=>ppB c&&c != 58)=true
 | []=>rfl
 | c::d=>by
  rw[zdl,List.all_append,zjk d,Bool.and_true]
  by_cases h:idB c=true
  ·rw[if_pos h];have hf:=(zc1 c).1 h;simp[ppB,h,hf.2.2.1]
  ·rw[if_neg h];have:=zof ⟨c.toNat,UInt8.toNat_lt c⟩;simpa using this
theorem zin (d:List UInt8):(58:UInt8)∉zeb d:=by
 intro hm;have:=qd.1 (zjk d) 58 hm;simp at this
theorem escL_ppB (d:List UInt8):(zeb d).all ppB=true:=by
 rw[qd];intro x hx;have:=qd.1 (zjk d) x hx;simp only[Bool.and_eq_true] at this;exact this.1
theorem escL_nil (d:List UInt8):zeb d=[]↔d=[]:=by
 cases d with
 | nil=>exact⟨fun _=>rfl,fun _=>rfl⟩
 | cons c d=>
  rw[zdl]
  constructor
  ·intro h;exfalso;have:=congrArg jp h;rw[zp] at this
   split at this<;>simp[zeD] at this
  ·intro h;cases h
def js (ps:List (List UInt8)):List UInt8:=ps.flatMap fun q=>58::q
theorem zjB:∀(s:List UInt8) (l:List (List UInt8)),58∉s->(∀x∈l,(58:UInt8)∉x)->za8 58 (s++js l)=s::l
 | s,[],hs,_=>by
  show za8 58 (s++[])=_;rw[ji,zcD,zix 58 s hs];simp
 | s,x::l,hs,h=>by
  have:s++js (x::l)=s++58::(x++js l):=by simp[js]
  rw[this,zcD,zgG 58 s _ hs,if_pos rfl,zjB x l (h x (by simp)) (fun y hy=>h y (by simp[hy]))]
theorem zkr (ps:List (List UInt8)):jnc ps=js (ps.map zbm):=by
 unfold jnc js;rw[List.flatMap_map]
theorem zdO {q:List UInt8} (h1:(zbm q).length<=16384):(zeg (zbm q)).1=0/\zbm (zbm q)=zbm q:=by
 have e:zeg (zbm q)=(0,(zeg q).2):=by
  unfold zbm at h1 ⊢;rw[zff h1,zkV]
 refine⟨by rw[e],?_⟩;show zeb (zeg (zbm q)).2=zbm q;rw[e];rfl
theorem zgx:∀(ps:List (List UInt8)) (q:List UInt8),q∈ps->q.length<=(js ps).length
 | [],q,h=>by cases h
 | p::ps,q,h=>by
  have:js (p::ps)=58::(p++js ps):=by simp[js]
  rw[this,zx,zp];rcases zu.1 h with rfl|h
  ·omega
  ·have:=zgx ps q h;omega
theorem zeR (f:List UInt8->List UInt8):∀(p:List UInt8) (ps:List (List UInt8)),((p::ps).map f).getLastD []=f ((p::ps).getLastD [])
 | p,[]=>by simp
 | p,q::ps=>by
  have:=zeR f q ps;simpa using this
theorem zn5 {l i:List UInt8} (hl:l.length<=16384) (hi:i.length<=16384) (h:idE l=(0,i)):idE i=(0,i)/\i.all ibB=true:=by
 obtain⟨p,ps,hs⟩:=zbo 58 l;have hp:=zih l p ps hl hs;rw[h] at hp
 split at hp
 ·cases hp
 ·rename_i g1
  split at hp
  ·cases hp
  ·rename_i g2
   split at hp
   ·cases hp
   ·rename_i g3;injection hp with _ hp
    simp only[Decidable.not_not] at g1;have hsi:za8 58 i=zbm p::ps.map zbm:=by
     rw[hp,zkr];exact zjB _ _ (zin _) (fun x hx=>by
      obtain⟨q,_,rfl⟩:=jd.1 hx;exact zin _)
    have hlen:∀q∈p::ps,(zbm q).length<=16384:=by
     intro q hq;have hi2:=hi;rw[hp,zkr,zp] at hi2;rcases zu.1 hq with rfl|hq
     ·omega
     ·have:=zgx (ps.map zbm) (zbm q) (List.mem_map_of_mem hq);omega
    have hq:=zih i (zbm p) (ps.map zbm) hi hsi;have c1:∀q∈zbm p::ps.map zbm,(zeg q).1=0:=by
     intro q hq;have:q∈(p::ps).map zbm:=hq;obtain⟨q',h1,rfl⟩:=jd.1 this;exact(zdO (hlen q' h1)).1
    have c2:(zbm p::ps.map zbm).all (fun q=>q.all ppB)=true:=by
     rw[qd];intro q hq;have:q∈(p::ps).map zbm:=hq;obtain⟨q',h1,rfl⟩:=jd.1 this;exact escL_ppB _
    have c3:¬(zbm p::ps.map zbm).getLastD []=[]:=by
     have e:=zeR zbm p ps;show ¬((p::ps).map zbm).getLastD []=[];rw[e];intro e2;unfold zbm at e2;rw[escL_nil] at e2
     apply g3
     have hm:(p::ps).getLastD []∈p::ps:=by
      rw[List.getLastD_eq_getLast?,List.getLast?_eq_some_getLast (by simp)];exact List.getLast_mem _
     generalize (p::ps).getLastD []=q at *;have hql:q.length<=l.length:=ze7 58 l q (by rw[hs];exact hm);have h0:=g1 q hm
     cases q with
     | nil=>rfl
     | cons c t=>
      exfalso;rw[zff (by omega)] at h0 e2
      by_cases hc:c=37
      ·subst hc;rcases he:zbG (37::t) with _|_
       ·rw[zhs he] at h0;cases h0
       ·obtain⟨a,b,r,rfl⟩:=zb4 he;have d1:=zfV he;rw[d1.1] at h0;rw[d1.2 h0] at e2;cases e2
      ·have d1:=zeF (c:=c) (t:=t) hc;rw[d1.1] at h0;rw[d1.2 h0] at e2;cases e2
    rw[if_neg (fun h=>h c1),if_neg (by rw[c2];simp),if_neg c3] at hq;refine⟨?_,?_⟩
    ·rw[hq,(zdO (hlen p (by simp))).2,hp]
     congr 2
     rw[zkr,zkr,List.map_map]
     congr 1
     refine List.map_congr_left fun q hq=>?_;exact(zdO (hlen q (by simp[hq]))).2
    ·rw[zek,hsi];exact c2
structure CanD (u:DidU):Prop where
 meth:zex u.meth=true
 id:idE u.id=(0,u.id)
 idb:u.id.all ibB=true
 path:zaC u.path zbd=(0,u.path)
 slash:u.path=[]\/∃r,u.path=47::r
 query:zaC u.query zaA=(0,u.query)
 frag:zaC u.frag zaA=(0,u.frag)
 noq:u.hq=false->u.query=[]
 nof:u.hf=false->u.frag=[]
 len:(zhk u).length<=4096
theorem did_ok {s m i:List UInt8} (h:ze4 s=(0,m,i)):zex m=true/\∃l,s=ziJ m l/\idE l=(0,i)/\s.length<=4096:=by
 unfold ze4 at h
 split at h
 ·cases h
 ·rename_i g0
  split at h
  ·cases h
  ·rename_i g1
   split at h
   ·cases h
   ·rename_i g2
    split at h
    ·cases h
    ·rename_i g3
     split at h
     ·rename_i g4;injection h with h1 _;exact absurd h1 g4
     ·rename_i g4;simp only[Decidable.not_not] at g4;injection h with _ h
      injection h with h1 h2
      subst h1 h2;simp only[Bool.not_eq_false] at g1 g2 g3;refine⟨g3,(zaE 58 (s.drop 4)).2.1,?_,by rw[<-g4],by omega⟩;obtain⟨t,ht⟩:=List.isPrefixOf_iff_prefix.1 (show List.isPrefixOf zcj s=true from g1);have hj:=zeh 58 (s.drop 4);rw[g2,if_pos rfl] at hj;unfold ziJ;have hd:s.drop 4=t:=by rw[<-ht];simp[zcj]
      rw[qc,qc,<-qc _ [58],qc _ [58],<-hj,hd,ht]
theorem idE_le {l i:List UInt8} (h:idE l=(0,i)):i.length<=3*l.length:=by
 unfold idE at h
 split at h
 ·rename_i g;injection h with h1 _;exact absurd h1 g
 ·split at h
  ·cases h
  ·split at h
   ·cases h
   ·split at h
    ·rename_i g;injection h with h1 _;exact absurd h1 g
    ·injection h with _ h
     have h1:=zev l zaT;have h2:=zf9 (zaC l zaT).2;rw[<-h];omega
theorem CanD.of {s:List UInt8} {u:DidU} (hs:s.length<=1000) (h:zhp s=(0,u)):CanD u:=by
 unfold zhp at h
 split at h
 ·cases h
 ·split at h
  ·rename_i g;injection h with h1 _;exact absurd h1 g
  ·rename_i g1
   split at h
   ·rename_i g;injection h with h1 _;exact absurd h1 g
   ·rename_i g2
    split at h
    ·rename_i g;injection h with h1 _;exact absurd h1 g
    ·rename_i g3
     split at h
     ·rename_i g;injection h with h1 _;exact absurd h1 g
     ·rename_i g4;simp only[Decidable.not_not] at g1 g2 g3 g4;injection h with _ h
      have hd:ze4 (zeV s)=(0,(ze4 (zeV s)).2.1,(ze4 (zeV s)).2.2):=by rw[<-g1]
      obtain⟨k1,l,k2,k3,k4⟩:=did_ok hd;have e2:zaC ((zdb s).drop (zeV s).length) zbd=(0,(zaC ((zdb s).drop (zeV s).length) zbd).2):=by rw[<-g2]
      have e3:zaC (zaE 63 (zaE 35 s).1).2.1 zaA=(0,(zaC (zaE 63 (zaE 35 s).1).2.1 zaA).2):=by rw[<-g3]
      have e4:zaC (zaE 35 s).2.1 zaA=(0,(zaC (zaE 35 s).2.1 zaA).2):=by rw[<-g4]
      have j1:=congrArg jp (zeh 35 s);have j2:=congrArg jp (zeh 63 (zaE 35 s).1);have c1:=zhu 35 s;have c2:=zhu 63 (zaE 35 s).1;have hnb:=(zlF (zdb s)).2;have hnl:(zeV s).length<=(zdb s).length:=hnb;have hbl:(zdb s).length<=(zaE 35 s).1.length:=zoL 63 _;have h35l:=zoL 35 s;have kl:(zeV s).length=(ze4 (zeV s)).2.1.length+l.length+5:=by
       have hk2:=congrArg jp k2;simp only[ziJ,zcj,zp,zx,List.length_nil] at hk2;omega
      have il:=idE_le k3;have pl:=(zcc _ _ _ e2).2.2;have ql:=(zcc _ _ _ e3).2.2;have fl:=(zcc _ _ _ e4).2.2;rw[List.length_drop] at pl;have ia:=zn5 (l:=l) (by omega) (by omega) k3;have q0:(zaE 63 (zaE 35 s).1).2.1.length<=(zaE 35 s).1.length:=(zcP 63 _).2;have f0:(zaE 35 s).2.1.length<=s.length:=(zcP 35 _).2;have qs:(zdb s).length+(zaE 63 (zaE 35 s).1).2.1.length<=(zaE 35 s).1.length:=by
       show (zaE 63 (zaE 35 s).1).1.length+_<=_;rcases hb:(zaE 63 (zaE 35 s).1).2.2 with _|_
       ·rw[(c2.2.2 hb).1,(c2.2.2 hb).2];simp
       ·have:=c2.2.1 hb;omega
      have fs:(zaE 35 s).1.length+(zaE 35 s).2.1.length<=s.length:=by
       rcases hb:(zaE 35 s).2.2 with _|_
       ·rw[(c1.2.2 hb).1,(c1.2.2 hb).2];simp
       ·have:=c1.2.1 hb;omega
      have hslash:(zaC ((zdb s).drop (zeV s).length) zbd).2=[]\/∃r,(zaC ((zdb s).drop (zeV s).length) zbd).2=47::r:=by
       have hx:(zdb s).drop (zeV s).length=[]\/∃r,(zdb s).drop (zeV s).length=47::r:=by
        unfold zeV zgB;rcases zbZ 47 (zdb s) with ⟨_,h3,_⟩|⟨k,_,hk,h3,h4⟩
        ·rw[h3];left;simp
        ·rw[h3];right;have e:((zdb s).take k).length=k:=by rw[qh];omega
         simp only[e];rw[jn hk];rw[zl hk] at h4;injection h4 with h4
         exact⟨_,by rw[h4]⟩
       rcases hx with hx|⟨r,hx⟩
       ·left;rw[hx];decide
       ·right;rw[hx] at e2 ⊢;have hlen:=ze9 e2;have hr:rwS (zc6 zbd) 0 (47::r) []=(0,(zaC (47::r) zbd).2):=by
         have e5:=e2;unfold zaC ziI at e5;rw[if_neg (by omega)] at e5;rw[e5];unfold zaC ziI;rw[if_neg (by omega)]
        have hp1:rwS (zc6 zbd) 0 (47::r) []=rwS (zc6 zbd) 0 r [47]:=by
         rw[rwS,if_neg (by decide),zbz rfl (by decide),if_pos rfl];rfl
        rw[hp1] at hr;obtain⟨y,a,k5,_⟩:=zh8 zbd r.length r [47] _ (zd _) hr;exact⟨y,k5⟩
      rw[<-h];refine⟨k1,ia.1,ia.2,(zcc _ _ _ e2).1,hslash,(zcc _ _ _ e3).1,(zcc _ _ _ e4).1,?_,?_,?_⟩
      ·intro hq;show (zaC (zaE 63 (zaE 35 s).1).2.1 zaA).2=[];rw[(c2.2.2 hq).2];rfl
      ·intro hf;show (zaC (zaE 35 s).2.1 zaA).2=[];rw[(c1.2.2 hf).2];rfl
      ·unfold zhk;simp only[zp];have z1:((if (zaE 63 (zaE 35 s).1).2.2=true then [63]++(zaC (zaE 63 (zaE 35 s).1).2.1 zaA).2 else []):List UInt8).length<=(zaC (zaE 63 (zaE 35 s).1).2.1 zaA).2.length+1:=by
        split<;>simp
       have z2:((if (zaE 35 s).2.2=true then [35]++(zaC (zaE 35 s).2.1 zaA).2 else []):List UInt8).length<=(zaC (zaE 35 s).2.1 zaA).2.length+1:=by
        split<;>simp
       have z3:(ziJ (ze4 (zeV s)).2.1 (ze4 (zeV s)).2.2).length=(ze4 (zeV s)).2.1.length+(ze4 (zeV s)).2.2.length+5:=by simp[ziJ,zcj];omega
       omega
section
open Go.RowKit Sx
section
variable {objs:List OB} {K:List OB->AV->Prop}
end
theorem CanD.lens {u:DidU} (h:CanD u):u.meth.length<=4096/\u.id.length<=4096/\u.path.length<=4096/\u.query.length<=16384/\u.frag.length<=16384:=by
 have hl:=h.len;have h1:=ze9 h.query;have h2:=ze9 h.frag;have h3:=zfc u.meth u.id;unfold zhk at hl;simp only[zp] at hl;omega
end
open Go.RowKit Sx
section
variable [Tabs Tryz.prog] {objs:List OB} {K:List OB->AV->Prop}
end
section
variable [Tabs Tryz.prog] {objs:List OB} {K:List OB->AV->Prop}
end
section
attribute [local irreducible] run
section
variable [Tabs Tryz.prog] {objs:List OB} {K:List OB->AV->Prop}
end
end
section
attribute [local irreducible] run
def t5 (l:List JV):Int:=if l.all (fun y=>decide (y.kind=5))=true then 0 else 160
section
variable [Tabs Tryz.prog] {objs:List OB} {K:List OB->AV->Prop}
end
end
section
attribute [local irreducible] run
theorem Ext.keep {o o':List OB} {b:Nat} {X:OB} (h:Ext o o' b X) {j:Nat} {Y:OB} (hi:o[j]? = some Y) (hn:j≠b) (hp:PlO Y):o'[j]? = some Y:=h.2.2 j Y hn hi (hp.m _)
theorem zbg {o:List OB} {j:Nat} {Y:OB} (h:o[j]? = some Y) (z:OB):(o++[z])[j]? = some Y:=by rw[zj (zf.1 h).1];exact h
theorem zg0 {o:List OB} {j r:Nat} {Y:OB} (h:o[j]? = some Y) (hn:r≠j) (z:OB):(o.set r z)[j]? = some Y:=by rw[ze hn];exact h
section
variable [Tabs Tryz.prog] {objs:List OB} {K:List OB->AV->Prop}
end
end
open Nat renaming reduceAdd -> z6, reduceSub -> z7, reduceLeDiff -> z8, reduceLT -> j4, reduceMul -> j5, reduceEqDiff -> j6
open Int renaming reduceToNat -> j7, reduceAdd -> j8, reduceSub -> j9, reduceMul -> x3, reduceNeg -> x4, reduceLT -> x5, reduceLE -> x6, reduceEq -> x7, reduceNe -> x8
section
attribute [local irreducible] run
def hitB (m i id:List UInt8) (y:JV):Bool:=decide ((zib m i y).1=0)&&decide ((zib m i y).2=id)
def zm1 (v:JV):List JV:=(zbA v zdi).1.items++(zbA v zcf).1.items
def selV (v:JV) (id:List UInt8):JV×Bool :=
 if (ddE v).1≠0 then (jvZ,false)
 else match (zm1 v).find? (hitB (sbD v).2.1 (sbD v).2.2 id) with
  | some y=>(y,true)
  | none=>(jvZ,false)
theorem ddE_sb {v:JV} (h:(ddE v).1=0):(sbD v).1=0:=by
 unfold ddE at h
 by_cases c:(sbD v).1=0
 ·exact c
 ·rw[if_pos c] at h;exact absurd h c
def zly (v:JV) (k:Nat):List JV:=if k=0 then [] else if k=1 then (zbA v zdi).1.items else zm1 v
theorem find_hit {p:JV->Bool} {a b:List JV} {y:JV} (ha:∀x∈a,p x=false) (hy:p y=true):(a++y::b).find? p=some y:=by
 rw[List.find?_append,List.find?_eq_none.2 (fun x hx=>by rw[ha x hx];decide),List.find?_cons_of_pos hy];rfl
section
variable [Tabs Tryz.prog] {objs:List OB} {K:List OB->AV->Prop}
theorem sel_k [Shp Tryz.prog] (v:JV) (id:List UInt8) (hv:JOk v) (hj:JBd v) (hb:IdB v) (hk:K objs (zbS (selV v id))):zad Tryz.prog 13 [.agg (zae v),.s id] objs K:=by
 refine zew (zbS (selV v id)) ?_;have kz:selV v id=(jvZ,false)->(∀G I y,Den G I (.tup [.agg [.i .i64 0,.s [],.nil,.nil],.b false]) y->Den G I (zbS (selV v id)) y)/\K objs (zbS (selV v id)):=fun he=>⟨fun G I y h=>by rw[he];exact zcd (fun z hz=>zeE (k:=0) (t:=[]) hz) h,hk⟩;have ky:∀y:JV,selV v id=(y,true)->(∀G I z,Den G I (.tup [.agg [.i .i64 y.kind,.s y.text,.row y.keys.length (y.keys.map .s),.row y.items.length (zac y.items)],.b true]) z->Den G I (zbS (selV v id)) z)/\K objs (zbS (selV v id)):=fun y he=>⟨fun G I z h=>by rw[he];unfold zbS;rw[zaf y];exact h,hk⟩;refine zaL is_diddoc_Select (by simp only[zal,AV.plain,zaP,Bool.and_self]) fun C _=>?_;rw[c_diddoc_Select];have ejv:=zaf v;have hsl:=zjC v;have hsb:=@ddE_sb v;rw[ejv];refine zaa fun Z hZ=>?_;simp only[sxZ,z6,z7,z8,j4,j5,j6,j7,j8,j9,x3,x4,x5,x6,x7,x8,reduceCtorEq,↓reduceIte];subst hZ;refine zaa fun Z hZ=>?_;simp only[sxZ,z6,z7,z8,j4,j5,j6,j7,j8,j9,x3,x4,x5,x6,x7,x8,reduceCtorEq,↓reduceIte];rw[<-ejv];refine zai (dd_k v hv hj hb ?_);unfold selV at kz ky hk ⊢;generalize ddE v=R at kz ky hk hsb ⊢;obtain⟨e,d⟩:=R;dsimp only at kz ky hk hsb ⊢;unfold ddAV doc;rw[ejv];dsimp only;simp only[sxZ,z6,z7,z8,j4,j5,j6,j7,j8,j9,x3,x4,x5,x6,x7,x8,reduceCtorEq,↓reduceIte]
 by_cases c:e=0
 rotate_left
 ·rw[if_pos c] at kz hk ⊢;have:=kz rfl;simp only[sxZ,z6,z7,z8,j4,j5,j6,j7,j8,j9,x3,x4,x5,x6,x7,x8,reduceCtorEq,↓reduceIte,c];exact this
 subst c;rw[if_neg (show ¬((0:Int)≠0) by decide)] at kz ky hk ⊢;have hsb:=hsb rfl;simp only[sxZ,z6,z7,z8,j4,j5,j6,j7,j8,j9,x3,x4,x5,x6,x7,x8,reduceCtorEq,↓reduceIte];subst hZ;refine zaa fun Z hZ=>?_;simp only[sxZ,z6,z7,z8,j4,j5,j6,j7,j8,j9,x3,x4,x5,x6,x7,x8,reduceCtorEq,↓reduceIte];rw[<-ejv];refine zai (sub_k v hv hj hb.1 ?_);generalize sbD v=R at kz ky hk hsl hsb ⊢;obtain⟨e,m,i⟩:=R;dsimp only at kz ky hk hsl hsb ⊢;subst hsb;rw[ejv];simp only[sxZ,z6,z7,z8,j4,j5,j6,j7,j8,j9,x3,x4,x5,x6,x7,x8,reduceCtorEq,↓reduceIte];subst hZ;refine zaa fun Z hZ=>?_;simp only[sxZ,z6,z7,z8,j4,j5,j6,j7,j8,j9,x3,x4,x5,x6,x7,x8,reduceCtorEq,↓reduceIte];subst hZ;refine zaa fun Z hZ=>?_;refine zaa fun W hW=>?_;simp only[sxZ,z6,z7,z8,j4,j5,j6,j7,j8,j9,x3,x4,x5,x6,x7,x8,reduceCtorEq,↓reduceIte];subst hW;rw[zaO];refine zaF (fun n o tm=>∃k:Nat,k<=2/\n=2 - k/\(∀y∈zly v k,hitB m i id y=false)/\o[0]? = some (OB.box 25 [.i .i64 v.kind,.s v.text,.row v.keys.length (v.keys.map .s),.row v.items.length (zac v.items)])/\o[1]? = some (OB.box 25 [.i .i64 0,.s [],.nil,.nil])/\o[3]? = some (.box 62 [.s m,.s i])/\tm.length=70/\tm[1]? = some (.s id)/\tm[2]? = some (.p 0 0)/\tm[4]? = some (.p 1 0)/\tm[8]? = some (.p 3 0)/\tm[34]? = some (.row 2 [.s [118,101,114,105,102,105,99,97,116,105,111,110,77,101,116,104,111,100],.s [115,101,114,118,105,99,101]])/\tm[35]? = some (.i .i64 2)/\tm[36]? = some (.i .i64 (k:Int))) 2 ⟨0,zh _,rfl,(fun y hy=>by cases hy),rfl,rfl,rfl,rfl,rfl,rfl,rfl,rfl,rfl,rfl,rfl⟩ ?_;rintro n o tm ⟨k,hk2,rfl,hno,o0,o1,o3,hlen,t1,t2,t4,t8,t34,t35,t36⟩;refine zaa fun W hW=>?_
 by_cases hlt:(k:Int)<2
 ·obtain⟨key,hkey,hpart,hrest⟩:∃key,([AV.s [118,101,114,105,102,105,99,97,116,105,111,110,77,101,116,104,111,100],.s [115,101,114,118,105,99,101]]:List AV)[k*1]? = some (.s key)/\zly v (k+1)=zly v k++(zbA v key).1.items/\∃post,zm1 v=zly v (k+1)++post:=by
   rcases(show k=0\/k=1 by omega) with rfl|rfl
   ·exact⟨zdi,rfl,rfl,(zbA v zcf).1.items,rfl⟩
   ·exact⟨zcf,rfl,rfl,[],(ji _).symm⟩
  simp only[sxZ,z6,z7,z8,j4,j5,j6,j7,j8,j9,x3,x4,x5,x6,x7,x8,reduceCtorEq,↓reduceIte,za,hlen,t35,t36,hlt];subst hW;refine zaa fun W hW=>?_;simp only[sxZ,z6,z7,z8,j4,j5,j6,j7,j8,j9,x3,x4,x5,x6,x7,x8,reduceCtorEq,↓reduceIte,za,hlen];subst hW;refine zaa fun Y hY=>?_;rw[zaO];refine zaa fun W hW=>?_;simp only[sxZ,z6,z7,z8,j4,j5,j6,j7,j8,j9,x3,x4,x5,x6,x7,x8,reduceCtorEq,↓reduceIte,za,hlen,t34,t36,hkey]
  (and_intros<;>try omega)
  subst hW;refine zaa fun W hW=>?_;simp only[sxZ,z6,z7,z8,j4,j5,j6,j7,j8,j9,x3,x4,x5,x6,x7,x8,reduceCtorEq,↓reduceIte,za,hlen,t2,o0];rw[<-ejv];refine zai (zku v key hv hj ?_);have hits:=hb.it hv hj key;have hbd:=(zks hj key).lens.2;generalize zbA v key=R at hpart hits hbd ⊢;obtain⟨x,ok⟩:=R;unfold zbS;dsimp only at hpart hits hbd ⊢;rw[zaf x];simp only[sxZ,z6,z7,z8,j4,j5,j6,j7,j8,j9,x3,x4,x5,x6,x7,x8,reduceCtorEq,↓reduceIte,za,hlen,gn1,sn1];have a0:=zbg o0 (OB.box 25 [.i .i64 x.kind,.s x.text,.row x.keys.length (x.keys.map .s),.row x.items.length (zac x.items)]);have a1:=zbg o1 (OB.box 25 [.i .i64 x.kind,.s x.text,.row x.keys.length (x.keys.map .s),.row x.items.length (zac x.items)]);have a3:=zbg o3 (OB.box 25 [.i .i64 x.kind,.s x.text,.row x.keys.length (x.keys.map .s),.row x.items.length (zac x.items)]);have aX:(o++[OB.box 25 [.i .i64 x.kind,.s x.text,.row x.keys.length (x.keys.map .s),.row x.items.length (zac x.items)]])[o.length]? = some (OB.box 25 [.i .i64 x.kind,.s x.text,.row x.keys.length (x.keys.map .s),.row x.items.length (zac x.items)]):=gn1 _ _;generalize o.length=p at aX ⊢;generalize o++[OB.box 25 [.i .i64 x.kind,.s x.text,.row x.keys.length (x.keys.map .s),.row x.items.length (zac x.items)]]=oa at a0 a1 a3 aX ⊢;clear o0 o1 o3;subst hW;refine zaa fun W hW=>?_;simp only[sxZ,z6,z7,z8,j4,j5,j6,j7,j8,j9,x3,x4,x5,x6,x7,x8,reduceCtorEq,↓reduceIte,za,hlen,aX];subst hW;clear aX;generalize x.items=its at hpart hits hbd ⊢;have hl4:=zav its;rw[zaO];refine zaF (fun n o tm=>∃j:Nat,j<=its.length/\n=its.length - j/\(∀y∈its.take j,hitB m i id y=false)/\o[0]? = some (OB.box 25 [.i .i64 v.kind,.s v.text,.row v.keys.length (v.keys.map .s),.row v.items.length (zac v.items)])/\o[1]? = some (OB.box 25 [.i .i64 0,.s [],.nil,.nil])/\o[3]? = some (.box 62 [.s m,.s i])/\tm.length=70/\tm[1]? = some (.s id)/\tm[2]? = some (.p 0 0)/\tm[4]? = some (.p 1 0)/\tm[8]? = some (.p 3 0)/\tm[34]? = some (.row 2 [.s [118,101,114,105,102,105,99,97,116,105,111,110,77,101,116,104,111,100],.s [115,101,114,118,105,99,101]])/\tm[35]? = some (.i .i64 2)/\tm[36]? = some (.i .i64 (k:Int))/\tm[47]? = some (.row its.length (zac its))/\tm[48]? = some (.i .i64 (its.length:Int))/\tm[49]? = some (.i .i64 (j:Int))) its.length ⟨0,zh _,rfl,(fun y hy=>by cases hy),a0,a1,a3,?_⟩ ?_
  ·simp only[sxZ,z6,z7,z8,j4,j5,j6,j7,j8,j9,x3,x4,x5,x6,x7,x8,reduceCtorEq,↓reduceIte,zi,za,hlen,t1,t2,t4,t8,t34,t35,t36,y6,and_self]
  clear hlen t1 t2 t4 t8 t34 t35 t36 a0 a1 a3 tm;rintro n o tm ⟨j,hjl,rfl,hnj,o0,o1,o3,hlen,t1,t2,t4,t8,t34,t35,t36,t47,t48,t49⟩;refine zaa fun W hW=>?_
  by_cases hlt2:(j:Int)<(its.length:Int)
  ·have hi':j<its.length:=by omega
   have kv:=zfM hi';obtain⟨y1,y2,y3⟩:=hits its[j] (jg hi');have htk:its.take (j+1)=its.take j++[its[j]]:=by rw[xo,zl hi'];rfl
   have hsp:its=its.take j++its[j]::its.drop (j+1):=by rw[<-jn hi',List.take_append_drop]
   generalize its[j]=y at kv htk hsp y1 y2 y3;have ey:=zaf y;rw[ey] at kv;simp only[sxZ,z6,z7,z8,j4,j5,j6,j7,j8,j9,x3,x4,x5,x6,x7,x8,reduceCtorEq,↓reduceIte,za,hlen,t48,t49,hlt2];subst hW;refine zaa fun W hW=>?_;simp only[sxZ,z6,z7,z8,j4,j5,j6,j7,j8,j9,x3,x4,x5,x6,x7,x8,reduceCtorEq,↓reduceIte,za,hlen];subst hW;refine zaa fun U hU=>?_;rw[zaO];refine zaa fun W hW=>?_;simp only[sxZ,z6,z7,z8,j4,j5,j6,j7,j8,j9,x3,x4,x5,x6,x7,x8,reduceCtorEq,↓reduceIte,za,hlen,t47,t49,kv]
   (and_intros<;>try omega)
   simp only[sxZ,z6,z7,z8,j4,j5,j6,j7,j8,j9,x3,x4,x5,x6,x7,x8,reduceCtorEq,↓reduceIte,za,hlen,gn1,sn1];have b0:=zbg o0 (OB.box 25 [.i .i64 y.kind,.s y.text,.row y.keys.length (y.keys.map .s),.row y.items.length (zac y.items)]);have b1:=zbg o1 (OB.box 25 [.i .i64 y.kind,.s y.text,.row y.keys.length (y.keys.map .s),.row y.items.length (zac y.items)]);have b3:=zbg o3 (OB.box 25 [.i .i64 y.kind,.s y.text,.row y.keys.length (y.keys.map .s),.row y.items.length (zac y.items)]);have bY:(o++[OB.box 25 [.i .i64 y.kind,.s y.text,.row y.keys.length (y.keys.map .s),.row y.items.length (zac y.items)]])[o.length]? = some (OB.box 25 [.i .i64 y.kind,.s y.text,.row y.keys.length (y.keys.map .s),.row y.items.length (zac y.items)]):=gn1 _ _;generalize o.length=p at bY ⊢;generalize o++[OB.box 25 [.i .i64 y.kind,.s y.text,.row y.keys.length (y.keys.map .s),.row y.items.length (zac y.items)]]=ob at b0 b1 b3 bY ⊢;clear o0 o1 o3;subst hW;refine zaa fun W hW=>?_;simp only[sxZ,z6,z7,z8,j4,j5,j6,j7,j8,j9,x3,x4,x5,x6,x7,x8,reduceCtorEq,↓reduceIte,za,hlen,t8,bY,b3];rw[<-ey];refine zai (mid_k m i y y1 y2 (by omega) (by omega) y3 (resL m i) ?_);have hh:hitB m i id y=(decide ((zib m i y).1=0)&&decide ((zib m i y).2=id)):=rfl;generalize zib m i y=R at hh ⊢;obtain⟨e2,s⟩:=R;dsimp only at hh ⊢;simp only[sxZ,z6,z7,z8,j4,j5,j6,j7,j8,j9,x3,x4,x5,x6,x7,x8,reduceCtorEq,↓reduceIte,za,hlen];subst hW;have hl1:=(zf.1 b1).1
   by_cases c:e2=0
   ·subst c
    by_cases cs:s=id
    ·subst cs;have:=ky y (by
      obtain⟨post,hpost⟩:=hrest;have e9:∀(a b:List JV),its=a++y::b->zly v k++its++post=(zly v k++a)++y::(b++post):=fun a b h=>by rw[h];simp
      rw[hpost,hpart,e9 _ _ hsp,find_hit (fun z hz=>?_) (by rw[hh];simp)];rcases zw.1 hz with h|h
      ·exact hno z h
      ·exact hnj z h)
     simp only[sxZ,z6,z7,z8,j4,j5,j6,j7,j8,j9,x3,x4,x5,x6,x7,x8,reduceCtorEq,↓reduceIte,za,hlen,t1,t2,t4,t8,bY,b1,hl1,zaS,zaG];exact this
    ·simp only[sxZ,z6,z7,z8,j4,j5,j6,j7,j8,j9,x3,x4,x5,x6,x7,x8,reduceCtorEq,↓reduceIte,za,hlen,t1,cs];subst hU;simp only[sxZ,z6,z7,z8,j4,j5,j6,j7,j8,j9,x3,x4,x5,x6,x7,x8,reduceCtorEq,↓reduceIte,za,hlen,t1,t2,t4,t8,t34,t35,t36,t47,t48,t49];refine⟨by omega,its.length - (j+1),by omega,j+1,by omega,rfl,?_,b0,b1,b3,rfl⟩;intro z hz;rw[htk] at hz;rcases zw.1 hz with h|h
     ·exact hnj z h
     ·rw[xt] at h;subst h;rw[hh];simp[cs]
   ·simp only[sxZ,z6,z7,z8,j4,j5,j6,j7,j8,j9,x3,x4,x5,x6,x7,x8,reduceCtorEq,↓reduceIte,za,hlen,t1,c];subst hU;simp only[sxZ,z6,z7,z8,j4,j5,j6,j7,j8,j9,x3,x4,x5,x6,x7,x8,reduceCtorEq,↓reduceIte,za,hlen,t1,t2,t4,t8,t34,t35,t36,t47,t48,t49];refine⟨by omega,its.length - (j+1),by omega,j+1,by omega,rfl,?_,b0,b1,b3,rfl⟩;intro z hz;rw[htk] at hz;rcases zw.1 hz with h|h
    ·exact hnj z h
    ·rw[xt] at h;subst h;rw[hh];simp[c]
  have hn:j=its.length:=by omega
  rw[hn,jh (zd _)] at hnj;simp only[sxZ,z6,z7,z8,j4,j5,j6,j7,j8,j9,x3,x4,x5,x6,x7,x8,reduceCtorEq,↓reduceIte,za,hlen,t48,t49,hlt2];subst hW;simp only[sxZ,z6,z7,z8,j4,j5,j6,j7,j8,j9,x3,x4,x5,x6,x7,x8,reduceCtorEq,↓reduceIte,za,hlen];subst hY;simp only[sxZ,z6,z7,z8,j4,j5,j6,j7,j8,j9,x3,x4,x5,x6,x7,x8,reduceCtorEq,↓reduceIte,za,hlen,t1,t2,t4,t8,t34,t35,t36];refine⟨by omega,2 - (k+1),by omega,k+1,by omega,rfl,?_,by rw[ejv];exact o0,o1,o3,rfl⟩;rw[hpart];intro z hz;rcases zw.1 hz with h|h
  ·exact hno z h
  ·exact hnj z h
 have hn:k=2:=by omega
 subst hn;have:=kz (by
  rw[List.find?_eq_none.2 fun z hz=>by rw[hno z hz];decide])
 have hl1:=(zf.1 o1).1;simp only[sxZ,z6,z7,z8,j4,j5,j6,j7,j8,j9,x3,x4,x5,x6,x7,x8,reduceCtorEq,↓reduceIte,za,hlen,t35,t36,hlt];subst hW;simp only[sxZ,z6,z7,z8,j4,j5,j6,j7,j8,j9,x3,x4,x5,x6,x7,x8,reduceCtorEq,↓reduceIte,za,hlen];subst hZ;simp only[sxZ,z6,z7,z8,j4,j5,j6,j7,j8,j9,x3,x4,x5,x6,x7,x8,reduceCtorEq,↓reduceIte,za,hlen,t4,o1,hl1];exact this
end
end
section
attribute [local irreducible] run
def zdR (v:JV):Bool:=!decide (v.text=[])||decide (0<v.items.length)
def zgL (ks:List (List UInt8)) (key:List UInt8) (v:JV):List (List UInt8):=if zdR v=true then ks++[key] else ks
def zgM (its:List JV) (v:JV):List JV:=if zdR v=true then its++[v] else its
def job (ks:List (List UInt8)) (its:List JV):JV:=.mk 7 [] ks its
theorem ObR.app {m b:Nat} {ks:List (List UInt8)} {its:List JV} {o:List OB} (h:ObR m b ks its o) (z:OB):ObR m b ks its (o++[z]):=by
 obtain⟨X,Y,h1,h2,h3⟩:=h;exact⟨X,Y,by rw[zj (zf.1 h1).1];exact h1,h2.mono z,h3.mono z⟩
section
variable [Tabs Tryz.prog] {objs:List OB} {K:List OB->AV->Prop}
theorem zdv (m b:Nat) (ks:List (List UInt8)) (its:List JV) (key:List UInt8) (v:JV) (hb:ObR m b ks its objs) (hm:m<=objs.length) (hbm:b<m) (h1:ks.length<=1000000) (h2:its.length<=1000000) (hk:∀o,ObR m b (zgL ks key v) (zgM its v) o->objs.length<=o.length->(∀i,i<m->i≠b->o[i]? = objs[i]?)->K o (.tup [])):zad Tryz.prog 48 [.p b 0,.s key,.agg (zae v)] objs K:=by
 have ejv:=zaf v;rw[ejv];refine zcN is_jsonmake_Object_AddFilled fun C _=>?_;rw[c_jsonmake_Object_AddFilled];refine zaa fun Z hZ=>?_;simp only[sxZ,z6,z7,z8,j4,j5,j6,j7,j8,j9,x3,x4,x5,x6,x7,x8,reduceCtorEq,↓reduceIte];rw[<-ejv];have hB:=hb.app (.box 25 (zae v));have fv:(objs++[OB.box 25 (zae v)])[objs.length]? = some (.box 25 [.i .i64 v.kind,.s v.text,.row v.keys.length (v.keys.map .s),.row v.items.length (zac v.items)]):=by rw[gn1,ejv]
 have hfr:∀i,i<m->(objs++[OB.box 25 (zae v)])[i]? = objs[i]?:=fun i hi=>zj (by omega);have hln:(objs++[OB.box 25 (zae v)]).length=objs.length+1:=by simp
 generalize objs++[OB.box 25 (zae v)]=o1 at hB fv hfr hln ⊢;subst hZ;refine zaa fun Z hZ=>?_;unfold zgL zgM at hk
 by_cases c:v.text=[]
 ·by_cases c2:(0:Int)<(v.items.length:Int)
  ·have hf:zdR v=true:=by unfold zdR;rw[decide_eq_true (show 0<v.items.length by omega)];simp
   rw[if_pos hf,if_pos hf] at hk;simp only[sxZ,z6,z7,z8,j4,j5,j6,j7,j8,j9,x3,x4,x5,x6,x7,x8,reduceCtorEq,↓reduceIte,fv,c,c2];subst hZ;simp only[sxZ,z6,z7,z8,j4,j5,j6,j7,j8,j9,x3,x4,x5,x6,x7,x8,reduceCtorEq,↓reduceIte,fv];rw[<-ejv];refine zai (zcZ m b ks its key v hB (by omega) hbm h1 h2 fun o3 q1 q2 q3=>?_);simp only[sxZ,z6,z7,z8,j4,j5,j6,j7,j8,j9,x3,x4,x5,x6,x7,x8,reduceCtorEq,↓reduceIte];exact hk _ q1 (by omega) fun i hi hn=>by rw[q3 i hi hn];exact hfr i hi
  ·have hf:¬zdR v=true:=by unfold zdR;rw[c,decide_eq_false (show ¬0<v.items.length by omega)];simp
   rw[if_neg hf,if_neg hf] at hk;simp only[sxZ,z6,z7,z8,j4,j5,j6,j7,j8,j9,x3,x4,x5,x6,x7,x8,reduceCtorEq,↓reduceIte,fv,c,c2];subst hZ;simp only[sxZ,z6,z7,z8,j4,j5,j6,j7,j8,j9,x3,x4,x5,x6,x7,x8,reduceCtorEq,↓reduceIte,fv];exact hk _ hB (by omega) fun i hi _=>hfr i hi
 ·have hf:zdR v=true:=by unfold zdR;rw[decide_eq_false c];rfl
  rw[if_pos hf,if_pos hf] at hk;simp only[sxZ,z6,z7,z8,j4,j5,j6,j7,j8,j9,x3,x4,x5,x6,x7,x8,reduceCtorEq,↓reduceIte,fv,c];subst hZ;simp only[sxZ,z6,z7,z8,j4,j5,j6,j7,j8,j9,x3,x4,x5,x6,x7,x8,reduceCtorEq,↓reduceIte,fv];rw[<-ejv];refine zai (zcZ m b ks its key v hB (by omega) hbm h1 h2 fun o3 q1 q2 q3=>?_);simp only[sxZ,z6,z7,z8,j4,j5,j6,j7,j8,j9,x3,x4,x5,x6,x7,x8,reduceCtorEq,↓reduceIte];exact hk _ q1 (by omega) fun i hi hn=>by rw[q3 i hi hn];exact hfr i hi
end
theorem zfG {o:List OB} {r r' g n E sz g' n':Nat} {xs xs':List AV} (h:o[r']? = some (.orow E sz g' n' xs')) (hn:r'≠r):(zc9 o r g n xs)[r']? = some (.orow E sz g' n' xs'):=by
 unfold zc9;rw[ze (fun e=>hn e.symm),qm,h];rfl
theorem zcp (o:List OB) (r g n:Nat) (xs:List AV):(zc9 o r g n xs).length=o.length:=by unfold zc9;simp
theorem zg8 {o o':List OB} {m b r g n:Nat} {xs:List AV} (h:∀i Y,i<m->i≠b->o[i]? = some Y->PlO Y->o'[i]? = some Y) (hr:m<=r):∀i Y,i<m->i≠b->o[i]? = some Y->PlO Y->(zc9 o' r g n xs)[i]? = some Y:=by
 intro i Y hi hn ho hp;unfold zc9;rw[ze (by omega),qm,h i Y hi hn ho hp,ja,ziP hp]
theorem zhr {ks:List (List UInt8)} {its:List JV} {X Y:AV} (hX:(ks=[]/\X=.nil)\/X=.row ks.length (ks.map .s)) (hY:(its=[]/\Y=.nil)\/Y=.row its.length (zac its)) {G:Gh} {I:Imm} {y:Value} (h:Den G I (.agg [.i .i64 7,.s [],X,Y]) y):Den G I (.agg (zae (job ks its))) y:=by
 unfold job;rw[zae];have hX':∀{z:Value},Den G I X z->Den G I (.row ks.length (ks.map .s)) z:=by
  intro z hz;rcases hX with ⟨rfl,rfl⟩|rfl
  ·exact za3 hz
  ·exact hz
 have hY':∀{z:Value},Den G I Y z->Den G I (.row its.length (zac its)) z:=by
  intro z hz;rcases hY with ⟨rfl,rfl⟩|rfl
  ·rw[zak];exact za3 hz
  ·exact hz
 generalize AV.row ks.length (ks.map .s)=A at hX' ⊢;generalize AV.row its.length (zac its)=B at hY' ⊢;simp only[zah,Den] at h ⊢;obtain⟨zs,rfl,⟨z0,m0,rfl,q0,z1,m1,rfl,q1,z2,m2,rfl,q2,z3,m3,rfl,q3,q4⟩,hz⟩:=h;exact⟨_,rfl,⟨_,_,rfl,q0,_,_,rfl,q1,_,_,rfl,hX' q2,_,_,rfl,hY' q3,q4⟩,hz⟩
section
variable [Tabs Tryz.prog] {objs:List OB} {K:List OB->AV->Prop}
theorem zfL (m b:Nat) (ks:List (List UInt8)) (its:List JV) (hb:ObR m b ks its objs) (hm:m<=objs.length) (hbm:b<m) (hk:∀o,objs.length<=o.length->(∀i Y,i<m->i≠b->objs[i]? = some Y->PlO Y->o[i]? = some Y)->K o (.agg (zae (job ks its)))):zad Tryz.prog 53 [.p b 0] objs K:=by
 refine zew (.agg (zae (job ks its))) ?_;refine zc4 ?_;refine zc4 ?_;obtain⟨X,Y,e0,hX,hY⟩:=hb;refine zcN is_jsonmake_Object_Value fun C _=>?_;rw[c_jsonmake_Object_Value];refine zaa fun Z hZ=>?_;simp only[sxZ,z6,z7,z8,j4,j5,j6,j7,j8,j9,x3,x4,x5,x6,x7,x8,reduceCtorEq,↓reduceIte];have g1:∀z,(objs++[z])[b]? = some (.box 93 [X,Y]):=fun z=>by rw[zj (by omega)];exact e0
 subst hZ;have hfr:∀z i Y,i<m->i≠b->objs[i]? = some Y->PlO Y->(objs++[z])[i]? = some Y:=fun z i Y hi _ h _=>by rw[zj (by omega)];exact h
 have hln:∀z,(objs++[z]).length=objs.length+1:=fun z=>by simp
 rcases hX with ⟨x0,rfl⟩|⟨r,g,rfl,hr0,hr⟩
 ·rcases hY with ⟨y0,rfl⟩|⟨r',g',rfl,hs0,hs⟩
  ·simp only[sxZ,z6,z7,z8,j4,j5,j6,j7,j8,j9,x3,x4,x5,x6,x7,x8,reduceCtorEq,↓reduceIte,g1,gn1,sn1];exact .inl (.inl ⟨fun G I y hy=>zhr (.inl ⟨x0,rfl⟩) (.inl ⟨y0,rfl⟩) hy,hk _ (by rw[hln];omega) (hfr _)⟩)
  ·simp only[sxZ,z6,z7,z8,j4,j5,j6,j7,j8,j9,x3,x4,x5,x6,x7,x8,reduceCtorEq,↓reduceIte,g1,gn1,sn1];refine .inr ⟨r',_,_,_,_,_,by rw[zj (zf.1 hs).1];exact hs,.inl ⟨fun G I y hy=>?_,hk _ (by rw[zcp,hln];omega) (zg8 (hfr _) hs0)⟩⟩;refine zhr (X:=.nil) (.inl ⟨x0,rfl⟩) (.inr rfl) ?_;simpa[subD,zbc] using hy
 ·rcases hY with ⟨y0,rfl⟩|⟨r',g',rfl,hs0,hs⟩
  ·simp only[sxZ,z6,z7,z8,j4,j5,j6,j7,j8,j9,x3,x4,x5,x6,x7,x8,reduceCtorEq,↓reduceIte,g1,gn1,sn1];refine .inr ⟨r,_,_,_,_,_,by rw[zj (zf.1 hr).1];exact hr,.inl ⟨fun G I y hy=>?_,hk _ (by rw[zcp,hln];omega) (zg8 (hfr _) hr0)⟩⟩;refine zhr (Y:=.nil) (.inr rfl) (.inl ⟨y0,rfl⟩) ?_;simpa[subD,zbc] using hy
  ·simp only[sxZ,z6,z7,z8,j4,j5,j6,j7,j8,j9,x3,x4,x5,x6,x7,x8,reduceCtorEq,↓reduceIte,g1,gn1,sn1];have hne:r'≠r:=fun h=>by rw[h,hr] at hs;cases hs
   refine .inr ⟨r,_,_,_,_,_,by rw[zj (zf.1 hr).1];exact hr,.inr ⟨r',_,_,_,_,_,zfG (by rw[zj (zf.1 hs).1];exact hs) hne,fun G I y hy=>?_,hk _ (by rw[zcp,zcp,hln];omega) (zg8 (zg8 (hfr _) hr0) hs0)⟩⟩;refine zhr (.inr rfl) (.inr rfl) ?_;simpa[subD,zbc,hne,Ne.symm hne] using hy
end
end
theorem zdU {P:Program} [Tabs P] {f:FuncId} {rest:List AV} {objs:List OB} {K:List OB->AV->Prop} (h:zad P f (.row 0 []::rest) objs K):zad P f (.nil::rest) objs K:=by
 intro C _ G I w hin hm ys hd;refine h C G I w hin hm ys ?_;simp only[zah] at hd ⊢;obtain⟨y,ys',rfl,h1,h2⟩:=hd;refine⟨y,ys',rfl,?_,h2⟩;simp only[zah,Den] at h1 ⊢;exact⟨none,0,[],h1,⟨zd _,fun ad h=>by cases h⟩,rfl,by simp,by simp⟩
section
attribute [local irreducible] run
theorem zcI (s:List UInt8):zae (jtx s)=[.i .i64 5,.s s,.row 0 [],.row 0 []]:=by
 unfold jtx;rw[zae,zak];rfl
section
variable [Tabs Tryz.prog] {objs:List OB} {K:List OB->AV->Prop}
theorem zd9 (l:List (List UInt8)) (hl:l.length<=1048576) (hk:K objs (.agg (zae (jar (l.map jtx))))):zad Tryz.prog 49 [.row l.length (l.map .s)] objs K:=by
 refine zaL is_jsonmake_Texts (by simp only[zal,AV.plain,zaD,Bool.and_self]) fun C _=>?_;rw[c_jsonmake_Texts];refine zaa fun Z hZ=>?_;simp only[sxZ,z6,z7,z8,j4,j5,j6,j7,j8,j9,x3,x4,x5,x6,x7,x8,reduceCtorEq,↓reduceIte];subst hZ;refine zaa fun Z hZ=>?_;simp only[sxZ,z6,z7,z8,j4,j5,j6,j7,j8,j9,x3,x4,x5,x6,x7,x8,reduceCtorEq,↓reduceIte];subst hZ;refine zaa fun Z hZ=>?_;refine zaa fun W hW=>?_;simp only[sxZ,z6,z7,z8,j4,j5,j6,j7,j8,j9,x3,x4,x5,x6,x7,x8,reduceCtorEq,↓reduceIte];subst hW;rw[zaO];refine zaF (fun n o tm=>∃i:Nat,i<=l.length/\n=l.length - i/\(∃z,o[0]? = some (.box 25 z)/\z.length=4)/\zlc 1 ((l.take i).map jtx) o (tm[3]?.getD .u)/\tm.length=20/\tm[2]? = some (.p 0 0)/\tm[6]? = some (.row l.length (l.map .s))/\tm[7]? = some (.i .i64 (l.length:Int))/\tm[8]? = some (.i .i64 (i:Int))) l.length ⟨0,zh _,rfl,⟨_,rfl,rfl⟩,.inl ⟨rfl,rfl⟩,rfl,rfl,rfl,rfl,rfl⟩ ?_;rintro n o tm ⟨i,hi,rfl,⟨z,e0,hz⟩,hA,hlen,t2,t6,t7,t8⟩;obtain⟨a3,t3⟩:∃a,tm[3]? = some a:=⟨_,zl (by omega)⟩;rw[t3,Option.getD_some] at hA;have hol:=(zf.1 e0).1;refine zaa fun W hW=>?_
 by_cases hlt:(i:Int)<(l.length:Int)
 ·have hi':i<l.length:=by omega
  have kv:(l.map AV.s)[i*1]? = some (.s l[i]):=by rw[Nat.mul_one,qm,zl hi'];rfl
  have htk:(l.take (i+1)).map jtx=(l.take i).map jtx++[jtx l[i]]:=by rw[xo,zl hi',qy];rfl
  have hfl:((l.take i).map jtx).length=i:=by rw[qg,qh];omega
  generalize l[i]=y at kv htk;generalize (l.take i).map jtx=acc at hA htk hfl;have hl4:=zav acc;simp only[sxZ,z6,z7,z8,j4,j5,j6,j7,j8,j9,x3,x4,x5,x6,x7,x8,reduceCtorEq,↓reduceIte,za,hlen,t6,t7,t8,hlt];subst hW;refine zaa fun W hW=>?_;simp only[sxZ,z6,z7,z8,j4,j5,j6,j7,j8,j9,x3,x4,x5,x6,x7,x8,reduceCtorEq,↓reduceIte,za,hlen];subst hW;refine zaa fun V hV=>?_;rw[zaO];refine zaa fun W hW=>?_;simp only[sxZ,z6,z7,z8,j4,j5,j6,j7,j8,j9,x3,x4,x5,x6,x7,x8,reduceCtorEq,↓reduceIte,za,hlen,t6,t8,kv,qg];refine⟨⟨by omega,by omega,by omega⟩,?_⟩;subst hW;simp only[sxZ,z6,z7,z8,j4,j5,j6,j7,j8,j9,x3,x4,x5,x6,x7,x8,reduceCtorEq,↓reduceIte,za,hlen,t3];refine zai (zdu y ?_);rw[zcI];rcases hA with ⟨h0,rfl⟩|⟨r,g,rfl,hr0,hr⟩
  ·simp only[sxZ,z6,z7,z8,j4,j5,j6,j7,j8,j9,x3,x4,x5,x6,x7,x8,reduceCtorEq,↓reduceIte,za,hlen,t3];subst hV;simp only[sxZ,z6,z7,z8,j4,j5,j6,j7,j8,j9,x3,x4,x5,x6,x7,x8,reduceCtorEq,↓reduceIte,za,hlen,t2,t6,t7,t8];refine⟨by omega,l.length - (i+1),by omega,i+1,by omega,rfl,⟨z,by rw[zj hol];exact e0,hz⟩,?_,rfl⟩;rw[htk,h0];exact .inr ⟨_,0,rfl,by omega,by rw[gn1,zy,zao,zak,zcI];rfl⟩
  ·have hrl:=(zf.1 hr).1;simp only[sxZ,z6,z7,z8,j4,j5,j6,j7,j8,j9,x3,x4,x5,x6,x7,x8,reduceCtorEq,↓reduceIte,za,hlen,t3,hr];refine⟨⟨by omega,by omega⟩,?_⟩;subst hV;simp only[sxZ,z6,z7,z8,j4,j5,j6,j7,j8,j9,x3,x4,x5,x6,x7,x8,reduceCtorEq,↓reduceIte,za,hlen,t2,t6,t7,t8];refine⟨by omega,l.length - (i+1),by omega,i+1,by omega,rfl,⟨z,?_,hz⟩,?_,rfl⟩
   ·rw[if_neg (by omega)];exact e0
   ·rw[htk];refine .inr ⟨r,g+1,rfl,hr0,?_⟩;rw[zk hrl,zp,za4,zao,zak,zcI];rfl
 have hn:i=l.length:=by omega
 rw[hn,jh (zd _)] at hA;simp only[sxZ,z6,z7,z8,j4,j5,j6,j7,j8,j9,x3,x4,x5,x6,x7,x8,reduceCtorEq,↓reduceIte,za,hlen,t6,t7,t8,hlt];subst hW;simp only[sxZ,z6,z7,z8,j4,j5,j6,j7,j8,j9,x3,x4,x5,x6,x7,x8,reduceCtorEq,↓reduceIte,za,hlen];subst hZ;have hc:zae (jar (l.map jtx))=[.i .i64 6,.s [],.row 0 [],.row (l.map jtx).length (zac (l.map jtx))]:=by rw[zaf];rfl
 obtain⟨z0,z1,z2,z3,rfl⟩:∃z0 z1 z2 z3,z=[z0,z1,z2,z3]:=by
  match z,hz with
  | [a,b,c,d],_=>exact⟨a,b,c,d,rfl⟩
 rw[hc] at hk;have hjL:=zaG (l.map jtx);rcases hA with ⟨h0,rfl⟩|⟨r,g,rfl,hr0,hr⟩
 ·simp only[sxZ,z6,z7,z8,j4,j5,j6,j7,j8,j9,x3,x4,x5,x6,x7,x8,reduceCtorEq,↓reduceIte,za,hlen,t3];refine zai (zdU ?_);have hA2:∀{K:List OB->AV->Prop},K o (.agg (zae (jar [])))->zad Tryz.prog 51 [.row 0 []] o K:=fun {K} h=>by
   have:=zcJ (objs:=o) (K:=K) [] h
   rwa [zak] at this
  refine hA2 ?_;rw[<-h0,hc];simp only[sxZ,z6,z7,z8,j4,j5,j6,j7,j8,j9,x3,x4,x5,x6,x7,x8,reduceCtorEq,↓reduceIte,za,hlen,t2,e0,hol,hjL];exact hk
 ·simp only[sxZ,z6,z7,z8,j4,j5,j6,j7,j8,j9,x3,x4,x5,x6,x7,x8,reduceCtorEq,↓reduceIte,za,hlen,t3];refine zai (zeJ (b:=r) hr ?_);simp only[zbc,zo,zr,and_self,if_true];refine zcJ (l.map jtx) ?_;rw[hc];generalize hcs:zac (l.map jtx)=cs at hr hk hjL ⊢;have e1:∃w0 w1 w2 w3,(zc9 o r g (l.map jtx).length cs)[0]? = some (.box 25 [w0,w1,w2,w3]):=by
   unfold zc9;rw[ze (by omega),qm,e0];exact⟨_,_,_,_,rfl⟩
  obtain⟨w0,w1,w2,w3,e1⟩:=e1;have hl2:=(zf.1 e1).1;generalize zc9 o r g (l.map jtx).length cs=o2 at e1 hl2 ⊢;simp only[sxZ,z6,z7,z8,j4,j5,j6,j7,j8,j9,x3,x4,x5,x6,x7,x8,reduceCtorEq,↓reduceIte,za,hlen,t2,e1,hl2,hjL];exact hk
end
end
section
attribute [local irreducible] run
section
variable [Tabs Tryz.prog] {objs:List OB} {K:List OB->AV->Prop}
end
section
variable [Tabs Tryz.prog] {objs:List OB} {K:List OB->AV->Prop}
end
end
section
attribute [local irreducible] run
end
section
attribute [local irreducible] run
section
variable [Tabs Tryz.prog] {objs:List OB} {K:List OB->AV->Prop}
end
end
section
attribute [local irreducible] run
section
variable [Tabs Tryz.prog] {objs:List OB} {K:List OB->AV->Prop}
end
end
section
attribute [local irreducible] run
section
variable [Tabs Tryz.prog] {objs:List OB} {K:List OB->AV->Prop}
end
end
section
attribute [local irreducible] run
section
variable [Tabs Tryz.prog] {objs:List OB} {K:List OB->AV->Prop}
end
end
section
attribute [local irreducible] run
section
variable [Tabs Tryz.prog] {objs:List OB} {K:List OB->AV->Prop}
end
end
section
attribute [local irreducible] run
section
variable [Tabs Tryz.prog] {objs:List OB} {K:List OB->AV->Prop}
end
end
section
attribute [local irreducible] run
section
variable [Tabs Tryz.prog] {objs:List OB} {K:List OB->AV->Prop}
end
end
section
attribute [local irreducible] run
theorem zcv (ks:List (List UInt8)) (key:List UInt8) (v:JV):(zgL ks key v).length<=ks.length+1:=by
 unfold zgL;split<;>simp
theorem zcw (its:List JV) (v:JV):(zgM its v).length<=its.length+1:=by
 unfold zgM;split<;>simp
section
variable [Tabs Tryz.prog] {objs:List OB} {K:List OB->AV->Prop}
end
end
section
attribute [local irreducible] run
theorem ObR.pub {m b:Nat} {ks:List (List UInt8)} {its:List JV} {oS o:List OB} (h:ObR m b ks its oS) (hfr:∀i,i<oS.length->o[i]? = oS[i]?) (r g n:Nat) (xs:List AV) (hr:oS.length<=r):ObR m b ks its (zc9 o r g n xs):=by
 obtain⟨X,Y,h1,h2,h3⟩:=h;have hb:=(zf.1 h1).1;have eX:zbc r g n xs X=X:=by
  rcases h2 with ⟨_,rfl⟩|⟨r1,g1,rfl,_,hr1⟩
  ·rfl
  ·have:=(zf.1 hr1).1;simp only[zbc];rw[if_neg (by omega)]
 have eY:zbc r g n xs Y=Y:=by
  rcases h3 with ⟨_,rfl⟩|⟨r1,g1,rfl,_,hr1⟩
  ·rfl
  ·have:=(zf.1 hr1).1;simp only[zbc];rw[if_neg (by omega)]
 refine⟨X,Y,?_,?_,?_⟩
 ·unfold zc9;rw[ze (by omega),qm,hfr b hb,h1];simp only[ja,zf6,zo,zr,eX,eY]
 ·rcases h2 with h|⟨r1,g1,e,h0,hr1⟩
  ·exact .inl h
  ·have:=(zf.1 hr1).1;exact .inr ⟨r1,g1,e,h0,zfG (by rw[hfr r1 this];exact hr1) (by omega)⟩
 ·rcases h3 with h|⟨r1,g1,e,h0,hr1⟩
  ·exact .inl h
  ·have:=(zf.1 hr1).1;exact .inr ⟨r1,g1,e,h0,zfG (by rw[hfr r1 this];exact hr1) (by omega)⟩
theorem ObR.tr {m b:Nat} {ks:List (List UInt8)} {its:List JV} {oS o:List OB} (h:ObR m b ks its oS) (hfr:∀i,i<oS.length->o[i]? = oS[i]?):ObR m b ks its o:=by
 obtain⟨X,Y,h1,h2,h3⟩:=h;refine⟨X,Y,by rw[hfr b (zf.1 h1).1];exact h1,?_,?_⟩
 ·rcases h2 with h|⟨r1,g1,e,h0,hr1⟩
  ·exact .inl h
  ·exact .inr ⟨r1,g1,e,h0,by rw[hfr r1 (zf.1 hr1).1];exact hr1⟩
 ·rcases h3 with h|⟨r1,g1,e,h0,hr1⟩
  ·exact .inl h
  ·exact .inr ⟨r1,g1,e,h0,by rw[hfr r1 (zf.1 hr1).1];exact hr1⟩
section
variable [Tabs Tryz.prog] {objs:List OB} {K:List OB->AV->Prop}
end
end
section
attribute [local irreducible] run
end
section
attribute [local irreducible] run
def PrOk (null:Bool) (p:PrP):Prop:=p.nul=true->null=true/\p.val=[]
end
section
attribute [local irreducible] run
theorem zkq:∀{a b:List JV},zeY a->zeY b->zeY (a++b)
 | [],b,_,hb=>hb
 | v::l,b,ha,hb=>by
  rw[zeY] at ha;rw[List.cons_append,zeY];exact⟨ha.1,zkq ha.2 hb⟩
end
section
attribute [local irreducible] run
def PrF (null:Bool) (p:PrP):Prop:=PrOk null p/\p.name.length<=140737488351232/\p.val.length<=140737488351232
def PsF (null:Bool) (l:List PrP):Prop:=l.length<=64/\∀p∈l,PrF null p
structure LkF (x:LkP):Prop where
 rel:x.rel.length<=140737488351232
 typ:x.typ.length<=140737488351232
 href:x.href.length<=140737488351232
 tmp:x.tmp.length<=140737488351232
 tit:PsF false x.tit
 pro:PsF true x.pro
structure JrF (subj:List UInt8) (al:List (List UInt8)) (pr:List PrP) (lk:List LkP):Prop where
 sl:subj.length<=140737488351232
 aln:al.length<=64
 alb:∀a∈al,a.length<=140737488351232
 prf:PsF true pr
 lkn:lk.length<=64
 lkf:∀x∈lk,LkF x
theorem PsF.ok {null:Bool} {l:List PrP} (h:PsF null l):∀p∈l,PrOk null p:=fun p hp=>(h.2 p hp).1
/-! what a decoder gives is as it should be, if there was no error -/
theorem JOk.txt {v:JV} (h:JOk v):v.text.length<=140737488351232:=h.lens.2.2.1
/-! the value that was made is a value that may be decoded -/
structure ObF (ks:List (List UInt8)) (its:List JV) (n:Nat):Prop where
 kl:ks.length<=n
 il:its.length<=n
 kb:∀k∈ks,k.length<=140737488351232
 ok:zeY its
 bd:zdX its
theorem ObF.nil:ObF [] [] 0:=⟨zd 0,zd 0,by simp,by rw[zeY];trivial,by rw[zdX];trivial⟩
theorem ObF.snoc {ks:List (List UInt8)} {its:List JV} {n:Nat} {key:List UInt8} {v:JV} (h:ObF ks its n) (hk:key.length<=140737488351232) (hv:JOk v/\JBd v):ObF (ks++[key]) (its++[v]) (n+1) :=
 ⟨by have:=h.kl;simp;exact this,by have:=h.il;simp;exact this,fun k hm=>by
  rcases zw.1 hm with hm|hm
  ·exact h.kb k hm
  ·rw[xt] at hm;subst hm;exact hk,zkq h.ok (by rw[zeY,zeY];exact⟨hv.1,trivial⟩),zkt h.bd (by rw[zdX,zdX];exact⟨hv.2,trivial⟩)⟩
theorem ObF.add {ks:List (List UInt8)} {its:List JV} {n:Nat} {key:List UInt8} {v:JV} (h:ObF ks its n) (hk:key.length<=140737488351232) (hv:JOk v/\JBd v):ObF (zgL ks key v) (zgM its v) (n+1):=by
 unfold zgL zgM
 by_cases c:zdR v=true
 ·rw[if_pos c,if_pos c];exact h.snoc hk hv
 ·rw[if_neg c,if_neg c];exact⟨Nat.le_succ_of_le h.kl,Nat.le_succ_of_le h.il,h.kb,h.ok,h.bd⟩
theorem ObF.val {ks:List (List UInt8)} {its:List JV} {n:Nat} (h:ObF ks its n) (hn:n<=1000000):JOk (job ks its)/\JBd (job ks its):=by
 have h1:=h.kl;have h2:=h.il;unfold job;rw[JOk,JBd];exact⟨⟨by decide,by simp,by omega,h.kb,by omega,h.ok⟩,by omega,by omega,h.bd⟩
theorem zgw {s:List UInt8} (h:s.length<=140737488351232):JOk (jtx s)/\JBd (jtx s):=by
 unfold jtx;rw[JOk];exact⟨⟨by decide,h,by simp,by simp,by simp,by rw[zeY];trivial⟩,jbd_leaf _ _⟩
theorem znS:∀{l:List JV},(∀y∈l,JOk y/\JBd y)->zeY l/\zdX l
 | [],_=>by rw[zeY,zdX];exact⟨trivial,trivial⟩
 | v::l,h=>by
  rw[zeY,zdX];have h1:=h v (List.mem_cons_self ..);have h2:=znS fun y hy=>h y (qq _ hy);exact⟨⟨h1.1,h2.1⟩,h1.2,h2.2⟩
theorem znZ {l:List JV} (hl:l.length<=1048576) (h:∀y∈l,JOk y/\JBd y):JOk (jar l)/\JBd (jar l):=by
 have h2:=znS h;unfold jar;rw[JOk,JBd];exact⟨⟨by decide,by simp,by simp,by simp,by omega,h2.1⟩,by simp,by omega,h2.2⟩
def PsB (l:List PrP):Prop:=l.length<=1000000/\∀p∈l,p.name.length<=140737488351232/\p.val.length<=140737488351232
theorem PsF.b {null:Bool} {l:List PrP} (h:PsF null l):PsB l:=⟨qp h.1 (by decide),fun p hp=>(h.2 p hp).2⟩
structure LkB (x:LkP):Prop where
 rel:x.rel.length<=140737488351232
 typ:x.typ.length<=140737488351232
 href:x.href.length<=140737488351232
 tmp:x.tmp.length<=140737488351232
 tit:PsB x.tit
 pro:PsB x.pro
theorem LkF.b {x:LkP} (h:LkF x):LkB x:=⟨h.rel,h.typ,h.href,h.tmp,h.tit.b,h.pro.b⟩
structure JrBd (subj:List UInt8) (al:List (List UInt8)) (pr:List PrP) (lk:List LkP):Prop where
 sl:subj.length<=140737488351232
 aln:al.length<=1000000
 alb:∀a∈al,a.length<=140737488351232
 prf:PsB pr
 lkn:lk.length<=1000000
 lkf:∀x∈lk,LkB x
theorem JrF.b {subj:List UInt8} {al:List (List UInt8)} {pr:List PrP} {lk:List LkP} (h:JrF subj al pr lk):JrBd subj al pr lk :=
 ⟨h.sl,qp h.aln (by decide),h.alb,h.prf.b,qp h.lkn (by decide),fun x hx=>(h.lkf x hx).b⟩
end
section
attribute [local irreducible] run
mutual
def JTx:JV->Prop
 | .mk k t ks its=>t.length<=1048576/\JTxs its
def JTxs:List JV->Prop
 | []=>True
 | v::l=>JTx v/\JTxs l
end
theorem znR:∀{l:List JV} (h:JTxs l) {i:Nat} (hi:i<l.length),JTx l[i]
 | a::l,h,0,hi=>by rw[JTxs] at h;exact h.1
 | a::l,h,i+1,hi=>by rw[JTxs] at h;exact znR h.2 (by simpa using hi)
theorem JTx.its {v:JV} (h:JTx v) {i:Nat} (hi:i<v.items.length):JTx v.items[i]:=by
 cases v with
 | mk k t ks its=>rw[JTx] at h;exact znR h.2 hi
theorem JTx.txt {v:JV} (h:JTx v):v.text.length<=1048576:=by
 cases v;rw[JTx] at h;exact h.1
theorem jtx_z:JTx jvZ:=by rw[jvZ,JTx];exact⟨by simp,by rw[JTxs];trivial⟩
theorem zji {v:JV} (hv:JTx v) (key:List UInt8):JTx (zbA v key).1:=by
 unfold zbA
 split
 ·split
  ·rename_i x hx;obtain⟨hi,rfl⟩:=zf.1 hx;exact hv.its hi
  ·exact jtx_z
 ·exact jtx_z
end
section
attribute [local irreducible] run
def vB14 (X Y:AV):OB:=.box 25 [.i .i64 7,.s [],X,Y]
section
variable [Tabs Tryz.prog] {objs:List OB} {K:List OB->AV->Prop} {L:List (Nat×OB)}
theorem zmM {X Y:AV} {R1 R2:List (Nat×OB)} (ks:List (List UInt8)) (its:List JV) (key:List UInt8) (hl:its.length=ks.length) (hlen0:ks.length<=10000000) (hX:SlO 9 1 ks.length (ks.map .s) X R1) (hY:SlO 25 4 its.length (zac its) Y R2) (hO:zaK (R1++(R2++L)) objs)
  (h1:key∈ks->∀o w,zaK (R1++(R2++L)) o->K o (.tup [.agg (zae w),.b true])) (h2:¬key∈ks->∀o,zaK (R1++(R2++L)) o->K o (.tup [.agg [.i .i64 0,.s [],.nil,.nil],.b false])):zad Tryz.prog 42 [.agg [.i .i64 7,.s [],X,Y],.s key] objs K:=by
 refine zcN is_ref14_Get fun C _=>?_;rw[c_ref14_Get];have hO2:=(hO.new (vB14 X Y)).new zvB;unfold vB14 zvB at hO2;refine zaa fun Z hZ=>?_;have flatX:X.flat=true:=by rcases hX with ⟨_,_,rfl,_⟩|⟨_,_,rfl,_⟩<;>rfl
 have flatY:Y.flat=true:=by rcases hY with ⟨_,_,rfl,_⟩|⟨_,_,rfl,_⟩<;>rfl
 have flatV:(AV.agg [.i .i64 7,.s [],X,Y]).flat=true:=by
  rcases hX with ⟨_,_,rfl,_⟩|⟨_,_,rfl,_⟩<;>rcases hY with ⟨_,_,rfl,_⟩|⟨_,_,rfl,_⟩<;>rfl
 simp only[sxZ,z6,z7,z8,j4,j5,j6,j7,j8,j9,x3,x4,x5,x6,x7,x8,reduceCtorEq,↓reduceIte,flatV];have elen:(objs++[OB.box 25 [.i .i64 7,.s [],X,Y]]).length=objs.length+1:=by simp
 rw[elen] at hO2;generalize objs.length=qv at hO2 ⊢;generalize objs++[OB.box 25 [.i .i64 7,.s [],X,Y]]++[OB.box 25 [.i .i64 0,.s [],.nil,.nil]]=o at hO2 ⊢;have e0:=hO2.get (i:=qv) (x:=.box 25 [.i .i64 7,.s [],X,Y]) (by simp);have e1:=hO2.get (i:=qv+1) (x:=.box 25 [.i .i64 0,.s [],.nil,.nil]) (by simp);have gs:∀x,(o.set (qv+1) x)[qv+1]? = some x:=fun x=>zk (hO2.lt (i:=qv+1) (x:=.box 25 [.i .i64 0,.s [],.nil,.nil]) (by simp));have fin:∀x,zaK (R1++(R2++L)) (o.set (qv+1) x):=fun x=>(zaK.set (A:=[]) x hO2).sub ((jk _ _).trans (jk _ _));subst hZ;refine zaa fun Z hZ=>?_;simp only[sxZ,z6,z7,z8,j4,j5,j6,j7,j8,j9,x3,x4,x5,x6,x7,x8,reduceCtorEq,↓reduceIte,e0,decide_true,Bool.not_true];subst hZ;refine zaa fun Z hZ=>?_;refine zaa fun W hW=>?_;refine zaz (fun o' tm=>o=o'/\tm.length=38/\tm[1]? = some (.s key)/\tm[2]? = some (.p qv 0)/\tm[4]? = some (.p (qv+1) 0)/\tm[13]? = some (.i .i64 (ks.length:Int))/\tm[14]? = some (.i .i64 0)) ?_ ?_
 ·rcases id hX with ⟨z1,z2,rfl,_⟩|⟨b1,g1,rfl,rfl⟩
  ·simp only[sxZ,z6,z7,z8,j4,j5,j6,j7,j8,j9,x3,x4,x5,x6,x7,x8,reduceCtorEq,↓reduceIte,zab,e0,z1,y6,and_self]
  ·have eb1:=hO2.get (i:=b1) (x:=.orow 9 1 g1 ks.length (ks.map .s)) (by simp);simp only[sxZ,z6,z7,z8,j4,j5,j6,j7,j8,j9,x3,x4,x5,x6,x7,x8,reduceCtorEq,↓reduceIte,zab,e0,eb1,and_self]
 rintro _ tm ⟨rfl,hlen,t1,t2,t4,t13,t14⟩;subst hW;rw[zaO];refine zaF (fun n o' tm=>∃i:Nat,i<=ks.length/\n=ks.length - i/\o=o'/\(∀j,j<i->ks[j]?≠some key)/\tm.length=38/\tm[1]? = some (.s key)/\tm[2]? = some (.p qv 0)/\tm[4]? = some (.p (qv+1) 0)/\tm[13]? = some (.i .i64 (ks.length:Int))/\tm[14]? = some (.i .i64 (i:Int))) ks.length ⟨0,zh _,rfl,rfl,fun j h=>by omega,hlen,t1,t2,t4,t13,t14⟩ ?_;clear hlen t1 t2 t4 t13 t14;rintro n _ tm ⟨i,hi,rfl,rfl,hall,hlen,t1,t2,t4,t13,t14⟩;refine zaa fun W hW=>?_
 by_cases hlt:(i:Int)<(ks.length:Int)
 ·have hi':i<ks.length:=by omega
  have hi2:i<its.length:=by omega
  rcases hX with ⟨z1,_⟩|⟨b1,g1,rfl,rfl⟩
  ·omega
  rcases hY with ⟨z1,_⟩|⟨b2,g2,rfl,rfl⟩
  ·omega
  have eb1:=hO2.get (i:=b1) (x:=.orow 9 1 g1 ks.length (ks.map .s)) (by simp);have eb2:=hO2.get (i:=b2) (x:=.orow 25 4 g2 its.length (zac its)) (by simp);have kv:(ks.map AV.s)[i*1]? = some (.s ks[i]):=by rw[Nat.mul_one,qm,zl hi'];rfl
  have kv2:ks[i]? = some ks[i]:=zl hi';have kv3:ks[i]∈ks:=jg hi';generalize ks[i]=x at kv kv2 kv3;simp only[sxZ,z6,z7,z8,j4,j5,j6,j7,j8,j9,x3,x4,x5,x6,x7,x8,reduceCtorEq,↓reduceIte,za,hlen,t1,t2,t4,t13,t14,hlt];subst hW;refine zaa fun W hW=>?_;simp only[sxZ,z6,z7,z8,j4,j5,j6,j7,j8,j9,x3,x4,x5,x6,x7,x8,reduceCtorEq,↓reduceIte,za,hlen];subst hW;refine zaa fun V hV=>?_;rw[zaO];refine zaa fun W hW=>?_;simp only[sxZ,z6,z7,z8,j4,j5,j6,j7,j8,j9,x3,x4,x5,x6,x7,x8,reduceCtorEq,↓reduceIte,za,hlen,t14];subst hW;refine zaa fun W hW=>?_
  by_cases c2:x=key
  ·have hlt2:(i:Int)<(its.length:Int):=by omega
   have jv:=zfM hi2;have jvl:=zav its;have hw:=fun o ho=>h1 (by rw[<-c2];exact kv3) o its[i] ho;have hq:=zaf its[i];rw[hq] at jv;simp only[sxZ,z6,z7,z8,j4,j5,j6,j7,j8,j9,x3,x4,x5,x6,x7,x8,reduceCtorEq,↓reduceIte,za,hlen,t1,t2,e0,eb1,eb2,kv,qg,c2,hlt2,decide_true];refine⟨⟨by omega,by omega⟩,?_⟩;subst hW;simp only[sxZ,z6,z7,z8,j4,j5,j6,j7,j8,j9,x3,x4,x5,x6,x7,x8,reduceCtorEq,↓reduceIte,za,hlen,t1,t2,t4,e0,e1,eb2,jv,gs];refine⟨⟨by omega,by omega⟩,by omega,?_⟩;rw[<-hq];exact hw _ (fin _)
  ·simp only[sxZ,z6,z7,z8,j4,j5,j6,j7,j8,j9,x3,x4,x5,x6,x7,x8,reduceCtorEq,↓reduceIte,za,hlen,t1,t2,e0,eb1,kv,qg,c2,decide_false];refine⟨⟨by omega,by omega⟩,?_⟩;subst hW;simp only[sxZ,z6,z7,z8,j4,j5,j6,j7,j8,j9,x3,x4,x5,x6,x7,x8,reduceCtorEq,↓reduceIte,za,hlen,t1,t2,t4];subst hV;simp only[sxZ,z6,z7,z8,j4,j5,j6,j7,j8,j9,x3,x4,x5,x6,x7,x8,reduceCtorEq,↓reduceIte,za,hlen,t1,t2,t4,t13,t14];refine⟨by omega,ks.length - (i+1),by omega,i+1,by omega,rfl,fun j hj=>?_,rfl⟩
   by_cases e:j=i
   ·subst e;rw[kv2];intro h;injection h with h;exact c2 h
   ·exact hall j (by omega)
 simp only[sxZ,z6,z7,z8,j4,j5,j6,j7,j8,j9,x3,x4,x5,x6,x7,x8,reduceCtorEq,↓reduceIte,za,hlen,t1,t2,t4,t13,t14,hlt];subst hW;subst hZ;simp only[sxZ,z6,z7,z8,j4,j5,j6,j7,j8,j9,x3,x4,x5,x6,x7,x8,reduceCtorEq,↓reduceIte,za,hlen,t1,t2,t4,t13,t14,hlt,e1,gs];refine h2 (fun h=>?_) _ (fin _);obtain⟨j,hj⟩:=List.mem_iff_getElem?.1 h;exact hall j (by have:=(zf.1 hj).1;omega) hj
end
end
section
attribute [local irreducible] run
theorem zjr {i:Nat} {T T':Nat} {cs cs':List AV} {L:List (Nat×OB)} (h:zaJ ((i,.box T cs)::L)) (hp:zal cs'=true):zaJ ((i,.box T' cs')::L):=by
 intro y hy b g n xs hb;rcases zu.1 hy with rfl|hy
 ·show OB.box T' _=_;rw[zdH hp]
 ·exact h y (qq _ hy) b g n xs fun y hy=>by
   rcases zu.1 hy with rfl|hy
   ·exact hb (i,.box T' cs') (by simp)
   ·exact hb y (qq _ hy)
theorem zfZ {p:Nat} {s:List UInt8} {ρ ρ':Rs} {L:List (Nat×OB)} (h:zaJ ((p,zaI s ρ)::L)):zaJ ((p,zaI s ρ')::L):=zjr h rfl
theorem zgI {E1 s1 n1 E2 s2 n2:Nat} {x1 x2:List AV} {X Y:AV} {R1 R2 L:List (Nat×OB)} {p qt qv qr:Nat} {s:List UInt8} {ρ ρ':Rs} {T:Tk} {k:Int} (h1:SlO E1 s1 n1 x1 X R1) (h2:SlO E2 s2 n2 x2 Y R2) (h:zaJ ((p,zaI s ρ)::L)):zaJ ((p,zaI s ρ')::(qt,zaX T)::(qv,jvB k X Y)::(qr,zvB)::(R1++(R2++L))):=by
 intro y hy b g m ys hb;simp only[zu,zw] at hy;rcases hy with rfl|rfl|rfl|rfl|hy|hy|hy
 ·exact congrArg (OB.box _) (zdH rfl)
 ·exact congrArg (OB.box _) (zdH rfl)
 ·have q1:=ziR h1 (b:=b) (g:=g) (m:=m) (ys:=ys) fun y hy=>hb y (by simp[hy]);have q2:=ziR h2 (b:=b) (g:=g) (m:=m) (ys:=ys) fun y hy=>hb y (by simp[hy]);show OB.box _ _=_;simp only[zo,zr,q1,q2]
  rfl
 ·exact congrArg (OB.box _) (zdH rfl)
 ·rcases h1 with ⟨_,_,_,rfl⟩|⟨b',g',_,rfl⟩
  ·cases hy
  ·simp only[zu,xh,or_false] at hy;subst hy;rfl
 ·rcases h2 with ⟨_,_,_,rfl⟩|⟨b',g',_,rfl⟩
  ·cases hy
  ·simp only[zu,xh,or_false] at hy;subst hy;rfl
 ·refine h y (qq _ hy) b g m ys fun z hz=>?_;rcases zu.1 hz with rfl|hz
  ·exact hb (p,zaI s ρ') (by simp)
  ·exact hb z (by simp[hz])
section
variable [Tabs Tryz.prog] [Utf Tryz.prog] {objs:List OB} {K:List OB->AV->Prop} {L:List (Nat×OB)} {p:Nat} {s:List UInt8} {ρ:Rs}
def ValK (s:List UInt8) (p:Nat) (d:Nat) (val:Rs->Tk->JV×Rs):Prop :=
 ∀{objs:List OB} {K:List OB->AV->Prop} {L:List (Nat×OB)} {ρ:Rs} (t:Tk),GB s ρ->GT ρ t->t.2.1.length<=s.length->zaJ ((p,zaI s ρ)::L)->zaK ((p,zaI s ρ)::L) objs->(∀o,zaK ((p,zaI s (val ρ t).2)::L) o->K o (.agg (zae (val ρ t).1)))->zad Tryz.prog 20 [.p p 0,zhE t,.i .i64 (d:Int)] objs K
omit [Tabs Tryz.prog] [Utf Tryz.prog] in
theorem zbD (h:GB s ρ):(zar s ρ).1.2.1.length<=s.length:=by
 unfold zar
 split
 ·exact zh _
 split
 ·exact zh _
 ·rename_i h1 h2;have:=zj4 (s:=s) h.p0 (by simpa using h2);exact this.2.1
theorem array_k {val:Rs->Tk->JV×Rs} {d:Nat} (hv:ValK s p d val) (hg:GV s val) (hn:∀ρ t,(val ρ t).2.fail=0->ρ.nodes+1<=(val ρ t).2.nodes) (hs:s.length<=1048576) (hB:GB s ρ) (hC:zaJ ((p,zaI s ρ)::L)) (hO:zaK ((p,zaI s ρ)::L) objs)
  (hk:∀o,zaK ((p,zaI s (zg7 s val ρ).2)::L) o->K o (.agg (zae (zg7 s val ρ).1))):zad Tryz.prog 61 [.p p 0,.i .i64 (d:Int)] objs K:=by
 refine zmK (E1:=9) (s1:=1) (E2:=25) (s2:=4) (zg7 s val ρ).1 (zfZ hC) hk ?_;refine zcN is_ref14_parser_array fun C _=>?_;have fin:∀{o:List OB} {ρ':Rs} {acc:List JV} {X:AV} {R:List (Nat×OB)} {qt qv qr:Nat} {T V W:OB},zg7 s val ρ=(.mk 6 [] [] acc,ρ')->SlO 25 4 acc.length (zac acc) X R->zaK ((p,zaI s ρ')::(qt,T)::(qv,V)::(qr,W)::(R++L)) o ->
   ∃X' R1 Y R2,SlO 9 1 (zg7 s val ρ).1.keys.length ((zg7 s val ρ).1.keys.map .s) X' R1/\SlO 25 4 (zg7 s val ρ).1.items.length (zac (zg7 s val ρ).1.items) Y R2/\zaK ((p,zaI s (zg7 s val ρ).2)::(R1++(R2++L))) (o.set qr (jvB 6 .nil X))/\AV.agg [.i .i64 6,.s [],.nil,X]=.agg [.i .i64 (zg7 s val ρ).1.kind,.s (zg7 s val ρ).1.text,X',Y]:=by
  intro o ρ' acc X R qt qv qr T V W he hS hO;rw[he];refine⟨.nil,[],X,R,.inl ⟨rfl,rfl,rfl,rfl⟩,hS,?_,rfl⟩;exact(zaK.set (A:=[(p,zaI s ρ'),(qt,T),(qv,V)]) (jvB 6 .nil X) hO).sub ((((jk _ _).trans (jk _ _)).trans (jk _ _)).cons_cons _)
 rw[c_ref14_parser_array];refine zaa fun Y hY=>?_;simp only[sxZ,z6,z7,z8,j4,j5,j6,j7,j8,j9,x3,x4,x5,x6,x7,x8,reduceCtorEq,↓reduceIte];have hO1:=hO.new zvB;unfold zvB at hO1;generalize hqr:objs.length=qr at hO1 ⊢;generalize objs++[OB.box 25 [.i .i64 0,.s [],.nil,.nil]]=o1 at hO1 ⊢;subst hY;refine zaa fun Y hY=>?_;simp only[sxZ,z6,z7,z8,j4,j5,j6,j7,j8,j9,x3,x4,x5,x6,x7,x8,reduceCtorEq,↓reduceIte,gn1,sn1];have hO2:=hO1.new (jvB 6 .nil .nil);unfold jvB at hO2;generalize hqv:o1.length=qv at hO2 ⊢;generalize o1++[OB.box 25 [.i .i64 6,.s [],.nil,.nil]]=o2 at hO2 ⊢;subst hY;refine zaa fun Y hY=>?_;simp only[sxZ,z6,z7,z8,j4,j5,j6,j7,j8,j9,x3,x4,x5,x6,x7,x8,reduceCtorEq,↓reduceIte];have hO2':zaK ((p,zaI s ρ)::(qv,jvB 6 .nil .nil)::(qr,zvB)::L) o2:=hO2.perm ((qz.cons _ (qz.swap _ _ _)).trans (qz.swap _ _ _));refine zai (zcx (by omega) hO2' fun o3 hO3=>?_);have hB1:=zbl hB;have hT1:=zbD hB;have hrarr:zg7 s val ρ=if isP (zar s ρ).1 93=true then (.mk 6 [] [] [],(zar s ρ).2) else (.mk 6 [] [] (zdM s val (s.length+2) (zar s ρ).2 (zar s ρ).1 []).1,(zdM s val (s.length+2) (zar s ρ).2 (zar s ρ).1 []).2):=rfl
 have hn0:=zbe s ρ;generalize zar s ρ=N at hO3 hB1 hT1 hrarr hn0 ⊢;obtain⟨T,ρ1⟩:=N;simp only at hO3 hB1 hT1 hrarr hn0 ⊢;unfold zhE tkC;simp only[sxZ,z6,z7,z8,j4,j5,j6,j7,j8,j9,x3,x4,x5,x6,x7,x8,reduceCtorEq,↓reduceIte,gn1,sn1];have f1:∀x y z,OB.box 56 [.i .i64 x,.s y,.i .i64 z]=zaX (x,y,z):=fun _ _ _=>rfl;rw[f1];have hO4:=hO3.new (zaX T);have hO4:zaK ((p,zaI s ρ1)::(o3.length,zaX T)::(qv,jvB 6 .nil .nil)::(qr,zvB)::([]++L)) (o3++[zaX T]):=hO4.perm (qz.swap _ _ _);generalize o3.length=qt at hO4 ⊢;generalize o3++[zaX (T.1,T.2.1,T.2.2)]=o4 at hO4 ⊢;have st:∀(o:List OB) (ρ':Rs) (T':Tk) (X:AV) (R:List (Nat×OB)),zaK ((p,zaI s ρ')::(qt,zaX T')::(qv,jvB 6 .nil X)::(qr,zvB)::(R++L)) o->o[p]? = some (.box 53 [.s s,.i .i64 ρ'.pos,.i .i64 (ρ'.nodes:Int),.i .i64 ρ'.fail,.i .i64 ρ'.wh])/\o[qt]? = some (.box 56 [.i .i64 T'.1,.s T'.2.1,.i .i64 T'.2.2])/\o[qv]? = some (.box 25 [.i .i64 6,.s [],.nil,X])/\o[qr]? = some (.box 25 [.i .i64 0,.s [],.nil,.nil])/\(∀x,(o.set qr x)[qr]? = some x)/\(∀x,(o.set qt x)[qt]? = some x)/\(∀x,(o.set qv x)[qv]? = some x) :=
  fun o ρ' T' X R h=>⟨h.get (by simp[zaI]),h.get (by simp[zaX,tkC]),h.get (by simp[jvB]),h.get (by simp[zvB]),fun x=>zk (h.lt (i:=qr) (x:=zvB) (by simp)),fun x=>zk (h.lt (i:=qt) (x:=zaX T') (by simp)),fun x=>zk (h.lt (i:=qv) (x:=jvB 6 .nil X) (by simp))⟩
 subst hY;refine zaa fun Y hY=>?_;obtain⟨e1,e2,e3,e4,s1,s2,s3⟩:=st _ _ _ _ _ hO4;simp only[sxZ,z6,z7,z8,j4,j5,j6,j7,j8,j9,x3,x4,x5,x6,x7,x8,reduceCtorEq,↓reduceIte,e2];refine zai (zfy T 93 ?_)
 cases hcl:isP T 93 with
 | true=>
  rw[hcl,if_pos rfl] at hrarr;simp only[sxZ,z6,z7,z8,j4,j5,j6,j7,j8,j9,x3,x4,x5,x6,x7,x8,reduceCtorEq,↓reduceIte,e3,e4,s1];exact fin hrarr (.inl ⟨rfl,by rw[zak],rfl,rfl⟩) hO4
 | false=>
  rw[hcl,if_neg Bool.false_ne_true] at hrarr;simp only[sxZ,z6,z7,z8,j4,j5,j6,j7,j8,j9,x3,x4,x5,x6,x7,x8,reduceCtorEq,↓reduceIte];subst hY;refine zaa fun Y hY=>?_;clear e1 e2 e3 e4 s1 s2 s3;have last:∀(o:List OB) (ρ':Rs) (T':Tk) (acc:List JV) (X:AV) (R:List (Nat×OB)) (tm:List AV),zg7 s val ρ=(.mk 6 [] [] acc,ρ')->SlO 25 4 acc.length (zac acc) X R->zaK ((p,zaI s ρ')::(qt,zaX T')::(qv,jvB 6 .nil X)::(qr,zvB)::(R++L)) o->True:=fun _ _ _ _ _ _ _ _ _ _=>trivial;simp only[sxZ,z6,z7,z8,j4,j5,j6,j7,j8,j9,x3,x4,x5,x6,x7,x8,reduceCtorEq,↓reduceIte];refine zaF (fun n o tm=>∃(i:Nat) (ρ':Rs) (T':Tk) (acc:List JV) (X:AV) (R:List (Nat×OB)),n=s.length+2 - i/\acc.length=i/\zg7 s val ρ=(.mk 6 [] [] (zdM s val n ρ' T' acc).1,(zdM s val n ρ' T' acc).2)/\GB s ρ'/\GT ρ' T'/\T'.2.1.length<=s.length/\(ρ'.fail=0->i<=ρ'.nodes)/\SlO 25 4 acc.length (zac acc) X R/\zaK ((p,zaI s ρ')::(qt,zaX T')::(qv,jvB 6 .nil X)::(qr,zvB)::(R++L)) o /\
    tm.length=49/\tm[0]? = some (.p p 0)/\tm[1]? = some (.i .i64 (d:Int))/\tm[4]? = some (.p qr 0)/\tm[5]? = some (.p qv 0)/\tm[6]? = some (.p qt 0)) (s.length+2) ⟨0,ρ1,T,[],.nil,[],rfl,rfl,hrarr,hB1.1,hB1.2,hT1,fun _=>zh _,.inl ⟨rfl,by rw[zak],rfl,rfl⟩,hO4,rfl,rfl,rfl,rfl,rfl,rfl⟩ ?_
  clear hO hO1 hO2 hO2' hO3 hO4 hrarr hB1 hT1 hcl hn0;rintro n o tm ⟨i,ρ',T',acc,X,R,rfl,hi,hrarr,hGB,hGT,hTx,hnd,hS,hO,hlen,t0,t1,t4,t5,t6⟩;obtain⟨e1,e2,e3,e4,s1,s2,s3⟩:=st _ _ _ _ _ hO;refine zaa fun Z hZ=>?_
  by_cases c1:ρ'.fail=0
  rotate_left
  ·have he:zdM s val (s.length+2 - i) ρ' T' acc=(acc,ρ'):=by
    cases s.length+2 - i with
    | zero=>rw[zdM]
    | succ m=>rw[zdM,if_pos c1]
   rw[he] at hrarr;simp only[sxZ,z6,z7,z8,j4,j5,j6,j7,j8,j9,x3,x4,x5,x6,x7,x8,reduceCtorEq,↓reduceIte,za,hlen,t0,e1,c1];subst hZ;subst hY;simp only[sxZ,z6,z7,z8,j4,j5,j6,j7,j8,j9,x3,x4,x5,x6,x7,x8,reduceCtorEq,↓reduceIte,za,hlen,t4,t5,e3,e4,s1];exact fin hrarr hS hO
  have hil:i<=s.length:=by
   have h1:=hnd c1;have h2:=hGB.n0 c1;have h3:=hGB.p1;omega
  obtain⟨m,hm⟩:∃m,s.length+2 - i=m+1:=⟨s.length+1 - i,by omega⟩;rw[hm,zdM,if_neg (fun h=>h c1)] at hrarr;simp only at hrarr;simp only[sxZ,z6,z7,z8,j4,j5,j6,j7,j8,j9,x3,x4,x5,x6,x7,x8,reduceCtorEq,↓reduceIte,za,hlen,t0,e1,c1];subst hZ;rw[zaO];refine zaa fun Z hZ=>?_;have hvc:=fun {objs:List OB} {K:List OB->AV->Prop} {L:List (Nat×OB)} (h1) (h2) (h3)=>hv (objs:=objs) (K:=K) (L:=L) (ρ:=ρ') T' hGB hGT hTx h1 h2 h3;have hg1:=hg ρ' T' hGB hGT;have hn1:=hn ρ' T';generalize val ρ' T'=a at hvc hg1 hn1 hrarr;obtain⟨v,ρ2⟩:=a;simp only at hvc hg1 hn1 hrarr;obtain⟨c0,c1',c2,c3,hcv⟩:∃c0 c1 c2 c3,zae v=[c0,c1,c2,c3]:=⟨_,_,_,_,zaf v⟩;have hCL:zaJ ((p,zaI s ρ')::(qt,zaX T')::(qv,jvB 6 .nil X)::(qr,zvB)::(R++L)):=zgI (E1:=0) (s1:=0) (R1:=[]) (.inl ⟨rfl,rfl,rfl,rfl⟩) hS hC;refine zaz (fun o tm=>∃X' R',SlO 25 4 (acc++[v]).length (zac (acc++[v])) X' R'/\zaK ((p,zaI s ρ2)::(qt,zaX T')::(qv,jvB 6 .nil X')::(qr,zvB)::(R'++L)) o/\tm.length=49/\tm[0]? = some (.p p 0)/\tm[1]? = some (.i .i64 (d:Int))/\tm[4]? = some (.p qr 0)/\tm[5]? = some (.p qv 0)/\tm[6]? = some (.p qt 0)) ?_ ?_
  ·simp only[sxZ,z6,z7,z8,j4,j5,j6,j7,j8,j9,x3,x4,x5,x6,x7,x8,reduceCtorEq,↓reduceIte,za,hlen,t0,t1,t5,t6,e2,e3];refine zai (hvc hCL hO fun o2 hO2=>?_);obtain⟨e1',e2',e3',e4',s1',s2',s3'⟩:=st _ _ _ _ _ hO2;rw[hcv];rcases hS with ⟨z1,z2,rfl,rfl⟩|⟨b,g,rfl,rfl⟩
   ·have a0:acc=[]:=jo z1;have hlt:=hO2.lt (i:=qv) (x:=jvB 6 .nil .nil) (by simp);have hne:¬o2.length=qv:=by omega
    have gx:∀x,(o2++[x])[qv]? = some (.box 25 [.i .i64 6,.s [],.nil,.nil]):=fun x=>by rw[zj hlt];exact e3'
    simp only[sxZ,z6,z7,z8,j4,j5,j6,j7,j8,j9,x3,x4,x5,x6,x7,x8,reduceCtorEq,↓reduceIte,za,hlen,t0,t1,t5,t6,e2',e3',gn1,sn1,gx,hne,zab,zi,t4,and_self,and_true];have hN:=hO2.new (.orow 25 4 0 1 [c0,c1',c2,c3]);have hR:=hN.set (A:=[(o2.length,OB.orow 25 4 0 1 [c0,c1',c2,c3]),(p,zaI s ρ2),(qt,zaX T')]) (jvB 6 .nil (.orow o2.length 0));refine⟨_,[(o2.length,.orow 25 4 0 1 [c0,c1',c2,c3])],.inr ⟨_,_,rfl,by rw[a0,zy,zao,zak,hcv];rfl⟩,hR.perm ?_⟩;exact List.perm_middle (l₁:=[(p,zaI s ρ2),(qt,zaX T'),(qv,jvB 6 .nil (.orow o2.length 0)),(qr,zvB)]).symm
   ·have e5:=hO2.get (i:=b) (x:=.orow 25 4 g acc.length (zac acc)) (by simp);have hlt:=hO2.lt (i:=qv) (x:=jvB 6 .nil (.orow b g)) (by simp);have hlt4:=hO2.lt (i:=b) (x:=.orow 25 4 g acc.length (zac acc)) (by simp);have hne:¬b=qv:=by
     intro h;have:=hO2.1;simp only[zo,qy,List.nodup_cons] at this;exact this.2.2.1 (by simp[h])
    have gs:∀x,(o2.set b x)[b]? = some x:=fun x=>zk hlt4;have gx:∀x,(o2.set b x)[qv]? = some (.box 25 [.i .i64 6,.s [],.nil,.orow b g]):=fun x=>by rw[ze hne];exact e3'
    have hjl:=zav acc;simp only[sxZ,z6,z7,z8,j4,j5,j6,j7,j8,j9,x3,x4,x5,x6,x7,x8,reduceCtorEq,↓reduceIte,za,hlen,t0,t1,t5,t6,e2',e3',e5,gs,gx,hne,zab,zi,t4,and_self,and_true];refine⟨⟨by omega,by omega⟩,?_⟩;have hN:=hO2.set (A:=[(p,zaI s ρ2),(qt,zaX T'),(qv,jvB 6 .nil (.orow b g)),(qr,zvB)]) (.orow 25 4 (g+1) (acc.length+1) (zac acc++[c0,c1',c2,c3]));have hR:=hN.set (A:=[(p,zaI s ρ2),(qt,zaX T')]) (jvB 6 .nil (.orow b (g+1)));exact⟨_,[(b,.orow 25 4 (g+1) (acc.length+1) (zac acc++[c0,c1',c2,c3]))],.inr ⟨_,_,rfl,by rw[za4,zao,zak,hcv];rfl⟩,hR⟩
  ·clear hO hS hlen t0 t1 t4 t5 t6 e1 e2 e3 e4 s1 s2 s3 hCL hvc hv hg hn;rintro o5 tm ⟨X',R',hS,hO5,hlen,t0,t1,t4,t5,t6⟩;subst hZ;refine zaa fun Z hZ=>?_;simp only[sxZ,z6,z7,z8,j4,j5,j6,j7,j8,j9,x3,x4,x5,x6,x7,x8,reduceCtorEq,↓reduceIte,za,hlen,t0];refine zai (zcx (by omega) hO5 fun o6 hO6=>?_);have hB2:=zbl hg1;have hT2:=zbD hg1;have hn2:=zbe s ρ2;have hfz:=zb3 s ρ2;generalize zar s ρ2=N at hO6 hB2 hT2 hn2 hfz hrarr ⊢;obtain⟨T2,ρ3⟩:=N;simp only at hO6 hB2 hT2 hn2 hfz hrarr ⊢;obtain⟨e1,e2,e3,e4,s1,s2,s3⟩:=st _ _ _ _ _ hO6;unfold zhE tkC;simp only[sxZ,z6,z7,z8,j4,j5,j6,j7,j8,j9,x3,x4,x5,x6,x7,x8,reduceCtorEq,↓reduceIte,za,hlen,t6,e2,s2];rw[f1];have hO7:=zaK.set (A:=[(p,zaI s ρ3)]) (zaX T2) hO6;have hO7:zaK ((p,zaI s ρ3)::(qt,zaX T2)::(qv,jvB 6 .nil X')::(qr,zvB)::(R'++L)) (o6.set qt (zaX (T2.1,T2.2.1,T2.2.2))):=hO7;generalize o6.set qt (zaX (T2.1,T2.2.1,T2.2.2))=o7 at hO7 ⊢;refine zco (fun t=>t.length=49/\t[0]? = some (.p p 0)/\t[1]? = some (.i .i64 (d:Int))/\t[4]? = some (.p qr 0)/\t[5]? = some (.p qv 0)/\t[6]? = some (.p qt 0)) ?_ ?_
   ·simp only[sxZ,z6,z7,z8,j4,j5,j6,j7,j8,j9,x3,x4,x5,x6,x7,x8,reduceCtorEq,↓reduceIte,zi,za,hlen,t0,t1,t4,t5,t6,and_self]
   clear hO6 hO5 hlen t0 t1 t4 t5 t6 e1 e2 e3 e4 s1 s2 s3;rintro tm ⟨hlen,t0,t1,t4,t5,t6⟩;obtain⟨e1,e2,e3,e4,s1,s2,s3⟩:=st _ _ _ _ _ hO7;subst hZ;refine zaa fun Z hZ=>?_;simp only[sxZ,z6,z7,z8,j4,j5,j6,j7,j8,j9,x3,x4,x5,x6,x7,x8,reduceCtorEq,↓reduceIte,za,hlen,t6,e2];refine zai (zfy T2 93 ?_)
   cases hcl:isP T2 93 with
   | true=>
    rw[hcl,if_pos rfl] at hrarr;simp only[sxZ,z6,z7,z8,j4,j5,j6,j7,j8,j9,x3,x4,x5,x6,x7,x8,reduceCtorEq,↓reduceIte,za,hlen,t4,t5,e3,e4,s1];exact fin hrarr hS hO7
   | false=>
    rw[hcl,if_neg Bool.false_ne_true] at hrarr;simp only[sxZ,z6,z7,z8,j4,j5,j6,j7,j8,j9,x3,x4,x5,x6,x7,x8,reduceCtorEq,↓reduceIte,za,hlen];subst hZ;refine zaa fun Z hZ=>?_;refine zaz (fun o tm=>zaK ((p,zaI s (zbb ρ3 T2 44))::(qt,zaX T2)::(qv,jvB 6 .nil X')::(qr,zvB)::(R'++L)) o/\tm.length=49/\tm[0]? = some (.p p 0)/\tm[1]? = some (.i .i64 (d:Int))/\tm[4]? = some (.p qr 0)/\tm[5]? = some (.p qv 0)/\tm[6]? = some (.p qt 0)) ?_ ?_
    ·refine zaa fun W hW=>?_
     by_cases c3:ρ3.fail=0
     rotate_left
     ·have hw:zbb ρ3 T2 44=ρ3:=by unfold zbb;rw[if_neg (fun h=>c3 h.1)]
      simp only[sxZ,z6,z7,z8,j4,j5,j6,j7,j8,j9,x3,x4,x5,x6,x7,x8,reduceCtorEq,↓reduceIte,za,hlen,t0,e1,c3];subst hW;simp only[sxZ,z6,z7,z8,j4,j5,j6,j7,j8,j9,x3,x4,x5,x6,x7,x8,reduceCtorEq,↓reduceIte,zab,zi,za,hlen,t0,t1,t4,t5,t6,hw,and_self,and_true];exact hO7
     ·simp only[sxZ,z6,z7,z8,j4,j5,j6,j7,j8,j9,x3,x4,x5,x6,x7,x8,reduceCtorEq,↓reduceIte,za,hlen,t0,t6,e1,e2,c3];refine zai (zfy T2 44 ?_)
      cases h44:isP T2 44 with
      | true=>
       have hw:zbb ρ3 T2 44=ρ3:=by unfold zbb;rw[if_neg (fun h=>by rw[h44] at h;cases h.2)]
       simp only[sxZ,z6,z7,z8,j4,j5,j6,j7,j8,j9,x3,x4,x5,x6,x7,x8,reduceCtorEq,↓reduceIte,za,hlen];subst hW;simp only[sxZ,z6,z7,z8,j4,j5,j6,j7,j8,j9,x3,x4,x5,x6,x7,x8,reduceCtorEq,↓reduceIte,zab,zi,za,hlen,t0,t1,t4,t5,t6,hw,and_self,and_true];exact hO7
      | false=>
       have hw:zbb ρ3 T2 44=zaY ρ3 T2.2.2 140:=by unfold zbb;rw[if_pos ⟨c3,h44⟩]
       simp only[sxZ,z6,z7,z8,j4,j5,j6,j7,j8,j9,x3,x4,x5,x6,x7,x8,reduceCtorEq,↓reduceIte,za,hlen];subst hW;simp only[sxZ,z6,z7,z8,j4,j5,j6,j7,j8,j9,x3,x4,x5,x6,x7,x8,reduceCtorEq,↓reduceIte,za,hlen,t0,t6,e2];refine zai (zca hO7 T2.2.2 140 fun o8 hO8=>?_);simp only[sxZ,z6,z7,z8,j4,j5,j6,j7,j8,j9,x3,x4,x5,x6,x7,x8,reduceCtorEq,↓reduceIte,zab,zi,za,hlen,t0,t1,t4,t5,t6,hw,and_self,and_true];exact hO8
    ·clear hO7 hlen t0 t1 t4 t5 t6 e1 e2 e3 e4 s1 s2 s3;rintro o8 tm ⟨hO8,hlen,t0,t1,t4,t5,t6⟩;subst hZ;have hB3:=zeC hB2.1 T2 44;have hn3:=zep ρ3 T2 44;have hfz3:=zeq ρ3 T2 44;generalize zbb ρ3 T2 44=ρ4 at hO8 hB3 hn3 hfz3 hrarr;simp only[sxZ,z6,z7,z8,j4,j5,j6,j7,j8,j9,x3,x4,x5,x6,x7,x8,reduceCtorEq,↓reduceIte,za,hlen,t0];refine zai (zcx (by omega) hO8 fun o9 hO9=>?_);have hB4:=zbl hB3;have hT4:=zbD hB3;have hn4:=zbe s ρ4;have hfz4:=zb3 s ρ4;generalize zar s ρ4=N at hO9 hB4 hT4 hn4 hfz4 hrarr ⊢;obtain⟨T5,ρ5⟩:=N;simp only at hO9 hB4 hT4 hn4 hfz4 hrarr ⊢;obtain⟨e1,e2,e3,e4,s1,s2,s3⟩:=st _ _ _ _ _ hO9;unfold zhE tkC;simp only[sxZ,z6,z7,z8,j4,j5,j6,j7,j8,j9,x3,x4,x5,x6,x7,x8,reduceCtorEq,↓reduceIte,za,hlen,t6,e2,s2];rw[f1];have hO10:zaK ((p,zaI s ρ5)::(qt,zaX T5)::(qv,jvB 6 .nil X')::(qr,zvB)::(R'++L)) (o9.set qt (zaX (T5.1,T5.2.1,T5.2.2))):=zaK.set (A:=[(p,zaI s ρ5)]) (zaX T5) hO9;generalize o9.set qt (zaX (T5.1,T5.2.1,T5.2.2))=o10 at hO10 ⊢;refine⟨m,by omega,i+1,ρ5,T5,acc++[v],X',R',by omega,by rw[zp,hi];rfl,hrarr,hB4.1,hB4.2,hT4,fun hf=>?_,hS,hO10,?_⟩
     ·have q4:ρ4.fail=0:=by
       by_cases c:ρ4.fail=0
       ·exact c
       ·exact absurd ((hfz4 c).1.symm.trans hf) c
      have q3:ρ3.fail=0:=by
       by_cases c:ρ3.fail=0
       ·exact c
       ·exact absurd ((hfz3 c).1.symm.trans q4) c
      have q2:ρ2.fail=0:=by
       by_cases c:ρ2.fail=0
       ·exact c
       ·exact absurd ((hfz c).1.symm.trans q3) c
      have:=hn1 q2;have:=hnd c1;omega
     ·simp only[sxZ,z6,z7,z8,j4,j5,j6,j7,j8,j9,x3,x4,x5,x6,x7,x8,reduceCtorEq,↓reduceIte,zi,za,hlen,t0,t1,t4,t5,t6,and_self]
end
end
end Go.Proofs.YtceenajkieomoaaGreatDoor
