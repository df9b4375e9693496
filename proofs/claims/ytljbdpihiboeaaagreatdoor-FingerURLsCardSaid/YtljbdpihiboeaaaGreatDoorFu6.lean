/- The texts that the proofs of these statements reach, in their order, as few files. -/
import Derived.Deep.RegionHeld3
import Derived.WideMake
import Derived.Lib.Split
import Derived.Lib.IndexMore
import Derived.Lib.SplitLaws
import Derived.Lib.Join
import Derived.ProofKit
import Derived.OpenShut
import Derived.ShutString
import Derived.Carry
import Derived.WideKeyArgs
import Derived.SizedLaws
import Derived.Test.YtljbdpihiboeaaaGreatDoorFu5
set_option linter.unusedVariables false
set_option linter.unusedSimpArgs false
set_option maxRecDepth 100000
namespace Go.Proofs.YtljbdpihiboeaaaGreatDoor
open Go.RowKit
def zhi:List UInt8:=[33,35,36,37,38,39,42,43,45,47,61,63,94,95,96,123,124,125,126]
def zeM (c:UInt8):Bool:=za0 c || zak c || zbb c zhi
def goL:Bool → List UInt8 → Bool
 | ad,[] => !ad
 | ad,c :: t => if c=46 then !ad && goL true t else zeM c && goL false t
def zbX (l:List UInt8):Bool:=decide (l.length ≤ 64) && goL true l
def zfm (l:List UInt8):Bool:=!l.isEmpty && l.all zeM
theorem zmf (ad:Bool) (c:UInt8) (t:List UInt8):goL ad (c :: t)=if c=46 then !ad && goL true t else zeM c && goL false t:=rfl
theorem zj0:∀ (l p:List UInt8) (ps:List (List UInt8)),zag 46 l=p :: ps → goL true l=(zfm p && ps.all zfm) ∧ goL false l=(p.all zeM && ps.all zfm)
 | [],p,ps,h => by
  rw [zag] at h; injection h with h1 h2; subst h1 h2; exact ⟨rfl,rfl⟩
 | c :: t,p,ps,h => by
  obtain ⟨q,qs,e⟩:=zaG 46 t
  obtain ⟨i1,i2⟩:=zj0 t q qs e
  rw [zaE,e] at h
  rw [zmf,zmf]
  by_cases hc:c=46
  ·rw [if_pos hc] at h
   rw [if_pos hc,if_pos hc,i1]
   injection h with h1 h2
   subst h1 h2
   simp [zfm]
  ·rw [if_neg hc] at h
   rw [if_neg hc,if_neg hc,i2]
   injection h with h1 h2
   subst h1 h2
   simp [zfm,Bool.and_assoc]
theorem zkK (l:List UInt8):goL true l=(zag 46 l).all zfm:=by
 obtain ⟨q,qs,e⟩:=zaG 46 l
 rw [(zj0 l q qs e).1,e]; rfl
theorem zfO (c:UInt8) (s:ByteArray) (w:World) :
  Calls Tryz.prog 207 #[.int .u8 c.toNat,.string s] w fun e w' => e=.returned (.bool (zbb c s.data.toList)) ∧ w=w':=by
 go_enter Tryz.func207,Tryz.ntmps207
 go_wp2_with (go_at_call 121; refine (Tryz.strings_IndexByte _ _ _).mono ?_; rintro e w' ⟨rfl,rfl⟩)
 go_ret
 exact ⟨zaj (by unfold zbb; rw [Lib.contains_iff_indexByte]),rfl⟩
theorem zhY (c:UInt8) (w:World) :
  Calls Tryz.prog 244 #[.int .u8 c.toNat] w fun e w' => e=.returned (.bool (zeM c)) ∧ w=w':=by
 go_enter Tryz.func244,Tryz.ntmps244
 go_wp2_with (first | (go_at_call 176; refine (zba _ _).mono ?_; rintro e w' ⟨rfl,rfl⟩) | (go_at_call 177; refine (zaT _ _).mono ?_; rintro e w' ⟨rfl,rfl⟩) | (go_at_call 207; refine (zfO _ _ _).mono ?_; rintro e w' ⟨rfl,rfl⟩))
 all_goals go_ret
 all_goals exact ⟨zaj (by simp_all [zeM,zhi]),rfl⟩
theorem zjv (c:UInt8) (w:World) :
  Calls Tryz.prog 139 #[.int .u8 c.toNat] w fun e w' => e=.returned (.bool (zeM c)) ∧ w=w':=by
 go_enter Tryz.func139,Tryz.ntmps139
 go_wp2_with (first | (go_at_call 123; refine (za4 _ _).mono ?_; rintro e w' ⟨rfl,rfl⟩) | (go_at_call 124; refine (za3 _ _).mono ?_; rintro e w' ⟨rfl,rfl⟩) | (go_at_call 92; refine (zb3 _ _ _ (by decide)).mono ?_; rintro e w' ⟨rfl,rfl⟩))
 all_goals go_ret
 all_goals exact ⟨zaj (by simp_all [zeM,zhi]),rfl⟩
theorem zko (s:ByteArray) (w:World) (hs:s.size ≤ maxLen) :
  Calls Tryz.prog 208 #[.string s] w fun e w' => e=.returned (.bool (zbX s.data.toList)) ∧ w=w':=by
 have hm:=hs
 unfold maxLen at hm
 have hsz:=zaa s
 by_cases h64:64 < s.size
 ·have HF:Hid (zbX s.data.toList=false):=Lib.hid (by unfold zbX; rw [hsz,decide_eq_false (by omega)]; rfl)
  go_enter Tryz.func208,Tryz.ntmps208
  go_wp2_with fail
  go_ret
  exact ⟨zaj (by rw [HF.out]),rfl⟩
 ·have HF:Hid (zbX s.data.toList=goL true s.data.toList):=Lib.hid (by unfold zbX; rw [hsz,decide_eq_true (by omega)]; rfl)
  go_enter Tryz.func208,Tryz.ntmps208
  go_wp2_with fail
  go_loop [3,4,5,11] (fun a _ _ i => ∃ (k:Nat) (b:Bool),k ≤ s.size ∧ i=.int .i64 k ∧ a=.bool b ∧ Hid (goL true s.data.toList=goL b (s.data.toList.drop k))) (fun _ _ _ i => s.size - (intOf i).toNat)
  case atStart => exact ⟨0,true,Nat.zero_le _,rfl,rfl,Lib.hid (by simp)⟩
  case round =>
   obtain ⟨k,b,hk,rfl,rfl,HT⟩:=hrel
   by_cases hlt:k < s.size
   ·have hd:Hid (goL b (s.data.toList.drop k)=if s[k]=46 then !b && goL true (s.data.toList.drop (k + 1)) else zeM s[k] && goL false (s.data.toList.drop (k + 1))):=Lib.hid (by rw [zaX s k hlt]; rfl)
    by_cases hc:s[k]=46
    ·have hb:((s[k].toNat:Int) == 46)=true:=by rw [hc]; rfl
     rcases b with _ | _
     ·have HN:Hid (goL true s.data.toList=goL true (s.data.toList.drop (k + 1))):=Lib.hid (by rw [HT.out,hd.out,if_pos hc]; rfl)
      clear hc hd
      go_wp2_with fail
      go_round
      case rel => exact ⟨k + 1,true,by omega,by go_num,rfl,HN⟩
      case measure => simp [intOf]; omega
     ·have HN:Hid (goL true s.data.toList=false):=Lib.hid (by rw [HT.out,hd.out,if_pos hc]; rfl)
      clear hc hd
      go_wp2_with fail
      go_ret
      exact ⟨zaj (by rw [HF.out,HN.out]),rfl⟩
    ·have hb:((s[k].toNat:Int) == 46)=false:=by
      rw [beq_eq_false_iff_ne]; intro e; exact hc (UInt8.toNat_inj.1 (by have:(46:UInt8).toNat=46:=rfl; omega))
     rcases ha:zeM s[k] with _ | _
     ·have HN:Hid (goL true s.data.toList=false):=Lib.hid (by rw [HT.out,hd.out,if_neg hc,ha]; rfl)
      have H1:=Lib.hid ha
      clear hc hd ha
      go_wp2_with fail
      refine (zhY _ _).mono ?_
      rintro e w' ⟨rfl,rfl⟩
      rw [H1.out]
      go_wp2_with fail
      go_ret
      exact ⟨zaj (by rw [HF.out,HN.out]),rfl⟩
     ·have HN:Hid (goL true s.data.toList=goL false (s.data.toList.drop (k + 1))):=Lib.hid (by rw [HT.out,hd.out,if_neg hc,ha]; rfl)
      have H1:=Lib.hid ha
      clear hc hd ha
      go_wp2_with fail
      refine (zhY _ _).mono ?_
      rintro e w' ⟨rfl,rfl⟩
      rw [H1.out]
      go_wp2_with fail
      go_round
      case rel => exact ⟨k + 1,false,by omega,by go_num,rfl,HN⟩
      case measure => simp [intOf]; omega
   ·obtain rfl:k=s.size:=by omega
    have HN:Hid (goL true s.data.toList=!b):=Lib.hid (by rw [HT.out,List.drop_of_length_le (by omega)]; rfl)
    go_wp2_with fail
    go_ret
    exact ⟨zaj (by rw [HF.out,HN.out]),rfl⟩
theorem zey (s:ByteArray) (w:World) (hs:s.size ≤ 1000000) :
  Calls Tryz.prog 113 #[.string s] w fun e w' => e=.returned (.bool (zbX s.data.toList)) ∧ Qb w w':=by
 have hsz:=zaa s
 by_cases h0:s.size=0
 ·have HF:Hid (zbX s.data.toList=false):=Lib.hid (by rw [List.eq_nil_of_length_eq_zero (hsz.trans h0)]; rfl)
  obtain rfl:s=S []:=by rw [← S_of s,List.eq_nil_of_length_eq_zero (hsz.trans h0)]
  go_enter Tryz.func113,Tryz.ntmps113
  go_wp2_with fail
  go_ret
  exact ⟨zaj (by rw [HF.out]),Qb.refl w⟩
 ·have hpos0:0 < s.size:=by omega
  have hne:=zd3 hpos0
  by_cases h64:64 < s.size
  ·have HF:Hid (zbX s.data.toList=false):=Lib.hid (by unfold zbX; rw [hsz,decide_eq_false (by omega)]; rfl)
   go_enter Tryz.func113,Tryz.ntmps113
   go_wp2_with fail
   go_ret
   exact ⟨zaj (by rw [HF.out]),Qb.refl w⟩
  ·have HF:Hid (zbX s.data.toList=(zag 46 s.data.toList).all zfm):=Lib.hid (by unfold zbX; rw [hsz,decide_eq_true (by omega),zkK]; rfl)
   have hpos:=zbs 46 s.data.toList
   have hlen:=zc6 46 s.data.toList
   have hparts:∀ (k:Nat) (h:k < (zag 46 s.data.toList).length),((zag 46 s.data.toList)[k]).length ≤ 1000000:=fun k h => by
    have:=zc0 46 s.data.toList _ (List.getElem_mem h)
    omega
   rw [zaa] at hlen
   have HP:=Lib.hid hparts
   clear hparts
   go_enter Tryz.func113,Tryz.ntmps113
   go_wp2_with fail
   refine (zex s 46 _ hs).mono ?_
   rintro e w1 ⟨v,rfl,hrow,hq1⟩
   generalize zag 46 s.data.toList=ls at *
   obtain ⟨g,cap,rfl,hg0,hg1,hcap⟩:=hrow.form hpos
   have HR:=Lib.hid hrow
   clear hrow
   go_wp2_with fail
   go_loop [4,5,16] (fun _ _ i => ∃ k:Nat,k ≤ ls.length ∧ i=.int .i64 k ∧ Hid ((ls.take k).all zfm=true)) (fun _ _ i => ls.length - (intOf i).toNat)
   case atStart => exact ⟨0,Nat.zero_le _,rfl,Lib.hid rfl⟩
   case round =>
    obtain ⟨k,hk,rfl,HT⟩:=hrel
    by_cases hlt:k < ls.length
    ·have hcell:=HR.out.cell k hlt
     have hsx:=HP.out k hlt
     have HS:=Lib.hid (zev zfm ls k hlt)
     have HA:=Lib.hid (zdR zfm ls (k + 1))
     generalize ls[k]=x at *
     rcases x with _ | ⟨c,t⟩
     ·have HB2:Hid (zbX s.data.toList=false):=Lib.hid (by rw [HF.out,HA.out (by rw [HS.out]; simp [zfm])])
      go_wp2_with fail
      go_ret
      exact ⟨zaj (by rw [HB2.out]),hq1⟩
     ·obtain ⟨x,hx⟩:∃ x,x=c :: t:=⟨_,rfl⟩
      rw [← hx] at hcell hsx HS
      have hxe:x.isEmpty=false:=by rw [hx]; rfl
      have HX:Hid (zfm x=x.all zeM):=Lib.hid (by unfold zfm; rw [hxe]; rfl)
      clear hx
      go_wp2_with fail
      go_loop [5] (fun i => ∃ j:Nat,j ≤ x.length ∧ i=.int .i64 j ∧ Hid ((x.take j).all zeM=true)) (fun i => x.length - (intOf i).toNat)
      case atStart => exact ⟨0,Nat.zero_le _,rfl,Lib.hid rfl⟩
      case round =>
       obtain ⟨j,hj,rfl,HJ⟩:=hrel
       by_cases hl2:j < x.length
       ·have HS2:=Lib.hid (zev zeM x j hl2)
        have HA2:=Lib.hid (zdR zeM x (j + 1))
        have hS:Hid (∀ h,(S x)[j]'h=x[j]):=Lib.hid (fun h => rfl)
        rcases ha:zeM x[j] with _ | _
        ·have HB2:Hid (zbX s.data.toList=false):=Lib.hid (by rw [HF.out,HA.out (by rw [HS.out,HX.out,HA2.out (by rw [HS2.out,ha,Bool.and_false]),Bool.and_false])])
         have H1:=Lib.hid ha
         clear ha
         go_wp2_with fail
         refine (zjv _ _).mono ?_
         rintro e w2 ⟨rfl,rfl⟩
         rw [hS.out,H1.out]
         go_wp2_with fail
         go_ret
         exact ⟨zaj (by rw [HB2.out]),hq1⟩
        ·have HJ2:Hid ((x.take (j + 1)).all zeM=true):=Lib.hid (by rw [HS2.out,ha,HJ.out]; rfl)
         have H1:=Lib.hid ha
         clear ha
         go_wp2_with fail
         refine (zjv _ _).mono ?_
         rintro e w2 ⟨rfl,rfl⟩
         rw [hS.out,H1.out]
         go_wp2_with fail
         go_round
         case rel => exact ⟨j + 1,by omega,by go_num,HJ2⟩
         case measure => simp [intOf]; omega
       ·obtain rfl:j=x.length:=by omega
        have HT2:Hid ((ls.take (k + 1)).all zfm=true):=Lib.hid (by
         have:=HJ.out
         rw [List.take_length] at this
         rw [HS.out,HT.out,HX.out,this]; rfl)
        go_wp2_with fail
        go_round
        case rel => exact ⟨k + 1,by omega,by go_num,HT2⟩
        case measure => simp [intOf]; omega
    ·obtain rfl:k=ls.length:=by omega
     have HB2:Hid (zbX s.data.toList=true):=Lib.hid (by
      have:=HT.out
      rw [List.take_length] at this
      rw [HF.out,this])
     go_wp2_with fail
     go_ret
     exact ⟨zaj (by rw [HB2.out]),hq1⟩
end Go.Proofs.YtljbdpihiboeaaaGreatDoor
namespace Go.Proofs.YtljbdpihiboeaaaGreatDoor
open Go.RowKit
theorem zin:∀ (l:List UInt8) (n:Nat) (out:List UInt8),(rwS zcd n l out).2.length ≤ out.length + l.length
 | [],n,out => by cases n <;> simp [rwS]
 | c :: t,0,out => by
  rw [rwS]
  have i1:=zin t
  split
  ·split
   ·rw [if_pos (show (zcd out (zcl (c :: t)) true).1=0 from rfl)]
    exact Nat.le_trans (i1 2 _) (by simp [zcd]; omega)
   ·simp
  ·rw [if_pos (show (zcd out c false).1=0 from rfl)]
   exact Nat.le_trans (i1 0 _) (by simp [zcd]; omega)
 | c :: t,n + 1,out => by
  rw [rwS]
  have:=zin t n out
  simp at this ⊢; omega
theorem zmJ (l:List UInt8):(zaO l).2.length ≤ l.length:=by
 unfold zaO ze6
 split
 ·simp
 ·have:=zin l 0 []
  simpa using this
def zc1:List UInt8:=[33,36,39,42,43]
def zht (c:UInt8):Bool:=zau c || zbb c [37,33,36,39,42,43]
def zeN (l:List UInt8):Int × List UInt8 :=
 if l.all zht=false then (1,[])
 else if (zaO l).1 ≠ 0 then ((zaO l).1,[])
 else if zbX (zaO l).2=false then (80,[])
 else (0,(zaO l).2)
theorem zcH (s:ByteArray) (w:World) (hs:s.size ≤ 1000000) :
  Calls Tryz.prog 185 #[.string s] w fun e w' => e=.returned (zcX (zeN s.data.toList)) ∧ Qb w w':=by
 obtain ⟨er,d,hD⟩:∃ er d,zaO s.data.toList=(er,d):=⟨_,_,rfl⟩
 have hdl:d.length ≤ s.size:=by have:=zmJ s.data.toList; rw [hD,zaa] at this; exact this
 have HD:=Lib.hid hD
 have HL:Hid (s.data.toList.all zht=true → zeN s.data.toList=if er ≠ 0 then (er,[]) else if zbX d=false then (80,[]) else (0,d)):=Lib.hid (fun h => by unfold zeN; rw [hD,h]; rfl)
 have HL1:Hid (s.data.toList.all zht=false → zeN s.data.toList=(1,[])):=Lib.hid (fun h => by unfold zeN; rw [if_pos h])
 clear hD
 go_enter Tryz.func185,Tryz.ntmps185
 go_wp2_with fail
 go_loop [4,9] (fun _ i => ∃ k:Nat,k ≤ s.size ∧ i=.int .i64 k ∧ Hid ((s.data.toList.take k).all zht=true)) (fun _ i => s.size - (intOf i).toNat)
 case atStart => exact ⟨0,Nat.zero_le _,rfl,Lib.hid rfl⟩
 case round =>
  obtain ⟨k,hk,rfl,HT⟩:=hrel
  by_cases hlt:k < s.size
  ·have hst:zht s[k]=true → Hid ((s.data.toList.take (k + 1)).all zht=true):=fun h => Lib.hid (by rw [zcc _ _ _ hlt,h,HT.out]; rfl)
   have hbad:zht s[k]=false → Hid (s.data.toList.all zht=false):=fun h => Lib.hid (zbg _ _ (k + 1) (by rw [zcc _ _ _ hlt,h,Bool.and_false]))
   rcases ha:zau s[k] with _ | _
   ·rcases hb:zbb s[k] [37,33,36,39,42,43] with _ | _
    ·have HN:=hbad (by unfold zht; rw [ha,hb]; rfl)
     have H1:=Lib.hid ha
     have H2:=Lib.hid hb
     clear ha hb hst hbad
     go_wp2_with fail
     refine (zcf _ _).mono ?_
     rintro e w' ⟨rfl,rfl⟩
     rw [H1.out]
     go_wp2_with fail
     refine (zfO _ _ _).mono ?_
     rintro e w' ⟨rfl,rfl⟩
     rw [show zbb s[k] ({ data:=#[37,33,36,39,42,43] }:ByteArray).data.toList=false from H2.out]
     go_wp2_with fail
     go_ret2
     exact ⟨by rw [HL1.out HN.out]; rfl,Qb.refl w⟩
    ·have HN:=hst (by unfold zht; rw [ha,hb]; rfl)
     have H1:=Lib.hid ha
     have H2:=Lib.hid hb
     clear ha hb hst hbad
     go_wp2_with fail
     refine (zcf _ _).mono ?_
     rintro e w' ⟨rfl,rfl⟩
     rw [H1.out]
     go_wp2_with fail
     refine (zfO _ _ _).mono ?_
     rintro e w' ⟨rfl,rfl⟩
     rw [show zbb s[k] ({ data:=#[37,33,36,39,42,43] }:ByteArray).data.toList=true from H2.out]
     go_wp2_with fail
     go_round
     case rel => exact ⟨k + 1,by omega,by go_num,HN⟩
     case measure => simp [intOf]; omega
   ·have HN:=hst (by unfold zht; rw [ha]; rfl)
    have H1:=Lib.hid ha
    clear ha hst hbad
    go_wp2_with fail
    refine (zcf _ _).mono ?_
    rintro e w' ⟨rfl,rfl⟩
    rw [H1.out]
    go_wp2_with fail
    go_round
    case rel => exact ⟨k + 1,by omega,by go_num,HN⟩
    case measure => simp [intOf]; omega
  ·obtain rfl:k=s.size:=by omega
   have HA:Hid (zeN s.data.toList=if er ≠ 0 then (er,[]) else if zbX d=false then (80,[]) else (0,d)):=Lib.hid (HL.out (by
    rw [← zbL s s.size hlt]; exact HT.out))
   go_wp2_with fail
   refine (zgV _ _).mono ?_
   rintro e w1 ⟨rfl,hq1⟩
   rw [HD.out]
   unfold zcX
   by_cases he:er=0
   ·subst he
    rcases hl:zbX d with _ | _
    ·have HR:Hid (zeN s.data.toList=(80,[])):=Lib.hid (by rw [HA.out,hl]; rfl)
     have H1:=Lib.hid hl
     clear hl
     go_wp2_with fail
     refine (zko _ _ (by unfold maxLen; rw [zac]; omega)).mono ?_
     rintro e w2 ⟨rfl,rfl⟩
     rw [zab,H1.out]
     go_wp2_with fail
     go_ret2
     exact ⟨by rw [HR.out]; rfl,hq1⟩
    ·have HR:Hid (zeN s.data.toList=(0,d)):=Lib.hid (by rw [HA.out,hl]; rfl)
     have H1:=Lib.hid hl
     clear hl
     go_wp2_with fail
     refine (zko _ _ (by unfold maxLen; rw [zac]; omega)).mono ?_
     rintro e w2 ⟨rfl,rfl⟩
     rw [zab,H1.out]
     go_wp2_with fail
     go_ret2
     exact ⟨by rw [HR.out]; rfl,hq1⟩
   ·have HR:Hid (zeN s.data.toList=(er,[])):=Lib.hid (by rw [HA.out,if_pos he])
    have hb:(er != 0)=true:=by rw [bne_iff_ne]; exact he
    go_wp2_with fail
    go_ret2
    exact ⟨by rw [HR.out]; rfl,hq1⟩
def za7:List UInt8:=[109,97,105,108,116,111,58]
def zj2 (u h:List UInt8):List UInt8:=za7 ++ zbU u zc1 ++ [64] ++ h
end Go.Proofs.YtljbdpihiboeaaaGreatDoor
namespace Go.Proofs.YtljbdpihiboeaaaGreatDoor
open Go.RowKit
theorem Qb.cellkeep {w w':World} (h:Qb w w') {g i:Nat} {v:Value} (hc:w.cell? ⟨g,i,none⟩=some v):w'.cell? ⟨g,i,none⟩=some v:=by
 have hl:g < w.heap.size:=by
  rcases Nat.lt_or_ge g w.heap.size with h1 | h1
  ·exact h1
  ·simp [World.cell?,Array.getElem?_eq_none h1] at hc
 rw [← hc]
 simp only [World.cell?,h.block g hl]
theorem zmb {w w1 w2:World} {g:Nat} {u v:Value} (h:w1.cell? ⟨g,0,none⟩=some u ∧ w1.cell? ⟨g,1,none⟩=some v ∧ Qb w w1) (hq:Qb w1 w2):w2.cell? ⟨g,0,none⟩=some u ∧ w2.cell? ⟨g,1,none⟩=some v ∧ Qb w w2:=⟨hq.cellkeep h.1,hq.cellkeep h.2.1,h.2.2.trans hq⟩
theorem zpO {w w1:World} {p q:Prop} (h:p ∧ q ∧ Qb w w1):Qb w w1:=h.2.2
theorem zkJ (u h:List UInt8) (w:World) (hu:u.length ≤ 300000000) (hh:h.length ≤ 100000000000000000) :
  Calls Tryz.prog 158 #[za9 u h] w fun e w' => e=.returned (.string (S (zj2 u h))) ∧ Qb w w':=by
 have hel:=zcK u zc1
 have HK:Hid (({ data:=#[33,36,39,42,43] }:ByteArray).data.toList=zc1):=Lib.hid rfl
 have HFM:Hid (zj2 u h=za7 ++ zbU u zc1 ++ [64] ++ h):=Lib.hid rfl
 generalize hen:zbU u zc1=en at *
 have HE:=Lib.hid hen
 clear hen
 have b1:¬ (9223372036854775807 < 7 + en.length):=by omega
 have b2:¬ (9223372036854775807 < 7 + en.length + 1):=by omega
 have b3:¬ (9223372036854775807 < 7 + en.length + 1 + h.length):=by omega
 unfold za9
 go_enter Tryz.func158,Tryz.ntmps158
 go_wp2_with fail
 go_region_held3 (fun w' => w'.cell? ⟨w.heap.size,0,none⟩=some (.string (S u)) ∧ w'.cell? ⟨w.heap.size,1,none⟩=some (.string (S h)) ∧ Qb w w') (first | exact ⟨by assumption,by assumption,by assumption⟩ | exact ⟨((Obk.new w _ _).drew.cell 0).trans rfl,((Obk.new w _ _).drew.cell 1).trans rfl,((Qb.refl w).alloc _).drew⟩ | assumption | exact zmb (by assumption) hq1 | exact ⟨Qb.cellkeep hq1 (by assumption),Qb.cellkeep hq1 (by assumption),Qb.trans (by assumption) hq1⟩)
  (first | (go_at_call 46; refine (zgT _ _ _ (by rw [zac]; exact hu)).mono ?_; rintro e w1 ⟨rfl,hq1⟩; rw [zab,show zbU u ({ data:=#[33,36,39,42,43] }:ByteArray).data.toList=en from HE.out]))
 go_wp2_with fail
 go_ret
 exact ⟨zeh (S_eq (by rw [HFM.out]; unfold za7; simp [ByteArray.data_append])),zpO (by assumption)⟩
theorem zjn (u h:List UInt8) (w:World) (hu:u.length ≤ 300000000) (hh:h.length ≤ 100000000000000000) :
  Calls Tryz.prog 78 #[za9 u h] w fun e w' => e=.returned (.string (S (zj2 u h))) ∧ Qb w w':=by
 have hel:=zcK u zc1
 have HK:Hid (({ data:=#[33,36,39,42,43] }:ByteArray).data.toList=zc1):=Lib.hid rfl
 have HFM:Hid (zj2 u h=za7 ++ zbU u zc1 ++ [64] ++ h):=Lib.hid rfl
 generalize hen:zbU u zc1=en at *
 have HE:=Lib.hid hen
 clear hen
 have b1:¬ (9223372036854775807 < 7 + en.length):=by omega
 have b2:¬ (9223372036854775807 < 7 + en.length + 1):=by omega
 have b3:¬ (9223372036854775807 < 7 + en.length + 1 + h.length):=by omega
 unfold za9
 go_enter Tryz.func78,Tryz.ntmps78
 go_wp2_with fail
 go_region_held3 (fun w' => w'.cell? ⟨w.heap.size,0,none⟩=some (.string (S u)) ∧ w'.cell? ⟨w.heap.size,1,none⟩=some (.string (S h)) ∧ Qb w w') (first | exact ⟨by assumption,by assumption,by assumption⟩ | exact ⟨((Obk.new w _ _).drew.cell 0).trans rfl,((Obk.new w _ _).drew.cell 1).trans rfl,((Qb.refl w).alloc _).drew⟩ | assumption | exact zmb (by assumption) hq1 | exact ⟨Qb.cellkeep hq1 (by assumption),Qb.cellkeep hq1 (by assumption),Qb.trans (by assumption) hq1⟩)
  (first | (go_at_call 49; refine (zgO _ _ _ (by rw [zac]; exact hu) (by decide)).mono ?_; rintro e w1 ⟨rfl,hq1⟩; rw [zab,show zbU u ({ data:=#[33,36,39,42,43] }:ByteArray).data.toList=en from HE.out]))
 go_wp2_with fail
 go_ret
 exact ⟨zeh (S_eq (by rw [HFM.out]; unfold za7; simp [ByteArray.data_append])),zpO (by assumption)⟩
end Go.Proofs.YtljbdpihiboeaaaGreatDoor
namespace Go.Proofs.YtljbdpihiboeaaaGreatDoor
open Go.RowKit
theorem zdQ (s:ByteArray) (w:World) (hs:s.size ≤ 1000000) (h8:8 < s.size ∨ ∀ (j:Nat) b,s.data.toList[j]? = some b → b.toNat < 128) :
  Calls Tryz.prog 184 #[.string s,.string ⟨#[63,35]⟩] w fun e w' => e=.returned (.bool (Lib.containsAny s.data.toList [63,35])) ∧ Qb w w':=by
 have hac:∀ (j:Nat) b,(⟨#[63,35]⟩:ByteArray).data.toList[j]? = some b → b.toNat < 128:=by
  intro j b h
  rcases j with _ | _ | j
  ·injection h with h; subst h; decide
  ·injection h with h; subst h; decide
  ·cases h
 rcases h8 with h8 | h8
 ·go_enter Tryz.func184,Tryz.ntmps184
  go_wp2_with fail
  refine (Tryz.strings_IndexAny_long (zero_of_info (n:=256) (by kernel_rfl)).1 s ⟨#[63,35]⟩ w (by decide) h8 (by omega) (by decide) hac).mono ?_
  rintro e w1 ⟨rfl,rfl⟩
  go_wp2_with fail
  go_ret
  exact ⟨rfl,((Qb.refl w).alloc _).alloc _⟩
 ·exact (Tryz.strings_ContainsAny_laid s ⟨#[63,35]⟩ w (by omega) (by decide) h8 hac)
end Go.Proofs.YtljbdpihiboeaaaGreatDoor
namespace Go.Proofs.YtljbdpihiboeaaaGreatDoor
open Go.RowKit
def anyQ (l:List UInt8):Bool:=Lib.containsAny l [63,35]
def zaW (l:List UInt8):Int × List UInt8 × List UInt8 :=
 if 4096 < l.length then (5,[],[])
 else if l.length < 7 ∨ eqL (l.take 7) za7=false then (60,[],[])
 else if (zaq 64 (l.drop 7)).2.2=false ∨ anyQ (l.drop 7)=true then (6,[],[])
 else if (zeN (zaq 64 (l.drop 7)).1).1 ≠ 0 then ((zeN (zaq 64 (l.drop 7)).1).1,[],[])
 else if (zaK (zaq 64 (l.drop 7)).2.1).1 ≠ 0 then ((zaK (zaq 64 (l.drop 7)).2.1).1,[],[])
 else if zcs (zaK (zaq 64 (l.drop 7)).2.1).2=true then (50,[],[])
 else (0,(zeN (zaq 64 (l.drop 7)).1).2,(zaK (zaq 64 (l.drop 7)).2.1).2)
theorem any_cons (c:UInt8) (l cs:List UInt8):Lib.containsAny (c :: l) cs=(cs.contains c || Lib.containsAny l cs):=by
 unfold Lib.containsAny
 have hg:=Lib.indexAny_ge cs l
 rw [Lib.indexAny]
 rcases h:cs.contains c with _ | _
 ·rw [if_neg Bool.false_ne_true]
  by_cases h1:Lib.indexAny l cs=-1
  ·rw [h1]; rfl
  ·rw [if_neg (by simpa using h1),Bool.false_or]
   rw [Bool.eq_iff_iff]; simp only [decide_eq_true_eq]; omega
 ·simp
theorem zfu:∀ l cs:List UInt8,Lib.containsAny l cs=l.any (fun c => zbb c cs)
 | [],cs => rfl
 | c :: l,cs => by rw [any_cons,zfu l cs]; rfl
theorem zpG (l cs:List UInt8):zaz l cs=l.length ↔ Lib.containsAny l cs=false:=by
 rw [zfu]
 unfold zaz
 rw [List.findIdx_eq_length]
 simp
theorem zno:∀ n:Fin 256,zc9 (UInt8.ofNat n.val) ∈ za7 → (UInt8.ofNat n.val).toNat < 128 ∧ zbb (UInt8.ofNat n.val) [63,35]=false:=by decide +kernel
theorem low_pre (c:UInt8) (h:zc9 c ∈ za7):c.toNat < 128 ∧ zbb c [63,35]=false:=by
 have h1:=zno ⟨c.toNat,c.toNat_lt⟩
 simp only [UInt8.ofNat_toNat] at h1
 exact h1 h
theorem zjy (l:List UInt8) (h:eqL l za7=true):∀ c ∈ l,c.toNat < 128 ∧ zbb c [63,35]=false:=by
 intro c hc
 refine low_pre c ?_
 have e:zbi l=zbi za7:=by simpa [eqL] using h
 have e2:zbi za7=za7:=by decide +kernel
 rw [← e2,← e]
 exact List.mem_map_of_mem hc
theorem any_pre (l:List UInt8) (h:eqL (l.take 7) za7=true):Lib.containsAny l [63,35]=anyQ (l.drop 7):=by
 unfold anyQ
 rw [zfu,zfu]
 conv => lhs; rw [← List.take_append_drop 7 l]
 rw [List.any_append]
 have:(l.take 7).any (fun c => zbb c [63,35])=false:=by
  rw [List.any_eq_false]
  intro c hc
  rw [(zjy _ h c hc).2]; exact Bool.false_ne_true
 rw [this,Bool.false_or]
theorem zoJ (s:ByteArray) (h:eqL (s.data.toList.take 7) za7=true) (h7:7 ≤ s.size) (hc:(zaq 64 (s.data.toList.drop 7)).2.2=true) :
  8 < s.size ∨ ∀ (j:Nat) b,s.data.toList[j]? = some b → b.toNat < 128:=by
 rcases Nat.lt_or_ge 8 s.size with h8 | h8
 ·exact .inl h8
 ·refine .inr fun j b hj => ?_
  have hm:b ∈ s.data.toList:=List.mem_of_getElem? hj
  rw [← List.take_append_drop 7 s.data.toList] at hm
  rcases List.mem_append.1 hm with hm | hm
  ·exact (zjy _ h b hm).1
  ·have hl:(s.data.toList.drop 7).length ≤ 1:=by rw [List.length_drop,zaa]; omega
   generalize s.data.toList.drop 7=d at *
   rcases d with _ | ⟨x,_ | ⟨y,t⟩⟩
   ·cases hm
   ·rw [zcx] at hc
    by_cases hx:x=64
    ·obtain rfl:b=x:=by simpa using hm
     rw [hx]; decide
    ·rw [if_neg hx] at hc; cases hc
   ·simp at hl
end Go.Proofs.YtljbdpihiboeaaaGreatDoor
namespace Go.Proofs.YtljbdpihiboeaaaGreatDoor
open Go.RowKit
theorem zjX (l:List UInt8):(zaK l).2.length ≤ l.length:=by
 unfold zaK
 split
 ·simp
 ·split
  ·simp
  ·split
   ·simp [zbi]
   ·simp
set_option maxHeartbeats 2000000 in
theorem znn (s:ByteArray) (w:World) (hs:s.size ≤ maxLen) :
  Calls Tryz.prog 157 #[.string s] w fun e w' => e=.returned (zaH (zaW s.data.toList)) ∧ Qb w w':=by
 unfold maxLen at hs
 by_cases h0:4096 < s.size
 ·have HF:Hid (zaW s.data.toList=(5,[],[])):=Lib.hid (by unfold zaW; rw [if_pos (by rw [zaa]; exact h0)])
  go_enter Tryz.func157,Tryz.ntmps157
  go_wp2_with fail
  exact bodyPost_ret (v:=zaH (5,[],[])) (by simp [results,Tryz.results157,go_sem,zaH,za9]) rfl ⟨by rw [HF.out],(Qb.refl w).alloc _⟩
 have h0':s.size ≤ 4096:=by omega
 by_cases h7:s.size < 7
 ·have HF0:Hid (zaW s.data.toList=(60,[],[])):=Lib.hid (by unfold zaW; rw [if_neg (by rw [zaa]; omega),if_pos (.inl (by rw [zaa]; exact h7))])
  clear h0
  have HF:Hid (zaW s.data.toList=(60,[],[])):=Lib.hid (by exact HF0.out)
  go_enter Tryz.func157,Tryz.ntmps157
  go_wp2_with fail
  exact bodyPost_ret (v:=zaH (60,[],[])) (by simp [results,Tryz.results157,go_sem,zaH,za9]) rfl ⟨by rw [HF.out],(Qb.refl w).alloc _⟩
 have h7':7 ≤ s.size:=by omega
 have HX7:=Lib.hid (za8 s 7)
 have hxl:(s.extract 0 7).data.toList=s.data.toList.take 7:=by rw [HX7.out]
 have HXD:=Lib.hid (zaB s 7)
 have HE:Hid (zaW s.data.toList=if eqL (s.data.toList.take 7) za7=false then (60,[],[]) else if (zaq 64 (s.data.toList.drop 7)).2.2=false ∨ anyQ (s.data.toList.drop 7)=true then (6,[],[])
   else if (zeN (zaq 64 (s.data.toList.drop 7)).1).1 ≠ 0 then ((zeN (zaq 64 (s.data.toList.drop 7)).1).1,[],[])
   else if (zaK (zaq 64 (s.data.toList.drop 7)).2.1).1 ≠ 0 then ((zaK (zaq 64 (s.data.toList.drop 7)).2.1).1,[],[])
   else if zcs (zaK (zaq 64 (s.data.toList.drop 7)).2.1).2=true then (50,[],[])
   else (0,(zeN (zaq 64 (s.data.toList.drop 7)).1).2,(zaK (zaq 64 (s.data.toList.drop 7)).2.1).2)):=Lib.hid (by
  unfold zaW; rw [if_neg (by rw [zaa]; omega)]
  have:∀ p:Prop,(s.data.toList.length < 7 ∨ p)=p:=fun p => by rw [zaa]; exact propext ⟨fun h => h.resolve_left h7,.inr⟩
  simp only [this])
 have hAP:=any_pre s.data.toList
 have hPA:=fun a b => zoJ s a h7' b
 have hdl:(s.data.toList.drop 7).length ≤ 4096:=by rw [List.length_drop,zaa]; omega
 generalize s.data.toList.drop 7=d at *
 obtain ⟨p,q,b,hcut⟩:∃ p q b,zaq 64 d=(p,q,b):=⟨_,_,_,rfl⟩
 obtain ⟨ne,u,hn⟩:∃ ne u,zeN p=(ne,u):=⟨_,_,rfl⟩
 obtain ⟨he,h,hh⟩:∃ he h,zaK q=(he,h):=⟨_,_,rfl⟩
 have hhl:h.length ≤ 4096:=by have:=zjX q; rw [hh] at this; have h2:=(za2 64 d).2; rw [hcut] at h2; simp at this h2; omega
 obtain ⟨ip,hip⟩:∃ ip,zcs h=ip:=⟨_,rfl⟩
 obtain ⟨an,han⟩:∃ an,anyQ d=an:=⟨_,rfl⟩
 have HC:=Lib.hid hcut
 have HN:=Lib.hid hn
 have HH:=Lib.hid hh
 have HI:=Lib.hid hip
 have hlens:=za2 64 d
 rw [hcut] at hlens
 have hpl:p.length ≤ 4096:=by have:=hlens.1; simp at this; omega
 have hql:q.length ≤ 4096:=by have:=hlens.2; simp at this; omega
 have hE2:∀ x,eqL (s.data.toList.take 7) za7=x → zaW s.data.toList=if x=false then (60,[],[]) else if b=false ∨ an=true then (6,[],[]) else if ne ≠ 0 then (ne,[],[]) else if he ≠ 0 then (he,[],[]) else if ip=true then (50,[],[]) else (0,u,h):=fun x hx => by
  rw [HE.out,hcut]; simp only; rw [hn,hh,hx,hip,han]
 have HE2:=Lib.hid hE2
 rw [hcut] at hPA
 rw [han] at hAP
 clear hcut hn hh hE2 HE hlens h0 h7 hip han
 rcases hx:eqL (s.data.toList.take 7) za7 with _ | _
 ·have HEQ:Hid (eqL (s.extract 0 7).data.toList ({ data:=#[109,97,105,108,116,111,58] }:ByteArray).data.toList=false):=Lib.hid (by rw [hxl]; exact hx)
  have HX:=Lib.hid hx
  clear hx hxl hAP hPA
  have HF:Hid (zaW s.data.toList=(60,[],[])):=Lib.hid (by rw [HE2.out _ HX.out]; rfl)
  go_enter Tryz.func157,Tryz.ntmps157
  go_wp2_with fail
  refine (zbm _ _ _ (by unfold maxLen; rw [HX7.out,zac,List.length_take]; omega) (by decide)).mono ?_
  rintro e w1 ⟨rfl,hqe⟩
  rw [show eqL (s.extract 0 7).data.toList ({ data:=#[109,97,105,108,116,111,58] }:ByteArray).data.toList=false from HEQ.out]
  have hk:=(Obk.new w _ _).qb hqe
  have hc0:=hk.cell 0
  have hc1:=hk.cell 1
  have hf0:=hk.frozen 0
  have hf1:=hk.frozen 1
  simp at hc0 hc1
  go_wp2_with fail
  exact bodyPost_ret (v:=zaH (60,[],[])) (by simp [results,Tryz.results157,go_sem,hc0,hc1,hf0,hf1,zaH,za9]) rfl ⟨by rw [HF.out],((((Qb.refl w).alloc _).trans hqe).set (Nat.le_refl _) _).set (Nat.le_refl _) _⟩
 ·have HEQ:Hid (eqL (s.extract 0 7).data.toList ({ data:=#[109,97,105,108,116,111,58] }:ByteArray).data.toList=true):=Lib.hid (by rw [hxl]; exact hx)
  have HX:=Lib.hid hx
  have HA:=Lib.hid (hAP hx)
  have hP2:=hPA hx
  clear hx hxl hAP hPA
  rcases b with _ | _
  ·clear hP2
   have HF:Hid (zaW s.data.toList=(6,[],[])):=Lib.hid (by rw [HE2.out _ HX.out]; rfl)
   go_enter Tryz.func157,Tryz.ntmps157
   go_wp2_with fail
   refine (zbm _ _ _ (by unfold maxLen; rw [HX7.out,zac,List.length_take]; omega) (by decide)).mono ?_
   rintro e w1 ⟨rfl,hqe⟩
   rw [show eqL (s.extract 0 7).data.toList ({ data:=#[109,97,105,108,116,111,58] }:ByteArray).data.toList=true from HEQ.out]
   go_wp2_with fail
   rw [HXD.out]
   refine (zbe (S d) 64 _ (by unfold maxLen; rw [zac]; omega)).mono ?_
   rintro e w2 ⟨rfl,hq2⟩
   rw [zab,HC.out]
   unfold zeL
   have hk:=(Obk.new w _ _).qb (hqe.trans hq2)
   have hc0:=hk.cell 0
   have hc1:=hk.cell 1
   have hf0:=hk.frozen 0
   have hf1:=hk.frozen 1
   simp at hc0 hc1
   go_wp2_with fail
   exact bodyPost_ret (v:=zaH (6,[],[])) (by simp [results,Tryz.results157,go_sem,hc0,hc1,hf0,hf1,zaH,za9]) rfl ⟨by rw [HF.out],((((Qb.refl w).alloc _).trans (hqe.trans hq2)).set (Nat.le_refl _) _).set (Nat.le_refl _) _⟩
  ·have H8:=Lib.hid (hP2 rfl)
   clear hP2
   rcases an with _ | _
   ·by_cases hne:ne=0
    ·subst hne
     by_cases hhe:he=0
     ·subst hhe
      rcases ip with _ | _
      ·have HF:Hid (zaW s.data.toList=(0,u,h)):=Lib.hid (by rw [HE2.out _ HX.out]; rfl)
       go_enter Tryz.func157,Tryz.ntmps157
       go_wp2_with fail
       refine (zbm _ _ _ (by unfold maxLen; rw [HX7.out,zac,List.length_take]; omega) (by decide)).mono ?_
       rintro e w1 ⟨rfl,hqe⟩
       rw [show eqL (s.extract 0 7).data.toList ({ data:=#[109,97,105,108,116,111,58] }:ByteArray).data.toList=true from HEQ.out]
       go_wp2_with fail
       rw [HXD.out]
       refine (zbe (S d) 64 _ (by unfold maxLen; rw [zac]; omega)).mono ?_
       rintro e w2 ⟨rfl,hq2⟩
       rw [zab,HC.out]
       unfold zeL
       go_wp2_with fail
       refine (zdQ s _ (by omega) H8.out).mono ?_
       rintro e w3 ⟨rfl,hq3⟩
       rw [HA.out]
       go_wp2_with fail
       refine (zcH (S p) _ (by rw [zac]; omega)).mono ?_
       rintro e w4 ⟨rfl,hq4⟩
       rw [zab,HN.out]
       unfold zcX
       go_wp2_with fail
       refine (zcM (S q) _ (by unfold maxLen; rw [zac]; omega)).mono ?_
       rintro e w5 ⟨rfl,hq5⟩
       rw [zab,HH.out]
       unfold zcX
       go_wp2_with fail
       refine (zeB (S h) _ (by unfold maxLen; rw [zac]; omega)).mono ?_
       rintro e w6 ⟨rfl,hq6⟩
       rw [zab,HI.out]
       have hk:=(Obk.new w _ _).qb (((((hqe.trans hq2).trans hq3).trans hq4).trans hq5).trans hq6)
       have hc0:=hk.cell 0
       have hc1:=hk.cell 1
       have hf0:=hk.frozen 0
       have hf1:=hk.frozen 1
       simp at hc0 hc1
       go_wp2_with fail
       exact bodyPost_ret (v:=zaH (0,u,h)) (by simp [results,Tryz.results157,go_sem,hc0,hc1,hf0,hf1,zaH,za9]) rfl ⟨by rw [HF.out],((((Qb.refl w).alloc _).trans (((((hqe.trans hq2).trans hq3).trans hq4).trans hq5).trans hq6)).set (Nat.le_refl _) _).set (Nat.le_refl _) _⟩
      ·have HF:Hid (zaW s.data.toList=(50,[],[])):=Lib.hid (by rw [HE2.out _ HX.out]; rfl)
       go_enter Tryz.func157,Tryz.ntmps157
       go_wp2_with fail
       refine (zbm _ _ _ (by unfold maxLen; rw [HX7.out,zac,List.length_take]; omega) (by decide)).mono ?_
       rintro e w1 ⟨rfl,hqe⟩
       rw [show eqL (s.extract 0 7).data.toList ({ data:=#[109,97,105,108,116,111,58] }:ByteArray).data.toList=true from HEQ.out]
       go_wp2_with fail
       rw [HXD.out]
       refine (zbe (S d) 64 _ (by unfold maxLen; rw [zac]; omega)).mono ?_
       rintro e w2 ⟨rfl,hq2⟩
       rw [zab,HC.out]
       unfold zeL
       go_wp2_with fail
       refine (zdQ s _ (by omega) H8.out).mono ?_
       rintro e w3 ⟨rfl,hq3⟩
       rw [HA.out]
       go_wp2_with fail
       refine (zcH (S p) _ (by rw [zac]; omega)).mono ?_
       rintro e w4 ⟨rfl,hq4⟩
       rw [zab,HN.out]
       unfold zcX
       go_wp2_with fail
       refine (zcM (S q) _ (by unfold maxLen; rw [zac]; omega)).mono ?_
       rintro e w5 ⟨rfl,hq5⟩
       rw [zab,HH.out]
       unfold zcX
       go_wp2_with fail
       refine (zeB (S h) _ (by unfold maxLen; rw [zac]; omega)).mono ?_
       rintro e w6 ⟨rfl,hq6⟩
       rw [zab,HI.out]
       have hk:=(Obk.new w _ _).qb (((((hqe.trans hq2).trans hq3).trans hq4).trans hq5).trans hq6)
       have hc0:=hk.cell 0
       have hc1:=hk.cell 1
       have hf0:=hk.frozen 0
       have hf1:=hk.frozen 1
       simp at hc0 hc1
       go_wp2_with fail
       exact bodyPost_ret (v:=zaH (50,[],[])) (by simp [results,Tryz.results157,go_sem,hc0,hc1,hf0,hf1,zaH,za9]) rfl ⟨by rw [HF.out],((((Qb.refl w).alloc _).trans (((((hqe.trans hq2).trans hq3).trans hq4).trans hq5).trans hq6)).set (Nat.le_refl _) _).set (Nat.le_refl _) _⟩
     ·have hb2:(he != 0)=true:=bne_iff_ne.2 hhe
      have HHE:=Lib.hid hhe
      clear hhe
      have HF:Hid (zaW s.data.toList=(he,[],[])):=Lib.hid (by rw [HE2.out _ HX.out,if_neg (by simp),if_neg (by simp),if_neg (by simp),if_pos HHE.out])
      go_enter Tryz.func157,Tryz.ntmps157
      go_wp2_with fail
      refine (zbm _ _ _ (by unfold maxLen; rw [HX7.out,zac,List.length_take]; omega) (by decide)).mono ?_
      rintro e w1 ⟨rfl,hqe⟩
      rw [show eqL (s.extract 0 7).data.toList ({ data:=#[109,97,105,108,116,111,58] }:ByteArray).data.toList=true from HEQ.out]
      go_wp2_with fail
      rw [HXD.out]
      refine (zbe (S d) 64 _ (by unfold maxLen; rw [zac]; omega)).mono ?_
      rintro e w2 ⟨rfl,hq2⟩
      rw [zab,HC.out]
      unfold zeL
      go_wp2_with fail
      refine (zdQ s _ (by omega) H8.out).mono ?_
      rintro e w3 ⟨rfl,hq3⟩
      rw [HA.out]
      go_wp2_with fail
      refine (zcH (S p) _ (by rw [zac]; omega)).mono ?_
      rintro e w4 ⟨rfl,hq4⟩
      rw [zab,HN.out]
      unfold zcX
      go_wp2_with fail
      refine (zcM (S q) _ (by unfold maxLen; rw [zac]; omega)).mono ?_
      rintro e w5 ⟨rfl,hq5⟩
      rw [zab,HH.out]
      unfold zcX
      have hk:=(Obk.new w _ _).qb ((((hqe.trans hq2).trans hq3).trans hq4).trans hq5)
      have hc0:=hk.cell 0
      have hc1:=hk.cell 1
      have hf0:=hk.frozen 0
      have hf1:=hk.frozen 1
      simp at hc0 hc1
      go_wp2_with fail
      exact bodyPost_ret (v:=zaH (he,[],[])) (by simp [results,Tryz.results157,go_sem,hc0,hc1,hf0,hf1,zaH,za9]) rfl ⟨by rw [HF.out],((((Qb.refl w).alloc _).trans ((((hqe.trans hq2).trans hq3).trans hq4).trans hq5)).set (Nat.le_refl _) _).set (Nat.le_refl _) _⟩
    ·have hb2:(ne != 0)=true:=bne_iff_ne.2 hne
     have HNE:=Lib.hid hne
     clear hne
     have HF:Hid (zaW s.data.toList=(ne,[],[])):=Lib.hid (by rw [HE2.out _ HX.out,if_neg (by simp),if_neg (by simp),if_pos HNE.out])
     go_enter Tryz.func157,Tryz.ntmps157
     go_wp2_with fail
     refine (zbm _ _ _ (by unfold maxLen; rw [HX7.out,zac,List.length_take]; omega) (by decide)).mono ?_
     rintro e w1 ⟨rfl,hqe⟩
     rw [show eqL (s.extract 0 7).data.toList ({ data:=#[109,97,105,108,116,111,58] }:ByteArray).data.toList=true from HEQ.out]
     go_wp2_with fail
     rw [HXD.out]
     refine (zbe (S d) 64 _ (by unfold maxLen; rw [zac]; omega)).mono ?_
     rintro e w2 ⟨rfl,hq2⟩
     rw [zab,HC.out]
     unfold zeL
     go_wp2_with fail
     refine (zdQ s _ (by omega) H8.out).mono ?_
     rintro e w3 ⟨rfl,hq3⟩
     rw [HA.out]
     go_wp2_with fail
     refine (zcH (S p) _ (by rw [zac]; omega)).mono ?_
     rintro e w4 ⟨rfl,hq4⟩
     rw [zab,HN.out]
     unfold zcX
     have hk:=(Obk.new w _ _).qb (((hqe.trans hq2).trans hq3).trans hq4)
     have hc0:=hk.cell 0
     have hc1:=hk.cell 1
     have hf0:=hk.frozen 0
     have hf1:=hk.frozen 1
     simp at hc0 hc1
     go_wp2_with fail
     exact bodyPost_ret (v:=zaH (ne,[],[])) (by simp [results,Tryz.results157,go_sem,hc0,hc1,hf0,hf1,zaH,za9]) rfl ⟨by rw [HF.out],((((Qb.refl w).alloc _).trans (((hqe.trans hq2).trans hq3).trans hq4)).set (Nat.le_refl _) _).set (Nat.le_refl _) _⟩
   ·have HF:Hid (zaW s.data.toList=(6,[],[])):=Lib.hid (by rw [HE2.out _ HX.out]; rfl)
    go_enter Tryz.func157,Tryz.ntmps157
    go_wp2_with fail
    refine (zbm _ _ _ (by unfold maxLen; rw [HX7.out,zac,List.length_take]; omega) (by decide)).mono ?_
    rintro e w1 ⟨rfl,hqe⟩
    rw [show eqL (s.extract 0 7).data.toList ({ data:=#[109,97,105,108,116,111,58] }:ByteArray).data.toList=true from HEQ.out]
    go_wp2_with fail
    rw [HXD.out]
    refine (zbe (S d) 64 _ (by unfold maxLen; rw [zac]; omega)).mono ?_
    rintro e w2 ⟨rfl,hq2⟩
    rw [zab,HC.out]
    unfold zeL
    go_wp2_with fail
    refine (zdQ s _ (by omega) H8.out).mono ?_
    rintro e w3 ⟨rfl,hq3⟩
    rw [HA.out]
    have hk:=(Obk.new w _ _).qb ((hqe.trans hq2).trans hq3)
    have hc0:=hk.cell 0
    have hc1:=hk.cell 1
    have hf0:=hk.frozen 0
    have hf1:=hk.frozen 1
    simp at hc0 hc1
    go_wp2_with fail
    exact bodyPost_ret (v:=zaH (6,[],[])) (by simp [results,Tryz.results157,go_sem,hc0,hc1,hf0,hf1,zaH,za9]) rfl ⟨by rw [HF.out],((((Qb.refl w).alloc _).trans ((hqe.trans hq2).trans hq3)).set (Nat.le_refl _) _).set (Nat.le_refl _) _⟩
end Go.Proofs.YtljbdpihiboeaaaGreatDoor
namespace Go.Proofs.YtljbdpihiboeaaaGreatDoor
open Go.RowKit
theorem take_at (p d:List UInt8) (k:Nat) (h:p=d.take p.length) (hk:k < p.length) (hk2:k < d.length):p[k]=d[k]:=by
 have:p[k]? = d[k]?:=by
  conv => lhs; rw [h]
  rw [List.getElem?_take_of_lt hk]
 simpa [List.getElem?_eq_getElem hk,List.getElem?_eq_getElem hk2] using this
set_option maxHeartbeats 2000000 in
theorem zkC (s:ByteArray) (w:World) (hs:s.size ≤ maxLen) :
  Calls Tryz.prog 77 #[.string s] w fun e w' => e=.returned (zaH (zaW s.data.toList)) ∧ Qb w w':=by
 unfold maxLen at hs
 by_cases h0:4096 < s.size
 ·have HF:Hid (zaW s.data.toList=(5,[],[])):=Lib.hid (by unfold zaW; rw [if_pos (by rw [zaa]; exact h0)])
  go_enter Tryz.func77,Tryz.ntmps77
  go_wp2_with fail
  exact bodyPost_ret (v:=zaH (5,[],[])) (by simp [results,Tryz.results77,go_sem,zaH,za9]) rfl ⟨by rw [HF.out],(Qb.refl w).alloc _⟩
 have h0':s.size ≤ 4096:=by omega
 by_cases h7:s.size < 7
 ·have HF:Hid (zaW s.data.toList=(60,[],[])):=Lib.hid (by unfold zaW; rw [if_neg (by rw [zaa]; omega),if_pos (.inl (by rw [zaa]; exact h7))])
  clear h0
  go_enter Tryz.func77,Tryz.ntmps77
  go_wp2_with fail
  exact bodyPost_ret (v:=zaH (60,[],[])) (by simp [results,Tryz.results77,go_sem,zaH,za9]) rfl ⟨by rw [HF.out],(Qb.refl w).alloc _⟩
 have h7':7 ≤ s.size:=by omega
 have HX7:=Lib.hid (za8 s 7)
 have hxl:(s.extract 0 7).data.toList=s.data.toList.take 7:=by rw [HX7.out]
 have HXD:=Lib.hid (zaB s 7)
 have HE:Hid (zaW s.data.toList=if eqL (s.data.toList.take 7) za7=false then (60,[],[]) else if (zaq 64 (s.data.toList.drop 7)).2.2=false ∨ anyQ (s.data.toList.drop 7)=true then (6,[],[])
   else if (zeN (zaq 64 (s.data.toList.drop 7)).1).1 ≠ 0 then ((zeN (zaq 64 (s.data.toList.drop 7)).1).1,[],[])
   else if (zaK (zaq 64 (s.data.toList.drop 7)).2.1).1 ≠ 0 then ((zaK (zaq 64 (s.data.toList.drop 7)).2.1).1,[],[])
   else if zcs (zaK (zaq 64 (s.data.toList.drop 7)).2.1).2=true then (50,[],[])
   else (0,(zeN (zaq 64 (s.data.toList.drop 7)).1).2,(zaK (zaq 64 (s.data.toList.drop 7)).2.1).2)):=Lib.hid (by
  unfold zaW; rw [if_neg (by rw [zaa]; omega)]
  have:∀ p:Prop,(s.data.toList.length < 7 ∨ p)=p:=fun p => by rw [zaa]; exact propext ⟨fun h => h.resolve_left h7,.inr⟩
  simp only [this])
 have hdl:(s.data.toList.drop 7).length ≤ 4096:=by rw [List.length_drop,zaa]; omega
 generalize s.data.toList.drop 7=d at *
 obtain ⟨p,q,b,hcut⟩:∃ p q b,zaq 64 d=(p,q,b):=⟨_,_,_,rfl⟩
 obtain ⟨he,h,hh⟩:∃ he h,zaK q=(he,h):=⟨_,_,rfl⟩
 have hhl:h.length ≤ 4096:=by have:=zjX q; rw [hh] at this; have h2:=(za2 64 d).2; rw [hcut] at h2; simp at this h2; omega
 obtain ⟨ip,hip⟩:∃ ip,zcs h=ip:=⟨_,rfl⟩
 obtain ⟨an,han⟩:∃ an,anyQ d=an:=⟨_,rfl⟩
 have HH:=Lib.hid hh
 have HI:=Lib.hid hip
 have hlens:=za2 64 d
 rw [hcut] at hlens
 have hpl:p.length ≤ 4096:=by have:=hlens.1; simp at this; omega
 have hql:q.length ≤ 4096:=by have:=hlens.2; simp at this; omega
 have HIX:Hid (zaz d ({ data:=#[64] }:ByteArray).data.toList=p.length):=Lib.hid (by
  show zaz d [64]=p.length
  rw [zbz,hcut])
 have hE2:∀ x,eqL (s.data.toList.take 7) za7=x → zaW s.data.toList=if x=false then (60,[],[]) else if b=false ∨ an=true then (6,[],[]) else if (zeN p).1 ≠ 0 then ((zeN p).1,[],[]) else if he ≠ 0 then (he,[],[]) else if ip=true then (50,[],[]) else (0,(zeN p).2,h):=fun x hx => by
  rw [HE.out,hcut]; simp only; rw [hh,hx,hip,han]
 have HE2:=Lib.hid hE2
 have hcl:=zca 64 d
 rw [hcut] at hcl
 simp only at hcl
 have HCL:=Lib.hid hcl
 have hi:=zbo 64 d
 rw [hcut] at hi
 have HCI:=Lib.hid hi
 have HAN:=Lib.hid han
 clear hcut hh hE2 HE hlens h0 h7 hip hcl hi han
 rcases hx:eqL (s.data.toList.take 7) za7 with _ | _
 ·have HEQ:Hid (eqL (s.extract 0 7).data.toList ({ data:=#[109,97,105,108,116,111,58] }:ByteArray).data.toList=false):=Lib.hid (by rw [hxl]; exact hx)
  have HX:=Lib.hid hx
  clear hx hxl
  have HF:Hid (zaW s.data.toList=(60,[],[])):=Lib.hid (by rw [HE2.out _ HX.out]; rfl)
  go_enter Tryz.func77,Tryz.ntmps77
  go_wp2_with fail
  refine (zbt _ _ _ (by rw [HX7.out,zac,List.length_take]; omega) (by decide)).mono ?_
  rintro e w1 ⟨rfl,hqe⟩
  rw [show eqL (s.extract 0 7).data.toList ({ data:=#[109,97,105,108,116,111,58] }:ByteArray).data.toList=false from HEQ.out]
  have hk:=(Obk.new w _ _).qb hqe
  have hc0:=hk.cell 0
  have hc1:=hk.cell 1
  have hf0:=hk.frozen 0
  have hf1:=hk.frozen 1
  simp at hc0 hc1
  go_wp2_with fail
  exact bodyPost_ret (v:=zaH (60,[],[])) (by simp [results,Tryz.results77,go_sem,hc0,hc1,hf0,hf1,zaH,za9]) rfl ⟨by rw [HF.out],((((Qb.refl w).alloc _).trans hqe).set (Nat.le_refl _) _).set (Nat.le_refl _) _⟩
 ·have HEQ:Hid (eqL (s.extract 0 7).data.toList ({ data:=#[109,97,105,108,116,111,58] }:ByteArray).data.toList=true):=Lib.hid (by rw [hxl]; exact hx)
  have HX:=Lib.hid hx
  clear hx hxl
  rcases b with _ | _
  ·have hpd:p.length=d.length:=by rw [(HCL.out.2.2 rfl).1]
   have hb1:((p.length:Int) == (d.length:Int))=true:=by rw [beq_iff_eq]; omega
   clear hpd
   have HF:Hid (zaW s.data.toList=(6,[],[])):=Lib.hid (by rw [HE2.out _ HX.out]; rfl)
   go_enter Tryz.func77,Tryz.ntmps77
   go_wp2_with fail
   refine (zbt _ _ _ (by rw [HX7.out,zac,List.length_take]; omega) (by decide)).mono ?_
   rintro e w1 ⟨rfl,hqe⟩
   rw [show eqL (s.extract 0 7).data.toList ({ data:=#[109,97,105,108,116,111,58] }:ByteArray).data.toList=true from HEQ.out]
   have hk:=(Obk.new w _ _).qb hqe
   have hc0:=hk.cell 0
   have hc1:=hk.cell 1
   have hf0:=hk.frozen 0
   have hf1:=hk.frozen 1
   simp at hc0 hc1
   go_wp2_with fail
   rw [HXD.out]
   refine (zbh _ _ _ (by unfold maxLen; rw [zac]; omega) (by decide)).mono ?_
   rintro e w2 ⟨rfl,rfl⟩
   rw [zab,show zaz d ({ data:=#[64] }:ByteArray).data.toList=p.length from HIX.out]
   go_wp2_with fail
   exact bodyPost_ret (v:=zaH (6,[],[])) (by simp [results,Tryz.results77,go_sem,hc0,hc1,hf0,hf1,zaH,za9]) rfl ⟨by rw [HF.out],((((Qb.refl w).alloc _).trans hqe).set (Nat.le_refl _) _).set (Nat.le_refl _) _⟩
  ·have hpd:=HCL.out.2.1 rfl
   have hpq:p=d.take p.length ∧ q=d.drop (p.length + 1):=by
    rcases HCI.out with ⟨_,h2,_⟩ | ⟨k,_,hk,h2,_⟩
    ·injection h2 with _ h2; injection h2 with _ h2; cases h2
    ·injection h2 with h2 h3; injection h3 with h3 _
     have:p.length=k:=by rw [h2,List.length_take]; omega
     rw [this]; exact ⟨h2,h3⟩
   have hxp:=za8 (S d) p.length
   rw [zab,← hpq.1] at hxp
   have hxq:=zaB (S d) (p.length + 1)
   rw [zab,zac,← hpq.2] at hxq
   have HXP:=Lib.hid hxp
   have HXQ:=Lib.hid hxq
   have HPQ:=Lib.hid hpq
   have hpi:(p.length:Int) + 1 ≤ (d.length:Int):=by omega
   have hb1:((p.length:Int) == (d.length:Int))=false:=by rw [beq_eq_false_iff_ne]; omega
   clear hpd hpq hxp hxq
   rcases an with _ | _
   ·have HIQ:Hid (zaz d ({ data:=#[63,35] }:ByteArray).data.toList=d.length):=Lib.hid ((zpG d [63,35]).2 HAN.out)
    obtain ⟨er,du,hd⟩:∃ er du,zaO p=(er,du):=⟨_,_,rfl⟩
    have hdul:du.length ≤ 4096:=by have:=zmJ p; rw [hd] at this; simp at this; omega
    obtain ⟨lo,hlo⟩:∃ lo,zbX du=lo:=⟨_,rfl⟩
    have HD:=Lib.hid hd
    have HL:=Lib.hid hlo
    have HE3:Hid (zaW s.data.toList=if (zeN p).1 ≠ 0 then ((zeN p).1,[],[]) else if he ≠ 0 then (he,[],[]) else if ip=true then (50,[],[]) else (0,(zeN p).2,h)):=Lib.hid (by rw [HE2.out _ HX.out,if_neg (by simp),if_neg (by simp)])
    clear hd hlo
    go_enter Tryz.func77,Tryz.ntmps77
    go_wp2_with fail
    refine (zbt _ _ _ (by rw [HX7.out,zac,List.length_take]; omega) (by decide)).mono ?_
    rintro e w1 ⟨rfl,hqe⟩
    rw [show eqL (s.extract 0 7).data.toList ({ data:=#[109,97,105,108,116,111,58] }:ByteArray).data.toList=true from HEQ.out]
    have hk:=(Obk.new w _ _).qb hqe
    have hc0:=hk.cell 0
    have hc1:=hk.cell 1
    have hf0:=hk.frozen 0
    have hf1:=hk.frozen 1
    simp at hc0 hc1
    go_wp2_with fail
    rw [HXD.out]
    refine (zbh _ _ _ (by unfold maxLen; rw [zac]; omega) (by decide)).mono ?_
    rintro e w2 ⟨rfl,rfl⟩
    rw [zab,show zaz d ({ data:=#[64] }:ByteArray).data.toList=p.length from HIX.out]
    go_wp2_with fail
    refine (zbh _ _ _ (by unfold maxLen; rw [zac]; omega) (by decide)).mono ?_
    rintro e w3 ⟨rfl,rfl⟩
    rw [zab,show zaz d ({ data:=#[63,35] }:ByteArray).data.toList=d.length from HIQ.out]
    go_wp2_with fail
    go_loop [5] (fun i => ∃ k:Nat,k ≤ p.length ∧ i=.int .i64 k ∧ Hid ((p.take k).all zht=true)) (fun i => p.length - (intOf i).toNat)
    case atStart => exact ⟨0,Nat.zero_le _,rfl,Lib.hid rfl⟩
    case round =>
     obtain ⟨k,hk0,rfl,HT⟩:=hrel
     by_cases hlt:k < p.length
     ·have hlt2:k < d.length:=by omega
      have hpk:=take_at p d k HPQ.out.1 hlt hlt2
      have hS:Hid (∀ h,(S d)[k]'h=d[k]):=Lib.hid (fun h => rfl)
      have HS:=Lib.hid (zev zht p k hlt)
      have HA:=Lib.hid (zdR zht p (k + 1))
      have HM:Hid (zht p[k]=(zau d[k] || zbb d[k] [37,33,36,39,42,43])):=Lib.hid (by rw [hpk]; rfl)
      clear hpk
      rcases ha:zau d[k] with _ | _
      ·rcases hb:zbb d[k] [37,33,36,39,42,43] with _ | _
       ·have HF:Hid (zaW s.data.toList=(1,[],[])):=Lib.hid (by rw [HE3.out,zeN,if_pos (HA.out (by rw [HS.out,HM.out,ha,hb,HT.out]; rfl))]; rfl)
        have H1:=Lib.hid ha
        have H2:=Lib.hid hb
        clear ha hb
        go_wp2_with fail
        refine (zaV _ _).mono ?_
        rintro e w' ⟨rfl,rfl⟩
        rw [hS.out,H1.out]
        go_wp2_with fail
        refine (zb3 _ _ _ (by decide)).mono ?_
        rintro e w' ⟨rfl,rfl⟩
        rw [hS.out,show zbb d[k] ({ data:=#[37,33,36,39,42,43] }:ByteArray).data.toList=false from H2.out]
        go_wp2_with fail
        exact bodyPost_ret (v:=zaH (1,[],[])) (by simp [results,Tryz.results77,go_sem,hc0,hc1,hf0,hf1,zaH,za9]) rfl ⟨by rw [HF.out],((((Qb.refl w).alloc _).trans hqe).set (Nat.le_refl _) _).set (Nat.le_refl _) _⟩
       ·have HN:Hid ((p.take (k + 1)).all zht=true):=Lib.hid (by rw [HS.out,HM.out,ha,hb,HT.out]; rfl)
        have H1:=Lib.hid ha
        have H2:=Lib.hid hb
        clear ha hb
        go_wp2_with fail
        refine (zaV _ _).mono ?_
        rintro e w' ⟨rfl,rfl⟩
        rw [hS.out,H1.out]
        go_wp2_with fail
        refine (zb3 _ _ _ (by decide)).mono ?_
        rintro e w' ⟨rfl,rfl⟩
        rw [hS.out,show zbb d[k] ({ data:=#[37,33,36,39,42,43] }:ByteArray).data.toList=true from H2.out]
        go_wp2_with fail
        go_round
        case rel => exact ⟨k + 1,by omega,by go_num,HN⟩
        case measure => simp [intOf]; omega
      ·have HN:Hid ((p.take (k + 1)).all zht=true):=Lib.hid (by rw [HS.out,HM.out,ha,HT.out]; rfl)
       have H1:=Lib.hid ha
       clear ha
       go_wp2_with fail
       refine (zaV _ _).mono ?_
       rintro e w' ⟨rfl,rfl⟩
       rw [hS.out,H1.out]
       go_wp2_with fail
       go_round
       case rel => exact ⟨k + 1,by omega,by go_num,HN⟩
       case measure => simp [intOf]; omega
     ·obtain rfl:k=p.length:=by omega
      have HE4:Hid (zaW s.data.toList=if er ≠ 0 then (er,[],[]) else if lo=false then (80,[],[]) else if he ≠ 0 then (he,[],[]) else if ip=true then (50,[],[]) else (0,du,h)):=Lib.hid (by
       have hT:=HT.out
       rw [List.take_length] at hT
       have hLoc:zeN p=if er ≠ 0 then (er,[]) else if lo=false then (80,[]) else (0,du):=by
        unfold zeN
        rw [if_neg (by rw [hT]; simp)]
        simp only [HD.out,HL.out]
       rw [HE3.out,hLoc]
       by_cases h1:er=0
       ·subst h1
        rcases lo with _ | _ <;> rfl
       ·rw [if_pos h1]
        exact (if_pos h1).trans (if_pos h1).symm)
      by_cases hne:er=0
      ·subst hne
       rcases lo with _ | _
       ·have HF:Hid (zaW s.data.toList=(80,[],[])):=Lib.hid (by rw [HE4.out]; rfl)
        go_wp2_with fail
        rw [HXP.out]
        refine (zcD _ _).mono ?_
        rintro e w4 ⟨rfl,hq3⟩
        rw [zab,HD.out]
        unfold zcX
        go_wp2_with fail
        refine (zey _ _ (by rw [zac]; omega)).mono ?_
        rintro e w5 ⟨rfl,hq4⟩
        rw [zab,HL.out]
        have hk:=(Obk.new w _ _).qb ((hqe.trans hq3).trans hq4)
        have hc0:=hk.cell 0
        have hc1:=hk.cell 1
        have hf0:=hk.frozen 0
        have hf1:=hk.frozen 1
        simp at hc0 hc1
        go_wp2_with fail
        exact bodyPost_ret (v:=zaH (80,[],[])) (by simp [results,Tryz.results77,go_sem,hc0,hc1,hf0,hf1,zaH,za9]) rfl ⟨by rw [HF.out],((((Qb.refl w).alloc _).trans ((hqe.trans hq3).trans hq4)).set (Nat.le_refl _) _).set (Nat.le_refl _) _⟩
       ·by_cases hhe:he=0
        ·subst hhe
         rcases ip with _ | _
         ·have HF:Hid (zaW s.data.toList=(0,du,h)):=Lib.hid (by rw [HE4.out]; rfl)
          go_wp2_with fail
          rw [HXP.out]
          refine (zcD _ _).mono ?_
          rintro e w4 ⟨rfl,hq3⟩
          rw [zab,HD.out]
          unfold zcX
          go_wp2_with fail
          refine (zey _ _ (by rw [zac]; omega)).mono ?_
          rintro e w5 ⟨rfl,hq4⟩
          rw [zab,HL.out]
          go_wp2_with fail
          rw [HXQ.out]
          refine (zdL (S q) _ (by rw [zac]; omega)).mono ?_
          rintro e w6 ⟨rfl,hq5⟩
          rw [zab,HH.out]
          unfold zcX
          go_wp2_with fail
          refine (zei (S h) _ (by rw [zac]; omega)).mono ?_
          rintro e w7 ⟨rfl,hq6⟩
          rw [zab,HI.out]
          have hk:=(Obk.new w _ _).qb ((((hqe.trans hq3).trans hq4).trans hq5).trans hq6)
          have hc0:=hk.cell 0
          have hc1:=hk.cell 1
          have hf0:=hk.frozen 0
          have hf1:=hk.frozen 1
          simp at hc0 hc1
          go_wp2_with fail
          exact bodyPost_ret (v:=zaH (0,du,h)) (by simp [results,Tryz.results77,go_sem,hc0,hc1,hf0,hf1,zaH,za9]) rfl ⟨by rw [HF.out],((((Qb.refl w).alloc _).trans ((((hqe.trans hq3).trans hq4).trans hq5).trans hq6)).set (Nat.le_refl _) _).set (Nat.le_refl _) _⟩
         ·have HF:Hid (zaW s.data.toList=(50,[],[])):=Lib.hid (by rw [HE4.out]; rfl)
          go_wp2_with fail
          rw [HXP.out]
          refine (zcD _ _).mono ?_
          rintro e w4 ⟨rfl,hq3⟩
          rw [zab,HD.out]
          unfold zcX
          go_wp2_with fail
          refine (zey _ _ (by rw [zac]; omega)).mono ?_
          rintro e w5 ⟨rfl,hq4⟩
          rw [zab,HL.out]
          go_wp2_with fail
          rw [HXQ.out]
          refine (zdL (S q) _ (by rw [zac]; omega)).mono ?_
          rintro e w6 ⟨rfl,hq5⟩
          rw [zab,HH.out]
          unfold zcX
          go_wp2_with fail
          refine (zei (S h) _ (by rw [zac]; omega)).mono ?_
          rintro e w7 ⟨rfl,hq6⟩
          rw [zab,HI.out]
          have hk:=(Obk.new w _ _).qb ((((hqe.trans hq3).trans hq4).trans hq5).trans hq6)
          have hc0:=hk.cell 0
          have hc1:=hk.cell 1
          have hf0:=hk.frozen 0
          have hf1:=hk.frozen 1
          simp at hc0 hc1
          go_wp2_with fail
          exact bodyPost_ret (v:=zaH (50,[],[])) (by simp [results,Tryz.results77,go_sem,hc0,hc1,hf0,hf1,zaH,za9]) rfl ⟨by rw [HF.out],((((Qb.refl w).alloc _).trans ((((hqe.trans hq3).trans hq4).trans hq5).trans hq6)).set (Nat.le_refl _) _).set (Nat.le_refl _) _⟩
        ·have hb2:(he != 0)=true:=bne_iff_ne.2 hhe
         have HHE:=Lib.hid hhe
         clear hhe
         have HF:Hid (zaW s.data.toList=(he,[],[])):=Lib.hid (by rw [HE4.out,if_neg (by simp),if_neg (by simp),if_pos HHE.out])
         go_wp2_with fail
         rw [HXP.out]
         refine (zcD _ _).mono ?_
         rintro e w4 ⟨rfl,hq3⟩
         rw [zab,HD.out]
         unfold zcX
         go_wp2_with fail
         refine (zey _ _ (by rw [zac]; omega)).mono ?_
         rintro e w5 ⟨rfl,hq4⟩
         rw [zab,HL.out]
         go_wp2_with fail
         rw [HXQ.out]
         refine (zdL (S q) _ (by rw [zac]; omega)).mono ?_
         rintro e w6 ⟨rfl,hq5⟩
         rw [zab,HH.out]
         unfold zcX
         have hk:=(Obk.new w _ _).qb (((hqe.trans hq3).trans hq4).trans hq5)
         have hc0:=hk.cell 0
         have hc1:=hk.cell 1
         have hf0:=hk.frozen 0
         have hf1:=hk.frozen 1
         simp at hc0 hc1
         go_wp2_with fail
         exact bodyPost_ret (v:=zaH (he,[],[])) (by simp [results,Tryz.results77,go_sem,hc0,hc1,hf0,hf1,zaH,za9]) rfl ⟨by rw [HF.out],((((Qb.refl w).alloc _).trans (((hqe.trans hq3).trans hq4).trans hq5)).set (Nat.le_refl _) _).set (Nat.le_refl _) _⟩
      ·have hb2:(er != 0)=true:=bne_iff_ne.2 hne
       have HNE:=Lib.hid hne
       clear hne
       have HF:Hid (zaW s.data.toList=(er,[],[])):=Lib.hid (by rw [HE4.out,if_pos HNE.out])
       go_wp2_with fail
       rw [HXP.out]
       refine (zcD _ _).mono ?_
       rintro e w4 ⟨rfl,hq3⟩
       rw [zab,HD.out]
       unfold zcX
       have hk:=(Obk.new w _ _).qb (hqe.trans hq3)
       have hc0:=hk.cell 0
       have hc1:=hk.cell 1
       have hf0:=hk.frozen 0
       have hf1:=hk.frozen 1
       simp at hc0 hc1
       go_wp2_with fail
       exact bodyPost_ret (v:=zaH (er,[],[])) (by simp [results,Tryz.results77,go_sem,hc0,hc1,hf0,hf1,zaH,za9]) rfl ⟨by rw [HF.out],((((Qb.refl w).alloc _).trans (hqe.trans hq3)).set (Nat.le_refl _) _).set (Nat.le_refl _) _⟩
   ·obtain ⟨n,hn⟩:∃ n,zaz d [63,35]=n:=⟨_,rfl⟩
    have hnl:(n:Int) < (d.length:Int):=by
     have h1:=ziH d [63,35]
     have h2:¬ zaz d [63,35]=d.length:=fun e => by have:=(zpG d [63,35]).1 e; rw [show Lib.containsAny d [63,35]=true from HAN.out] at this; cases this
     omega
    have HIQ:Hid (zaz d ({ data:=#[63,35] }:ByteArray).data.toList=n):=Lib.hid hn
    clear hn
    have HF:Hid (zaW s.data.toList=(6,[],[])):=Lib.hid (by rw [HE2.out _ HX.out]; rfl)
    go_enter Tryz.func77,Tryz.ntmps77
    go_wp2_with fail
    refine (zbt _ _ _ (by rw [HX7.out,zac,List.length_take]; omega) (by decide)).mono ?_
    rintro e w1 ⟨rfl,hqe⟩
    rw [show eqL (s.extract 0 7).data.toList ({ data:=#[109,97,105,108,116,111,58] }:ByteArray).data.toList=true from HEQ.out]
    have hk:=(Obk.new w _ _).qb hqe
    have hc0:=hk.cell 0
    have hc1:=hk.cell 1
    have hf0:=hk.frozen 0
    have hf1:=hk.frozen 1
    simp at hc0 hc1
    go_wp2_with fail
    rw [HXD.out]
    refine (zbh _ _ _ (by unfold maxLen; rw [zac]; omega) (by decide)).mono ?_
    rintro e w2 ⟨rfl,rfl⟩
    rw [zab,show zaz d ({ data:=#[64] }:ByteArray).data.toList=p.length from HIX.out]
    go_wp2_with fail
    refine (zbh _ _ _ (by unfold maxLen; rw [zac]; omega) (by decide)).mono ?_
    rintro e w3 ⟨rfl,rfl⟩
    rw [zab,show zaz d ({ data:=#[63,35] }:ByteArray).data.toList=n from HIQ.out]
    go_wp2_with fail
    exact bodyPost_ret (v:=zaH (6,[],[])) (by simp [results,Tryz.results77,go_sem,hc0,hc1,hf0,hf1,zaH,za9]) rfl ⟨by rw [HF.out],((((Qb.refl w).alloc _).trans hqe).set (Nat.le_refl _) _).set (Nat.le_refl _) _⟩
end Go.Proofs.YtljbdpihiboeaaaGreatDoor
namespace Go.Proofs.YtljbdpihiboeaaaGreatDoor
open Go.RowKit Sx
theorem zpZ (p:UInt8 → Bool) (l keep:List UInt8) (h37:p 37=true) (hx:∀ n:Fin 16,p (zdn n.val)=true) (hp:∀ c,zaQ c keep=true → p c=true):(zbU l keep).all p=true:=by
 unfold zbU
 rw [List.all_flatMap]
 refine List.all_eq_true.2 fun c _ => ?_
 split
 ·rename_i h
  simp [hp c h]
 ·have hc:=UInt8.toNat_lt c
  have h1:=hx ⟨c.toNat / 16,by omega⟩
  have h2:=hx ⟨c.toNat % 16,by omega⟩
  simp only at h1 h2
  simp [zc3,h37,h1,h2]
theorem zgz (c x:UInt8):∀ l:List UInt8,x ∈ l → x=c ∨ ∃ p ∈ zag c l,x ∈ p
 | [],h => by cases h
 | y :: t,h => by
  obtain ⟨p,ps,e⟩:=zaG c t
  rw [zaE,e]
  by_cases hy:y=c
  ·rw [if_pos hy]
   rcases List.mem_cons.1 h with rfl | h
   ·exact .inl hy
   ·rcases zgz c x t h with h | ⟨q,hq,hx⟩
    ·exact .inl h
    ·exact .inr ⟨q,by rw [← e]; exact List.mem_cons_of_mem _ hq,hx⟩
  ·rw [if_neg hy]
   rcases List.mem_cons.1 h with rfl | h
   ·exact .inr ⟨_,List.mem_cons_self ..,List.mem_cons_self ..⟩
   ·rcases zgz c x t h with h | ⟨q,hq,hx⟩
    ·exact .inl h
    ·rw [e] at hq
     rcases List.mem_cons.1 hq with rfl | hq
     ·exact .inr ⟨_,List.mem_cons_self ..,List.mem_cons_of_mem _ hx⟩
     ·exact .inr ⟨q,List.mem_cons_of_mem _ hq,hx⟩
theorem znl {h:List UInt8} (hn:zcz h=true) (x:UInt8) (hx:x ∈ h):x=46 ∨ lbB x=true:=by
 rcases zgz 46 x h hx with h1 | ⟨p,hp,hxp⟩
 ·exact .inl h1
 ·unfold zcz at hn
  simp only [Bool.and_eq_true,List.all_eq_true] at hn
  have:=hn.1 p hp
  unfold zbq at this
  simp only [Bool.and_eq_true,List.all_eq_true] at this
  exact .inr (this.2 x hxp)
theorem zpM {h:List UInt8} (hh:zaK h=(0,h)) (h4:zcs h=false):zcz h=true ∧ h.length ≤ 253:=by
 unfold zaK at hh
 split at hh
 ·cases hh
 ·split at hh
  ·cases hh
  ·split at hh
   ·rename_i h1 h2 h3
    rw [h4,Bool.or_false] at h3
    exact ⟨h3,by omega⟩
   ·cases hh
theorem mark256:∀ n:Fin 256,(lbB (UInt8.ofNat n.val)=true ∨ UInt8.ofNat n.val=46 → zbb (UInt8.ofNat n.val) [63,35]=false) ∧ (zaQ (UInt8.ofNat n.val) zc1=true → zht (UInt8.ofNat n.val)=true ∧ zbb (UInt8.ofNat n.val) [63,35]=false ∧ UInt8.ofNat n.val ≠ 64):=by decide +kernel
theorem marks (c:UInt8):(lbB c=true ∨ c=46 → zbb c [63,35]=false) ∧ (zaQ c zc1=true → zht c=true ∧ zbb c [63,35]=false ∧ c ≠ 64):=by
 have:=mark256 ⟨c.toNat,UInt8.toNat_lt c⟩
 simpa using this
theorem mail_fmt {u h:List UInt8} (hu:zbX u=true) (hh:zaK h=(0,h)) (h4:zcs h=false):zaW (zj2 u h)=(0,u,h) ∧ u.length ≤ 64 ∧ h.length ≤ 253:=by
 obtain ⟨hn,hl⟩:=zpM hh h4
 have hu64:u.length ≤ 64:=by
  unfold zbX at hu
  simp only [Bool.and_eq_true,decide_eq_true_eq] at hu
  exact hu.1
 refine ⟨?_,hu64,hl⟩
 have he:=zcK u zc1
 have hr:(zbU u zc1).all zht=true:=zpZ zht u zc1 (by decide) (by decide +kernel) fun c hc => ((marks c).2 hc).1
 have hm:(zbU u zc1).all (fun c => !zbb c [63,35] && c != 64)=true:=zpZ _ u zc1 (by decide) (by decide +kernel) fun c hc => by simp [((marks c).2 hc).2.1,((marks c).2 hc).2.2]
 have h64:(64:UInt8) ∉ zbU u zc1:=fun hx => by
  have:=List.all_eq_true.1 hm 64 hx
  simp at this
 have hq:anyQ (zbU u zc1 ++ 64 :: h)=false:=by
  unfold anyQ
  rw [zfu,List.any_append,List.any_cons]
  have e1:(zbU u zc1).any (fun c => zbb c [63,35])=false:=by
   rw [List.any_eq_false]; intro c hc
   have:=List.all_eq_true.1 hm c hc
   simp at this
   simp [this.1]
  have e2:h.any (fun c => zbb c [63,35])=false:=by
   rw [List.any_eq_false]; intro c hc
   rw [(marks c).1 (Or.symm (znl hn c hc))]
   simp
  rw [e1,e2]; rfl
 have e7:(zj2 u h).take 7=za7:=by unfold zj2 za7; simp
 have d7:(zj2 u h).drop 7=zbU u zc1 ++ 64 :: h:=by unfold zj2 za7; simp
 have hlen:(zj2 u h).length=7 + (zbU u zc1).length + 1 + h.length:=by unfold zj2 za7; simp; omega
 have hloc:zeN (zbU u zc1)=(0,u):=by
  unfold zeN
  rw [hr,dec_enc u zc1 (by omega),hu]
  simp
 unfold zaW
 rw [if_neg (by omega),e7,d7,if_neg (by
  rw [not_or]; refine ⟨by omega,?_⟩
  have:eqL za7 za7=true:=by decide
  rw [this]; simp),zaP 64 _ h h64,hq,hloc]
 simp only [hh,h4]
 simp
theorem loc_ok {l u:List UInt8} (h:zeN l=(0,u)):zbX u=true:=by
 unfold zeN at h
 split at h
 ·injection h with h1 _; cases h1
 ·split at h
  ·rename_i h0; injection h with h1 _; exact absurd h1 h0
  ·split at h
   ·injection h with h1 _; cases h1
   ·rename_i h0 h1 h2
    injection h with _ h3
    rw [← h3]; simpa using h2
theorem znm {s u h:List UInt8} (hs:zaW s=(0,u,h)):zbX u=true ∧ zaK h=(0,h) ∧ zcs h=false:=by
 unfold zaW at hs
 split at hs
 ·injection hs with h1 _; cases h1
 ·split at hs
  ·injection hs with h1 _; cases h1
  ·split at hs
   ·injection hs with h1 _; cases h1
   ·split at hs
    ·rename_i h3; injection hs with h4 _; exact absurd h4 h3
    ·split at hs
     ·rename_i h3; injection hs with h4 _; exact absurd h4 h3
     ·split at hs
      ·injection hs with h1 _; cases h1
      ·rename_i k0 k1 k2 k3 k4 k5
       injection hs with _ hs
       injection hs with hu hh
       simp only [Decidable.not_not] at k3 k4
       refine ⟨loc_ok (l:=(zaq 64 (s.drop 7)).1) (by rw [← hu,← k3]),?_,?_⟩
       ·exact (zfT (q:=(zaq 64 (s.drop 7)).2.1) (by rw [← hh,← k4])).1
       ·rw [← hh]; simpa using k5
theorem mail_err {s:List UInt8} (h:(zaW s).1 ≠ 0):(zaW s).2=([],[]):=by
 unfold zaW at h ⊢
 split
 ·rfl
 ·rename_i h1; rw [if_neg h1] at h
  split
  ·rfl
  ·rename_i h2; rw [if_neg h2] at h
   split
   ·rfl
   ·rename_i h3; rw [if_neg h3] at h
    split
    ·rfl
    ·rename_i h4; rw [if_neg h4] at h
     split
     ·rfl
     ·rename_i h5; rw [if_neg h5] at h
      split
      ·rfl
      ·rename_i h6; rw [if_neg h6] at h; exact absurd rfl h
section
variable [Tabs Tryz.prog] {objs:List OB} {K:List OB → AV → Prop}
theorem aParse_k (s:List UInt8) (hs:s.length ≤ maxLen) (hk:K objs (.tup [.agg [.s (zbl s).2.1,.s (zbl s).2.2],.i .i64 (zbl s).1])):zad Tryz.prog 155 [.s s] objs K :=
 conv (vs:=[.string (S s)]) rfl rfl (fun w => znB (S s) w (by rw [zac]; exact hs)) hk
theorem zqE (u h:List UInt8) (hu:u.length ≤ 9000000000000000000) (hh:h.length ≤ 100000000000000000) (hk:K objs (.s (fmtA u h))):zad Tryz.prog 156 [.agg [.s u,.s h]] objs K :=
 conv (vs:=[za9 u h]) rfl rfl (fun w => zk9 u h w hu hh) hk
theorem zng (u h:List UInt8) (hu:u.length ≤ 9000000000000000000) (hh:h.length ≤ 100000000000000000) (hk:K objs (.s (fmtA u h))):zad Tryz.prog 76 [.agg [.s u,.s h]] objs K :=
 conv (vs:=[za9 u h]) rfl rfl (fun w => zjw u h w hu hh) hk
theorem mParse_k (s:List UInt8) (hs:s.length ≤ maxLen) (hk:K objs (.tup [.agg [.s (zaW s).2.1,.s (zaW s).2.2],.i .i64 (zaW s).1])):zad Tryz.prog 157 [.s s] objs K :=
 conv (vs:=[.string (S s)]) rfl rfl (fun w => znn (S s) w (by rw [zac]; exact hs)) hk
theorem zo8 (u h:List UInt8) (hu:u.length ≤ 300000000) (hh:h.length ≤ 100000000000000000) (hk:K objs (.s (zj2 u h))):zad Tryz.prog 158 [.agg [.s u,.s h]] objs K :=
 conv (vs:=[za9 u h]) rfl rfl (fun w => zkJ u h w hu hh) hk
theorem zm9 (u h:List UInt8) (hu:u.length ≤ 300000000) (hh:h.length ≤ 100000000000000000) (hk:K objs (.s (zj2 u h))):zad Tryz.prog 78 [.agg [.s u,.s h]] objs K :=
 conv (vs:=[za9 u h]) rfl rfl (fun w => zjn u h w hu hh) hk
end
end Go.Proofs.YtljbdpihiboeaaaGreatDoor
namespace Go.Proofs.YtljbdpihiboeaaaGreatDoor
open Nat renaming reduceAdd → z6, reduceSub → z7, reduceLeDiff → z8, reduceLT → j3, reduceMul → j6, reduceEqDiff → j7
open Int renaming reduceToNat → j8, reduceAdd → j9, reduceSub → x0, reduceMul → x5, reduceNeg → x6, reduceLT → x7, reduceLE → x8, reduceEq → x9, reduceNe → y3
open Go.RowKit Sx
structure IdP where
 kind:Int
 text:List UInt8
 host:List UInt8
 port:Int
def idZ:IdP:=⟨0,[],[],0⟩
def zd9 (x:IdP):AV:=.agg [.i .i64 x.kind,.s x.text,.s x.host,.i .i64 x.port]
def idT (r:Int × IdP):AV:=.tup [zd9 r.2,.i .i64 r.1]
def acI (s:List UInt8):Int × IdP:=if (zbl s).1 ≠ 0 then ((zbl s).1,idZ) else (0,⟨1,fmtA (zbl s).2.1 (zbl s).2.2,(zbl s).2.2,0⟩)
def maI (s:List UInt8):Int × IdP:=if (zaW s).1 ≠ 0 then ((zaW s).1,idZ) else (0,⟨2,zj2 (zaW s).2.1 (zaW s).2.2,(zaW s).2.2,0⟩)
def weI (s:List UInt8):Int × IdP:=if (ze5 s).1 ≠ 0 then ((ze5 s).1,idZ) else (0,⟨3,zcm (ze5 s).2,(ze5 s).2.host,(ze5 s).2.port⟩)
def diC (c:Int × List UInt8 × List UInt8):Int × IdP:=if c.1 ≠ 0 then (c.1,idZ) else (0,⟨4,zbk c.2.1 c.2.2,(dwA c.2.1 c.2.2).2.1,(dwA c.2.1 c.2.2).2.2⟩)
def diI (s:List UInt8):Int × IdP:=if (zb7 s).1 ≠ 0 then ((zb7 s).1,idZ) else diC (zeO (zb7 s).2.1 (zb7 s).2.2)
def zjP:List UInt8:=[97,99,99,116]
def zjM:List UInt8:=[109,97,105,108,116,111]
def kWeb:List UInt8:=[104,116,116,112,115]
def kDid:List UInt8:=[100,105,100]
def zga (k s:List UInt8):Int × IdP:=if k=zjP then acI s else if k=zjM then maI s else if k=kWeb then weI s else if k=kDid then diI s else (60,idZ)
def zbC (s:List UInt8):Int × IdP :=
 if 4096 < s.length then (5,idZ)
 else if (zaq 58 s).2.2=false then (60,idZ)
 else zga (zbi (zaq 58 s).1) s
theorem zhk (s:List UInt8):(zbl s).2.1.length ≤ 16384 ∧ (zbl s).2.2.length ≤ 253:=by
 unfold zbl
 split
 ·exact ⟨Nat.zero_le _,Nat.zero_le _⟩
 split
 ·exact ⟨Nat.zero_le _,Nat.zero_le _⟩
 split
 ·exact ⟨Nat.zero_le _,Nat.zero_le _⟩
 split
 ·exact ⟨Nat.zero_le _,Nat.zero_le _⟩
 split
 ·exact ⟨Nat.zero_le _,Nat.zero_le _⟩
 rename_i h
 simp only [ne_eq,Decidable.not_not] at h
 refine ⟨(zdA _ _).2,?_⟩
 have e:zaK (zaq 64 (s.drop 5)).2.1=(0,(zaK (zaq 64 (s.drop 5)).2.1).2):=by rw [← h]
 exact (zfT e).2.2.1
theorem zg1 (s:List UInt8):(zaW s).2.1.length ≤ 64 ∧ (zaW s).2.2.length ≤ 253:=by
 by_cases h:(zaW s).1=0
 ·have e:zaW s=(0,(zaW s).2.1,(zaW s).2.2):=by rw [← h]
  obtain ⟨k1,k2,k3⟩:=znm e
  obtain ⟨_,k4,k5⟩:=mail_fmt k1 k2 k3
  exact ⟨k4,k5⟩
 ·rw [mail_err h]; exact ⟨by simp,by simp⟩
theorem zke {s:List UInt8} (h:(zb7 s).1=0):(zb7 s).2.1.length ≤ 4096 ∧ (zb7 s).2.2.length ≤ 12300:=by
 have e:zb7 s=(0,(zb7 s).2.1,(zb7 s).2.2):=by rw [← h]
 obtain ⟨k1,l,k2,k3,k4⟩:=zmH e
 have hl:(zbk (zb7 s).2.1 l).length=(zb7 s).2.1.length + l.length + 5:=by simp [zbk,zbD]; omega
 rw [← k2] at hl
 have hi:=idE_le k3
 omega
theorem zqt {m i:List UInt8} (h:(zeO m i).1 ≠ 0):(zeO m i).2=([],[]):=by
 unfold zeO at h ⊢
 split
 ·rfl
 ·rename_i g; rw [if_neg g] at h; exact from_err h
theorem zmM {m i:List UInt8} (h:(zeO m i).1=0):(dwA (zeO m i).2.1 (zeO m i).2.2).1=0 ∧ (zeO m i).2.1.length ≤ 3 ∧ (zeO m i).2.2.length ≤ 4096:=by
 have e:zeO m i=(0,(zeO m i).2):=by rw [← h]
 obtain ⟨k1,k2,k3,k4,k5⟩:=can_ok e
 obtain ⟨_,_,_,k6,_⟩:=zli k1
 refine ⟨by rw [k6],by rw [k5]; decide,from_len k2⟩
section
variable [Tabs Tryz.prog] {objs:List OB} {K:List OB → AV → Prop}
theorem zoC (s:List UInt8) (hs:s.length ≤ maxLen) (hk:K objs (.tup [.agg [.s (zbl s).2.1,.s (zbl s).2.2],.i .i64 (zbl s).1])):zad Tryz.prog 75 [.s s] objs K :=
 conv (vs:=[.string (S s)]) rfl rfl (fun w => zkD (S s) w (by rw [zac]; exact hs)) hk
theorem zoy (s:List UInt8) (hs:s.length ≤ maxLen) (hk:K objs (.tup [.agg [.s (zaW s).2.1,.s (zaW s).2.2],.i .i64 (zaW s).1])):zad Tryz.prog 77 [.s s] objs K :=
 conv (vs:=[.string (S s)]) rfl rfl (fun w => zkC (S s) w (by rw [zac]; exact hs)) hk
theorem rLower_k (s:List UInt8) (hs:s.length ≤ 140737488351232) (hk:K objs (.s (zbi s))):zad Tryz.prog 74 [.s s] objs K :=
 conv (vs:=[.string (S s)]) rfl rfl (fun w => zdK (S s) w (by rw [zac]; exact hs)) hk
theorem tAcct_k (s:List UInt8) (hs:s.length ≤ 4096) (hk:K objs (idT (acI s))):zad Tryz.prog 125 [.s s] objs K:=by
 refine za1 is_ident_text_acct rfl fun C _ => ?_
 simp only [c_ident_text_acct,sxZ,z6,z7,z8,j3,j6,j7,j8,j9,x0,x5,x6,x7,x8,x9,y3,reduceCtorEq,↓reduceIte]
 refine zae (aParse_k s (by unfold maxLen; omega) ?_)
 have hl:=zhk s
 unfold acI at hk
 by_cases c:(zbl s).1=0
 ·simp only [c,ne_eq,not_true_eq_false,if_false] at hk
  simp only [c,sxZ,z6,z7,z8,j3,j6,j7,j8,j9,x0,x5,x6,x7,x8,x9,y3,reduceCtorEq,↓reduceIte]
  refine zb6 (zqE _ _ (by omega) (by omega) ⟨rfl,rfl⟩) ?_
  simp only [sxZ,z6,z7,z8,j3,j6,j7,j8,j9,x0,x5,x6,x7,x8,x9,y3,reduceCtorEq,↓reduceIte]
  exact hk
 ·simp only [c,ne_eq,not_false_eq_true,if_true] at hk
  simp only [c,sxZ,z6,z7,z8,j3,j6,j7,j8,j9,x0,x5,x6,x7,x8,x9,y3,reduceCtorEq,↓reduceIte]
  exact hk
theorem tMail_k (s:List UInt8) (hs:s.length ≤ 4096) (hk:K objs (idT (maI s))):zad Tryz.prog 126 [.s s] objs K:=by
 refine za1 is_ident_text_mail rfl fun C _ => ?_
 simp only [c_ident_text_mail,sxZ,z6,z7,z8,j3,j6,j7,j8,j9,x0,x5,x6,x7,x8,x9,y3,reduceCtorEq,↓reduceIte]
 refine zae (mParse_k s (by unfold maxLen; omega) ?_)
 have hl:=zg1 s
 unfold maI at hk
 by_cases c:(zaW s).1=0
 ·simp only [c,ne_eq,not_true_eq_false,if_false] at hk
  simp only [c,sxZ,z6,z7,z8,j3,j6,j7,j8,j9,x0,x5,x6,x7,x8,x9,y3,reduceCtorEq,↓reduceIte]
  refine zb6 (zo8 _ _ (by omega) (by omega) ⟨rfl,rfl⟩) ?_
  simp only [sxZ,z6,z7,z8,j3,j6,j7,j8,j9,x0,x5,x6,x7,x8,x9,y3,reduceCtorEq,↓reduceIte]
  exact hk
 ·simp only [c,ne_eq,not_false_eq_true,if_true] at hk
  simp only [c,sxZ,z6,z7,z8,j3,j6,j7,j8,j9,x0,x5,x6,x7,x8,x9,y3,reduceCtorEq,↓reduceIte]
  exact hk
theorem tWeb_k [Pow Tryz.prog] (s:List UInt8) (hs:s.length ≤ 4096) (hk:K objs (idT (weI s))):zad Tryz.prog 127 [.s s] objs K:=by
 refine za1 is_ident_text_web rfl fun C _ => ?_
 simp only [c_ident_text_web,sxZ,z6,z7,z8,j3,j6,j7,j8,j9,x0,x5,x6,x7,x8,x9,y3,reduceCtorEq,↓reduceIte]
 refine zae (zlg s (by unfold maxLen; omega) ?_)
 have hl:=zlf s
 unfold weI at hk
 by_cases c:(ze5 s).1=0
 ·simp only [c,ne_eq,not_true_eq_false,if_false] at hk
  generalize (ze5 s).2=u at *
  simp only [c,zaA,sxZ,z6,z7,z8,j3,j6,j7,j8,j9,x0,x5,x6,x7,x8,x9,y3,reduceCtorEq,↓reduceIte]
  refine zb6 (zdE u hl ⟨rfl,rfl⟩) ?_
  simp only [sxZ,z6,z7,z8,j3,j6,j7,j8,j9,x0,x5,x6,x7,x8,x9,y3,reduceCtorEq,↓reduceIte]
  exact hk
 ·simp only [c,ne_eq,not_false_eq_true,if_true] at hk
  simp only [c,zaA,sxZ,z6,z7,z8,j3,j6,j7,j8,j9,x0,x5,x6,x7,x8,x9,y3,reduceCtorEq,↓reduceIte]
  exact hk
theorem tDid_k [Shp Tryz.prog] [Pow Tryz.prog] (s:List UInt8) (hs:s.length ≤ 4096) (hk:K objs (idT (diI s))):zad Tryz.prog 128 [.s s] objs K:=by
 refine za1 is_ident_text_did rfl fun C _ => ?_
 simp only [c_ident_text_did,sxZ,z6,z7,z8,j3,j6,j7,j8,j9,x0,x5,x6,x7,x8,x9,y3,reduceCtorEq,↓reduceIte]
 refine zae (zha s (by unfold maxLen; omega) ?_)
 unfold diI diC at hk
 by_cases c:(zb7 s).1=0
 ·obtain ⟨l1,l2⟩:=zke c
  simp only [c,ne_eq,not_true_eq_false,if_false] at hk
  generalize (zb7 s).2.1=m at *
  generalize (zb7 s).2.2=i at *
  simp only [c,sxZ,z6,z7,z8,j3,j6,j7,j8,j9,x0,x5,x6,x7,x8,x9,y3,reduceCtorEq,↓reduceIte]
  refine zae (dwCan_k m i (by omega) (by omega) ?_)
  by_cases c1:(zeO m i).1=0
  ·obtain ⟨a1,a2,a3⟩:=zmM c1
   simp only [c1,not_true_eq_false,if_false] at hk
   generalize (zeO m i).2.1=cm at *
   generalize (zeO m i).2.2=ci at *
   simp only [c1,sxZ,z6,z7,z8,j3,j6,j7,j8,j9,x0,x5,x6,x7,x8,x9,y3,reduceCtorEq,↓reduceIte]
   refine zae (zmr cm ci (by omega) (by omega) ?_)
   simp only [a1,zdS,sxZ,z6,z7,z8,j3,j6,j7,j8,j9,x0,x5,x6,x7,x8,x9,y3,reduceCtorEq,↓reduceIte]
   refine zb6 (zdy cm ci (by omega) (by omega) ⟨rfl,rfl⟩) ?_
   simp only [sxZ,z6,z7,z8,j3,j6,j7,j8,j9,x0,x5,x6,x7,x8,x9,y3,reduceCtorEq,↓reduceIte]
   exact hk
  ·have e:=zqt c1
   simp only [c1,not_false_eq_true,if_true] at hk
   simp only [c1,sxZ,z6,z7,z8,j3,j6,j7,j8,j9,x0,x5,x6,x7,x8,x9,y3,reduceCtorEq,↓reduceIte]
   exact hk
 ·simp only [c,ne_eq,not_false_eq_true,if_true] at hk
  simp only [c,sxZ,z6,z7,z8,j3,j6,j7,j8,j9,x0,x5,x6,x7,x8,x9,y3,reduceCtorEq,↓reduceIte]
  exact hk
end
end Go.Proofs.YtljbdpihiboeaaaGreatDoor
namespace Go.Proofs.YtljbdpihiboeaaaGreatDoor
open Go.RowKit Sx
theorem zgo {P:Program} [Tabs P] {f:FuncId} {args:List AV} {vs:List Value} {r:AV} {v:Value} {w:World} (ha:znE args=some vs) (hr:val r=some v) (hT:Tabs.T (P:=P) w) (h:zad P f args [] (fun _ x => x=r)) :
  Calls P f vs.toArray w fun e w' => e=.returned v ∧ Qb w w':=by
 haveI:On P ⟨w,fun _ => False,fun g o v => w.cell? ⟨g,o,none⟩=some v,Gh.none⟩:=⟨hT,fun _ h => h⟩
 have hc:=h ⟨w,fun _ => False,fun g o v => w.cell? ⟨g,o,none⟩=some v,Gh.none⟩ Gh.none (fun g o v => w.cell? ⟨g,o,none⟩=some v) w
  ⟨rfl,rfl,rfl,Nat.le_refl _,fun _ _ _ => rfl,fun _ _ _ h => h,fun _ _ _ h => .inl h,fun b g hb => by simp [Gh.own,Gh.none] at hb,Gh.le.refl _⟩
  ⟨fun _ _ _ h => h,by simp,by simp,by simp,fun b b' g hb => by simp [Gh.own,Gh.none] at hb,fun b g hb => by simp [Gh.own,Gh.none] at hb,fun b g o v hb => by simp [Gh.own,Gh.none] at hb,fun b _ => ⟨rfl,rfl⟩⟩ vs ((zcn _ _ args vs ha vs).2 rfl)
 refine hc.mono ?_
 rintro e w' ⟨y,objs',r',G',I',rfl,rfl,_,_,hin,_,hy⟩
 rw [(zgt _ _ _ v hr y).1 hy]
 exact ⟨rfl,hin.os,hin.tape,hin.output,hin.size,fun k hk => hin.block k hk (fun h => h)⟩
def mapW (W:World) (r:Nat) (es:Array MapEntry) (c:Nat):World:={ W with heap:=W.heap.setIfInBounds r (.map es c) }
theorem zgh {W:World} {r:Nat} {es:Array MapEntry} {c:Nat} (h:r < W.heap.size):(mapW W r es c).heap[r]? = some (.map es c):=by
 simp [mapW,h]
theorem zdN {W:World} {r g:Nat} {es:Array MapEntry} {c:Nat} (h:g ≠ r):(mapW W r es c).heap[g]? = W.heap[g]?:=by
 simp only [mapW,Array.getElem?_setIfInBounds]
 rw [if_neg (fun e => h e.symm)]
theorem zbW (W:World) (r:Nat) (es:Array MapEntry) (c:Nat):(mapW W r es c).heap.size=W.heap.size:=by simp [mapW]
theorem Qb.map {w W:World} (h:Qb w W) (r:Nat) (es:Array MapEntry) (c:Nat) (hr:w.heap.size ≤ r):Qb w (mapW W r es c) :=
 ⟨h.os,h.tape,h.output,by rw [zbW]; exact h.size,fun k hk => by rw [zdN (by omega)]; exact h.block k hk⟩
theorem ziq {P:Program} {w:World} (mty kt et:TypeId) (r clock:Nat) (es:Array MapEntry) (s:ByteArray) (val:Value) (hm:P.underlying mty=some (.map kt et)) (hk:P.underlying kt=some .string) (hb:w.heap[r]? = some (.map es clock)) (hf:Instr.findNow .string (.string s) es.toList 0=some none) :
  (Instr.mapUpdate mty (.map (some r)) (.string s) val).run P w=.ok () (mapW w r (es.push { key:=.string s,val:=val,born:=clock }) (clock + 1)):=by
 have hc:(Instr.checkKey false 10000 kt (.string s)).run P w=.ok () w:=MapKept.run_checkKey (k:=.string s) hk (by simp [MapKept.IsKey]) false 9999
 simp [Instr.mapUpdate,run_underlying hm,MapKept.run_getObj_map hb,hc,MapKept.run_findKey hk hf,MapKept.run_setObj_map _ hb,Result.andThen,mapW]
theorem run_look {P:Program} {w:World} (mty kt et:TypeId) (r clock:Nat) (es:Array MapEntry) (s:ByteArray) (z:Value) (o:Option (Nat × Value)) (hm:P.underlying mty=some (.map kt et)) (hk:P.underlying kt=some .string) (hz:(zeroValue et).run P w=.ok z w) (hb:w.heap[r]? = some (.map es clock)) (hf:Instr.findNow .string (.string s) es.toList 0=some o) :
  (Instr.lookup mty (.map (some r)) (.string s) true).run P w=.ok (.tuple #[(o.map (·.2)).getD z,.bool o.isSome]) w:=by
 have hc:∀ b,(Instr.checkKey b 10000 kt (.string s)).run P w=.ok () w:=fun b => MapKept.run_checkKey (k:=.string s) hk (by simp [MapKept.IsKey]) b 9999
 cases o with
 | none => simp [Instr.lookup,run_underlying hm,MapKept.run_getObj_map hb,hc,MapKept.run_findKey hk hf,Result.andThen,hz]
 | some p => simp [Instr.lookup,run_underlying hm,MapKept.run_getObj_map hb,hc,MapKept.run_findKey hk hf,Result.andThen,hz]
def idV (r:Int × IdP):Value:=.tuple #[.agg #[.int .i64 r.2.kind,.string (S r.2.text),.string (S r.2.host),.int .i64 r.2.port],.int .i64 r.1]
theorem zg2 (r:Int × IdP):val (idT r)=some (idV r):=rfl
def rdrs:Array MapEntry:=#[⟨.string (S zjP),.func (.func 125) #[] #[],0⟩,⟨.string (S zjM),.func (.func 126) #[] #[],1⟩,⟨.string (S kWeb),.func (.func 127) #[] #[],2⟩,⟨.string (S kDid),.func (.func 128) #[] #[],3⟩]
def zkV (k:List UInt8):Option (Nat × Value) :=
 if k=zjP then some (0,.func (.func 125) #[] #[]) else if k=zjM then some (1,.func (.func 126) #[] #[]) else if k=kWeb then some (2,.func (.func 127) #[] #[]) else if k=kDid then some (3,.func (.func 128) #[] #[]) else none
theorem findK_is (k:List UInt8):Instr.findNow .string (.string (S k)) rdrs.toList 0=some (zkV k):=by
 have key:∀ x:List UInt8,Instr.sameNow .string (.string (S k)) (.string (S x))=some (decide (k=x)):=by
  intro x
  have e:(S k == S x)=(k.toArray == x.toArray):=rfl
  show some (S k == S x)=_
  rw [e]
  by_cases h:k=x
  ·subst h; simp
  ·simp [h]
 show Instr.findNow .string (.string (S k)) [⟨.string (S zjP),_,_⟩,⟨.string (S zjM),_,_⟩,⟨.string (S kWeb),_,_⟩,⟨.string (S kDid),_,_⟩] 0=_
 unfold zkV
 by_cases h1:k=zjP
 ·simp only [Instr.findNow,key,decide_eq_true h1,if_pos h1]
 ·by_cases h2:k=zjM
  ·simp only [Instr.findNow,key,decide_eq_false h1,decide_eq_true h2,if_pos h2,if_neg h1]
  ·by_cases h3:k=kWeb
   ·simp only [Instr.findNow,key,decide_eq_false h1,decide_eq_false h2,decide_eq_true h3,if_pos h3,if_neg h1,if_neg h2]
   ·by_cases h4:k=kDid
    ·simp only [Instr.findNow,key,decide_eq_false h1,decide_eq_false h2,decide_eq_false h3,decide_eq_true h4,if_pos h4,if_neg h1,if_neg h2,if_neg h3]
    ·simp only [Instr.findNow,key,decide_eq_false h1,decide_eq_false h2,decide_eq_false h3,decide_eq_false h4,if_neg h4,if_neg h1,if_neg h2,if_neg h3]
section
set_option maxHeartbeats 2000000 in
theorem zhv [Tabs Tryz.prog] [Shp Tryz.prog] [Pow Tryz.prog] (s:ByteArray) (w:World) (hs:s.size ≤ 140737488351232) (hT:Tabs.T (P:=Tryz.prog) w):Calls Tryz.prog 95 #[.string s] w fun e w' => e=.returned (idV (zbC s.data.toList)) ∧ Qb w w':=by
 by_cases h0:4096 < s.size
 ·have HF:Hid (zbC s.data.toList=(5,idZ)):=Lib.hid (by unfold zbC; rw [if_pos (by rw [zaa]; exact h0)])
  go_enter Tryz.func95,Tryz.ntmps95
  go_wp2_with fail
  exact bodyPost_ret (v:=idV (5,idZ)) (by simp [results,Tryz.results95,go_sem,idV,idZ]) rfl ⟨by rw [HF.out],(Qb.refl w).alloc _⟩
 have hmm:=@run_makeMap Tryz.prog
 have hk0:(Tryz.prog).underlying 9=some .string:=by kernel_rfl
 obtain ⟨et,hm⟩:∃ et,(Tryz.prog).underlying 165=some (.map 9 et):=⟨162,by kernel_rfl⟩
 have hb0:((w.alloc (Obj.cells #[Value.int IntKind.i64 0,Value.string ⟨#[]⟩,Value.string ⟨#[]⟩,Value.int IntKind.i64 0] 23)).alloc (Obj.map #[] 0)).heap[w.heap.size + 1]? = some (.map #[] 0):=by
  have e:(w.alloc (Obj.cells #[Value.int IntKind.i64 0,Value.string ⟨#[]⟩,Value.string ⟨#[]⟩,Value.int IntKind.i64 0] 23)).heap.size=w.heap.size + 1:=by simp
  rw [← e]; exact heap_alloc_new _ _
 have hob:Obk ((w.alloc (Obj.cells #[Value.int IntKind.i64 0,Value.string ⟨#[]⟩,Value.string ⟨#[]⟩,Value.int IntKind.i64 0] 23)).alloc (Obj.map #[] 0)) w.heap.size 23 #[Value.int IntKind.i64 0,Value.string ⟨#[]⟩,Value.string ⟨#[]⟩,Value.int IntKind.i64 0]:=(Obk.new w _ _).alloc _
 have hqb:Qb w ((w.alloc (Obj.cells #[Value.int IntKind.i64 0,Value.string ⟨#[]⟩,Value.string ⟨#[]⟩,Value.int IntKind.i64 0] 23)).alloc (Obj.map #[] 0)):=((Qb.refl w).alloc _).alloc _
 go_enter Tryz.func95,Tryz.ntmps95
 go_wp2_with fail
 generalize ((w.alloc (Obj.cells #[Value.int IntKind.i64 0,Value.string ⟨#[]⟩,Value.string ⟨#[]⟩,Value.int IntKind.i64 0] 23)).alloc (Obj.map #[] 0))=W0 at hb0 hob hqb ⊢
 have hlt:w.heap.size + 1 < W0.heap.size:=by
  rcases Nat.lt_or_ge (w.heap.size + 1) W0.heap.size with h | h
  ·exact h
  ·rw [Array.getElem?_eq_none h] at hb0; cases hb0
 rw [ziq _ 9 et (w.heap.size + 1) 0 #[] ⟨#[97,99,99,116]⟩ _ hm hk0 hb0 rfl]
 simp only [Result.andThen]
 rw [Oper.upon_skip]
 go_wp2_with fail
 rw [ziq _ 9 et (w.heap.size + 1) 1 _ ⟨#[109,97,105,108,116,111]⟩ _ hm hk0 (zgh hlt) rfl]
 simp only [Result.andThen]
 rw [Oper.upon_skip]
 go_wp2_with fail
 rw [ziq _ 9 et (w.heap.size + 1) 2 _ ⟨#[104,116,116,112,115]⟩ _ hm hk0 (zgh (by rw [zbW]; exact hlt)) rfl]
 simp only [Result.andThen]
 rw [Oper.upon_skip]
 go_wp2_with fail
 rw [ziq _ 9 et (w.heap.size + 1) 3 _ ⟨#[100,105,100]⟩ _ hm hk0 (zgh (by rw [zbW,zbW]; exact hlt)) rfl]
 simp only [Result.andThen]
 rw [Oper.upon_skip]
 go_wp2_with fail
 refine (zbe s 58 _ (by unfold maxLen; omega)).mono ?_
 rintro e w1 ⟨rfl,hq1⟩
 have hM:w1.heap[w.heap.size + 1]? = some (.map rdrs 4):=(hq1.block _ (by rw [zbW,zbW,zbW,zbW]; exact hlt)).trans (zgh (by rw [zbW,zbW,zbW]; exact hlt))
 have hO:Obk w1 w.heap.size 23 #[Value.int IntKind.i64 0,Value.string ⟨#[]⟩,Value.string ⟨#[]⟩,Value.int IntKind.i64 0]:=by
  refine Obk.qb ?_ hq1
  unfold Obk
  rw [zdN (by omega),zdN (by omega),zdN (by omega),zdN (by omega)]
  exact hob
 have hQ:Qb w w1:=((((hqb.map _ _ _ (by omega)).map _ _ _ (by omega)).map _ _ _ (by omega)).map _ _ _ (by omega)).trans hq1
 clear hq1 hob hqb hb0 hlt
 have hcl:=za2 58 s.data.toList
 rw [zaa] at hcl
 obtain ⟨p,q,b,hcut⟩:∃ p q b,zaq 58 s.data.toList=(p,q,b):=⟨_,_,_,rfl⟩
 have HC:=Lib.hid hcut
 rw [hcut] at hcl ⊢
 simp only [zeL] at hcl ⊢
 go_wp2_with fail
 refine (zhm (S p) w1 (by rw [zac]; omega)).mono ?_
 rintro e w2 ⟨rfl,hq2⟩
 have hM2:w2.heap[w.heap.size + 1]? = some (.map rdrs 4):=(hq2.block _ (by
  rcases Nat.lt_or_ge (w.heap.size + 1) w1.heap.size with h | h
  ·exact h
  ·rw [Array.getElem?_eq_none h] at hM; cases hM)).trans hM
 have hO2:=hO.qb hq2
 have hQ2:=hQ.trans hq2
 clear hq2 hM hO hQ
 have hSp:(S p).data.toList=p:=rfl
 rw [hSp]
 have hz:(zeroValue et).run Tryz.prog w2=.ok .nilFunc w2:=by
  have:et=162:=by
   have h2:(Tryz.prog).underlying 165=some (.map 9 162):=by kernel_rfl
   rw [hm] at h2; injection h2 with h2; injection h2
  subst this
  rfl
 go_wp2_with fail
 rw [run_look _ 9 et (w.heap.size + 1) 4 rdrs (S (zbi p)) .nilFunc (zkV (zbi p)) hm hk0 hz hM2 (findK_is _)]
 simp only [Result.andThen]
 rw [Oper.upon_value]
 obtain ⟨fv,hfv⟩:∃ fv,((zkV (zbi p)).map (·.2)).getD Value.nilFunc=fv:=⟨_,rfl⟩
 obtain ⟨fb,hfb⟩:∃ fb,(zkV (zbi p)).isSome=fb:=⟨_,rfl⟩
 rw [hfv,hfb]
 clear hM2 hz hSp hmm hm hk0
 have hc0:=hO2.cell 0
 have hc1:=hO2.cell 1
 have hc2:=hO2.cell 2
 have hc3:=hO2.cell 3
 have hf0:=hO2.frozen 0
 have hf1:=hO2.frozen 1
 have hf2:=hO2.frozen 2
 have hf3:=hO2.frozen 3
 simp at hc0 hc1 hc2 hc3
 cases b with
 | false =>
  have HF:Hid (zbC s.data.toList=(60,idZ)):=Lib.hid (by unfold zbC; rw [if_neg (by rw [zaa]; exact h0),HC.out,if_pos rfl])
  go_wp2_with fail
  exact bodyPost_ret (v:=idV (60,idZ)) (by simp [results,Tryz.results95,go_sem,hc0,hc1,hc2,hc3,hf0,hf1,hf2,hf3,idV,idZ]) rfl ⟨by rw [HF.out],(((hQ2.set (Nat.le_refl _) _).set (Nat.le_refl _) _).set (Nat.le_refl _) _).set (Nat.le_refl _) _⟩
 | true =>
 cases fb with
 | false =>
  have HF:Hid (zbC s.data.toList=(60,idZ)):=Lib.hid (by
   unfold zbC; rw [if_neg (by rw [zaa]; exact h0),HC.out,if_neg (by simp)]
   show zga (zbi p) _=_
   unfold zkV at hfb
   unfold zga
   split at hfb
   ·cases hfb
   split at hfb
   ·cases hfb
   split at hfb
   ·cases hfb
   split at hfb
   ·cases hfb
   rename_i a1 a2 a3 a4
   rw [if_neg a1,if_neg a2,if_neg a3,if_neg a4])
  go_wp2_with fail
  exact bodyPost_ret (v:=idV (60,idZ)) (by simp [results,Tryz.results95,go_sem,hc0,hc1,hc2,hc3,hf0,hf1,hf2,hf3,idV,idZ]) rfl ⟨by rw [HF.out],(((hQ2.set (Nat.le_refl _) _).set (Nat.le_refl _) _).set (Nat.le_refl _) _).set (Nat.le_refl _) _⟩
 | true =>
 clear hc0 hc1 hc2 hc3 hf0 hf1 hf2 hf3
 have hT2:Tabs.T (P:=Tryz.prog) w2:=Sx.Tabs.keep _ _ hT (fun k hk => hQ2.block k hk) hQ2.size
 obtain ⟨fid,r,hfv2,hr,hent,hcall⟩:∃ fid r,fv=.func (.func fid) #[] #[] ∧ zbC s.data.toList=r ∧ (∀ W,(callFunc fid #[.string s]).run Tryz.prog W=.ok (.enter fid #[.string s]) W) ∧ Calls Tryz.prog fid #[.string s] w2 fun e w' => e=.returned (idV r) ∧ Qb w2 w':=by
  have HF:zbC s.data.toList=zga (zbi p) s.data.toList:=by
   unfold zbC; rw [if_neg (by rw [zaa]; exact h0),HC.out,if_neg (by simp)]
  have h4:s.data.toList.length ≤ 4096:=by rw [zaa]; omega
  have hv:znE [AV.s s.data.toList]=some [.string s]:=rfl
  unfold zkV at hfb hfv
  unfold zga at HF
  by_cases a1:zbi p=zjP
  ·simp only [if_pos a1] at hfv HF
   exact ⟨_,_,hfv.symm,HF,fun _ => rfl,zgo hv (zg2 _) hT2 (tAcct_k s.data.toList h4 rfl)⟩
  simp only [if_neg a1] at hfv hfb HF
  by_cases a2:zbi p=zjM
  ·simp only [if_pos a2] at hfv HF
   exact ⟨_,_,hfv.symm,HF,fun _ => rfl,zgo hv (zg2 _) hT2 (tMail_k s.data.toList h4 rfl)⟩
  simp only [if_neg a2] at hfv hfb HF
  by_cases a3:zbi p=kWeb
  ·simp only [if_pos a3] at hfv HF
   exact ⟨_,_,hfv.symm,HF,fun _ => rfl,zgo hv (zg2 _) hT2 (tWeb_k s.data.toList h4 rfl)⟩
  simp only [if_neg a3] at hfv hfb HF
  by_cases a4:zbi p=kDid
  ·simp only [if_pos a4] at hfv HF
   exact ⟨_,_,hfv.symm,HF,fun _ => rfl,zgo hv (zg2 _) hT2 (tDid_k s.data.toList h4 rfl)⟩
  simp only [if_neg a4] at hfb
  cases hfb
 rw [hfv2]
 have HR:=Lib.hid hr
 clear hr hfv hfb hfv2
 go_wp2_with fail
 refine hcall.mono ?_
 rintro e w3 ⟨rfl,hq3⟩
 have hO3:=hO2.qb hq3
 have hQ3:=hQ2.trans hq3
 have hc0:=hO3.cell 0
 have hc1:=hO3.cell 1
 have hc2:=hO3.cell 2
 have hc3:=hO3.cell 3
 have hf0:=hO3.frozen 0
 have hf1:=hO3.frozen 1
 have hf2:=hO3.frozen 2
 have hf3:=hO3.frozen 3
 simp at hc0 hc1 hc2 hc3
 clear hcall hent
 obtain ⟨er,kd,tx,ho,pt⟩:=r
 simp only [idV]
 go_wp2_with fail
 exact bodyPost_ret (v:=idV (er,⟨kd,tx,ho,pt⟩)) (by simp [results,Tryz.results95,go_sem,hc0,hc1,hc2,hc3,hf0,hf1,hf2,hf3,idV]) rfl ⟨by rw [HR.out],(((hQ3.set (Nat.le_refl _) _).set (Nat.le_refl _) _).set (Nat.le_refl _) _).set (Nat.le_refl _) _⟩
end
end Go.Proofs.YtljbdpihiboeaaaGreatDoor
namespace Go.Proofs.YtljbdpihiboeaaaGreatDoor
open Nat renaming reduceAdd → z6, reduceSub → z7, reduceLeDiff → z8, reduceLT → j3, reduceMul → j6, reduceEqDiff → j7
open Int renaming reduceToNat → j8, reduceAdd → j9, reduceSub → x0, reduceMul → x5, reduceNeg → x6, reduceLT → x7, reduceLE → x8, reduceEq → x9, reduceNe → y3
open Go.RowKit Sx
def idEq (x y:IdP):Bool:=decide (x.kind=y.kind) && (decide (x.text=y.text) && (decide (x.host=y.host) && decide (x.port=y.port)))
def znF (x:IdP):Bool:=decide ((zbC x.text).1=0) && idEq (zbC x.text).2 x
section
variable [Tabs Tryz.prog] {objs:List OB} {K:List OB → AV → Prop}
theorem zkR (x:IdP) (hk:K objs (.agg [.s x.host,.i .i64 x.port])):zad Tryz.prog 84 [zd9 x] objs K:=by
 refine za1 is_ident_Authority rfl fun C _ => ?_
 simp only [c_ident_Authority,zd9,sxZ,z6,z7,z8,j3,j6,j7,j8,j9,x0,x5,x6,x7,x8,x9,y3,reduceCtorEq,↓reduceIte]
 exact hk
theorem rIdWeb_k (s:List UInt8) (hs:s.length ≤ 4096) (hk:K objs (idT (weI s))):zad Tryz.prog 79 [.s s] objs K:=by
 refine za1 is_ref12_web rfl fun C _ => ?_
 simp only [c_ref12_web,sxZ,z6,z7,z8,j3,j6,j7,j8,j9,x0,x5,x6,x7,x8,x9,y3,reduceCtorEq,↓reduceIte]
 refine zae (zji s (by omega) ?_)
 have hl:=zlf s
 unfold weI at hk
 by_cases c:(ze5 s).1=0
 ·simp only [c,ne_eq,not_true_eq_false,if_false] at hk
  generalize (ze5 s).2=u at *
  simp only [c,zaA,sxZ,z6,z7,z8,j3,j6,j7,j8,j9,x0,x5,x6,x7,x8,x9,y3,reduceCtorEq,↓reduceIte]
  refine zb6 (zch u hl ⟨rfl,rfl⟩) ?_
  simp only [sxZ,z6,z7,z8,j3,j6,j7,j8,j9,x0,x5,x6,x7,x8,x9,y3,reduceCtorEq,↓reduceIte]
  exact hk
 ·simp only [c,ne_eq,not_false_eq_true,if_true] at hk
  simp only [c,zaA,sxZ,z6,z7,z8,j3,j6,j7,j8,j9,x0,x5,x6,x7,x8,x9,y3,reduceCtorEq,↓reduceIte]
  exact hk
theorem rIdDid_k (s:List UInt8) (hs:s.length ≤ 4096) (hk:K objs (idT (diI s))):zad Tryz.prog 80 [.s s] objs K:=by
 refine za1 is_ref12_decentral rfl fun C _ => ?_
 simp only [c_ref12_decentral,sxZ,z6,z7,z8,j3,j6,j7,j8,j9,x0,x5,x6,x7,x8,x9,y3,reduceCtorEq,↓reduceIte]
 refine zae (zf1 s (by unfold maxLen; omega) ?_)
 unfold diI diC at hk
 by_cases c:(zb7 s).1=0
 ·obtain ⟨l1,l2⟩:=zke c
  simp only [c,ne_eq,not_true_eq_false,if_false] at hk
  generalize (zb7 s).2.1=m at *
  generalize (zb7 s).2.2=i at *
  simp only [c,sxZ,z6,z7,z8,j3,j6,j7,j8,j9,x0,x5,x6,x7,x8,x9,y3,reduceCtorEq,↓reduceIte]
  refine zae (rdwCan_k m i (by omega) (by omega) ?_)
  by_cases c1:(zeO m i).1=0
  ·obtain ⟨a1,a2,a3⟩:=zmM c1
   simp only [c1,not_true_eq_false,if_false] at hk
   generalize (zeO m i).2.1=cm at *
   generalize (zeO m i).2.2=ci at *
   simp only [c1,sxZ,z6,z7,z8,j3,j6,j7,j8,j9,x0,x5,x6,x7,x8,x9,y3,reduceCtorEq,↓reduceIte]
   refine zae (zoA cm ci (by omega) (by omega) ?_)
   simp only [a1,zdS,sxZ,z6,z7,z8,j3,j6,j7,j8,j9,x0,x5,x6,x7,x8,x9,y3,reduceCtorEq,↓reduceIte]
   refine zb6 (zcY cm ci (by omega) (by omega) ⟨rfl,rfl⟩) ?_
   simp only [sxZ,z6,z7,z8,j3,j6,j7,j8,j9,x0,x5,x6,x7,x8,x9,y3,reduceCtorEq,↓reduceIte]
   exact hk
  ·have e:=zqt c1
   simp only [c1,not_false_eq_true,if_true] at hk
   simp only [c1,sxZ,z6,z7,z8,j3,j6,j7,j8,j9,x0,x5,x6,x7,x8,x9,y3,reduceCtorEq,↓reduceIte]
   exact hk
 ·simp only [c,ne_eq,not_false_eq_true,if_true] at hk
  simp only [c,sxZ,z6,z7,z8,j3,j6,j7,j8,j9,x0,x5,x6,x7,x8,x9,y3,reduceCtorEq,↓reduceIte]
  exact hk
theorem zhN (s:List UInt8) (hs:s.length ≤ 140737488351232) (hk:K objs (idT (zbC s))):zad Tryz.prog 42 [.s s] objs K:=by
 refine za1 is_ref12_Parse rfl fun C _ => ?_
 have hm:maxLen=2 ^ 63 - 1:=rfl
 unfold zbC at hk
 by_cases c0:(4096:Int) < ↑s.length
 ·have c0':4096 < s.length:=by omega
  rw [if_pos c0'] at hk
  simp only [c0,c_ref12_Parse,sxZ,z6,z7,z8,j3,j6,j7,j8,j9,x0,x5,x6,x7,x8,x9,y3,reduceCtorEq,↓reduceIte]
  exact hk
 have c0':¬ 4096 < s.length:=by omega
 rw [if_neg c0'] at hk
 simp only [c0,c_ref12_Parse,sxZ,z6,z7,z8,j3,j6,j7,j8,j9,x0,x5,x6,x7,x8,x9,y3,reduceCtorEq,↓reduceIte]
 refine zae (zaZ s [58] (by omega) (by decide) ?_)
 have c58:=zer 58 s
 have hil:=ziH s [58]
 by_cases h58:zaz s [58] < s.length
 ·have e58:=c58.1 h58
  rw [e58,if_neg (by simp)] at hk
  have hne:¬ ((zaz s [58]:Nat):Int)=((s.length:Nat):Int):=by omega
  have htl:(s.take (zaz s [58])).length ≤ s.length:=by rw [List.length_take]; omega
  simp only [hne,sxZ,z6,z7,z8,j3,j6,j7,j8,j9,x0,x5,x6,x7,x8,x9,y3,reduceCtorEq,↓reduceIte]
  refine ⟨⟨by omega,by omega⟩,?_⟩
  refine zae (rLower_k _ (by omega) ?_)
  simp only at hk
  generalize zbi (s.take (zaz s [58]))=kd at *
  unfold zga at hk
  by_cases a1:kd=zjP
  ·subst a1
   rw [if_pos rfl] at hk
   simp only [zjP,sxZ,z6,z7,z8,j3,j6,j7,j8,j9,x0,x5,x6,x7,x8,x9,y3,reduceCtorEq,↓reduceIte]
   refine zae (zoC s (by omega) ?_)
   have hl:=zhk s
   unfold acI at hk
   by_cases c:(zbl s).1=0
   ·simp only [c,ne_eq,not_true_eq_false,if_false] at hk
    simp only [c,sxZ,z6,z7,z8,j3,j6,j7,j8,j9,x0,x5,x6,x7,x8,x9,y3,reduceCtorEq,↓reduceIte]
    refine zb6 (zng _ _ (by omega) (by omega) ⟨rfl,rfl⟩) ?_
    simp only [sxZ,z6,z7,z8,j3,j6,j7,j8,j9,x0,x5,x6,x7,x8,x9,y3,reduceCtorEq,↓reduceIte]
    exact hk
   ·simp only [c,ne_eq,not_false_eq_true,if_true] at hk
    simp only [c,sxZ,z6,z7,z8,j3,j6,j7,j8,j9,x0,x5,x6,x7,x8,x9,y3,reduceCtorEq,↓reduceIte]
    exact hk
  rw [if_neg a1] at hk
  by_cases a2:kd=zjM
  ·subst a2
   rw [if_pos rfl] at hk
   have n0:¬ ([109,97,105,108,116,111]:List UInt8)=[97,99,99,116]:=by decide
   simp only [zjM,n0,sxZ,z6,z7,z8,j3,j6,j7,j8,j9,x0,x5,x6,x7,x8,x9,y3,reduceCtorEq,↓reduceIte]
   refine zae (zoy s (by omega) ?_)
   have hl:=zg1 s
   unfold maI at hk
   by_cases c:(zaW s).1=0
   ·simp only [c,ne_eq,not_true_eq_false,if_false] at hk
    simp only [c,sxZ,z6,z7,z8,j3,j6,j7,j8,j9,x0,x5,x6,x7,x8,x9,y3,reduceCtorEq,↓reduceIte]
    refine zb6 (zm9 _ _ (by omega) (by omega) ⟨rfl,rfl⟩) ?_
    simp only [sxZ,z6,z7,z8,j3,j6,j7,j8,j9,x0,x5,x6,x7,x8,x9,y3,reduceCtorEq,↓reduceIte]
    exact hk
   ·simp only [c,ne_eq,not_false_eq_true,if_true] at hk
    simp only [c,sxZ,z6,z7,z8,j3,j6,j7,j8,j9,x0,x5,x6,x7,x8,x9,y3,reduceCtorEq,↓reduceIte]
    exact hk
  rw [if_neg a2] at hk
  by_cases a3:kd=kWeb
  ·subst a3
   rw [if_pos rfl] at hk
   have n0:¬ ([104,116,116,112,115]:List UInt8)=[97,99,99,116]:=by decide
   have n1:¬ ([104,116,116,112,115]:List UInt8)=[109,97,105,108,116,111]:=by decide
   simp only [kWeb,n0,n1,sxZ,z6,z7,z8,j3,j6,j7,j8,j9,x0,x5,x6,x7,x8,x9,y3,reduceCtorEq,↓reduceIte]
   refine zae (rIdWeb_k s (by omega) ?_)
   simp only [idT,zd9,sxZ,z6,z7,z8,j3,j6,j7,j8,j9,x0,x5,x6,x7,x8,x9,y3,reduceCtorEq,↓reduceIte]
   exact hk
  rw [if_neg a3] at hk
  by_cases a4:kd=kDid
  ·subst a4
   rw [if_pos rfl] at hk
   have n0:¬ ([100,105,100]:List UInt8)=[97,99,99,116]:=by decide
   have n1:¬ ([100,105,100]:List UInt8)=[109,97,105,108,116,111]:=by decide
   have n2:¬ ([100,105,100]:List UInt8)=[104,116,116,112,115]:=by decide
   simp only [kDid,n0,n1,n2,sxZ,z6,z7,z8,j3,j6,j7,j8,j9,x0,x5,x6,x7,x8,x9,y3,reduceCtorEq,↓reduceIte]
   refine zae (rIdDid_k s (by omega) ?_)
   simp only [idT,zd9,sxZ,z6,z7,z8,j3,j6,j7,j8,j9,x0,x5,x6,x7,x8,x9,y3,reduceCtorEq,↓reduceIte]
   exact hk
  rw [if_neg a4] at hk
  have b1:¬ kd=[97,99,99,116]:=a1
  have b2:¬ kd=[109,97,105,108,116,111]:=a2
  have b3:¬ kd=[104,116,116,112,115]:=a3
  have b4:¬ kd=[100,105,100]:=a4
  simp only [b1,b2,b3,b4,sxZ,z6,z7,z8,j3,j6,j7,j8,j9,x0,x5,x6,x7,x8,x9,y3,reduceCtorEq,↓reduceIte]
  exact hk
 ·have e58:=c58.2 h58
  rw [e58,if_pos rfl] at hk
  have he:((zaz s [58]:Nat):Int)=((s.length:Nat):Int):=by omega
  simp only [he,sxZ,z6,z7,z8,j3,j6,j7,j8,j9,x0,x5,x6,x7,x8,x9,y3,reduceCtorEq,↓reduceIte]
  exact hk
theorem znh (x:IdP) (hs:x.text.length ≤ 140737488351232) (hk:K objs (.b (znF x))):zad Tryz.prog 90 [zd9 x] objs K:=by
 refine za1 is_ref12_Valid rfl fun C _ => ?_
 simp only [c_ref12_Valid,zd9,sxZ,z6,z7,z8,j3,j6,j7,j8,j9,x0,x5,x6,x7,x8,x9,y3,reduceCtorEq,↓reduceIte]
 refine zae (zhN x.text hs ?_)
 unfold znF at hk
 obtain ⟨⟨er,y⟩,hy⟩:∃ r,zbC x.text=r:=⟨_,rfl⟩
 rw [hy] at hk ⊢
 simp only [idT,zd9,sxZ,z6,z7,z8,j3,j6,j7,j8,j9,x0,x5,x6,x7,x8,x9,y3,reduceCtorEq,↓reduceIte]
 by_cases c:er=0
 ·simp only [c,sxZ,z6,z7,z8,j3,j6,j7,j8,j9,x0,x5,x6,x7,x8,x9,y3,reduceCtorEq,↓reduceIte]
  simpa [c,idEq] using hk
 ·simp only [c,sxZ,z6,z7,z8,j3,j6,j7,j8,j9,x0,x5,x6,x7,x8,x9,y3,reduceCtorEq,↓reduceIte]
  simpa [c] using hk
end
section
variable [Tabs Tryz.prog] [Shp Tryz.prog] [Pow Tryz.prog] {objs:List OB} {K:List OB → AV → Prop}
theorem zjV (s:List UInt8) (hs:s.length ≤ 140737488351232) (hk:K objs (idT (zbC s))):zad Tryz.prog 95 [.s s] objs K :=
 convT (vs:=[.string (S s)]) rfl (zg2 _) (fun w hT => zhv (S s) w (by rw [zac]; exact hs) hT) hk
theorem zjU (x:IdP) (hs:x.text.length ≤ 140737488351232) (hk:K objs (.b (znF x))):zad Tryz.prog 83 [zd9 x] objs K:=by
 refine za1 is_ident_Valid rfl fun C _ => ?_
 simp only [c_ident_Valid,zd9,sxZ,z6,z7,z8,j3,j6,j7,j8,j9,x0,x5,x6,x7,x8,x9,y3,reduceCtorEq,↓reduceIte]
 refine zae (zjV x.text hs ?_)
 unfold znF at hk
 obtain ⟨⟨er,y⟩,hy⟩:∃ r,zbC x.text=r:=⟨_,rfl⟩
 rw [hy] at hk ⊢
 simp only [idT,zd9,sxZ,z6,z7,z8,j3,j6,j7,j8,j9,x0,x5,x6,x7,x8,x9,y3,reduceCtorEq,↓reduceIte]
 by_cases c:er=0
 ·simp only [c,sxZ,z6,z7,z8,j3,j6,j7,j8,j9,x0,x5,x6,x7,x8,x9,y3,reduceCtorEq,↓reduceIte]
  simpa [c,idEq] using hk
 ·simp only [c,sxZ,z6,z7,z8,j3,j6,j7,j8,j9,x0,x5,x6,x7,x8,x9,y3,reduceCtorEq,↓reduceIte]
  simpa [c] using hk
end
end Go.Proofs.YtljbdpihiboeaaaGreatDoor
namespace Go.Proofs.YtljbdpihiboeaaaGreatDoor.Sx
open Go.RowKit
section
variable {P:Program} [Tabs P] {C:Cx}
variable {F:zbA} {k:List IT} {objs:List OB} {tm:List AV}
end
end Go.Proofs.YtljbdpihiboeaaaGreatDoor.Sx
namespace Go.Proofs.YtljbdpihiboeaaaGreatDoor.Sx
open Go.RowKit
section
variable {P:Program} [Tabs P] {C:Cx} {F:zbA} {k:List IT} {objs:List OB} {tm:List AV}
theorem zaw {x y:SCode} (h:∀ Y,Y=y → run P C (.code x :: .code Y :: k) objs tm F):run P C (.code (.seq x y) :: k) objs tm F:=h y rfl
theorem zbS (J:List AV → Prop) (h:J tm) (hk:∀ t,J t → run P C k objs t F):run P C k objs tm F:=hk tm h
end
end Go.Proofs.YtljbdpihiboeaaaGreatDoor.Sx
namespace Go.Proofs.YtljbdpihiboeaaaGreatDoor
open Nat renaming reduceAdd → z6, reduceSub → z7, reduceLeDiff → z8, reduceLT → j3, reduceMul → j6, reduceEqDiff → j7
open Int renaming reduceToNat → j8, reduceAdd → j9, reduceSub → x0, reduceMul → x5, reduceNeg → x6, reduceLT → x7, reduceLE → x8, reduceEq → x9, reduceNe → y3
open Go.RowKit Sx
section
attribute [local irreducible] run
def wkL:List UInt8:=[47,46,119,101,108,108,45,107,110,111,119,110,47,119,101,98,102,105,110,103,101,114]
def hmL:List UInt8:=[47,46,119,101,108,108,45,107,110,111,119,110,47,104,111,115,116,45,109,101,116,97,46,106,115,111,110]
def rsL:List UInt8:=[114,101,115,111,117,114,99,101,61]
def atE (x:IdP) (path:List UInt8):Int × UrlP:=if znF x=true then (0,⟨x.host,x.port,path,[],[],false,false⟩) else (8,zdc)
def zjx (x:IdP):UrlP:=⟨x.host,x.port,wkL,rsL ++ zbU x.text [],[],true,false⟩
def zd8 (x:IdP):Int × UrlP:=if znF x=true then (if 4096 < (zcm (zjx x)).length then (5,zdc) else (0,zjx x)) else (8,zdc)
def zdm (x:IdP):Prop:=x.text.length ≤ 17000 ∧ x.host.length ≤ 5000 ∧ -9223372036854775808 ≤ x.port ∧ x.port ≤ 9223372036854775807
section
variable [Tabs Tryz.prog] {objs:List OB} {K:List OB → AV → Prop}
theorem rAt_k (x:IdP) (path:List UInt8) (hx:zdm x) (hk:K objs (.tup [zaA (atE x path).2,.i .i64 (atE x path).1])):zad Tryz.prog 48 [zd9 x,.s path] objs K:=by
 refine za1 is_ref27_at rfl fun C _ => ?_
 unfold atE at hk
 rw [c_ref27_at]
 refine zaw fun Y hY => ?_
 simp only [zd9,sxZ,z6,z7,z8,j3,j6,j7,j8,j9,x0,x5,x6,x7,x8,x9,y3,reduceCtorEq,↓reduceIte]
 subst hY
 refine zaw fun Y hY => ?_
 simp only [sxZ,z6,z7,z8,j3,j6,j7,j8,j9,x0,x5,x6,x7,x8,x9,y3,reduceCtorEq,↓reduceIte]
 refine zae (znh x (by have:=hx.1; omega) ?_)
 by_cases c1:znF x=true
 ·simp only [c1,zaA,sxZ,z6,z7,z8,j3,j6,j7,j8,j9,x0,x5,x6,x7,x8,x9,y3,reduceCtorEq,↓reduceIte] at hk ⊢
  subst hY
  simp only [sxZ,z6,z7,z8,j3,j6,j7,j8,j9,x0,x5,x6,x7,x8,x9,y3,reduceCtorEq,↓reduceIte]
  exact hk
 ·simp only [Bool.not_eq_true] at c1
  simp only [c1,zaA,zdc,sxZ,z6,z7,z8,j3,j6,j7,j8,j9,x0,x5,x6,x7,x8,x9,y3,reduceCtorEq,↓reduceIte] at hk ⊢
  exact hk
theorem zgN (x:IdP) (hx:zdm x) (hk:K objs (.tup [zaA (atE x hmL).2,.i .i64 (atE x hmL).1])):zad Tryz.prog 16 [zd9 x] objs K:=by
 refine za1 is_ref27_HostMeta rfl fun C _ => ?_
 simp only [zd9,c_ref27_HostMeta,sxZ,z6,z7,z8,j3,j6,j7,j8,j9,x0,x5,x6,x7,x8,x9,y3,reduceCtorEq,↓reduceIte]
 refine zae (rAt_k x hmL hx ?_)
 simp only [zaA,sxZ,z6,z7,z8,j3,j6,j7,j8,j9,x0,x5,x6,x7,x8,x9,y3,reduceCtorEq,↓reduceIte] at hk ⊢
 exact hk
theorem zoF (x:IdP) (hx:zdm x) (hk:K objs (.tup [zaA (atE x [47]).2,.i .i64 (atE x [47]).1])):zad Tryz.prog 18 [zd9 x] objs K:=by
 refine za1 is_ref27_Home rfl fun C _ => ?_
 simp only [zd9,c_ref27_Home,sxZ,z6,z7,z8,j3,j6,j7,j8,j9,x0,x5,x6,x7,x8,x9,y3,reduceCtorEq,↓reduceIte]
 refine zae (rAt_k x [47] hx ?_)
 simp only [zaA,sxZ,z6,z7,z8,j3,j6,j7,j8,j9,x0,x5,x6,x7,x8,x9,y3,reduceCtorEq,↓reduceIte] at hk ⊢
 exact hk
theorem zlD (x:IdP) (hx:zdm x) (hk:K objs (.tup [zaA (zd8 x).2,.i .i64 (zd8 x).1])):zad Tryz.prog 14 [zd9 x] objs K:=by
 have hm:maxLen=2 ^ 63 - 1:=rfl
 have hel:=zcK x.text []
 obtain ⟨x1,x2,x3,x4⟩:=hx
 have hxs:zdm x:=⟨x1,x2,x3,x4⟩
 refine za1 is_ref27_Query rfl fun C _ => ?_
 unfold zd8 at hk
 rw [c_ref27_Query]
 refine zaw fun Y hY => ?_
 simp only [zd9,sxZ,z6,z7,z8,j3,j6,j7,j8,j9,x0,x5,x6,x7,x8,x9,y3,reduceCtorEq,↓reduceIte]
 subst hY
 refine zaw fun Y hY => ?_
 simp only [sxZ,z6,z7,z8,j3,j6,j7,j8,j9,x0,x5,x6,x7,x8,x9,y3,reduceCtorEq,↓reduceIte]
 refine zae (rAt_k x wkL hxs ?_)
 unfold atE
 by_cases c1:znF x=true
 ·simp only [c1,zaA,sxZ,z6,z7,z8,j3,j6,j7,j8,j9,x0,x5,x6,x7,x8,x9,y3,reduceCtorEq,↓reduceIte] at hk ⊢
  subst hY
  refine zaw fun Y hY => ?_
  simp only [sxZ,z6,z7,z8,j3,j6,j7,j8,j9,x0,x5,x6,x7,x8,x9,y3,reduceCtorEq,↓reduceIte]
  subst hY
  refine zaw fun Y hY => ?_
  simp only [sxZ,z6,z7,z8,j3,j6,j7,j8,j9,x0,x5,x6,x7,x8,x9,y3,reduceCtorEq,↓reduceIte]
  refine zae (zhH x.text [] (by omega) (by decide) ?_)
  simp only [sxZ,z6,z7,z8,j3,j6,j7,j8,j9,x0,x5,x6,x7,x8,x9,y3,reduceCtorEq,↓reduceIte]
  refine ⟨by omega,?_⟩
  subst hY
  refine zaw fun Y hY => ?_
  simp only [sxZ,z6,z7,z8,j3,j6,j7,j8,j9,x0,x5,x6,x7,x8,x9,y3,reduceCtorEq,↓reduceIte]
  have hq:zb9 (zjx x):=⟨by show x.host.length ≤ _; omega,x3,x4,by show wkL.length ≤ _; decide,by show (rsL ++ zbU x.text []).length ≤ _; rw [List.length_append]; have:rsL.length=9:=rfl; omega,by show ([]:List UInt8).length ≤ _; decide⟩
  refine zae (zch (zjx x) hq ?_)
  by_cases c2:4096 < (zcm (zjx x)).length
  ·rw [if_pos c2] at hk
   have c3:(4096:Int) < (zcm (zjx x)).length:=by omega
   simp only [c3,zaA,zdc,sxZ,z6,z7,z8,j3,j6,j7,j8,j9,x0,x5,x6,x7,x8,x9,y3,reduceCtorEq,↓reduceIte] at hk ⊢
   exact hk
  ·rw [if_neg c2] at hk
   have c3:¬ (4096:Int) < (zcm (zjx x)).length:=by omega
   simp only [c3,sxZ,z6,z7,z8,j3,j6,j7,j8,j9,x0,x5,x6,x7,x8,x9,y3,reduceCtorEq,↓reduceIte]
   subst hY
   simp only [sxZ,z6,z7,z8,j3,j6,j7,j8,j9,x0,x5,x6,x7,x8,x9,y3,reduceCtorEq,↓reduceIte]
   exact hk
 ·simp only [Bool.not_eq_true] at c1
  simp only [c1,zaA,zdc,sxZ,z6,z7,z8,j3,j6,j7,j8,j9,x0,x5,x6,x7,x8,x9,y3,reduceCtorEq,↓reduceIte] at hk ⊢
  subst hY
  simp only [sxZ,z6,z7,z8,j3,j6,j7,j8,j9,x0,x5,x6,x7,x8,x9,y3,reduceCtorEq,↓reduceIte]
  exact hk
end
end
section
attribute [local irreducible] run
section
variable [Tabs Tryz.prog] [Shp Tryz.prog] [Pow Tryz.prog] {objs:List OB} {K:List OB → AV → Prop}
theorem fAt_k (x:IdP) (path:List UInt8) (hx:zdm x) (hk:K objs (.tup [zaA (atE x path).2,.i .i64 (atE x path).1])):zad Tryz.prog 45 [zd9 x,.s path] objs K:=by
 refine za1 is_finger_atAuthority rfl fun C _ => ?_
 unfold atE at hk
 rw [c_finger_atAuthority]
 refine zaw fun Y hY => ?_
 simp only [zd9,sxZ,z6,z7,z8,j3,j6,j7,j8,j9,x0,x5,x6,x7,x8,x9,y3,reduceCtorEq,↓reduceIte]
 subst hY
 refine zaw fun Y hY => ?_
 simp only [sxZ,z6,z7,z8,j3,j6,j7,j8,j9,x0,x5,x6,x7,x8,x9,y3,reduceCtorEq,↓reduceIte]
 refine zae (zjU x (by have:=hx.1; omega) ?_)
 by_cases c1:znF x=true
 ·simp only [c1,zaA,sxZ,z6,z7,z8,j3,j6,j7,j8,j9,x0,x5,x6,x7,x8,x9,y3,reduceCtorEq,↓reduceIte] at hk ⊢
  subst hY
  simp only [sxZ,z6,z7,z8,j3,j6,j7,j8,j9,x0,x5,x6,x7,x8,x9,y3,reduceCtorEq,↓reduceIte]
  refine zae (zkR x ?_)
  simp only [sxZ,z6,z7,z8,j3,j6,j7,j8,j9,x0,x5,x6,x7,x8,x9,y3,reduceCtorEq,↓reduceIte]
  exact hk
 ·simp only [Bool.not_eq_true] at c1
  simp only [c1,zaA,zdc,sxZ,z6,z7,z8,j3,j6,j7,j8,j9,x0,x5,x6,x7,x8,x9,y3,reduceCtorEq,↓reduceIte] at hk ⊢
  exact hk
theorem zg7 (x:IdP) (hx:zdm x) (hk:K objs (.tup [zaA (atE x hmL).2,.i .i64 (atE x hmL).1])):zad Tryz.prog 15 [zd9 x] objs K:=by
 refine za1 is_finger_HostMeta rfl fun C _ => ?_
 simp only [zd9,c_finger_HostMeta,sxZ,z6,z7,z8,j3,j6,j7,j8,j9,x0,x5,x6,x7,x8,x9,y3,reduceCtorEq,↓reduceIte]
 refine zae (fAt_k x hmL hx ?_)
 simp only [zaA,sxZ,z6,z7,z8,j3,j6,j7,j8,j9,x0,x5,x6,x7,x8,x9,y3,reduceCtorEq,↓reduceIte] at hk ⊢
 exact hk
theorem zpU (x:IdP) (hx:zdm x) (hk:K objs (.tup [zaA (atE x [47]).2,.i .i64 (atE x [47]).1])):zad Tryz.prog 17 [zd9 x] objs K:=by
 refine za1 is_finger_Home rfl fun C _ => ?_
 simp only [zd9,c_finger_Home,sxZ,z6,z7,z8,j3,j6,j7,j8,j9,x0,x5,x6,x7,x8,x9,y3,reduceCtorEq,↓reduceIte]
 refine zae (fAt_k x [47] hx ?_)
 simp only [zaA,sxZ,z6,z7,z8,j3,j6,j7,j8,j9,x0,x5,x6,x7,x8,x9,y3,reduceCtorEq,↓reduceIte] at hk ⊢
 exact hk
theorem zgl (x:IdP) (hx:zdm x) (hk:K objs (.tup [zaA (zd8 x).2,.i .i64 (zd8 x).1])):zad Tryz.prog 13 [zd9 x] objs K:=by
 have hm:maxLen=2 ^ 63 - 1:=rfl
 have hel:=zcK x.text []
 obtain ⟨x1,x2,x3,x4⟩:=hx
 have hxs:zdm x:=⟨x1,x2,x3,x4⟩
 refine za1 is_finger_Query rfl fun C _ => ?_
 unfold zd8 at hk
 rw [c_finger_Query]
 refine zaw fun Y hY => ?_
 simp only [zd9,sxZ,z6,z7,z8,j3,j6,j7,j8,j9,x0,x5,x6,x7,x8,x9,y3,reduceCtorEq,↓reduceIte]
 subst hY
 refine zaw fun Y hY => ?_
 simp only [sxZ,z6,z7,z8,j3,j6,j7,j8,j9,x0,x5,x6,x7,x8,x9,y3,reduceCtorEq,↓reduceIte]
 refine zae (fAt_k x wkL hxs ?_)
 unfold atE
 by_cases c1:znF x=true
 ·simp only [c1,zaA,sxZ,z6,z7,z8,j3,j6,j7,j8,j9,x0,x5,x6,x7,x8,x9,y3,reduceCtorEq,↓reduceIte] at hk ⊢
  subst hY
  refine zaw fun Y hY => ?_
  simp only [sxZ,z6,z7,z8,j3,j6,j7,j8,j9,x0,x5,x6,x7,x8,x9,y3,reduceCtorEq,↓reduceIte]
  subst hY
  refine zaw fun Y hY => ?_
  simp only [sxZ,z6,z7,z8,j3,j6,j7,j8,j9,x0,x5,x6,x7,x8,x9,y3,reduceCtorEq,↓reduceIte]
  refine zae (zjB x.text [] (by omega) ?_)
  simp only [sxZ,z6,z7,z8,j3,j6,j7,j8,j9,x0,x5,x6,x7,x8,x9,y3,reduceCtorEq,↓reduceIte]
  refine ⟨by omega,?_⟩
  subst hY
  refine zaw fun Y hY => ?_
  simp only [sxZ,z6,z7,z8,j3,j6,j7,j8,j9,x0,x5,x6,x7,x8,x9,y3,reduceCtorEq,↓reduceIte]
  have hq:zb9 (zjx x):=⟨by show x.host.length ≤ _; omega,x3,x4,by show wkL.length ≤ _; decide,by show (rsL ++ zbU x.text []).length ≤ _; rw [List.length_append]; have:rsL.length=9:=rfl; omega,by show ([]:List UInt8).length ≤ _; decide⟩
  refine zae (zdE (zjx x) hq ?_)
  by_cases c2:4096 < (zcm (zjx x)).length
  ·rw [if_pos c2] at hk
   have c3:(4096:Int) < (zcm (zjx x)).length:=by omega
   simp only [c3,zaA,zdc,sxZ,z6,z7,z8,j3,j6,j7,j8,j9,x0,x5,x6,x7,x8,x9,y3,reduceCtorEq,↓reduceIte] at hk ⊢
   exact hk
  ·rw [if_neg c2] at hk
   have c3:¬ (4096:Int) < (zcm (zjx x)).length:=by omega
   simp only [c3,sxZ,z6,z7,z8,j3,j6,j7,j8,j9,x0,x5,x6,x7,x8,x9,y3,reduceCtorEq,↓reduceIte]
   subst hY
   simp only [sxZ,z6,z7,z8,j3,j6,j7,j8,j9,x0,x5,x6,x7,x8,x9,y3,reduceCtorEq,↓reduceIte]
   exact hk
 ·simp only [Bool.not_eq_true] at c1
  simp only [c1,zaA,zdc,sxZ,z6,z7,z8,j3,j6,j7,j8,j9,x0,x5,x6,x7,x8,x9,y3,reduceCtorEq,↓reduceIte] at hk ⊢
  subst hY
  simp only [sxZ,z6,z7,z8,j3,j6,j7,j8,j9,x0,x5,x6,x7,x8,x9,y3,reduceCtorEq,↓reduceIte]
  exact hk
end
end
end Go.Proofs.YtljbdpihiboeaaaGreatDoor
namespace Go.Proofs.YtljbdpihiboeaaaGreatDoor
open Go.RowKit Sx
theorem from_did {u:UrlP} {i:List UInt8} (h:zdo u=(0,zec,i)):zb7 (zbk zec i)=(0,zec,i):=by
 unfold zdo at h
 split at h
 ·cases h
 rename_i g1
 simp only [Bool.not_eq_false] at g1
 split at h
 ·cases h
 rename_i g2
 simp only [not_or,Bool.not_eq_true,Decidable.not_not] at g2
 obtain ⟨gq,gf,gl⟩:=g2
 split at h
 ·cases h
 rename_i g3
 split at h
 ·cases h
 rename_i g4
 injection h with _ h
 injection h with _ h
 subst h
 have hc:=ze7 g1
 obtain ⟨n,hn,hn1,hn2⟩:=hc.port
 obtain ⟨m,hm,hms,hp⟩:=hc.path
 have hsp:zds u=m:=by
  unfold zds
  rw [hp,zef m (fun x hx => (hms x hx).1.1)]; rfl
 rw [hsp] at gl g3
 have hplen:∀ x ∈ m,x.length ≤ 4096:=by
  intro x hx
  have h1:=zbY u
  have h2:=hc.len
  have h3:x.length ≤ (jn m).length:=by
   obtain ⟨a,b,rfl⟩:=List.append_of_mem hx
   rw [zek,zb4]; simp; omega
  rw [hp] at h1
  omega
 have hE:=zmj (h:=u.host) (n:=n) hc.host
 obtain ⟨segs,hid,hok,hmem⟩:∃ segs:List (List UInt8),zeC u=hpI u.host n ++ js ((segs.map fun x => (zaO x).2).map zbc) ∧ segs.all okI=true ∧ (∀ x ∈ segs,x ∈ m):=by
  by_cases hw:u.path=wkP
  ·refine ⟨[],?_,rfl,by simp⟩
   unfold zeC; rw [if_pos hw,hn]; rfl
  ·have g3':¬ m.dropLast=[] ∧ m.dropLast.all okI=true:=by
    refine ⟨fun e => g3 ⟨hw,.inl e⟩,?_⟩
    cases e:m.dropLast.all okI with
    | true => rfl
    | false => exact absurd ⟨hw,.inr e⟩ g3
   refine ⟨m.dropLast,?_,g3'.2,fun x hx => List.dropLast_subset m hx⟩
   unfold zeC
   rw [if_neg hw,hn,hsp,zgE _ g3'.2,List.map_map]; rfl
 have hil:(zeC u).length ≤ 4096:=by
  have:(zbk zec (zeC u)).length=(zeC u).length + 8:=by simp [zbk,zbD,zec]
  omega
 have hne:hpI u.host n ≠ []:=by
  have:=zma hc.host
  unfold hpI
  split
  ·exact this
  ·simp [this]
 have hie:idE (zeC u)=(0,zeC u):=by
  rw [hid]
  refine idE_of (d:=ziK u.host n) _ hE.symm hne ?_ (by rw [← hid]; omega)
  intro q hq
  obtain ⟨x,hx,rfl⟩:=List.mem_map.1 hq
  have h1:=List.all_eq_true.1 hok x hx
  unfold okI at h1
  simp only [Bool.and_eq_true,decide_eq_true_eq,Bool.not_eq_true',decide_eq_false_iff_not] at h1
  have hxl:=hplen x (hmem x hx)
  have hup:=((zcF (l:=x) (by omega)).1 h1.1).2
  have hse:=(zik (hms x (hmem x hx)).2 (by omega) hup).2
  intro e
  refine h1.2 ?_
  rw [e] at hse
  rw [← hse]; rfl
 exact zk1 (by decide) hie (by omega)
structure DidOk (c:List UInt8 × List UInt8) (u:UrlP):Prop where
 meth:c.1=zec
 id:c.2=zeC u
 can:CanW u
 au:dwA c.1 c.2=(0,u.host,(dwA c.1 c.2).2.2)
 port:u.port=(dwA c.1 c.2).2.2
 didb:zb7 (zbk c.1 c.2)=(0,c.1,c.2)
 canb:zeO c.1 c.2=(0,c)
 len:(zbk c.1 c.2).length ≤ 4096
theorem can_did {m i:List UInt8} {c:List UInt8 × List UInt8} (h:zeO m i=(0,c)):∃ u,DidOk c u:=by
 obtain ⟨k1,k2,k3,k4,k5⟩:=can_ok h
 obtain ⟨j1,_,_,j4,j5,_⟩:=zli k1
 obtain ⟨f1,f2,f3⟩:=zmg k2
 have hd:=from_did f2
 obtain ⟨c1,c2⟩:=c
 simp only at k5 f3 hd j4 j5 k1 k3
 subst k5
 exact ⟨_,rfl,f3,j1,j4,j5,hd,k3,(zp1 j4).2.2.1⟩
theorem zkQ {s:List UInt8} {x:IdP} (h:zbC s=(0,x)):s.length ≤ 4096 ∧ (
  (∃ u h,zbl s=(0,u,h) ∧ x=⟨1,fmtA u h,h,0⟩) ∨ (∃ u h,zaW s=(0,u,h) ∧ x=⟨2,zj2 u h,h,0⟩) ∨
  (∃ u,ze5 s=(0,u) ∧ x=⟨3,zcm u,u.host,u.port⟩) ∨ (∃ c u,DidOk c u ∧ x=⟨4,zbk c.1 c.2,u.host,u.port⟩)):=by
 unfold zbC at h
 split at h
 ·cases h
 rename_i g0
 refine ⟨by omega,?_⟩
 split at h
 ·cases h
 unfold zga at h
 split at h
 ·unfold acI at h
  split at h
  ·rename_i g; injection h with h1 _; exact absurd h1 g
  ·rename_i g
   injection h with _ h1
   simp only [ne_eq,Decidable.not_not] at g
   exact .inl ⟨_,_,by rw [← g],h1.symm⟩
 split at h
 ·unfold maI at h
  split at h
  ·rename_i g; injection h with h1 _; exact absurd h1 g
  ·rename_i g
   injection h with _ h1
   simp only [ne_eq,Decidable.not_not] at g
   exact .inr (.inl ⟨_,_,by rw [← g],h1.symm⟩)
 split at h
 ·unfold weI at h
  split at h
  ·rename_i g; injection h with h1 _; exact absurd h1 g
  ·rename_i g
   injection h with _ h1
   simp only [ne_eq,Decidable.not_not] at g
   exact .inr (.inr (.inl ⟨_,by rw [← g],h1.symm⟩))
 split at h
 ·unfold diI at h
  split at h
  ·rename_i g; injection h with h1 _; exact absurd h1 g
  ·unfold diC at h
   split at h
   ·rename_i g; injection h with h1 _; exact absurd h1 g
   ·rename_i g
    injection h with _ h1
    simp only [ne_eq,Decidable.not_not] at g
    obtain ⟨u,hu⟩:=can_did (c:=(zeO (zb7 s).2.1 (zb7 s).2.2).2) (by rw [← g])
    refine .inr (.inr (.inr ⟨_,u,hu,?_⟩))
    rw [← h1,hu.port,hu.au]
 ·cases h
theorem zpI {s:List UInt8} (h:(zbC s).1 ≠ 0):(zbC s).2=idZ:=by
 unfold zbC at h ⊢
 split
 ·rfl
 rename_i g0
 rw [if_neg g0] at h
 split
 ·rfl
 rename_i g1
 rw [if_neg g1] at h
 unfold zga at h ⊢
 unfold acI maI weI diI diC at h ⊢
 repeat' split
 all_goals first
  | rfl
  | (exfalso; simp_all)
end Go.Proofs.YtljbdpihiboeaaaGreatDoor
namespace Go.Proofs.YtljbdpihiboeaaaGreatDoor
open Go.RowKit Sx
section
attribute [local irreducible] run
theorem zki {u:UrlP} (h:CanW u):u.host.length ≤ 4096:=by
 have h1:=h.len
 have:u.host.length ≤ (zcm u).length:=by
  unfold zcm ziK
  split <;> simp <;> omega
 omega
theorem zkP (s:List UInt8):zdm (zbC s).2:=by
 by_cases c:(zbC s).1=0
 ·have e:zbC s=(0,(zbC s).2):=by rw [← c]
  rcases (zkQ e).2 with ⟨u,q,h1,h2⟩ | ⟨u,q,h1,h2⟩ | ⟨u,h1,h2⟩ | ⟨d,u,h1,h2⟩
  ·rw [h2]
   have:=zhk s
   rw [h1] at this
   refine ⟨?_,?_,by show (_:Int) ≤ 0; decide,by show (0:Int) ≤ _; decide⟩
   ·show (fmtA u q).length ≤ _
    simp only [fmtA,zdl,List.length_append,List.length_cons,List.length_nil] at this ⊢
    omega
   ·show q.length ≤ _
    simp only at this
    omega
  ·rw [h2]
   have:=zg1 s
   rw [h1] at this
   have he:=zcK u zc1
   refine ⟨?_,?_,by show (_:Int) ≤ 0; decide,by show (0:Int) ≤ _; decide⟩
   ·show (zj2 u q).length ≤ _
    simp only [zj2,za7,List.length_append,List.length_cons,List.length_nil] at this ⊢
    omega
   ·show q.length ≤ _
    simp only at this
    omega
  ·rw [h2]
   have hc:=CanW.of h1
   have:=hc.len
   obtain ⟨n,hn,hn1,_⟩:=hc.port
   refine ⟨?_,?_,?_,?_⟩
   ·show (zcm u).length ≤ _
    omega
   ·show u.host.length ≤ _
    have:=zki hc; omega
   ·show _ ≤ u.port
    omega
   ·show u.port ≤ _
    omega
  ·rw [h2]
   have:=h1.len
   have hc:=h1.can
   obtain ⟨n,hn,hn1,_⟩:=hc.port
   refine ⟨?_,?_,?_,?_⟩
   ·show (zbk d.1 d.2).length ≤ _
    omega
   ·show u.host.length ≤ _
    have:=zki hc; omega
   ·show _ ≤ u.port
    omega
   ·show u.port ≤ _
    omega
 ·rw [zpI c]
  exact ⟨by decide,by decide,by decide,by decide⟩
end
end Go.Proofs.YtljbdpihiboeaaaGreatDoor
namespace Go.Proofs.YtljbdpihiboeaaaGreatDoor
open Go.RowKit Sx
section
variable [Tabs Tryz.prog] {objs:List OB} {K:List OB → AV → Prop}
end
end Go.Proofs.YtljbdpihiboeaaaGreatDoor
namespace Go.Proofs.YtljbdpihiboeaaaGreatDoor
open Go.RowKit Sx
section
variable [Tabs Tryz.prog] {objs:List OB} {K:List OB → AV → Prop}
end
end Go.Proofs.YtljbdpihiboeaaaGreatDoor
namespace Go.Proofs.YtljbdpihiboeaaaGreatDoor
open Go.RowKit Sx
end Go.Proofs.YtljbdpihiboeaaaGreatDoor
namespace Go.Proofs.YtljbdpihiboeaaaGreatDoor
open Go.RowKit Sx
section
variable [Tabs Tryz.prog] {objs:List OB} {K:List OB → AV → Prop}
end
end Go.Proofs.YtljbdpihiboeaaaGreatDoor
namespace Go.Proofs.YtljbdpihiboeaaaGreatDoor
open Go.RowKit Sx
section
variable [Tabs Tryz.prog] {objs:List OB} {K:List OB → AV → Prop}
end
end Go.Proofs.YtljbdpihiboeaaaGreatDoor
namespace Go.Proofs.YtljbdpihiboeaaaGreatDoor
open Go.RowKit Sx
section
variable [Tabs Tryz.prog] {objs:List OB} {K:List OB → AV → Prop}
end
end Go.Proofs.YtljbdpihiboeaaaGreatDoor
namespace Go.Proofs.YtljbdpihiboeaaaGreatDoor
open Go.RowKit Sx
section
variable [Tabs Tryz.prog] {objs:List OB} {K:List OB → AV → Prop}
end
end Go.Proofs.YtljbdpihiboeaaaGreatDoor
namespace Go.Proofs.YtljbdpihiboeaaaGreatDoor
open Go.RowKit Sx
section
variable [Tabs Tryz.prog] {objs:List OB} {K:List OB → AV → Prop}
end
end Go.Proofs.YtljbdpihiboeaaaGreatDoor
namespace Go.Proofs.YtljbdpihiboeaaaGreatDoor
open Go.RowKit Sx
end Go.Proofs.YtljbdpihiboeaaaGreatDoor
namespace Go.Proofs.YtljbdpihiboeaaaGreatDoor
open Go.RowKit Sx
section
variable [Tabs Tryz.prog] {objs:List OB} {K:List OB → AV → Prop}
end
end Go.Proofs.YtljbdpihiboeaaaGreatDoor
namespace Go.Proofs.YtljbdpihiboeaaaGreatDoor.Sx
open Go.RowKit Go.WideShapes Go.ChangeShapes Go.ChangeAt
inductive TT where
 | s
 | b
 | i (k:IntKind)
 | st (ts:List TT)
 | sl (t:TT)
mutual
def ShT:TT → List AV → Prop
 | .s,xs => ∃ l:List UInt8,xs=[.s l] ∧ l.length ≤ 140737488351232
 | .b,xs => ∃ b,xs=[.b b]
 | .i k,xs => ∃ n,xs=[.i k n] ∧ (Lit.int k n).wf=true
 | .st ts,xs => ShTs ts xs
 | .sl t,xs => ∃ gs:List (List AV),xs=[.row gs.length gs.flatten] ∧ gs.length ≤ 140737488351232 ∧ ∀ g ∈ gs,ShT t g
def ShTs:List TT → List AV → Prop
 | [],xs => xs=[]
 | t :: ts,xs => ∃ a b,xs=a ++ b ∧ ShT t a ∧ ShTs ts b
end
def ShA:TT → AV → Prop
 | .st ts,x => ∃ cs,x=.agg cs ∧ ShTs ts cs
 | t,x => ShT t [x]
def ShAs:List TT → List AV → Prop
 | [],xs => xs=[]
 | t :: ts,xs => ∃ x ys,xs=x :: ys ∧ ShA t x ∧ ShAs ts ys
def trTs (P:Program) (rc:TypeId → Option TT):Nat → List Field → Option (List TT)
 | o,[] => some []
 | o,f :: fs => match rc f.type,trTs P rc (o + P.cellsOf f.type) fs with
  | some t,some ts => if f.offset=o then some (t :: ts) else none
  | _,_ => none
def zhf (P:Program):List Field → Nat
 | [] => 0
 | f :: fs => P.cellsOf f.type + zhf P fs
def trT (P:Program):Nat → TypeId → Option TT
 | 0,_ => none
 | d + 1,t => match P.underlying t with
  | some .string => some .s
  | some .bool => some .b
  | some (.int k) => some (.i k)
  | some (.struct fs) => if P.cellsOf t=zhf P fs.toList then (trTs P (trT P d) 0 fs.toList).map .st else none
  | some (.slice e) => if 0 < P.cellsOf e ∧ 0 < P.bytesOf e then (trT P d e).map .sl else none
  | _ => none
theorem zee {H:Type} {P:Program} {e:TypeId}:∀ {ds:List (DataW H)} {d:DataW H},d ∈ ds → ∀ n ∈ d.weights P e,n ∈ DataW.weightsAll P e ds
 | [],d,hd,n,hn => by cases hd
 | d0 :: ds,d,hd,n,hn => by
  simp only [DataW.weightsAll,List.mem_append]
  rcases List.mem_cons.1 hd with rfl | hd
  ·exact .inl hn
  ·exact .inr (zee hd n hn)
theorem zlo {w:World} {G:Gh} {I:Imm} {t:TT} (a:Addr) (c:Nat) (hI:∀ g o v,w.cell? ⟨g,o,none⟩=some v → I g o v):∀ k:Nat,
  (∀ i,i < k → ∃ (g:List AV) (ys:List Value),ys.length=c ∧ (∀ j,j < c → w.cell? ((a.add (i * c)).add j)=ys[j]?) ∧ zao G I g ys ∧ ShT t g ∧ ∀ u ∈ ys,u.oneCell'=true) →
  ∃ (gs:List (List AV)) (ys:List Value),gs.length=k ∧ ys.length=k * c ∧ zao G I gs.flatten ys ∧ (∀ g ∈ gs,ShT t g) ∧ (∀ u ∈ ys,u.oneCell'=true) ∧ ∀ j,j < k * c → w.cell? (a.add j)=ys[j]?
 | 0,_ => ⟨[],[],rfl,by simp,zao.nil,by simp,by simp,fun j hj => by simp at hj⟩
 | k + 1,h => by
  obtain ⟨gs,ys,h1,h2,h3,h4,h5,h6⟩:=zlo a c hI k (fun i hi => h i (by omega))
  obtain ⟨g,zs,k1,k2,k3,k4,k5⟩:=h k (by omega)
  have hm:(k + 1) * c=k * c + c:=Nat.succ_mul k c
  refine ⟨gs ++ [g],ys ++ zs,by simp [h1],by rw [List.length_append,h2,k1,hm],?_,?_,?_,?_⟩
  ·rw [List.flatten_append,List.flatten_cons,List.flatten_nil,List.append_nil]
   exact zao.append h3 k3
  ·intro x hx
   rcases List.mem_append.1 hx with hx | hx
   ·exact h4 x hx
   ·rw [List.mem_singleton] at hx; subst hx; exact k4
  ·intro u hu
   rcases List.mem_append.1 hu with hu | hu
   ·exact h5 u hu
   ·exact k5 u hu
  ·intro j hj
   by_cases hjk:j < k * c
   ·rw [h6 j hjk,List.getElem?_append_left (by omega)]
   ·have:=k2 (j - k * c) (by omega)
    rw [Addr.add_add,show k * c + (j - k * c)=j by omega] at this
    rw [this,List.getElem?_append_right (by omega),h2]
theorem add_flat {a:Addr} {j:Nat} (ha:a.spot=none):a.add j=⟨a.block,a.off + j,none⟩:=by
 cases a
 simp only at ha
 subst ha
 unfold Addr.add
 split
 ·rename_i h; subst h; rfl
 ·rfl
section
variable {H:Type} {enc:TypeId × Value → H} {P:Program} {w:World} {base:Nat} {spare:Nat → Bool} {held:Bool} {G:Gh} {I:Imm}
theorem zhP (d:Nat) (ih:∀ (t:TypeId) (tt:TT) (fuel:Nat) (cs:List Value) (x:DataW H × List MemPlace),trT P d t=some tt → DataW.trod enc P w base spare held fuel t cs=some x → (∀ n ∈ x.1.weights P t,n ≤ reachBytes) → ∃ xs,zao G I xs cs ∧ ShT tt xs ∧ ∀ u ∈ cs,u.oneCell'=true) (n:Nat) :
  ∀ (fs:List Field) (ts:List TT) (o:Nat) (cs:List Value),trTs P (trT P d) o fs=some ts → cs.length=o + zhf P fs → (∀ f ∈ fs,∃ x,DataW.trod enc P w base spare held n f.type ((cs.drop f.offset).take (P.cellsOf f.type))=some x ∧ ∀ m ∈ x.1.weights P f.type,m ≤ reachBytes) →
   ∃ xs,zao G I xs (cs.drop o) ∧ ShTs ts xs ∧ ∀ u ∈ cs.drop o,u.oneCell'=true
 | [],ts,o,cs,ht,hl,hf => by
  simp only [trTs,Option.some.injEq] at ht; subst ht
  have:cs.drop o=[]:=List.drop_eq_nil_of_le (by simp [zhf] at hl; omega)
  rw [this]
  exact ⟨[],zao.nil,rfl,by simp⟩
 | f :: fs,ts,o,cs,ht,hl,hf => by
  simp only [trTs] at ht
  split at ht
  ·rename_i t ts' h1 h2
   split at ht
   ·rename_i ho
    injection ht with ht; subst ht
    obtain ⟨x,hx,hxw⟩:=hf f (List.mem_cons_self ..)
    rw [ho] at hx
    obtain ⟨xs,k1,k2,k3⟩:=ih _ _ _ _ _ h1 hx hxw
    simp only [zhf] at hl
    obtain ⟨ys,m1,m2,m3⟩:=zhP d ih n fs ts' (o + P.cellsOf f.type) cs h2 (by omega) (fun f' hf' => hf f' (List.mem_cons_of_mem _ hf'))
    have e:cs.drop o=(cs.drop o).take (P.cellsOf f.type) ++ cs.drop (o + P.cellsOf f.type):=by
     rw [← List.drop_drop,List.take_append_drop]
    refine ⟨xs ++ ys,?_,?_,?_⟩
    ·rw [e]; exact zao.append k1 m1
    ·exact ⟨xs,ys,rfl,k2,m2⟩
    ·rw [e]; intro u hu
     rcases List.mem_append.1 hu with hu | hu
     ·exact k3 u hu
     ·exact m3 u hu
   ·cases ht
  ·cases ht
theorem zoU (hI:∀ g o v,w.cell? ⟨g,o,none⟩=some v → I g o v) (hspa:∀ b,spare b=true):∀ (d:Nat) (t:TypeId) (tt:TT) (fuel:Nat) (cs:List Value) (x:DataW H × List MemPlace),trT P d t=some tt → DataW.trod enc P w base spare held fuel t cs=some x → (∀ n ∈ x.1.weights P t,n ≤ reachBytes) → ∃ xs,zao G I xs cs ∧ ShT tt xs ∧ ∀ u ∈ cs,u.oneCell'=true:=by
 intro d
 induction d with
 | zero => intro t tt fuel cs x ht; simp [trT] at ht
 | succ d ih =>
  intro t tt fuel cs x ht h hwt
  simp only [trT] at ht
  split at ht
  ·rename_i hu
   injection ht with ht; subst ht
   obtain ⟨s,rfl,rfl,hs⟩:=DataW.trod_string hu h
   refine ⟨[.s s.data.toList],zao.cons (by simp [Den]) zao.nil,⟨_,rfl,?_⟩,by simp; rfl⟩
   exact hwt _ (by simp [DataW.weights])
  ·rename_i hu
   injection ht with ht; subst ht
   obtain ⟨b,rfl,_⟩:=DataW.trod_bool hu h
   exact ⟨[.b b],zao.cons (by simp [Den]) zao.nil,⟨_,rfl⟩,by simp; rfl⟩
  ·rename_i k hu
   injection ht with ht; subst ht
   obtain ⟨n,rfl,_,hw⟩:=DataW.trod_int hu h
   exact ⟨[.i k n],zao.cons (by simp [Den]) zao.nil,⟨_,rfl,hw⟩,by simp; rfl⟩
  ·rename_i fs hu
   split at ht
   ·rename_i hc
    cases hts:trTs P (trT P d) 0 fs.toList with
    | none => rw [hts] at ht; cases ht
    | some ts =>
     rw [hts] at ht; injection ht with ht; subst ht
     obtain ⟨xs,n,_,rfl,hlen,hxl,hf⟩:=DataW.trod_struct hu h
     have hall:∀ f ∈ fs.toList,∃ x,DataW.trod enc P w base spare held n f.type ((cs.drop f.offset).take (P.cellsOf f.type))=some x ∧ ∀ m ∈ x.1.weights P f.type,m ≤ reachBytes:=by
      intro f hfm
      obtain ⟨j,hj⟩:=List.mem_iff_getElem?.1 hfm
      have h1:=hf j f (by simpa using hj)
      have hjl:j < xs.length:=by
       rw [hxl]
       have:=(List.getElem?_eq_some_iff.1 hj).1
       simpa using this
      rw [List.getElem?_eq_getElem hjl] at h1
      refine ⟨_,h1,fun m hm => hwt m ?_⟩
      have hj2:(fs.toList.map (·.type))[j]? = some f.type:=by rw [List.getElem?_map,hj]; rfl
      have:=DataW.weights_mem_each hj2 (show (xs.map (·.1))[j]? = some xs[j].1 by rw [List.getElem?_map,List.getElem?_eq_getElem hjl]; rfl) m hm
      simpa [DataW.weights,hu] using this
     obtain ⟨ys,k1,k2,k3⟩:=zhP d ih n fs.toList ts 0 cs hts (by rw [hlen,hc]; omega) hall
     exact ⟨ys,by simpa using k1,k2,by simpa using k3⟩
   ·cases ht
  ·rename_i e hu
   split at ht
   ·rename_i hc
    cases hte:trT P d e with
    | none => rw [hte] at ht; cases ht
    | some te =>
     rw [hte] at ht; injection ht with ht; subst ht
     rcases DataW.trod_slice hu h with ⟨rfl,rfl⟩ | ⟨a,len,cap,elems,rest,n,_,rfl,rfl,hb,hl,hm,hlen,hel,hsr,_⟩
     ·exact ⟨[.row 0 []],zao.cons (by simp only [Den]; exact ⟨none,0,[],rfl,⟨Nat.le_refl _,fun ad h => by cases h⟩,zao.nil,by simp,by simp⟩) zao.nil,⟨[],rfl,by simp,by simp⟩,by simp; rfl⟩
     ·have hw2:(elems.length + rest.length) * P.bytesOf e ≤ reachBytes:=by
       have:=hwt ((elems.map (·.1)).length + (rest.map (·.1)).length |> (· * P.bytesOf e)) (by simp [DataW.weights,hu])
       simpa using this
      have hel2:elems.length ≤ 140737488351232:=by
       have h1:elems.length * 1 ≤ (elems.length + rest.length) * P.bytesOf e:=Nat.mul_le_mul (by omega) hc.2
       have:reachBytes=140737488351232:=rfl
       omega
      have hel3:∀ i,i < len → ∃ (g:List AV) (ys:List Value),ys.length=P.cellsOf e ∧ (∀ j,j < P.cellsOf e → w.cell? ((a.add (i * P.cellsOf e)).add j)=ys[j]?) ∧ zao G I g ys ∧ ShT te g ∧ ∀ u ∈ ys,u.oneCell'=true:=by
       intro i hi
       have h1:=hel i hi
       have hil:i < elems.length:=by omega
       rw [List.getElem?_eq_getElem hil,Option.bind_eq_some_iff] at h1
       obtain ⟨ys,y1,y2⟩:=h1
       obtain ⟨_,z1,z2⟩:=World.cells?_some y1
       obtain ⟨g,g1,g2,g3⟩:=ih e te n ys _ hte y2 (fun m hm => hwt m (by
        simp only [DataW.weights,hu,List.mem_cons,List.mem_append]
        exact .inr (.inl (zee (List.mem_map.2 ⟨_,List.getElem_mem hil,rfl⟩) m hm))))
       exact ⟨g,ys,z1,z2,g1,g2,g3⟩
      obtain ⟨gs,ys,k1,k2,k3,k4,k5,k6⟩:=zlo (G:=G) a (P.cellsOf e) hI len hel3
      have hsp0:cap ≠ 0 → a.spot=none:=by
       intro hcap
       by_cases hl0:0 < len
       ·have hp:0 < len * P.cellsOf e:=Nat.mul_pos hl0 hc.1
        have h2:=k6 0 hp
        rw [List.getElem?_eq_getElem (by omega)] at h2
        have:=World.cell?_spot h2
        simpa [Addr.add] using this
       ·have hr:=(hsr (hspa _)).2 0 (by omega)
        have hrl:=(hsr (hspa _)).1
        rw [List.getElem?_eq_getElem (by omega),Option.bind_eq_some_iff] at hr
        obtain ⟨zs,y1,_⟩:=hr
        obtain ⟨_,z1,z2⟩:=World.cells?_some y1
        have h2:=z2 0 hc.1
        rw [List.getElem?_eq_getElem (by omega)] at h2
        have:=World.cell?_spot h2
        have hl1:len=0:=by omega
        subst hl1
        simpa [Addr.add] using this
      refine ⟨[.row gs.length gs.flatten],zao.cons ?_ zao.nil,⟨gs,rfl,by omega,k4⟩,by simp; rfl⟩
      simp only [Den]
      refine ⟨some a,cap,ys,by rw [k1],⟨by omega,fun ad h hc0 => by injection h with h; subst h; exact hsp0 hc0⟩,k3,k5,fun j u hj => ?_⟩
      have hjl:=(List.getElem?_eq_some_iff.1 hj).1
      have hlp:len ≠ 0:=by rintro rfl; rw [k2,Nat.zero_mul] at hjl; omega
      have hs:=hsp0 (by omega)
      refine ⟨a.block,a.off,by cases a; simp only at hs; subst hs; rfl,hI _ _ _ ?_⟩
      have h2:=k6 j (k2 ▸ hjl)
      rw [add_flat hs] at h2
      rw [h2,hj]
   ·cases ht
  ·cases ht
theorem open_arg (hI:∀ g o v,w.cell? ⟨g,o,none⟩=some v → I g o v) (hspa:∀ b,spare b=true) {r:Reach} {b0:Nat} {t:TypeId} {tt:TT} {v:Value} {dd:DataW H} {ps:List MemPlace} (ht:trT P 20 t=some tt) (hv:Value.okWide P w r b0 t v) (h:DataW.Trod enc P w base spare held t v dd ps) (hwt:∀ n ∈ dd.weights P t,n ≤ reachBytes):∃ x,Den G I x v ∧ ShA tt x:=by
 obtain ⟨fuel,hf⟩:=h
 obtain ⟨xs,h1,h2,h3⟩:=zoU hI hspa 20 t tt fuel _ _ ht hf hwt
 have ht':=ht
 unfold trT at ht
 cases tt with
 | st ts =>
  split at ht <;> first | (injection ht with ht; cases ht; done) | skip
  ·rename_i fs hu
   obtain ⟨cs,rfl,_⟩:=okWide_struct hu hv
   refine ⟨.agg xs,?_,⟨xs,rfl,h2⟩⟩
   simp only [Den]
   exact ⟨cs.toList,by simp,h1,h3⟩
  ·split at ht
   ·cases hq:trT P 19 _ with
    | none => rw [hq] at ht; cases ht
    | some q => rw [hq] at ht; injection ht with ht; cases ht
   ·cases ht
  ·cases ht
 | sl t =>
  split at ht <;> first | (injection ht with ht; cases ht; done) | skip
  ·split at ht
   ·cases hq:trTs P (trT P 19) 0 _ with
    | none => rw [hq] at ht; cases ht
    | some q => rw [hq] at ht; injection ht with ht; cases ht
   ·cases ht
  ·rename_i e hu
   obtain ⟨a,len,cap,rfl⟩:=okWide_slice hu hv
   obtain ⟨gs,rfl,hl,hg⟩:=h2
   simp only [zao] at h1
   obtain ⟨y,ys,e1,k1,k2⟩:=h1
   subst k2
   have e2:[Value.slice a len cap]=[y]:=e1
   injection e2 with e2 _
   subst e2
   exact ⟨.row gs.length gs.flatten,k1,⟨gs,rfl,hl,hg⟩⟩
  ·cases ht
 | s =>
  split at ht <;> first | (injection ht with ht; cases ht; done) | skip
  ·rename_i hu
   obtain ⟨s,rfl⟩:=okWide_string hu hv
   obtain ⟨l,rfl,hl⟩:=h2
   simp only [zao] at h1
   obtain ⟨y,ys,e,k1,k2⟩:=h1
   subst k2
   have e2:[Value.string s]=[y]:=e
   injection e2 with e2 _
   subst e2
   exact ⟨.s l,k1,⟨l,rfl,hl⟩⟩
  ·split at ht
   ·cases hq:trTs P (trT P 19) 0 _ with
    | none => rw [hq] at ht; cases ht
    | some q => rw [hq] at ht; injection ht with ht; cases ht
   ·cases ht
  ·split at ht
   ·cases hq:trT P 19 _ with
    | none => rw [hq] at ht; cases ht
    | some q => rw [hq] at ht; injection ht with ht; cases ht
   ·cases ht
  ·cases ht
 | b =>
  split at ht <;> first | (injection ht with ht; cases ht; done) | skip
  ·rename_i hu
   obtain ⟨s,rfl⟩:=okWide_bool hu hv
   obtain ⟨l,rfl⟩:=h2
   simp only [zao] at h1
   obtain ⟨y,ys,e,k1,k2⟩:=h1
   subst k2
   have e2:[Value.bool s]=[y]:=e
   injection e2 with e2 _
   subst e2
   exact ⟨.b l,k1,⟨l,rfl⟩⟩
  ·split at ht
   ·cases hq:trTs P (trT P 19) 0 _ with
    | none => rw [hq] at ht; cases ht
    | some q => rw [hq] at ht; injection ht with ht; cases ht
   ·cases ht
  ·split at ht
   ·cases hq:trT P 19 _ with
    | none => rw [hq] at ht; cases ht
    | some q => rw [hq] at ht; injection ht with ht; cases ht
   ·cases ht
  ·cases ht
 | i k =>
  split at ht <;> first | (injection ht with ht; cases ht; done) | skip
  ·rename_i k' hu
   injection ht with ht; injection ht with ht; subst ht
   obtain ⟨s,rfl⟩:=okWide_int hu hv
   obtain ⟨l,rfl,hl⟩:=h2
   simp only [zao] at h1
   obtain ⟨y,ys,e,k1,k2⟩:=h1
   subst k2
   have e2:[Value.int _ s]=[y]:=e
   injection e2 with e2 _
   subst e2
   exact ⟨.i _ l,k1,⟨l,rfl,hl⟩⟩
  ·split at ht
   ·cases hq:trTs P (trT P 19) 0 _ with
    | none => rw [hq] at ht; cases ht
    | some q => rw [hq] at ht; injection ht with ht; cases ht
   ·cases ht
  ·split at ht
   ·cases hq:trT P 19 _ with
    | none => rw [hq] at ht; cases ht
    | some q => rw [hq] at ht; injection ht with ht; cases ht
   ·cases ht
  ·cases ht
theorem open_args (hI:∀ g o v,w.cell? ⟨g,o,none⟩=some v → I g o v) (hspa:∀ b,spare b=true) {r:Reach} {b0:Nat}:∀ (ts:List TypeId) (tts:List TT) (vs:List Value) (ds:List (DataW H)) (ps:List MemPlace),ts.mapM (trT P 20)=some tts → (∀ (j:Nat) t v,ts[j]? = some t → vs[j]? = some v → Value.okWide P w r b0 t v) → DataW.TrodAll enc P w base spare held ts vs ds ps → (∀ n ∈ DataW.weightsEach P ts ds,n ≤ reachBytes) → ∃ xs,zao G I xs vs ∧ ShAs tts xs
 | [],tts,vs,ds,ps,ht,hv,h,hwt => by
  simp at ht; subst ht
  obtain ⟨rfl,_,_⟩:=trodAll_nil h
  exact ⟨[],zao.nil,rfl⟩
 | t :: ts,tts,vs,ds,ps,ht,hv,h,hwt => by
  simp only [List.mapM_cons,Option.bind_eq_bind,Option.pure_def] at ht
  cases h1:trT P 20 t with
  | none => simp [h1] at ht
  | some tt =>
   cases h2:ts.mapM (trT P 20) with
   | none => simp [h1,h2] at ht
   | some tts' =>
    simp [h1,h2] at ht
    subst ht
    obtain ⟨v,vs',d,ds',p,q,rfl,rfl,rfl,k1,k2⟩:=trodAll_cons h
    obtain ⟨x,x1,x2⟩:=open_arg (G:=G) (I:=I) hI hspa h1 (hv 0 t v rfl rfl) k1 (fun n hn => hwt n (by simp only [DataW.weightsEach,List.mem_append]; exact .inl hn))
    obtain ⟨xs,y1,y2⟩:=open_args hI hspa ts tts' vs' ds' q h2 (fun j t v hj hv' => hv (j + 1) t v (by simpa using hj) (by simpa using hv')) k2 (fun n hn => hwt n (by simp only [DataW.weightsEach,List.mem_append]; exact .inr hn))
    exact ⟨x :: xs,zao.cons x1 y1,⟨x,xs,rfl,x2,y2⟩⟩
theorem ze8 (hl:laidOutB P=true) {W W':World} {sp':Nat → Bool}:∀ (ts:List TypeId) (vs:List Value) (ds:List (DataW H)) (ps:List MemPlace),(∀ t ∈ ts,P.readableRec t=true ∧ t < P.types.size) → DataW.TrodAll enc P W 0 (fun _ => true) true ts vs ds ps → Below W.heap.size W W' → (∀ p ∈ ps,p.block < W.heap.size) → (∀ p ∈ ps,sp' p.block=true) → DataW.TrodAll enc P W' 0 sp' true ts vs ds ps
 | [],vs,ds,ps,hr,h,hb,hlt,hs => by
  obtain ⟨rfl,rfl,rfl⟩:=trodAll_nil h
  exact trodAll_mk0
 | t :: ts,vs,ds,ps,hr,h,hb,hlt,hs => by
  obtain ⟨v,vs',d,ds',p,q,rfl,rfl,rfl,k1,k2⟩:=trodAll_cons h
  have h1:=hr t (List.mem_cons_self ..)
  exact trodAll_cons_mk (WideElems.Trod_stays hl h1.1 h1.2 k1 (fun x hx => hb.same (hlt x (List.mem_append_left _ hx))) (fun x hx => hs x (List.mem_append_left _ hx)))
   (ze8 hl ts vs' ds' q (fun t ht => hr t (List.mem_cons_of_mem _ ht)) k2 hb (fun x hx => hlt x (List.mem_append_right _ hx)) (fun x hx => hs x (List.mem_append_right _ hx)))
end
theorem post_true {H:Type} {enc:TypeId × Value → H} {P:Program} {f:Func} {s:ChangeSpec} {apart fresh handsOn again:Bool} {W W':World} {args:Array Value} {ds gs:List (DataW H)} {before:List MemPlace}
  (hl:laidOutB P=true) (hts:∀ t ∈ f.params.toList,P.readableRec t=true ∧ t < P.types.size) {tb:TypeId} (hrt:f.resultTypes=#[tb]) (hub:P.underlying tb=some .bool) (hsv:s.vars=[])
  (hW:DataW.Whole enc P f.params.toList s.vars apart W args.toList ds gs before) (hfn:s.fn H (ds ++ gs)={ results:=[.lit (.bool true)],args:=ds }) (hb:Below W.heap.size W W'):s.post enc P f apart fresh handsOn again W args (.bool true) W':=by
 have hlt:∀ p ∈ before,p.block < W.heap.size:=fun p hp => hW.lt p hp
 have hold:∀ p ∈ before,(fun b => decide (b < W.heap.size)) p.block=true:=fun p hp => by simpa using hlt p hp
 have hW':=hW
 obtain ⟨p,q,hA,hV,rfl,hz,hn⟩:=hW'
 rw [hsv] at hV
 have hvars:gs=[] ∧ q=[]:=by
  cases gs with
  | nil => exact ⟨rfl,hV⟩
  | cons g gs => exact hV.elim
 obtain ⟨rfl,rfl⟩:=hvars
 simp only [List.append_nil] at *
 have hres:∀ (b:Nat) (sp:Nat → Bool) (hd:Bool),DataW.TrodAll enc P W' b sp hd f.resultTypes.toList ((Value.bool true).resultList f.resultTypes.size) (s.fn H ds).results []:=by
  intro b sp hd
  rw [hfn,hrt]
  exact trodAll_cons_mk (shut_bool hub _) trodAll_mk0
 have hargs:∀ sp:Nat → Bool,(∀ x ∈ p,sp x.block=true) → DataW.TrodAll enc P W' 0 sp true f.params.toList args.toList (s.fn H ds).args p:=by
  intro sp hsp
  rw [hfn]
  exact ze8 hl _ _ _ _ hts hA hb hlt hsp
 have hvs:∀ sp:Nat → Bool,DataW.TrodVars enc P W' sp s.vars (s.fn H ds).vars []:=by
  intro sp
  rw [hsv,hfn]; rfl
 refine ⟨ds,[],p,[],p,[],hW,by simpa using hres _ _ _,by simpa using hargs _ hold,by simpa using hvs _,World.keptBut_mono (fun x hx => ⟨hx,?_⟩) (hb.frame (· ∈ p)),fun _ => ?_⟩
 ·exact Or.inr (Or.inl hx)
 ·refine ⟨?_,_,_,([] ++ p) ++ [],⟨[] ++ p,[],trodAll_append (by simpa using hargs _ (fun _ _ => rfl)) (by simpa using hres _ _ _),by simpa using hvs _,rfl,?_,?_⟩,?_⟩
  ·intro j t r hj hr
   rw [hrt] at hj hr
   cases j with
   | zero =>
    simp at hj; subst hj
    have:r=.bool true:=by simpa [Value.resultList] using hr.symm
    subst this
    exact okWide_bool_mk hub _
   | succ j => simp at hj
  ·intro b off hp
   have hin:MemPlace.cell b off ∈ p:=by simpa using hp
   rw [hb.frozen (hlt _ hin)]
   exact hz b off hin
  ·intro ha
   simpa using hn ha
  ·intro x hx _
   simpa using hx
section
variable {H:Type} {enc:TypeId × Value → H}
end
end Go.Proofs.YtljbdpihiboeaaaGreatDoor.Sx
namespace Go.Proofs.YtljbdpihiboeaaaGreatDoor
open Sx
end Go.Proofs.YtljbdpihiboeaaaGreatDoor
namespace Go.Proofs.YtljbdpihiboeaaaGreatDoor
open Go.RowKit Sx
section
attribute [local irreducible] run
def zk4 (l:List UInt8):OB:=.box 120 [.row l.length (byA l)]
theorem zgC {objs:List OB} {b:Nat} {x:OB} (h:objs[b]? = some x):objs.set b x=objs:=by
 obtain ⟨h1,h2⟩:=List.getElem?_eq_some_iff.1 h
 rw [← h2,List.set_getElem_self]
theorem znL (n:Int) (h0:0 ≤ n) (h1:n < 9223372036854775808):IntKind.i64.wrap n=n:=by
 have e1:IntKind.signed .i64=true:=rfl
 simp only [IntKind.wrap,IntKind.bits,e1,if_true]
 have e2:(2:Int) ^ 64=18446744073709551616:=by decide
 have e3:(2:Int) ^ 63=9223372036854775808:=by decide
 first | (rw [Int.emod_eq_of_lt (by omega) (by omega)]; split <;> omega) | (simp; omega) | omega
section
variable [Tabs Tryz.prog] {objs:List OB} {K:List OB → AV → Prop}
end
end
end Go.Proofs.YtljbdpihiboeaaaGreatDoor
namespace Go.Proofs.YtljbdpihiboeaaaGreatDoor
open Go.RowKit Sx
section
attribute [local irreducible] run
theorem gsb {objs:List OB} {b:Nat} (h:b < objs.length) (x:OB):(objs.set b x)[b]? = some x:=List.getElem?_set_self h
section
variable [Tabs Tryz.prog] {objs:List OB} {K:List OB → AV → Prop}
end
end
end Go.Proofs.YtljbdpihiboeaaaGreatDoor
namespace Go.Proofs.YtljbdpihiboeaaaGreatDoor
open Nat renaming reduceAdd → z6, reduceSub → z7, reduceLeDiff → z8, reduceLT → j3, reduceMul → j6, reduceEqDiff → j7
open Int renaming reduceToNat → j8, reduceAdd → j9, reduceSub → x0, reduceMul → x5, reduceNeg → x6, reduceLT → x7, reduceLE → x8, reduceEq → x9, reduceNe → y3
open Go.RowKit Sx
section
attribute [local irreducible] run
section
variable [Tabs Tryz.prog]
theorem dNextV (l:List UInt8) (n:Int) (hl:l.length ≤ 200) (hn:1 ≤ n) (hn2:n ≤ 1000000):∃ (r:Int) (l':List UInt8),l'.length ≤ 200 ∧ 0 ≤ r ∧ r < n ∧
  ∀ {objs:List OB} {K:List OB → AV → Prop} (b:Nat),objs[b]? = some (zk4 l) → K (objs.set b (zk4 l')) (.i .i64 r) → zad Tryz.prog 54 [.p b 0,.i .i64 n] objs K:=by
 by_cases c1:(l.length:Int)=0
 ·refine ⟨0,l,hl,by omega,by omega,fun {objs K} b hb hk => ?_⟩
  refine zcQ is_made_Dice_Next fun C _ => ?_
  have hs:=zgC hb
  unfold zk4 at hb
  simp only [c_made_Dice_Next,sxZ,z6,z7,z8,j3,j6,j7,j8,j9,x0,x5,x6,x7,x8,x9,y3,reduceCtorEq,↓reduceIte,hb,c1]
  rw [hs] at hk
  exact hk
 by_cases c2:n ≤ 1
 ·refine ⟨0,l,hl,by omega,by omega,fun {objs K} b hb hk => ?_⟩
  refine zcQ is_made_Dice_Next fun C _ => ?_
  have hs:=zgC hb
  unfold zk4 at hb
  simp only [c_made_Dice_Next,sxZ,z6,z7,z8,j3,j6,j7,j8,j9,x0,x5,x6,x7,x8,x9,y3,reduceCtorEq,↓reduceIte,hb,c1,c2]
  rw [hs] at hk
  exact hk
 obtain ⟨c,l',rfl⟩:∃ c l',l=c :: l':=by
  cases l with
  | nil => simp at c1
  | cons c l' => exact ⟨c,l',rfl⟩
 have c3:¬ ((l'.length + 1:Nat):Int)=0:=by omega
 have hc:=c.toNat_lt
 have h1:=Int.emod_nonneg (c.toNat:Int) (show n ≠ 0 by omega)
 have h2:=Int.emod_lt_of_pos (c.toNat:Int) (show 0 < n by omega)
 refine ⟨(c.toNat:Int) % n,l',by rw [List.length_cons] at hl; omega,h1,h2,fun {objs K} b hb hk => ?_⟩
 refine zcQ is_made_Dice_Next fun C _ => ?_
 have hcons:byA (c :: l')=.i .u8 (c.toNat:Int) :: byA l':=rfl
 have hbl:=zk8 l'
 unfold zk4 at hb
 rw [hcons] at hb
 simp only [c_made_Dice_Next,sxZ,z6,z7,z8,j3,j6,j7,j8,j9,x0,x5,x6,x7,x8,x9,y3,reduceCtorEq,↓reduceIte,hb,c1,c2,c3,hcons]
 have e1:IntKind.i64.wrap (c.toNat:Int)=c.toNat:=znL _ (by omega) (by omega)
 have e2:(List.take ((l'.length + 1) * 1) (AV.i IntKind.u8 (c.toNat:Int) :: byA l')).drop 1=byA l':=by
  rw [List.take_of_length_le (by rw [List.length_cons,hbl]; omega),List.drop_one,List.tail_cons]
 have e3:(c.toNat:Int).tmod n=((c.toNat:Int) % n):=Int.tmod_eq_emod_of_nonneg (by omega)
 rw [e1,e2,e3,Nat.add_sub_cancel]
 exact ⟨⟨by omega,by omega⟩,by omega,by omega,hk⟩
theorem dNewV (l:List UInt8) (hl:l.length ≤ 140737488351232):∃ l':List UInt8,l'.length ≤ 200 ∧ ∀ {objs:List OB} {K:List OB → AV → Prop},K (objs ++ [zk4 l']) (.p objs.length 0) → zad Tryz.prog 44 [.row l.length (byA l)] objs K:=by
 by_cases c1:(200:Int) < l.length
 ·refine ⟨l.take 200,by rw [List.length_take]; omega,fun {objs K} h => ?_⟩
  refine zcQ is_made_New fun C _ => ?_
  have hbl:=zk8 l
  simp only [c_made_New,sxZ,z6,z7,z8,j3,j6,j7,j8,j9,x0,x5,x6,x7,x8,x9,y3,reduceCtorEq,↓reduceIte]
  rw [if_pos c1]
  refine ⟨⟨by omega,by omega⟩,?_⟩
  have e:byA (l.take 200)=(byA l).take 200:=by simp [byA,List.map_take]
  have e2:(l.take 200).length=200:=by rw [List.length_take]; omega
  unfold zk4 at h
  rw [e,e2] at h
  exact h
 ·refine ⟨l,by omega,fun {objs K} h => ?_⟩
  refine zcQ is_made_New fun C _ => ?_
  have hbl:=zk8 l
  simp only [c_made_New,sxZ,z6,z7,z8,j3,j6,j7,j8,j9,x0,x5,x6,x7,x8,x9,y3,reduceCtorEq,↓reduceIte]
  rw [if_neg c1]
  refine ⟨⟨by omega,by omega⟩,?_⟩
  unfold zk4 at h
  rw [Int.toNat_natCast,Nat.mul_one,List.take_of_length_le (by omega)]
  exact h
theorem zkg (l:List UInt8) (xs:List (List UInt8)) (m:Nat) (hl:l.length ≤ 200) (hn:1 ≤ xs.length) (hn2:xs.length ≤ 1000) (hm:xs.all (fun x => decide (x.length ≤ m))=true):∃ (x l':List UInt8),l'.length ≤ 200 ∧ x.length ≤ m ∧
  ∀ {objs:List OB} {K:List OB → AV → Prop} (b:Nat),objs[b]? = some (zk4 l) → K (objs.set b (zk4 l')) (.s x) → zad Tryz.prog 82 [.p b 0,.row xs.length (xs.map .s)] objs K:=by
 obtain ⟨r,l',hl',h0,h1,H⟩:=dNextV l xs.length hl (by omega) (by omega)
 obtain ⟨i,rfl⟩:=Int.eq_ofNat_of_zero_le h0
 have hlt:i < xs.length:=by omega
 have hat:(xs.map AV.s)[i]? = some (.s xs[i]):=by simp [hlt]
 refine ⟨xs[i],l',hl',of_decide_eq_true (List.all_eq_true.1 hm _ (List.getElem_mem hlt)),fun {objs K} b hb hk => ?_⟩
 refine zcQ is_made_Dice_One fun C _ => ?_
 simp only [c_made_Dice_One,sxZ,z6,z7,z8,j3,j6,j7,j8,j9,x0,x5,x6,x7,x8,x9,y3,reduceCtorEq,↓reduceIte]
 refine zae (H b hb ?_)
 simp only [sxZ,z6,z7,z8,j3,j6,j7,j8,j9,x0,x5,x6,x7,x8,x9,y3,reduceCtorEq,↓reduceIte,Int.toNat_natCast,Nat.mul_one,hat]
 exact ⟨⟨by omega,by omega,by rw [List.length_map]; omega⟩,hk⟩
theorem dHostV (l:List UInt8) (hl:l.length ≤ 200):∃ (x l':List UInt8),l'.length ≤ 200 ∧ x.length ≤ 14 ∧ ∀ {objs:List OB} {K:List OB → AV → Prop} (b:Nat),objs[b]? = some (zk4 l) → K (objs.set b (zk4 l')) (.s x) → zad Tryz.prog 81 [.p b 0] objs K:=by
 obtain ⟨x,l',hl',hx,H⟩:=zkg l [[97,46,101,120,97,109,112,108,101],[98,46,101,120,97,109,112,108,101],[99,46,101,120,97,109,112,108,101,58,56,52,52,51],[100,46,101,120,97,109,112,108,101]] 14 hl (by decide) (by decide) (by decide)
 refine ⟨x,l',hl',hx,fun {objs K} b hb hk => ?_⟩
 refine zcQ is_made_host fun C _ => ?_
 simp only [c_made_host,sxZ,z6,z7,z8,j3,j6,j7,j8,j9,x0,x5,x6,x7,x8,x9,y3,reduceCtorEq,↓reduceIte]
 refine zae (H b hb ?_)
 simp only [sxZ,z6,z7,z8,j3,j6,j7,j8,j9,x0,x5,x6,x7,x8,x9,y3,reduceCtorEq,↓reduceIte]
 exact hk
theorem dTextV (l:List UInt8) (hl:l.length ≤ 200):∃ (x l':List UInt8),l'.length ≤ 200 ∧ x.length ≤ 100 ∧ ∀ {objs:List OB} {K:List OB → AV → Prop} (b:Nat),objs[b]? = some (zk4 l) → K (objs.set b (zk4 l')) (.s x) → zad Tryz.prog 43 [.p b 0] objs K:=by
 have hmx:maxLen=2 ^ 63 - 1:=rfl
 obtain ⟨h,l1,hl1,hh,H1⟩:=dHostV l hl
 obtain ⟨r,l2,hl2,h0,h6,H2⟩:=dNextV l1 6 hl1 (by omega) (by omega)
 by_cases c0:r=0 ∨ r=1
 ·obtain ⟨x1,l3,hl3,hx1,H3⟩:=zkg l2 [[97,99,99,116,58],[65,67,67,84,58]] 5 hl2 (by decide) (by decide) (by decide)
  obtain ⟨x2,l4,hl4,hx2,H4⟩:=zkg l3 [[98,111,98],[97,109,121],[120,37,50,102,121],[99,43,100]] 5 hl3 (by decide) (by decide) (by decide)
  obtain ⟨x3,l5,hl5,hx3,H5⟩:=zkg l4 [[97,46,101,120,97,109,112,108,101],[66,46,101,120,97,109,112,108,101],[99,46,101,120,97,109,112,108,101]] 9 hl4 (by decide) (by decide) (by decide)
  refine ⟨x1 ++ x2 ++ [64] ++ x3,l5,hl5,by simp; omega,fun {objs K} b hb hk => ?_⟩
  have hlt:b < objs.length:=(List.getElem?_eq_some_iff.1 hb).1
  refine zcQ is_made_Text fun C _ => ?_
  rw [c_made_Text]
  refine zaw fun Y hY => ?_
  simp only [sxZ,z6,z7,z8,j3,j6,j7,j8,j9,x0,x5,x6,x7,x8,x9,y3,reduceCtorEq,↓reduceIte]
  subst hY
  refine zaw fun Y hY => ?_
  simp only [sxZ,z6,z7,z8,j3,j6,j7,j8,j9,x0,x5,x6,x7,x8,x9,y3,reduceCtorEq,↓reduceIte]
  refine zae (H1 b hb ?_)
  simp only [sxZ,z6,z7,z8,j3,j6,j7,j8,j9,x0,x5,x6,x7,x8,x9,y3,reduceCtorEq,↓reduceIte]
  subst hY
  refine zaw fun Y hY => ?_
  simp only [sxZ,z6,z7,z8,j3,j6,j7,j8,j9,x0,x5,x6,x7,x8,x9,y3,reduceCtorEq,↓reduceIte]
  refine zae (H2 b (gsb hlt _) ?_)
  simp only [List.set_set,sxZ,z6,z7,z8,j3,j6,j7,j8,j9,x0,x5,x6,x7,x8,x9,y3,reduceCtorEq,↓reduceIte]
  rcases c0 with rfl | rfl
  all_goals
   simp only [sxZ,z6,z7,z8,j3,j6,j7,j8,j9,x0,x5,x6,x7,x8,x9,y3,reduceCtorEq,↓reduceIte]
   refine zae (H3 b (gsb hlt _) ?_)
   simp only [List.set_set,sxZ,z6,z7,z8,j3,j6,j7,j8,j9,x0,x5,x6,x7,x8,x9,y3,reduceCtorEq,↓reduceIte]
   refine zae (H4 b (gsb hlt _) ?_)
   simp only [List.set_set,sxZ,z6,z7,z8,j3,j6,j7,j8,j9,x0,x5,x6,x7,x8,x9,y3,reduceCtorEq,↓reduceIte]
   refine ⟨by omega,by omega,?_⟩
   refine zae (H5 b (gsb hlt _) ?_)
   simp only [List.set_set,sxZ,z6,z7,z8,j3,j6,j7,j8,j9,x0,x5,x6,x7,x8,x9,y3,reduceCtorEq,↓reduceIte]
   refine ⟨by omega,?_⟩
   simp only [List.append_assoc,List.cons_append,List.nil_append] at hk ⊢
   exact hk
 have c1:¬ r=0:=fun e => c0 (.inl e)
 have c2:¬ r=1:=fun e => c0 (.inr e)
 by_cases c3:r=2
 ·obtain ⟨x1,l3,hl3,hx1,H3⟩:=zkg l2 [[98,111,98],[37,54,49,109,121],[99,43,100]] 5 hl2 (by decide) (by decide) (by decide)
  obtain ⟨x2,l4,hl4,hx2,H4⟩:=zkg l3 [[97,46,101,120,97,109,112,108,101],[98,46,69,120,97,109,112,108,101]] 9 hl3 (by decide) (by decide) (by decide)
  refine ⟨[109,97,105,108,116,111,58] ++ x1 ++ [64] ++ x2,l4,hl4,by simp; omega,fun {objs K} b hb hk => ?_⟩
  have hlt:b < objs.length:=(List.getElem?_eq_some_iff.1 hb).1
  refine zcQ is_made_Text fun C _ => ?_
  rw [c_made_Text]
  refine zaw fun Y hY => ?_
  simp only [sxZ,z6,z7,z8,j3,j6,j7,j8,j9,x0,x5,x6,x7,x8,x9,y3,reduceCtorEq,↓reduceIte]
  subst hY
  refine zaw fun Y hY => ?_
  simp only [sxZ,z6,z7,z8,j3,j6,j7,j8,j9,x0,x5,x6,x7,x8,x9,y3,reduceCtorEq,↓reduceIte]
  refine zae (H1 b hb ?_)
  simp only [sxZ,z6,z7,z8,j3,j6,j7,j8,j9,x0,x5,x6,x7,x8,x9,y3,reduceCtorEq,↓reduceIte]
  subst hY
  refine zaw fun Y hY => ?_
  simp only [sxZ,z6,z7,z8,j3,j6,j7,j8,j9,x0,x5,x6,x7,x8,x9,y3,reduceCtorEq,↓reduceIte]
  refine zae (H2 b (gsb hlt _) ?_)
  simp only [List.set_set,sxZ,z6,z7,z8,j3,j6,j7,j8,j9,x0,x5,x6,x7,x8,x9,y3,reduceCtorEq,↓reduceIte]
  subst c3
  simp only [sxZ,z6,z7,z8,j3,j6,j7,j8,j9,x0,x5,x6,x7,x8,x9,y3,reduceCtorEq,↓reduceIte]
  refine zae (H3 b (gsb hlt _) ?_)
  simp only [List.set_set,sxZ,z6,z7,z8,j3,j6,j7,j8,j9,x0,x5,x6,x7,x8,x9,y3,reduceCtorEq,↓reduceIte]
  refine ⟨by omega,by omega,?_⟩
  refine zae (H4 b (gsb hlt _) ?_)
  simp only [List.set_set,sxZ,z6,z7,z8,j3,j6,j7,j8,j9,x0,x5,x6,x7,x8,x9,y3,reduceCtorEq,↓reduceIte]
  refine ⟨by omega,?_⟩
  simp only [List.append_assoc,List.cons_append,List.nil_append] at hk ⊢
  exact hk
 by_cases c4:r=3
 ·obtain ⟨x1,l3,hl3,hx1,H3⟩:=zkg l2 [[],[47],[47,117,47,98,111,98],[47,46,47,120,63,121,61,49],[47,126,97,35,109,101]] 8 hl2 (by decide) (by decide) (by decide)
  refine ⟨[104,116,116,112,115,58,47,47] ++ h ++ x1,l3,hl3,by simp; omega,fun {objs K} b hb hk => ?_⟩
  have hlt:b < objs.length:=(List.getElem?_eq_some_iff.1 hb).1
  refine zcQ is_made_Text fun C _ => ?_
  rw [c_made_Text]
  refine zaw fun Y hY => ?_
  simp only [sxZ,z6,z7,z8,j3,j6,j7,j8,j9,x0,x5,x6,x7,x8,x9,y3,reduceCtorEq,↓reduceIte]
  subst hY
  refine zaw fun Y hY => ?_
  simp only [sxZ,z6,z7,z8,j3,j6,j7,j8,j9,x0,x5,x6,x7,x8,x9,y3,reduceCtorEq,↓reduceIte]
  refine zae (H1 b hb ?_)
  simp only [sxZ,z6,z7,z8,j3,j6,j7,j8,j9,x0,x5,x6,x7,x8,x9,y3,reduceCtorEq,↓reduceIte]
  subst hY
  refine zaw fun Y hY => ?_
  simp only [sxZ,z6,z7,z8,j3,j6,j7,j8,j9,x0,x5,x6,x7,x8,x9,y3,reduceCtorEq,↓reduceIte]
  refine zae (H2 b (gsb hlt _) ?_)
  simp only [List.set_set,sxZ,z6,z7,z8,j3,j6,j7,j8,j9,x0,x5,x6,x7,x8,x9,y3,reduceCtorEq,↓reduceIte]
  subst c4
  simp only [sxZ,z6,z7,z8,j3,j6,j7,j8,j9,x0,x5,x6,x7,x8,x9,y3,reduceCtorEq,↓reduceIte]
  refine ⟨by omega,?_⟩
  refine zae (H3 b (gsb hlt _) ?_)
  simp only [List.set_set,sxZ,z6,z7,z8,j3,j6,j7,j8,j9,x0,x5,x6,x7,x8,x9,y3,reduceCtorEq,↓reduceIte]
  refine ⟨by omega,?_⟩
  simp only [List.append_assoc,List.cons_append,List.nil_append] at hk ⊢
  exact hk
 obtain ⟨x1,l3,hl3,hx1,H3⟩:=zkg l2 [[],[58,117],[58,117,58,98,111,98],[58,97,37,55,101,98]] 6 hl2 (by decide) (by decide) (by decide)
 obtain ⟨h',hh',hh2⟩:∃ h':List UInt8,h'.length ≤ 20 ∧ h'=if h=[99,46,101,120,97,109,112,108,101,58,56,52,52,51] then [99,46,101,120,97,109,112,108,101,37,51,65,56,52,52,51] else h:=⟨_,by split <;> first | decide | omega,rfl⟩
 refine ⟨[100,105,100,58,119,101,98,58] ++ h' ++ x1,l3,hl3,by simp; omega,fun {objs K} b hb hk => ?_⟩
 have hlt:b < objs.length:=(List.getElem?_eq_some_iff.1 hb).1
 refine zcQ is_made_Text fun C _ => ?_
 rw [c_made_Text]
 refine zaw fun Y hY => ?_
 simp only [sxZ,z6,z7,z8,j3,j6,j7,j8,j9,x0,x5,x6,x7,x8,x9,y3,reduceCtorEq,↓reduceIte]
 subst hY
 refine zaw fun Y hY => ?_
 simp only [sxZ,z6,z7,z8,j3,j6,j7,j8,j9,x0,x5,x6,x7,x8,x9,y3,reduceCtorEq,↓reduceIte]
 refine zae (H1 b hb ?_)
 simp only [sxZ,z6,z7,z8,j3,j6,j7,j8,j9,x0,x5,x6,x7,x8,x9,y3,reduceCtorEq,↓reduceIte]
 subst hY
 refine zaw fun Y hY => ?_
 simp only [sxZ,z6,z7,z8,j3,j6,j7,j8,j9,x0,x5,x6,x7,x8,x9,y3,reduceCtorEq,↓reduceIte]
 refine zae (H2 b (gsb hlt _) ?_)
 simp only [List.set_set,sxZ,z6,z7,z8,j3,j6,j7,j8,j9,x0,x5,x6,x7,x8,x9,y3,reduceCtorEq,↓reduceIte]
 simp only [c1,c2,c3,c4,sxZ,z6,z7,z8,j3,j6,j7,j8,j9,x0,x5,x6,x7,x8,x9,y3,reduceCtorEq,↓reduceIte]
 subst hY
 refine zaw fun Y hY => ?_
 have last:∀ tm,tm.length=50 → tm[0]? = some (.p b 0) → tm[3]? = some (.s h') → run Tryz.prog C [.code Y] (objs.set b (zk4 l2)) tm (endI [.tmp 2] K):=by
  intro tm hlen t0 t3
  subst hY
  simp only [sxZ,z6,z7,z8,j3,j6,j7,j8,j9,x0,x5,x6,x7,x8,x9,y3,reduceCtorEq,↓reduceIte,List.getElem?_set,hlen,t0,t3]
  refine ⟨by omega,?_⟩
  refine zae (H3 b (gsb hlt _) ?_)
  simp only [List.set_set,sxZ,z6,z7,z8,j3,j6,j7,j8,j9,x0,x5,x6,x7,x8,x9,y3,reduceCtorEq,↓reduceIte,List.getElem?_set,hlen]
  refine ⟨by omega,?_⟩
  simp only [List.append_assoc,List.cons_append,List.nil_append] at hk ⊢
  exact hk
 by_cases c5:h=[99,46,101,120,97,109,112,108,101,58,56,52,52,51]
 ·rw [if_pos c5] at hh2
  simp only [c5,sxZ,z6,z7,z8,j3,j6,j7,j8,j9,x0,x5,x6,x7,x8,x9,y3,reduceCtorEq,↓reduceIte]
  exact last _ rfl rfl (by rw [hh2]; rfl)
 ·rw [if_neg c5] at hh2
  simp only [c5,sxZ,z6,z7,z8,j3,j6,j7,j8,j9,x0,x5,x6,x7,x8,x9,y3,reduceCtorEq,↓reduceIte]
  exact last _ rfl rfl (by rw [hh2]; rfl)
end
end
section
attribute [local irreducible] run
theorem zh1 (l:List UInt8):zbx (byA l)=true:=by
 induction l with
 | nil => rfl
 | cons a l ih => simp only [byA,List.map_cons] at ih ⊢; simp [zbx,AV.plain,ih]
section
variable [Tabs Tryz.prog] [Shp Tryz.prog] [Pow Tryz.prog] {objs:List OB} {K:List OB → AV → Prop}
def bobF:IdP:=⟨1,[97,99,99,116,58,98,111,98,64,101,120,97,109,112,108,101,46,99,111,109],[101,120,97,109,112,108,101,46,99,111,109],0⟩
theorem sane27_k (hk:K objs (.b true)):zad Tryz.prog 10 [] objs K:=by
 have e1:zd8 bobF=(0,zjx bobF):=by
  have h1:znF bobF=true:=by decide +kernel
  have h2:¬ 4096 < (zcm (zjx bobF)).length:=by decide +kernel
  unfold zd8
  rw [if_pos h1,if_neg h2]
 have e2:zd8 idZ=(8,zdc):=by
  have h1:¬ znF idZ=true:=by decide +kernel
  unfold zd8
  rw [if_neg h1]
 have e3:zcm (zjx bobF)=[104,116,116,112,115,58,47,47,101,120,97,109,112,108,101,46,99,111,109,47,46,119,101,108,108,45,107,110,111,119,110,47,119,101,98,102,105,110,103,101,114,63,114,101,115,111,117,114,99,101,61,97,99,99,116,37,51,65,98,111,98,37,52,48,101,120,97,109,112,108,101,46,99,111,109]:=by decide +kernel
 have hb:zad Tryz.prog 40 [] [] (fun o r => o=[] ∧ r=zd9 bobF):=by
  refine za1 is_law27_bob rfl fun C _ => ?_
  simp only [c_law27_bob,sxZ,z6,z7,z8,j3,j6,j7,j8,j9,x0,x5,x6,x7,x8,x9,y3,reduceCtorEq,↓reduceIte]
  rfl
 have su:zb9 (zjx bobF):=⟨by decide,by decide,by decide,by decide,by decide +kernel,by decide⟩
 refine za1 is_law27_sane rfl fun C _ => ?_
 rw [c_law27_sane]
 refine zaw fun Y hY => ?_
 simp only [sxZ,z6,z7,z8,j3,j6,j7,j8,j9,x0,x5,x6,x7,x8,x9,y3,reduceCtorEq,↓reduceIte]
 subst hY
 refine zaw fun Y hY => ?_
 simp only [sxZ,z6,z7,z8,j3,j6,j7,j8,j9,x0,x5,x6,x7,x8,x9,y3,reduceCtorEq,↓reduceIte]
 refine zae (hb.mono ?_)
 rintro o r ⟨rfl,rfl⟩
 simp only [sxZ,z6,z7,z8,j3,j6,j7,j8,j9,x0,x5,x6,x7,x8,x9,y3,reduceCtorEq,↓reduceIte]
 refine zae (zgl bobF ⟨by decide,by decide,by decide,by decide⟩ ?_)
 rw [e1]
 simp only [zaA,sxZ,z6,z7,z8,j3,j6,j7,j8,j9,x0,x5,x6,x7,x8,x9,y3,reduceCtorEq,↓reduceIte]
 subst hY
 refine zaw fun Y hY => ?_
 simp only [sxZ,z6,z7,z8,j3,j6,j7,j8,j9,x0,x5,x6,x7,x8,x9,y3,reduceCtorEq,↓reduceIte]
 refine zae (zgl idZ ⟨by decide,by decide,by decide,by decide⟩ ?_)
 rw [e2]
 simp only [zaA,zdc,sxZ,z6,z7,z8,j3,j6,j7,j8,j9,x0,x5,x6,x7,x8,x9,y3,reduceCtorEq,↓reduceIte]
 subst hY
 simp only [sxZ,z6,z7,z8,j3,j6,j7,j8,j9,x0,x5,x6,x7,x8,x9,y3,reduceCtorEq,↓reduceIte]
 refine zae (zch (zjx bobF) su ?_)
 rw [e3]
 simp only [sxZ,z6,z7,z8,j3,j6,j7,j8,j9,x0,x5,x6,x7,x8,x9,y3,reduceCtorEq,↓reduceIte]
 exact hk
omit [Shp Tryz.prog] [Pow Tryz.prog] in
theorem keepID_k (x:IdP) (h1:x.text.length ≤ 140737488351232) (h2:x.host.length ≤ 140737488351232) (hk:K objs (.b (decide ((x.text.length:Int) + x.host.length ≤ 1000)))):zad Tryz.prog 11 [zd9 x] objs K:=by
 refine za1 is_keep_ID rfl fun C _ => ?_
 simp only [c_keep_ID,zd9,sxZ,z6,z7,z8,j3,j6,j7,j8,j9,x0,x5,x6,x7,x8,x9,y3,reduceCtorEq,↓reduceIte]
 refine ⟨⟨by omega,by omega⟩,hk⟩
omit [Shp Tryz.prog] [Pow Tryz.prog] in
theorem zhu (l:List UInt8) (hl:l.length ≤ 140737488351232):∃ x:IdP,zdm x ∧ ∀ {objs:List OB} {K:List OB → AV → Prop},K objs (zd9 x) → zad Tryz.prog 12 [.row l.length (byA l)] objs K:=by
 obtain ⟨l',hl',H1⟩:=dNewV l hl
 obtain ⟨x,l2,hl2,hx,H2⟩:=dTextV l' hl'
 refine ⟨(zbC x).2,zkP x,fun {objs K} hk => ?_⟩
 refine za1 is_law27_identifier (by simp [zbx,AV.plain,zh1]) fun C _ => ?_
 rw [c_law27_identifier]
 refine zaw fun Y hY => ?_
 simp only [sxZ,z6,z7,z8,j3,j6,j7,j8,j9,x0,x5,x6,x7,x8,x9,y3,reduceCtorEq,↓reduceIte]
 subst hY
 refine zaw fun Y hY => ?_
 simp only [sxZ,z6,z7,z8,j3,j6,j7,j8,j9,x0,x5,x6,x7,x8,x9,y3,reduceCtorEq,↓reduceIte]
 refine zae (H1 ?_)
 simp only [sxZ,z6,z7,z8,j3,j6,j7,j8,j9,x0,x5,x6,x7,x8,x9,y3,reduceCtorEq,↓reduceIte]
 refine zae (H2 1 rfl ?_)
 simp only [sxZ,z6,z7,z8,j3,j6,j7,j8,j9,x0,x5,x6,x7,x8,x9,y3,reduceCtorEq,↓reduceIte]
 refine zae (zhN x (by omega) ?_)
 obtain ⟨⟨er,y⟩,hy⟩:∃ r,zbC x=r:=⟨_,rfl⟩
 rw [hy] at hk ⊢
 simp only [idT,zd9,sxZ,z6,z7,z8,j3,j6,j7,j8,j9,x0,x5,x6,x7,x8,x9,y3,reduceCtorEq,↓reduceIte] at hk ⊢
 subst hY
 simp only [sxZ,z6,z7,z8,j3,j6,j7,j8,j9,x0,x5,x6,x7,x8,x9,y3,reduceCtorEq,↓reduceIte]
 exact hk
theorem fingerURLs_c (n0:Int) (w0:(Lit.int .i64 n0).wf=true) (l1:List UInt8) (w1:l1.length ≤ 140737488351232) (l2:List UInt8) (w2:l2.length ≤ 140737488351232) (n3:Int) (w3:(Lit.int .i64 n3).wf=true) (l4:List UInt8) (w4:l4.length ≤ 140737488351232) :
  zad Tryz.prog 3 [.agg [.i .i64 n0,.s l1,.s l2,.i .i64 n3],.row l4.length (byA l4)] [] (fun _ r => r=.b true):=by
 obtain ⟨x,hx⟩:∃ x:IdP,x=⟨n0,l1,l2,n3⟩:=⟨_,rfl⟩
 have hp:=wf_i64 w3
 have a1:x.text.length ≤ 140737488351232:=by rw [hx]; exact w1
 have a2:x.host.length ≤ 140737488351232:=by rw [hx]; exact w2
 have a3:-9223372036854775808 ≤ x.port ∧ x.port ≤ 9223372036854775807:=by rw [hx]; exact hp
 have hxa:(.agg [.i .i64 n0,.s l1,.s l2,.i .i64 n3]:AV)=zd9 x:=by rw [hx]; rfl
 rw [hxa]
 clear hx hxa
 obtain ⟨y,hy,HY⟩:=zhu l4 w4
 refine za1 is_law27_FingerURLs (by simp [zd9,zbx,AV.plain,zh1]) fun C _ => ?_
 rw [c_law27_FingerURLs]
 refine zaw fun Y hY => ?_
 simp only [zd9,sxZ,z6,z7,z8,j3,j6,j7,j8,j9,x0,x5,x6,x7,x8,x9,y3,reduceCtorEq,↓reduceIte]
 subst hY
 refine zaw fun Y hY => ?_
 simp only [sxZ,z6,z7,z8,j3,j6,j7,j8,j9,x0,x5,x6,x7,x8,x9,y3,reduceCtorEq,↓reduceIte]
 refine zae (sane27_k ?_)
 simp only [sxZ,z6,z7,z8,j3,j6,j7,j8,j9,x0,x5,x6,x7,x8,x9,y3,reduceCtorEq,↓reduceIte]
 subst hY
 refine zaw fun Y hY => ?_
 simp only [sxZ,z6,z7,z8,j3,j6,j7,j8,j9,x0,x5,x6,x7,x8,x9,y3,reduceCtorEq,↓reduceIte]
 refine zae (keepID_k x a1 a2 ?_)
 by_cases c1:((x.text.length:Int) + x.host.length ≤ 1000)
 ·have hsx:zdm x:=⟨by omega,by omega,a3.1,a3.2⟩
  simp only [c1,sxZ,z6,z7,z8,j3,j6,j7,j8,j9,x0,x5,x6,x7,x8,x9,y3,reduceCtorEq,↓reduceIte]
  subst hY
  refine zaw fun Y hY => ?_
  simp only [sxZ,z6,z7,z8,j3,j6,j7,j8,j9,x0,x5,x6,x7,x8,x9,y3,reduceCtorEq,↓reduceIte]
  refine zb6 (HY ⟨rfl,rfl⟩) ?_
  simp only [zd9,sxZ,z6,z7,z8,j3,j6,j7,j8,j9,x0,x5,x6,x7,x8,x9,y3,reduceCtorEq,↓reduceIte]
  have fin:∀ o tm,tm.length=92 → run Tryz.prog C [.code Y] o tm (endK [.tmp 4] fun r => r=.b true):=by
   intro o tm hlen
   subst hY
   simp only [sxZ,z6,z7,z8,j3,j6,j7,j8,j9,x0,x5,x6,x7,x8,x9,y3,reduceCtorEq,↓reduceIte,List.getElem?_set,hlen]
  refine zcq (fun k o tm => ∃ i:Nat,i ≤ 2 ∧ k=2 - i ∧ tm.length=92 ∧ o.length=1 + 7 * i ∧ tm[27]? = some (.row 2 [.i .i64 x.kind,.s x.text,.s x.host,.i .i64 x.port,.i .i64 y.kind,.s y.text,.s y.host,.i .i64 y.port]) ∧ tm[28]? = some (.i .i64 2) ∧ tm[29]? = some (.i .i64 i)) 2 ⟨0,by omega,rfl,rfl,rfl,rfl,rfl,rfl⟩ ?_
  rintro k o tm ⟨i,hi,rfl,hlen,ho,t27,t28,t29⟩
  have hi3:i=0 ∨ i=1 ∨ i=2:=by omega
  rcases hi3 with rfl | rfl | rfl
  rotate_right
  ·have n2:¬ ((2:Nat):Int) < 2:=by decide
   simp only [sxZ,z6,z7,z8,j3,j6,j7,j8,j9,x0,x5,x6,x7,x8,x9,y3,reduceCtorEq,↓reduceIte,List.getElem?_set,hlen,t27,t28,t29,n2]
   refine fin _ _ ?_
   simp only [List.length_set,hlen]
  ·obtain ⟨o0,rfl⟩:∃ o0,o=[o0]:=List.length_eq_one_iff.1 ho
   have n2:((0:Nat):Int) < 2:=by decide
   have hz:zdm x:=hsx
   obtain ⟨⟨e1,u1⟩,h1⟩:∃ r,zd8 x=r:=⟨_,rfl⟩
   obtain ⟨⟨e2,u2⟩,h2⟩:∃ r,atE x hmL=r:=⟨_,rfl⟩
   obtain ⟨⟨e3,u3⟩,h3⟩:∃ r,atE x [47]=r:=⟨_,rfl⟩
   have hid:zd9 x=.agg [.i .i64 x.kind,.s x.text,.s x.host,.i .i64 x.port]:=rfl
   refine zaw fun Z hZ => ?_
   simp only [sxZ,z6,z7,z8,j3,j6,j7,j8,j9,x0,x5,x6,x7,x8,x9,y3,reduceCtorEq,↓reduceIte,List.getElem?_set,hlen,t27,t28,t29,n2]
   subst hZ
   refine zaw fun Z hZ => ?_
   simp only [sxZ,z6,z7,z8,j3,j6,j7,j8,j9,x0,x5,x6,x7,x8,x9,y3,reduceCtorEq,↓reduceIte,List.getElem?_set,hlen,t27,t28,t29,n2]
   subst hZ
   refine zaw fun Z hZ => ?_
   rw [zlz]
   refine zaw fun Z1 hZ1 => ?_
   simp only [sxZ,z6,z7,z8,j3,j6,j7,j8,j9,x0,x5,x6,x7,x8,x9,y3,reduceCtorEq,↓reduceIte,List.getElem?_set,hlen,t27,t28,t29,Int.toNat_natCast]
   refine ⟨by decide,?_⟩
   refine zbS (fun t => t.length=92 ∧ t[27]? = some (.row 2 [.i .i64 x.kind,.s x.text,.s x.host,.i .i64 x.port,.i .i64 y.kind,.s y.text,.s y.host,.i .i64 y.port]) ∧ t[28]? = some (.i .i64 2) ∧ t[29]? = some (.i .i64 ((0:Nat):Int)) ∧ t[6]? = some (.p 1 0)) ?_ ?_
   ·simp only [sxZ,z6,z7,z8,j3,j6,j7,j8,j9,x0,x5,x6,x7,x8,x9,y3,reduceCtorEq,↓reduceIte,List.length_set,List.getElem?_set,hlen,t27,t28,t29,and_self]
   clear hlen t27 t28 t29
   rintro tm ⟨hlen,t27,t28,t29,t6⟩
   subst hZ1
   refine zaw fun Z2 hZ2 => ?_
   simp only [sxZ,z6,z7,z8,j3,j6,j7,j8,j9,x0,x5,x6,x7,x8,x9,y3,reduceCtorEq,↓reduceIte,List.getElem?_set,hlen,t6]
   refine zae (zgl x hz ?_)
   rw [h1]
   simp only [zaA,sxZ,z6,z7,z8,j3,j6,j7,j8,j9,x0,x5,x6,x7,x8,x9,y3,reduceCtorEq,↓reduceIte,List.getElem?_set,hlen]
   refine zbS (fun t => t.length=92 ∧ t[27]? = some (.row 2 [.i .i64 x.kind,.s x.text,.s x.host,.i .i64 x.port,.i .i64 y.kind,.s y.text,.s y.host,.i .i64 y.port]) ∧ t[28]? = some (.i .i64 2) ∧ t[29]? = some (.i .i64 ((0:Nat):Int)) ∧ t[6]? = some (.p 1 0) ∧ t[7]? = some (.p 2 0) ∧ t[8]? = some (.i .i64 e1)) ?_ ?_
   ·simp only [sxZ,z6,z7,z8,j3,j6,j7,j8,j9,x0,x5,x6,x7,x8,x9,y3,reduceCtorEq,↓reduceIte,List.length_set,List.getElem?_set,hlen,t27,t28,t29,t6,and_self]
   clear hlen t27 t28 t29 t6
   rintro tm ⟨hlen,t27,t28,t29,t6,t7,t8⟩
   subst hZ2
   refine zaw fun Z3 hZ3 => ?_
   simp only [sxZ,z6,z7,z8,j3,j6,j7,j8,j9,x0,x5,x6,x7,x8,x9,y3,reduceCtorEq,↓reduceIte,List.getElem?_set,hlen,t6]
   refine zae (zlD x hz ?_)
   rw [h1]
   simp only [zaA,sxZ,z6,z7,z8,j3,j6,j7,j8,j9,x0,x5,x6,x7,x8,x9,y3,reduceCtorEq,↓reduceIte,List.getElem?_set,hlen]
   refine zbS (fun t => t.length=92 ∧ t[27]? = some (.row 2 [.i .i64 x.kind,.s x.text,.s x.host,.i .i64 x.port,.i .i64 y.kind,.s y.text,.s y.host,.i .i64 y.port]) ∧ t[28]? = some (.i .i64 2) ∧ t[29]? = some (.i .i64 ((0:Nat):Int)) ∧ t[6]? = some (.p 1 0) ∧ t[7]? = some (.p 2 0) ∧ t[8]? = some (.i .i64 e1) ∧ t[9]? = some (.p 3 0) ∧ t[10]? = some (.i .i64 e1)) ?_ ?_
   ·simp only [sxZ,z6,z7,z8,j3,j6,j7,j8,j9,x0,x5,x6,x7,x8,x9,y3,reduceCtorEq,↓reduceIte,List.length_set,List.getElem?_set,hlen,t27,t28,t29,t6,t7,t8,and_self]
   clear hlen t27 t28 t29 t6 t7 t8
   rintro tm ⟨hlen,t27,t28,t29,t6,t7,t8,t9,t10⟩
   subst hZ3
   refine zaw fun Z4 hZ4 => ?_
   simp only [sxZ,z6,z7,z8,j3,j6,j7,j8,j9,x0,x5,x6,x7,x8,x9,y3,reduceCtorEq,↓reduceIte,List.getElem?_set,hlen,t6]
   refine zae (zg7 x hz ?_)
   rw [h2]
   simp only [zaA,sxZ,z6,z7,z8,j3,j6,j7,j8,j9,x0,x5,x6,x7,x8,x9,y3,reduceCtorEq,↓reduceIte,List.getElem?_set,hlen]
   refine zbS (fun t => t.length=92 ∧ t[27]? = some (.row 2 [.i .i64 x.kind,.s x.text,.s x.host,.i .i64 x.port,.i .i64 y.kind,.s y.text,.s y.host,.i .i64 y.port]) ∧ t[28]? = some (.i .i64 2) ∧ t[29]? = some (.i .i64 ((0:Nat):Int)) ∧ t[6]? = some (.p 1 0) ∧ t[7]? = some (.p 2 0) ∧ t[8]? = some (.i .i64 e1) ∧ t[9]? = some (.p 3 0) ∧ t[10]? = some (.i .i64 e1) ∧ t[11]? = some (.p 4 0) ∧ t[12]? = some (.i .i64 e2)) ?_ ?_
   ·simp only [sxZ,z6,z7,z8,j3,j6,j7,j8,j9,x0,x5,x6,x7,x8,x9,y3,reduceCtorEq,↓reduceIte,List.length_set,List.getElem?_set,hlen,t27,t28,t29,t6,t7,t8,t9,t10,and_self]
   clear hlen t27 t28 t29 t6 t7 t8 t9 t10
   rintro tm ⟨hlen,t27,t28,t29,t6,t7,t8,t9,t10,t11,t12⟩
   subst hZ4
   refine zaw fun Z5 hZ5 => ?_
   simp only [sxZ,z6,z7,z8,j3,j6,j7,j8,j9,x0,x5,x6,x7,x8,x9,y3,reduceCtorEq,↓reduceIte,List.getElem?_set,hlen,t6]
   refine zae (zgN x hz ?_)
   rw [h2]
   simp only [zaA,sxZ,z6,z7,z8,j3,j6,j7,j8,j9,x0,x5,x6,x7,x8,x9,y3,reduceCtorEq,↓reduceIte,List.getElem?_set,hlen]
   refine zbS (fun t => t.length=92 ∧ t[27]? = some (.row 2 [.i .i64 x.kind,.s x.text,.s x.host,.i .i64 x.port,.i .i64 y.kind,.s y.text,.s y.host,.i .i64 y.port]) ∧ t[28]? = some (.i .i64 2) ∧ t[29]? = some (.i .i64 ((0:Nat):Int)) ∧ t[6]? = some (.p 1 0) ∧ t[7]? = some (.p 2 0) ∧ t[8]? = some (.i .i64 e1) ∧ t[9]? = some (.p 3 0) ∧ t[10]? = some (.i .i64 e1) ∧ t[11]? = some (.p 4 0) ∧ t[12]? = some (.i .i64 e2) ∧ t[13]? = some (.p 5 0) ∧ t[14]? = some (.i .i64 e2)) ?_ ?_
   ·simp only [sxZ,z6,z7,z8,j3,j6,j7,j8,j9,x0,x5,x6,x7,x8,x9,y3,reduceCtorEq,↓reduceIte,List.length_set,List.getElem?_set,hlen,t27,t28,t29,t6,t7,t8,t9,t10,t11,t12,and_self]
   clear hlen t27 t28 t29 t6 t7 t8 t9 t10 t11 t12
   rintro tm ⟨hlen,t27,t28,t29,t6,t7,t8,t9,t10,t11,t12,t13,t14⟩
   subst hZ5
   refine zaw fun Z6 hZ6 => ?_
   simp only [sxZ,z6,z7,z8,j3,j6,j7,j8,j9,x0,x5,x6,x7,x8,x9,y3,reduceCtorEq,↓reduceIte,List.getElem?_set,hlen,t6]
   refine zae (zpU x hz ?_)
   rw [h3]
   simp only [zaA,sxZ,z6,z7,z8,j3,j6,j7,j8,j9,x0,x5,x6,x7,x8,x9,y3,reduceCtorEq,↓reduceIte,List.getElem?_set,hlen]
   refine zbS (fun t => t.length=92 ∧ t[27]? = some (.row 2 [.i .i64 x.kind,.s x.text,.s x.host,.i .i64 x.port,.i .i64 y.kind,.s y.text,.s y.host,.i .i64 y.port]) ∧ t[28]? = some (.i .i64 2) ∧ t[29]? = some (.i .i64 ((0:Nat):Int)) ∧ t[6]? = some (.p 1 0) ∧ t[7]? = some (.p 2 0) ∧ t[8]? = some (.i .i64 e1) ∧ t[9]? = some (.p 3 0) ∧ t[10]? = some (.i .i64 e1) ∧ t[11]? = some (.p 4 0) ∧ t[12]? = some (.i .i64 e2) ∧ t[13]? = some (.p 5 0) ∧ t[14]? = some (.i .i64 e2) ∧ t[15]? = some (.p 6 0) ∧ t[16]? = some (.i .i64 e3)) ?_ ?_
   ·simp only [sxZ,z6,z7,z8,j3,j6,j7,j8,j9,x0,x5,x6,x7,x8,x9,y3,reduceCtorEq,↓reduceIte,List.length_set,List.getElem?_set,hlen,t27,t28,t29,t6,t7,t8,t9,t10,t11,t12,t13,t14,and_self]
   clear hlen t27 t28 t29 t6 t7 t8 t9 t10 t11 t12 t13 t14
   rintro tm ⟨hlen,t27,t28,t29,t6,t7,t8,t9,t10,t11,t12,t13,t14,t15,t16⟩
   subst hZ6
   refine zaw fun Z7 hZ7 => ?_
   simp only [sxZ,z6,z7,z8,j3,j6,j7,j8,j9,x0,x5,x6,x7,x8,x9,y3,reduceCtorEq,↓reduceIte,List.getElem?_set,hlen,t6]
   refine zae (zoF x hz ?_)
   rw [h3]
   simp only [zaA,sxZ,z6,z7,z8,j3,j6,j7,j8,j9,x0,x5,x6,x7,x8,x9,y3,reduceCtorEq,↓reduceIte,List.getElem?_set,hlen]
   refine zbS (fun t => t.length=92 ∧ t[27]? = some (.row 2 [.i .i64 x.kind,.s x.text,.s x.host,.i .i64 x.port,.i .i64 y.kind,.s y.text,.s y.host,.i .i64 y.port]) ∧ t[28]? = some (.i .i64 2) ∧ t[29]? = some (.i .i64 ((0:Nat):Int)) ∧ t[6]? = some (.p 1 0) ∧ t[7]? = some (.p 2 0) ∧ t[8]? = some (.i .i64 e1) ∧ t[9]? = some (.p 3 0) ∧ t[10]? = some (.i .i64 e1) ∧ t[11]? = some (.p 4 0) ∧ t[12]? = some (.i .i64 e2) ∧ t[13]? = some (.p 5 0) ∧ t[14]? = some (.i .i64 e2) ∧ t[15]? = some (.p 6 0) ∧ t[16]? = some (.i .i64 e3) ∧ t[17]? = some (.p 7 0) ∧ t[18]? = some (.i .i64 e3)) ?_ ?_
   ·simp only [sxZ,z6,z7,z8,j3,j6,j7,j8,j9,x0,x5,x6,x7,x8,x9,y3,reduceCtorEq,↓reduceIte,List.length_set,List.getElem?_set,hlen,t27,t28,t29,t6,t7,t8,t9,t10,t11,t12,t13,t14,t15,t16,and_self]
   clear hlen t27 t28 t29 t6 t7 t8 t9 t10 t11 t12 t13 t14 t15 t16
   rintro tm ⟨hlen,t27,t28,t29,t6,t7,t8,t9,t10,t11,t12,t13,t14,t15,t16,t17,t18⟩
   subst hZ7
   simp only [sxZ,z6,z7,z8,j3,j6,j7,j8,j9,x0,x5,x6,x7,x8,x9,y3,reduceCtorEq,↓reduceIte,List.getElem?_set,hlen,t27,t28,t29,t6,t7,t8,t9,t10,t11,t12,t13,t14,t15,t16,t17,t18,decide_true,Bool.and_true,beq_self_eq_true,Bool.and_self,Bool.not_true]
   subst hZ
   simp only [sxZ,z6,z7,z8,j3,j6,j7,j8,j9,x0,x5,x6,x7,x8,x9,y3,reduceCtorEq,↓reduceIte,List.getElem?_set,hlen,t27,t28,t29,t6,t7,t8,t9,t10,t11,t12,t13,t14,t15,t16,t17,t18]
   exact ⟨by decide,1,by decide,1,by decide,rfl,rfl,rfl⟩
  ·obtain ⟨o0,o1,o2,o3,o4,o5,o6,o7,rfl⟩:∃ o0 o1 o2 o3 o4 o5 o6 o7,o=[o0,o1,o2,o3,o4,o5,o6,o7]:=by
    match o,ho with
    | [o0,o1,o2,o3,o4,o5,o6,o7],_ => exact ⟨o0,o1,o2,o3,o4,o5,o6,o7,rfl⟩
   have n2:((1:Nat):Int) < 2:=by decide
   have hz:zdm y:=hy
   obtain ⟨⟨e1,u1⟩,h1⟩:∃ r,zd8 y=r:=⟨_,rfl⟩
   obtain ⟨⟨e2,u2⟩,h2⟩:∃ r,atE y hmL=r:=⟨_,rfl⟩
   obtain ⟨⟨e3,u3⟩,h3⟩:∃ r,atE y [47]=r:=⟨_,rfl⟩
   have hid:zd9 y=.agg [.i .i64 y.kind,.s y.text,.s y.host,.i .i64 y.port]:=rfl
   refine zaw fun Z hZ => ?_
   simp only [sxZ,z6,z7,z8,j3,j6,j7,j8,j9,x0,x5,x6,x7,x8,x9,y3,reduceCtorEq,↓reduceIte,List.getElem?_set,hlen,t27,t28,t29,n2]
   subst hZ
   refine zaw fun Z hZ => ?_
   simp only [sxZ,z6,z7,z8,j3,j6,j7,j8,j9,x0,x5,x6,x7,x8,x9,y3,reduceCtorEq,↓reduceIte,List.getElem?_set,hlen,t27,t28,t29,n2]
   subst hZ
   refine zaw fun Z hZ => ?_
   rw [zlz]
   refine zaw fun Z1 hZ1 => ?_
   simp only [sxZ,z6,z7,z8,j3,j6,j7,j8,j9,x0,x5,x6,x7,x8,x9,y3,reduceCtorEq,↓reduceIte,List.getElem?_set,hlen,t27,t28,t29,Int.toNat_natCast]
   refine ⟨by decide,?_⟩
   refine zbS (fun t => t.length=92 ∧ t[27]? = some (.row 2 [.i .i64 x.kind,.s x.text,.s x.host,.i .i64 x.port,.i .i64 y.kind,.s y.text,.s y.host,.i .i64 y.port]) ∧ t[28]? = some (.i .i64 2) ∧ t[29]? = some (.i .i64 ((1:Nat):Int)) ∧ t[6]? = some (.p 8 0)) ?_ ?_
   ·simp only [sxZ,z6,z7,z8,j3,j6,j7,j8,j9,x0,x5,x6,x7,x8,x9,y3,reduceCtorEq,↓reduceIte,List.length_set,List.getElem?_set,hlen,t27,t28,t29,and_self]
   clear hlen t27 t28 t29
   rintro tm ⟨hlen,t27,t28,t29,t6⟩
   subst hZ1
   refine zaw fun Z2 hZ2 => ?_
   simp only [sxZ,z6,z7,z8,j3,j6,j7,j8,j9,x0,x5,x6,x7,x8,x9,y3,reduceCtorEq,↓reduceIte,List.getElem?_set,hlen,t6]
   refine zae (zgl y hz ?_)
   rw [h1]
   simp only [zaA,sxZ,z6,z7,z8,j3,j6,j7,j8,j9,x0,x5,x6,x7,x8,x9,y3,reduceCtorEq,↓reduceIte,List.getElem?_set,hlen]
   refine zbS (fun t => t.length=92 ∧ t[27]? = some (.row 2 [.i .i64 x.kind,.s x.text,.s x.host,.i .i64 x.port,.i .i64 y.kind,.s y.text,.s y.host,.i .i64 y.port]) ∧ t[28]? = some (.i .i64 2) ∧ t[29]? = some (.i .i64 ((1:Nat):Int)) ∧ t[6]? = some (.p 8 0) ∧ t[7]? = some (.p 9 0) ∧ t[8]? = some (.i .i64 e1)) ?_ ?_
   ·simp only [sxZ,z6,z7,z8,j3,j6,j7,j8,j9,x0,x5,x6,x7,x8,x9,y3,reduceCtorEq,↓reduceIte,List.length_set,List.getElem?_set,hlen,t27,t28,t29,t6,and_self]
   clear hlen t27 t28 t29 t6
   rintro tm ⟨hlen,t27,t28,t29,t6,t7,t8⟩
   subst hZ2
   refine zaw fun Z3 hZ3 => ?_
   simp only [sxZ,z6,z7,z8,j3,j6,j7,j8,j9,x0,x5,x6,x7,x8,x9,y3,reduceCtorEq,↓reduceIte,List.getElem?_set,hlen,t6]
   refine zae (zlD y hz ?_)
   rw [h1]
   simp only [zaA,sxZ,z6,z7,z8,j3,j6,j7,j8,j9,x0,x5,x6,x7,x8,x9,y3,reduceCtorEq,↓reduceIte,List.getElem?_set,hlen]
   refine zbS (fun t => t.length=92 ∧ t[27]? = some (.row 2 [.i .i64 x.kind,.s x.text,.s x.host,.i .i64 x.port,.i .i64 y.kind,.s y.text,.s y.host,.i .i64 y.port]) ∧ t[28]? = some (.i .i64 2) ∧ t[29]? = some (.i .i64 ((1:Nat):Int)) ∧ t[6]? = some (.p 8 0) ∧ t[7]? = some (.p 9 0) ∧ t[8]? = some (.i .i64 e1) ∧ t[9]? = some (.p 10 0) ∧ t[10]? = some (.i .i64 e1)) ?_ ?_
   ·simp only [sxZ,z6,z7,z8,j3,j6,j7,j8,j9,x0,x5,x6,x7,x8,x9,y3,reduceCtorEq,↓reduceIte,List.length_set,List.getElem?_set,hlen,t27,t28,t29,t6,t7,t8,and_self]
   clear hlen t27 t28 t29 t6 t7 t8
   rintro tm ⟨hlen,t27,t28,t29,t6,t7,t8,t9,t10⟩
   subst hZ3
   refine zaw fun Z4 hZ4 => ?_
   simp only [sxZ,z6,z7,z8,j3,j6,j7,j8,j9,x0,x5,x6,x7,x8,x9,y3,reduceCtorEq,↓reduceIte,List.getElem?_set,hlen,t6]
   refine zae (zg7 y hz ?_)
   rw [h2]
   simp only [zaA,sxZ,z6,z7,z8,j3,j6,j7,j8,j9,x0,x5,x6,x7,x8,x9,y3,reduceCtorEq,↓reduceIte,List.getElem?_set,hlen]
   refine zbS (fun t => t.length=92 ∧ t[27]? = some (.row 2 [.i .i64 x.kind,.s x.text,.s x.host,.i .i64 x.port,.i .i64 y.kind,.s y.text,.s y.host,.i .i64 y.port]) ∧ t[28]? = some (.i .i64 2) ∧ t[29]? = some (.i .i64 ((1:Nat):Int)) ∧ t[6]? = some (.p 8 0) ∧ t[7]? = some (.p 9 0) ∧ t[8]? = some (.i .i64 e1) ∧ t[9]? = some (.p 10 0) ∧ t[10]? = some (.i .i64 e1) ∧ t[11]? = some (.p 11 0) ∧ t[12]? = some (.i .i64 e2)) ?_ ?_
   ·simp only [sxZ,z6,z7,z8,j3,j6,j7,j8,j9,x0,x5,x6,x7,x8,x9,y3,reduceCtorEq,↓reduceIte,List.length_set,List.getElem?_set,hlen,t27,t28,t29,t6,t7,t8,t9,t10,and_self]
   clear hlen t27 t28 t29 t6 t7 t8 t9 t10
   rintro tm ⟨hlen,t27,t28,t29,t6,t7,t8,t9,t10,t11,t12⟩
   subst hZ4
   refine zaw fun Z5 hZ5 => ?_
   simp only [sxZ,z6,z7,z8,j3,j6,j7,j8,j9,x0,x5,x6,x7,x8,x9,y3,reduceCtorEq,↓reduceIte,List.getElem?_set,hlen,t6]
   refine zae (zgN y hz ?_)
   rw [h2]
   simp only [zaA,sxZ,z6,z7,z8,j3,j6,j7,j8,j9,x0,x5,x6,x7,x8,x9,y3,reduceCtorEq,↓reduceIte,List.getElem?_set,hlen]
   refine zbS (fun t => t.length=92 ∧ t[27]? = some (.row 2 [.i .i64 x.kind,.s x.text,.s x.host,.i .i64 x.port,.i .i64 y.kind,.s y.text,.s y.host,.i .i64 y.port]) ∧ t[28]? = some (.i .i64 2) ∧ t[29]? = some (.i .i64 ((1:Nat):Int)) ∧ t[6]? = some (.p 8 0) ∧ t[7]? = some (.p 9 0) ∧ t[8]? = some (.i .i64 e1) ∧ t[9]? = some (.p 10 0) ∧ t[10]? = some (.i .i64 e1) ∧ t[11]? = some (.p 11 0) ∧ t[12]? = some (.i .i64 e2) ∧ t[13]? = some (.p 12 0) ∧ t[14]? = some (.i .i64 e2)) ?_ ?_
   ·simp only [sxZ,z6,z7,z8,j3,j6,j7,j8,j9,x0,x5,x6,x7,x8,x9,y3,reduceCtorEq,↓reduceIte,List.length_set,List.getElem?_set,hlen,t27,t28,t29,t6,t7,t8,t9,t10,t11,t12,and_self]
   clear hlen t27 t28 t29 t6 t7 t8 t9 t10 t11 t12
   rintro tm ⟨hlen,t27,t28,t29,t6,t7,t8,t9,t10,t11,t12,t13,t14⟩
   subst hZ5
   refine zaw fun Z6 hZ6 => ?_
   simp only [sxZ,z6,z7,z8,j3,j6,j7,j8,j9,x0,x5,x6,x7,x8,x9,y3,reduceCtorEq,↓reduceIte,List.getElem?_set,hlen,t6]
   refine zae (zpU y hz ?_)
   rw [h3]
   simp only [zaA,sxZ,z6,z7,z8,j3,j6,j7,j8,j9,x0,x5,x6,x7,x8,x9,y3,reduceCtorEq,↓reduceIte,List.getElem?_set,hlen]
   refine zbS (fun t => t.length=92 ∧ t[27]? = some (.row 2 [.i .i64 x.kind,.s x.text,.s x.host,.i .i64 x.port,.i .i64 y.kind,.s y.text,.s y.host,.i .i64 y.port]) ∧ t[28]? = some (.i .i64 2) ∧ t[29]? = some (.i .i64 ((1:Nat):Int)) ∧ t[6]? = some (.p 8 0) ∧ t[7]? = some (.p 9 0) ∧ t[8]? = some (.i .i64 e1) ∧ t[9]? = some (.p 10 0) ∧ t[10]? = some (.i .i64 e1) ∧ t[11]? = some (.p 11 0) ∧ t[12]? = some (.i .i64 e2) ∧ t[13]? = some (.p 12 0) ∧ t[14]? = some (.i .i64 e2) ∧ t[15]? = some (.p 13 0) ∧ t[16]? = some (.i .i64 e3)) ?_ ?_
   ·simp only [sxZ,z6,z7,z8,j3,j6,j7,j8,j9,x0,x5,x6,x7,x8,x9,y3,reduceCtorEq,↓reduceIte,List.length_set,List.getElem?_set,hlen,t27,t28,t29,t6,t7,t8,t9,t10,t11,t12,t13,t14,and_self]
   clear hlen t27 t28 t29 t6 t7 t8 t9 t10 t11 t12 t13 t14
   rintro tm ⟨hlen,t27,t28,t29,t6,t7,t8,t9,t10,t11,t12,t13,t14,t15,t16⟩
   subst hZ6
   refine zaw fun Z7 hZ7 => ?_
   simp only [sxZ,z6,z7,z8,j3,j6,j7,j8,j9,x0,x5,x6,x7,x8,x9,y3,reduceCtorEq,↓reduceIte,List.getElem?_set,hlen,t6]
   refine zae (zoF y hz ?_)
   rw [h3]
   simp only [zaA,sxZ,z6,z7,z8,j3,j6,j7,j8,j9,x0,x5,x6,x7,x8,x9,y3,reduceCtorEq,↓reduceIte,List.getElem?_set,hlen]
   refine zbS (fun t => t.length=92 ∧ t[27]? = some (.row 2 [.i .i64 x.kind,.s x.text,.s x.host,.i .i64 x.port,.i .i64 y.kind,.s y.text,.s y.host,.i .i64 y.port]) ∧ t[28]? = some (.i .i64 2) ∧ t[29]? = some (.i .i64 ((1:Nat):Int)) ∧ t[6]? = some (.p 8 0) ∧ t[7]? = some (.p 9 0) ∧ t[8]? = some (.i .i64 e1) ∧ t[9]? = some (.p 10 0) ∧ t[10]? = some (.i .i64 e1) ∧ t[11]? = some (.p 11 0) ∧ t[12]? = some (.i .i64 e2) ∧ t[13]? = some (.p 12 0) ∧ t[14]? = some (.i .i64 e2) ∧ t[15]? = some (.p 13 0) ∧ t[16]? = some (.i .i64 e3) ∧ t[17]? = some (.p 14 0) ∧ t[18]? = some (.i .i64 e3)) ?_ ?_
   ·simp only [sxZ,z6,z7,z8,j3,j6,j7,j8,j9,x0,x5,x6,x7,x8,x9,y3,reduceCtorEq,↓reduceIte,List.length_set,List.getElem?_set,hlen,t27,t28,t29,t6,t7,t8,t9,t10,t11,t12,t13,t14,t15,t16,and_self]
   clear hlen t27 t28 t29 t6 t7 t8 t9 t10 t11 t12 t13 t14 t15 t16
   rintro tm ⟨hlen,t27,t28,t29,t6,t7,t8,t9,t10,t11,t12,t13,t14,t15,t16,t17,t18⟩
   subst hZ7
   simp only [sxZ,z6,z7,z8,j3,j6,j7,j8,j9,x0,x5,x6,x7,x8,x9,y3,reduceCtorEq,↓reduceIte,List.getElem?_set,hlen,t27,t28,t29,t6,t7,t8,t9,t10,t11,t12,t13,t14,t15,t16,t17,t18,decide_true,Bool.and_true,beq_self_eq_true,Bool.and_self,Bool.not_true]
   subst hZ
   simp only [sxZ,z6,z7,z8,j3,j6,j7,j8,j9,x0,x5,x6,x7,x8,x9,y3,reduceCtorEq,↓reduceIte,List.getElem?_set,hlen,t27,t28,t29,t6,t7,t8,t9,t10,t11,t12,t13,t14,t15,t16,t17,t18]
   exact ⟨by decide,0,by decide,2,by decide,rfl,rfl,rfl⟩
 ·simp only [c1,sxZ,z6,z7,z8,j3,j6,j7,j8,j9,x0,x5,x6,x7,x8,x9,y3,reduceCtorEq,↓reduceIte]
end
end
end Go.Proofs.YtljbdpihiboeaaaGreatDoor
