/- The texts that the proofs of these statements reach, in their order, as few files. -/
import Derived.Deep.RegionHeld3
import Derived.WideMake
import Derived.ProofKit
import Derived.OpenShut
import Derived.ShutString
import Derived.Carry
import Derived.WideKeyArgs
import Derived.SizedLaws
import Derived.Lib.Split
import Derived.Lib.IndexMore
import Derived.Lib.SplitLaws
import Derived.Lib.Join
import Derived.Test.YtnnipcgblooemaaGreatDoorFn5
set_option linter.unusedVariables false
set_option linter.unusedSimpArgs false
set_option maxRecDepth 100000
namespace Go.Proofs.YtnnipcgblooemaaGreatDoor
open Go.RowKit
def zhJ:List UInt8:=[33,35,36,37,38,39,42,43,45,47,61,63,94,95,96,123,124,125,126]
def zeZ (c:UInt8):Bool:=za4 c||zal c||zbe c zhJ
def goL:Bool→List UInt8→Bool
 | ad,[]=>!ad
 | ad,c::t=>if c=46 then !ad&&goL true t else zeZ c&&goL false t
def zb1 (l:List UInt8):Bool:=decide (l.length≤64)&&goL true l
def zfB (l:List UInt8):Bool:=!l.isEmpty&&l.all zeZ
theorem zmZ (ad:Bool) (c:UInt8) (t:List UInt8):goL ad (c::t)=if c=46 then !ad&&goL true t else zeZ c&&goL false t:=rfl
theorem zkA:∀(l p:List UInt8) (ps:List (List UInt8)),zah 46 l=p::ps→goL true l=(zfB p&&ps.all zfB)∧goL false l=(p.all zeZ&&ps.all zfB)
 | [],p,ps,h=>by
  rw[zah] at h;injection h with h1 h2;subst h1 h2;exact⟨rfl,rfl⟩
 | c::t,p,ps,h=>by
  obtain⟨q,qs,e⟩:=zaG 46 t
  obtain⟨i1,i2⟩:=zkA t q qs e
  rw[zaE,e] at h
  rw[zmZ,zmZ]
  by_cases hc:c=46
  ·rw[if_pos hc] at h
   rw[if_pos hc,if_pos hc,i1]
   injection h with h1 h2
   subst h1 h2
   simp[zfB]
  ·rw[if_neg hc] at h
   rw[if_neg hc,if_neg hc,i2]
   injection h with h1 h2
   subst h1 h2
   simp[zfB,Bool.and_assoc]
theorem zlp (l:List UInt8):goL true l=(zah 46 l).all zfB:=by
 obtain⟨q,qs,e⟩:=zaG 46 l
 rw[(zkA l q qs e).1,e];rfl
theorem zf4 (c:UInt8) (s:ByteArray) (w:World) :
  Calls Tryz.prog 143 #[.int .u8 c.toNat,.string s] w fun e w'=>e=.returned (.bool (zbe c s.data.toList))∧w=w':=by
 go_enter Tryz.func143,Tryz.ntmps143
 go_wp2_with (go_at_call 71;refine(Tryz.strings_IndexByte _ _ _).mono ?_;rintro e w' ⟨rfl,rfl⟩)
 go_ret
 exact⟨zak (by unfold zbe;rw[Lib.contains_iff_indexByte]),rfl⟩
theorem zis (c:UInt8) (w:World) :
  Calls Tryz.prog 179 #[.int .u8 c.toNat] w fun e w'=>e=.returned (.bool (zeZ c))∧w=w':=by
 go_enter Tryz.func179,Tryz.ntmps179
 go_wp2_with (first|(go_at_call 135;refine(zbd _ _).mono ?_;rintro e w' ⟨rfl,rfl⟩)|(go_at_call 136;refine(zaW _ _).mono ?_;rintro e w' ⟨rfl,rfl⟩)|(go_at_call 143;refine(zf4 _ _ _).mono ?_;rintro e w' ⟨rfl,rfl⟩))
 all_goals go_ret
 all_goals exact⟨zak (by simp_all [zeZ,zhJ]),rfl⟩
theorem zj4 (c:UInt8) (w:World) :
  Calls Tryz.prog 80 #[.int .u8 c.toNat] w fun e w'=>e=.returned (.bool (zeZ c))∧w=w':=by
 go_enter Tryz.func80,Tryz.ntmps80
 go_wp2_with (first|(go_at_call 77;refine(za7 _ _).mono ?_;rintro e w' ⟨rfl,rfl⟩)|(go_at_call 78;refine(za6 _ _).mono ?_;rintro e w' ⟨rfl,rfl⟩)|(go_at_call 49;refine(zb7 _ _ _ (by decide)).mono ?_;rintro e w' ⟨rfl,rfl⟩))
 all_goals go_ret
 all_goals exact⟨zak (by simp_all [zeZ,zhJ]),rfl⟩
theorem zkZ (s:ByteArray) (w:World) (hs:s.size≤maxLen) :
  Calls Tryz.prog 144 #[.string s] w fun e w'=>e=.returned (.bool (zb1 s.data.toList))∧w=w':=by
 have hm:=hs
 unfold maxLen at hm
 have hsz:=zaa s
 by_cases h64:64<s.size
 ·have HF:Hid (zb1 s.data.toList=false):=Lib.hid (by unfold zb1;rw[hsz,decide_eq_false (by omega)];rfl)
  go_enter Tryz.func144,Tryz.ntmps144
  go_wp2_with fail
  go_ret
  exact⟨zak (by rw[HF.out]),rfl⟩
 ·have HF:Hid (zb1 s.data.toList=goL true s.data.toList):=Lib.hid (by unfold zb1;rw[hsz,decide_eq_true (by omega)];rfl)
  go_enter Tryz.func144,Tryz.ntmps144
  go_wp2_with fail
  go_loop [3,4,5,11] (fun a _ _ i=>∃(k:Nat) (b:Bool),k≤s.size∧i=.int .i64 k∧a=.bool b∧Hid (goL true s.data.toList=goL b (s.data.toList.drop k))) (fun _ _ _ i=>s.size - (intOf i).toNat)
  case atStart=>exact⟨0,true,Nat.zero_le _,rfl,rfl,Lib.hid (by simp)⟩
  case round=>
   obtain⟨k,b,hk,rfl,rfl,HT⟩:=hrel
   by_cases hlt:k<s.size
   ·have hd:Hid (goL b (s.data.toList.drop k)=if s[k]=46 then !b&&goL true (s.data.toList.drop (k+1)) else zeZ s[k]&&goL false (s.data.toList.drop (k+1))):=Lib.hid (by rw[za0 s k hlt];rfl)
    by_cases hc:s[k]=46
    ·have hb:((s[k].toNat:Int)==46)=true:=by rw[hc];rfl
     rcases b with _|_
     ·have HN:Hid (goL true s.data.toList=goL true (s.data.toList.drop (k+1))):=Lib.hid (by rw[HT.out,hd.out,if_pos hc];rfl)
      clear hc hd
      go_wp2_with fail
      go_round
      case rel=>exact⟨k+1,true,by omega,by go_num,rfl,HN⟩
      case measure=>simp[intOf];omega
     ·have HN:Hid (goL true s.data.toList=false):=Lib.hid (by rw[HT.out,hd.out,if_pos hc];rfl)
      clear hc hd
      go_wp2_with fail
      go_ret
      exact⟨zak (by rw[HF.out,HN.out]),rfl⟩
    ·have hb:((s[k].toNat:Int)==46)=false:=by
      rw[beq_eq_false_iff_ne];intro e;exact hc (UInt8.toNat_inj.1 (by have:(46:UInt8).toNat=46:=rfl;omega))
     rcases ha:zeZ s[k] with _|_
     ·have HN:Hid (goL true s.data.toList=false):=Lib.hid (by rw[HT.out,hd.out,if_neg hc,ha];rfl)
      have H1:=Lib.hid ha
      clear hc hd ha
      go_wp2_with fail
      refine(zis _ _).mono ?_
      rintro e w' ⟨rfl,rfl⟩
      rw[H1.out]
      go_wp2_with fail
      go_ret
      exact⟨zak (by rw[HF.out,HN.out]),rfl⟩
     ·have HN:Hid (goL true s.data.toList=goL false (s.data.toList.drop (k+1))):=Lib.hid (by rw[HT.out,hd.out,if_neg hc,ha];rfl)
      have H1:=Lib.hid ha
      clear hc hd ha
      go_wp2_with fail
      refine(zis _ _).mono ?_
      rintro e w' ⟨rfl,rfl⟩
      rw[H1.out]
      go_wp2_with fail
      go_round
      case rel=>exact⟨k+1,false,by omega,by go_num,rfl,HN⟩
      case measure=>simp[intOf];omega
   ·obtain rfl:k=s.size:=by omega
    have HN:Hid (goL true s.data.toList=!b):=Lib.hid (by rw[HT.out,List.drop_of_length_le (by omega)];rfl)
    go_wp2_with fail
    go_ret
    exact⟨zak (by rw[HF.out,HN.out]),rfl⟩
theorem zeK (s:ByteArray) (w:World) (hs:s.size≤1000000) :
  Calls Tryz.prog 55 #[.string s] w fun e w'=>e=.returned (.bool (zb1 s.data.toList))∧Qb w w':=by
 have hsz:=zaa s
 by_cases h0:s.size=0
 ·have HF:Hid (zb1 s.data.toList=false):=Lib.hid (by rw[List.eq_nil_of_length_eq_zero (hsz.trans h0)];rfl)
  obtain rfl:s=S []:=by rw[←S_of s,List.eq_nil_of_length_eq_zero (hsz.trans h0)]
  go_enter Tryz.func55,Tryz.ntmps55
  go_wp2_with fail
  go_ret
  exact⟨zak (by rw[HF.out]),Qb.refl w⟩
 ·have hpos0:0<s.size:=by omega
  have hne:=zeb hpos0
  by_cases h64:64<s.size
  ·have HF:Hid (zb1 s.data.toList=false):=Lib.hid (by unfold zb1;rw[hsz,decide_eq_false (by omega)];rfl)
   go_enter Tryz.func55,Tryz.ntmps55
   go_wp2_with fail
   go_ret
   exact⟨zak (by rw[HF.out]),Qb.refl w⟩
  ·have HF:Hid (zb1 s.data.toList=(zah 46 s.data.toList).all zfB):=Lib.hid (by unfold zb1;rw[hsz,decide_eq_true (by omega),zlp];rfl)
   have hpos:=zbx 46 s.data.toList
   have hlen:=zc9 46 s.data.toList
   have hparts:∀(k:Nat) (h:k<(zah 46 s.data.toList).length),((zah 46 s.data.toList)[k]).length≤1000000:=fun k h=>by
    have:=zc2 46 s.data.toList _ (List.getElem_mem h)
    omega
   rw[zaa] at hlen
   have HP:=Lib.hid hparts
   clear hparts
   go_enter Tryz.func55,Tryz.ntmps55
   go_wp2_with fail
   refine(zeJ s 46 _ hs).mono ?_
   rintro e w1 ⟨v,rfl,hrow,hq1⟩
   generalize zah 46 s.data.toList=ls at *
   obtain⟨g,cap,rfl,hg0,hg1,hcap⟩:=hrow.form hpos
   have HR:=Lib.hid hrow
   clear hrow
   go_wp2_with fail
   go_loop [4,5,16] (fun _ _ i=>∃k:Nat,k≤ls.length∧i=.int .i64 k∧Hid ((ls.take k).all zfB=true)) (fun _ _ i=>ls.length - (intOf i).toNat)
   case atStart=>exact⟨0,Nat.zero_le _,rfl,Lib.hid rfl⟩
   case round=>
    obtain⟨k,hk,rfl,HT⟩:=hrel
    by_cases hlt:k<ls.length
    ·have hcell:=HR.out.cell k hlt
     have hsx:=HP.out k hlt
     have HS:=Lib.hid (zeF zfB ls k hlt)
     have HA:=Lib.hid (zdX zfB ls (k+1))
     generalize ls[k]=x at *
     rcases x with _|⟨c,t⟩
     ·have HB2:Hid (zb1 s.data.toList=false):=Lib.hid (by rw[HF.out,HA.out (by rw[HS.out];simp[zfB])])
      go_wp2_with fail
      go_ret
      exact⟨zak (by rw[HB2.out]),hq1⟩
     ·obtain⟨x,hx⟩:∃x,x=c::t:=⟨_,rfl⟩
      rw[←hx] at hcell hsx HS
      have hxe:x.isEmpty=false:=by rw[hx];rfl
      have HX:Hid (zfB x=x.all zeZ):=Lib.hid (by unfold zfB;rw[hxe];rfl)
      clear hx
      go_wp2_with fail
      go_loop [5] (fun i=>∃j:Nat,j≤x.length∧i=.int .i64 j∧Hid ((x.take j).all zeZ=true)) (fun i=>x.length - (intOf i).toNat)
      case atStart=>exact⟨0,Nat.zero_le _,rfl,Lib.hid rfl⟩
      case round=>
       obtain⟨j,hj,rfl,HJ⟩:=hrel
       by_cases hl2:j<x.length
       ·have HS2:=Lib.hid (zeF zeZ x j hl2)
        have HA2:=Lib.hid (zdX zeZ x (j+1))
        have hS:Hid (∀h,(S x)[j]'h=x[j]):=Lib.hid (fun h=>rfl)
        rcases ha:zeZ x[j] with _|_
        ·have HB2:Hid (zb1 s.data.toList=false):=Lib.hid (by rw[HF.out,HA.out (by rw[HS.out,HX.out,HA2.out (by rw[HS2.out,ha,Bool.and_false]),Bool.and_false])])
         have H1:=Lib.hid ha
         clear ha
         go_wp2_with fail
         refine(zj4 _ _).mono ?_
         rintro e w2 ⟨rfl,rfl⟩
         rw[hS.out,H1.out]
         go_wp2_with fail
         go_ret
         exact⟨zak (by rw[HB2.out]),hq1⟩
        ·have HJ2:Hid ((x.take (j+1)).all zeZ=true):=Lib.hid (by rw[HS2.out,ha,HJ.out];rfl)
         have H1:=Lib.hid ha
         clear ha
         go_wp2_with fail
         refine(zj4 _ _).mono ?_
         rintro e w2 ⟨rfl,rfl⟩
         rw[hS.out,H1.out]
         go_wp2_with fail
         go_round
         case rel=>exact⟨j+1,by omega,by go_num,HJ2⟩
         case measure=>simp[intOf];omega
       ·obtain rfl:j=x.length:=by omega
        have HT2:Hid ((ls.take (k+1)).all zfB=true):=Lib.hid (by
         have:=HJ.out
         rw[List.take_length] at this
         rw[HS.out,HT.out,HX.out,this];rfl)
        go_wp2_with fail
        go_round
        case rel=>exact⟨k+1,by omega,by go_num,HT2⟩
        case measure=>simp[intOf];omega
    ·obtain rfl:k=ls.length:=by omega
     have HB2:Hid (zb1 s.data.toList=true):=Lib.hid (by
      have:=HT.out
      rw[List.take_length] at this
      rw[HF.out,this])
     go_wp2_with fail
     go_ret
     exact⟨zak (by rw[HB2.out]),hq1⟩
end Go.Proofs.YtnnipcgblooemaaGreatDoor
namespace Go.Proofs.YtnnipcgblooemaaGreatDoor
open Go.RowKit
theorem ziR:∀(l:List UInt8) (n:Nat) (out:List UInt8),(rwS zcf n l out).2.length≤out.length+l.length
 | [],n,out=>by cases n<;>simp[rwS]
 | c::t,0,out=>by
  rw[rwS]
  have i1:=ziR t
  split
  ·split
   ·rw[if_pos (show (zcf out (zcn (c::t)) true).1=0 from rfl)]
    exact Nat.le_trans (i1 2 _) (by simp[zcf];omega)
   ·simp
  ·rw[if_pos (show (zcf out c false).1=0 from rfl)]
   exact Nat.le_trans (i1 0 _) (by simp[zcf];omega)
 | c::t,n+1,out=>by
  rw[rwS]
  have:=ziR t n out
  simp at this ⊢;omega
theorem znv (l:List UInt8):(zaR l).2.length≤l.length:=by
 unfold zaR zfk
 split
 ·simp
 ·have:=ziR l 0 []
  simpa using this
def zc3:List UInt8:=[33,36,39,42,43]
def zhV (c:UInt8):Bool:=zav c||zbe c [37,33,36,39,42,43]
def ze0 (l:List UInt8):Int×List UInt8 :=
 if l.all zhV=false then (1,[])
 else if (zaR l).1≠0 then ((zaR l).1,[])
 else if zb1 (zaR l).2=false then (80,[])
 else (0,(zaR l).2)
theorem zcJ (s:ByteArray) (w:World) (hs:s.size≤1000000) :
  Calls Tryz.prog 121 #[.string s] w fun e w'=>e=.returned (zcZ (ze0 s.data.toList))∧Qb w w':=by
 obtain⟨er,d,hD⟩:∃er d,zaR s.data.toList=(er,d):=⟨_,_,rfl⟩
 have hdl:d.length≤s.size:=by have:=znv s.data.toList;rw[hD,zaa] at this;exact this
 have HD:=Lib.hid hD
 have HL:Hid (s.data.toList.all zhV=true→ze0 s.data.toList=if er≠0 then (er,[]) else if zb1 d=false then (80,[]) else (0,d)):=Lib.hid (fun h=>by unfold ze0;rw[hD,h];rfl)
 have HL1:Hid (s.data.toList.all zhV=false→ze0 s.data.toList=(1,[])):=Lib.hid (fun h=>by unfold ze0;rw[if_pos h])
 clear hD
 go_enter Tryz.func121,Tryz.ntmps121
 go_wp2_with fail
 go_loop [4,9] (fun _ i=>∃k:Nat,k≤s.size∧i=.int .i64 k∧Hid ((s.data.toList.take k).all zhV=true)) (fun _ i=>s.size - (intOf i).toNat)
 case atStart=>exact⟨0,Nat.zero_le _,rfl,Lib.hid rfl⟩
 case round=>
  obtain⟨k,hk,rfl,HT⟩:=hrel
  by_cases hlt:k<s.size
  ·have hst:zhV s[k]=true→Hid ((s.data.toList.take (k+1)).all zhV=true):=fun h=>Lib.hid (by rw[zce _ _ _ hlt,h,HT.out];rfl)
   have hbad:zhV s[k]=false→Hid (s.data.toList.all zhV=false):=fun h=>Lib.hid (zbk _ _ (k+1) (by rw[zce _ _ _ hlt,h,Bool.and_false]))
   rcases ha:zav s[k] with _|_
   ·rcases hb:zbe s[k] [37,33,36,39,42,43] with _|_
    ·have HN:=hbad (by unfold zhV;rw[ha,hb];rfl)
     have H1:=Lib.hid ha
     have H2:=Lib.hid hb
     clear ha hb hst hbad
     go_wp2_with fail
     refine(zch _ _).mono ?_
     rintro e w' ⟨rfl,rfl⟩
     rw[H1.out]
     go_wp2_with fail
     refine(zf4 _ _ _).mono ?_
     rintro e w' ⟨rfl,rfl⟩
     rw[show zbe s[k] ({ data:=#[37,33,36,39,42,43] }:ByteArray).data.toList=false from H2.out]
     go_wp2_with fail
     go_ret2
     exact⟨by rw[HL1.out HN.out];rfl,Qb.refl w⟩
    ·have HN:=hst (by unfold zhV;rw[ha,hb];rfl)
     have H1:=Lib.hid ha
     have H2:=Lib.hid hb
     clear ha hb hst hbad
     go_wp2_with fail
     refine(zch _ _).mono ?_
     rintro e w' ⟨rfl,rfl⟩
     rw[H1.out]
     go_wp2_with fail
     refine(zf4 _ _ _).mono ?_
     rintro e w' ⟨rfl,rfl⟩
     rw[show zbe s[k] ({ data:=#[37,33,36,39,42,43] }:ByteArray).data.toList=true from H2.out]
     go_wp2_with fail
     go_round
     case rel=>exact⟨k+1,by omega,by go_num,HN⟩
     case measure=>simp[intOf];omega
   ·have HN:=hst (by unfold zhV;rw[ha];rfl)
    have H1:=Lib.hid ha
    clear ha hst hbad
    go_wp2_with fail
    refine(zch _ _).mono ?_
    rintro e w' ⟨rfl,rfl⟩
    rw[H1.out]
    go_wp2_with fail
    go_round
    case rel=>exact⟨k+1,by omega,by go_num,HN⟩
    case measure=>simp[intOf];omega
  ·obtain rfl:k=s.size:=by omega
   have HA:Hid (ze0 s.data.toList=if er≠0 then (er,[]) else if zb1 d=false then (80,[]) else (0,d)):=Lib.hid (HL.out (by
    rw[←zbO s s.size hlt];exact HT.out))
   go_wp2_with fail
   refine(zhn _ _).mono ?_
   rintro e w1 ⟨rfl,hq1⟩
   rw[HD.out]
   unfold zcZ
   by_cases he:er=0
   ·subst he
    rcases hl:zb1 d with _|_
    ·have HR:Hid (ze0 s.data.toList=(80,[])):=Lib.hid (by rw[HA.out,hl];rfl)
     have H1:=Lib.hid hl
     clear hl
     go_wp2_with fail
     refine(zkZ _ _ (by unfold maxLen;rw[zac];omega)).mono ?_
     rintro e w2 ⟨rfl,rfl⟩
     rw[zab,H1.out]
     go_wp2_with fail
     go_ret2
     exact⟨by rw[HR.out];rfl,hq1⟩
    ·have HR:Hid (ze0 s.data.toList=(0,d)):=Lib.hid (by rw[HA.out,hl];rfl)
     have H1:=Lib.hid hl
     clear hl
     go_wp2_with fail
     refine(zkZ _ _ (by unfold maxLen;rw[zac];omega)).mono ?_
     rintro e w2 ⟨rfl,rfl⟩
     rw[zab,H1.out]
     go_wp2_with fail
     go_ret2
     exact⟨by rw[HR.out];rfl,hq1⟩
   ·have HR:Hid (ze0 s.data.toList=(er,[])):=Lib.hid (by rw[HA.out,if_pos he])
    have hb:(er != 0)=true:=by rw[bne_iff_ne];exact he
    go_wp2_with fail
    go_ret2
    exact⟨by rw[HR.out];rfl,hq1⟩
def zba:List UInt8:=[109,97,105,108,116,111,58]
def zkC (u h:List UInt8):List UInt8:=zba++zbX u zc3++[64]++h
end Go.Proofs.YtnnipcgblooemaaGreatDoor
namespace Go.Proofs.YtnnipcgblooemaaGreatDoor
open Go.RowKit
theorem Qb.cellkeep {w w':World} (h:Qb w w') {g i:Nat} {v:Value} (hc:w.cell? ⟨g,i,none⟩=some v):w'.cell? ⟨g,i,none⟩=some v:=by
 have hl:g<w.heap.size:=by
  rcases Nat.lt_or_ge g w.heap.size with h1|h1
  ·exact h1
  ·simp[World.cell?,Array.getElem?_eq_none h1] at hc
 rw[←hc]
 simp only[World.cell?,h.block g hl]
theorem zmV {w w1 w2:World} {g:Nat} {u v:Value} (h:w1.cell? ⟨g,0,none⟩=some u∧w1.cell? ⟨g,1,none⟩=some v∧Qb w w1) (hq:Qb w1 w2):w2.cell? ⟨g,0,none⟩=some u∧w2.cell? ⟨g,1,none⟩=some v∧Qb w w2:=⟨hq.cellkeep h.1,hq.cellkeep h.2.1,h.2.2.trans hq⟩
theorem zqS {w w1:World} {p q:Prop} (h:p∧q∧Qb w w1):Qb w w1:=h.2.2
theorem zlo (u h:List UInt8) (w:World) (hu:u.length≤300000000) (hh:h.length≤100000000000000000) :
  Calls Tryz.prog 95 #[zbc u h] w fun e w'=>e=.returned (.string (S (zkC u h)))∧Qb w w':=by
 have hel:=zc6 u zc3
 have HK:Hid (({ data:=#[33,36,39,42,43] }:ByteArray).data.toList=zc3):=Lib.hid rfl
 have HFM:Hid (zkC u h=zba++zbX u zc3++[64]++h):=Lib.hid rfl
 generalize hen:zbX u zc3=en at *
 have HE:=Lib.hid hen
 clear hen
 have b1:¬(9223372036854775807<7+en.length):=by omega
 have b2:¬(9223372036854775807<7+en.length+1):=by omega
 have b3:¬(9223372036854775807<7+en.length+1+h.length):=by omega
 unfold zbc
 go_enter Tryz.func95,Tryz.ntmps95
 go_wp2_with fail
 go_region_held3 (fun w'=>w'.cell? ⟨w.heap.size,0,none⟩=some (.string (S u))∧w'.cell? ⟨w.heap.size,1,none⟩=some (.string (S h))∧Qb w w') (first|exact⟨by assumption,by assumption,by assumption⟩|exact⟨((Obk.new w _ _).drew.cell 0).trans rfl,((Obk.new w _ _).drew.cell 1).trans rfl,((Qb.refl w).alloc _).drew⟩|assumption|exact zmV (by assumption) hq1|exact⟨Qb.cellkeep hq1 (by assumption),Qb.cellkeep hq1 (by assumption),Qb.trans (by assumption) hq1⟩)
  (first|(go_at_call 22;refine(zhl _ _ _ (by rw[zac];exact hu)).mono ?_;rintro e w1 ⟨rfl,hq1⟩;rw[zab,show zbX u ({ data:=#[33,36,39,42,43] }:ByteArray).data.toList=en from HE.out]))
 go_wp2_with fail
 go_ret
 exact⟨zeo (S_eq (by rw[HFM.out];unfold zba;simp[ByteArray.data_append])),zqS (by assumption)⟩
theorem zjW (u h:List UInt8) (w:World) (hu:u.length≤300000000) (hh:h.length≤100000000000000000) :
  Calls Tryz.prog 32 #[zbc u h] w fun e w'=>e=.returned (.string (S (zkC u h)))∧Qb w w':=by
 have hel:=zc6 u zc3
 have HK:Hid (({ data:=#[33,36,39,42,43] }:ByteArray).data.toList=zc3):=Lib.hid rfl
 have HFM:Hid (zkC u h=zba++zbX u zc3++[64]++h):=Lib.hid rfl
 generalize hen:zbX u zc3=en at *
 have HE:=Lib.hid hen
 clear hen
 have b1:¬(9223372036854775807<7+en.length):=by omega
 have b2:¬(9223372036854775807<7+en.length+1):=by omega
 have b3:¬(9223372036854775807<7+en.length+1+h.length):=by omega
 unfold zbc
 go_enter Tryz.func32,Tryz.ntmps32
 go_wp2_with fail
 go_region_held3 (fun w'=>w'.cell? ⟨w.heap.size,0,none⟩=some (.string (S u))∧w'.cell? ⟨w.heap.size,1,none⟩=some (.string (S h))∧Qb w w') (first|exact⟨by assumption,by assumption,by assumption⟩|exact⟨((Obk.new w _ _).drew.cell 0).trans rfl,((Obk.new w _ _).drew.cell 1).trans rfl,((Qb.refl w).alloc _).drew⟩|assumption|exact zmV (by assumption) hq1|exact⟨Qb.cellkeep hq1 (by assumption),Qb.cellkeep hq1 (by assumption),Qb.trans (by assumption) hq1⟩)
  (first|(go_at_call 57;refine(zhe _ _ _ (by rw[zac];exact hu) (by decide)).mono ?_;rintro e w1 ⟨rfl,hq1⟩;rw[zab,show zbX u ({ data:=#[33,36,39,42,43] }:ByteArray).data.toList=en from HE.out]))
 go_wp2_with fail
 go_ret
 exact⟨zeo (S_eq (by rw[HFM.out];unfold zba;simp[ByteArray.data_append])),zqS (by assumption)⟩
end Go.Proofs.YtnnipcgblooemaaGreatDoor
namespace Go.Proofs.YtnnipcgblooemaaGreatDoor
open Go.RowKit
theorem zdW (s:ByteArray) (w:World) (hs:s.size≤1000000) (h8:8<s.size∨∀(j:Nat) b,s.data.toList[j]? = some b→b.toNat<128) :
  Calls Tryz.prog 120 #[.string s,.string ⟨#[63,35]⟩] w fun e w'=>e=.returned (.bool (Lib.containsAny s.data.toList [63,35]))∧Qb w w':=by
 have hac:∀(j:Nat) b,(⟨#[63,35]⟩:ByteArray).data.toList[j]? = some b→b.toNat<128:=by
  intro j b h
  rcases j with _|_|j
  ·injection h with h;subst h;decide
  ·injection h with h;subst h;decide
  ·cases h
 rcases h8 with h8|h8
 ·go_enter Tryz.func120,Tryz.ntmps120
  go_wp2_with fail
  refine(Tryz.strings_IndexAny_long (zero_of_info (n:=256) (by kernel_rfl)).1 s ⟨#[63,35]⟩ w (by decide) h8 (by omega) (by decide) hac).mono ?_
  rintro e w1 ⟨rfl,rfl⟩
  go_wp2_with fail
  go_ret
  exact⟨rfl,((Qb.refl w).alloc _).alloc _⟩
 ·exact(Tryz.strings_ContainsAny_laid s ⟨#[63,35]⟩ w (by omega) (by decide) h8 hac)
end Go.Proofs.YtnnipcgblooemaaGreatDoor
namespace Go.Proofs.YtnnipcgblooemaaGreatDoor
open Go.RowKit
def anyQ (l:List UInt8):Bool:=Lib.containsAny l [63,35]
def zaZ (l:List UInt8):Int×List UInt8×List UInt8 :=
 if 4096<l.length then (5,[],[])
 else if l.length<7∨eqL (l.take 7) zba=false then (60,[],[])
 else if (zar 64 (l.drop 7)).2.2=false∨anyQ (l.drop 7)=true then (6,[],[])
 else if (ze0 (zar 64 (l.drop 7)).1).1≠0 then ((ze0 (zar 64 (l.drop 7)).1).1,[],[])
 else if (zaL (zar 64 (l.drop 7)).2.1).1≠0 then ((zaL (zar 64 (l.drop 7)).2.1).1,[],[])
 else if zcs (zaL (zar 64 (l.drop 7)).2.1).2=true then (50,[],[])
 else (0,(ze0 (zar 64 (l.drop 7)).1).2,(zaL (zar 64 (l.drop 7)).2.1).2)
theorem any_cons (c:UInt8) (l cs:List UInt8):Lib.containsAny (c::l) cs=(cs.contains c||Lib.containsAny l cs):=by
 unfold Lib.containsAny
 have hg:=Lib.indexAny_ge cs l
 rw[Lib.indexAny]
 rcases h:cs.contains c with _|_
 ·rw[if_neg Bool.false_ne_true]
  by_cases h1:Lib.indexAny l cs=-1
  ·rw[h1];rfl
  ·rw[if_neg (by simpa using h1),Bool.false_or]
   rw[Bool.eq_iff_iff];simp only[decide_eq_true_eq];omega
 ·simp
theorem zfJ:∀l cs:List UInt8,Lib.containsAny l cs=l.any (fun c=>zbe c cs)
 | [],cs=>rfl
 | c::l,cs=>by rw[any_cons,zfJ l cs];rfl
theorem zqJ (l cs:List UInt8):zaA l cs=l.length↔Lib.containsAny l cs=false:=by
 rw[zfJ]
 unfold zaA
 rw[List.findIdx_eq_length]
 simp
theorem zoe:∀n:Fin 256,zdc (UInt8.ofNat n.val)∈zba→(UInt8.ofNat n.val).toNat<128∧zbe (UInt8.ofNat n.val) [63,35]=false:=by decide +kernel
theorem low_pre (c:UInt8) (h:zdc c∈zba):c.toNat<128∧zbe c [63,35]=false:=by
 have h1:=zoe ⟨c.toNat,c.toNat_lt⟩
 simp only[UInt8.ofNat_toNat] at h1
 exact h1 h
theorem zj6 (l:List UInt8) (h:eqL l zba=true):∀c∈l,c.toNat<128∧zbe c [63,35]=false:=by
 intro c hc
 refine low_pre c ?_
 have e:zbm l=zbm zba:=by simpa[eqL] using h
 have e2:zbm zba=zba:=by decide +kernel
 rw[←e2,←e]
 exact List.mem_map_of_mem hc
theorem any_pre (l:List UInt8) (h:eqL (l.take 7) zba=true):Lib.containsAny l [63,35]=anyQ (l.drop 7):=by
 unfold anyQ
 rw[zfJ,zfJ]
 conv=>lhs;rw[←List.take_append_drop 7 l]
 rw[List.any_append]
 have:(l.take 7).any (fun c=>zbe c [63,35])=false:=by
  rw[List.any_eq_false]
  intro c hc
  rw[(zj6 _ h c hc).2];exact Bool.false_ne_true
 rw[this,Bool.false_or]
theorem zpE (s:ByteArray) (h:eqL (s.data.toList.take 7) zba=true) (h7:7≤s.size) (hc:(zar 64 (s.data.toList.drop 7)).2.2=true) :
  8<s.size∨∀(j:Nat) b,s.data.toList[j]? = some b→b.toNat<128:=by
 rcases Nat.lt_or_ge 8 s.size with h8|h8
 ·exact .inl h8
 ·refine .inr fun j b hj=>?_
  have hm:b∈s.data.toList:=List.mem_of_getElem? hj
  rw[←List.take_append_drop 7 s.data.toList] at hm
  rcases List.mem_append.1 hm with hm|hm
  ·exact(zj6 _ h b hm).1
  ·have hl:(s.data.toList.drop 7).length≤1:=by rw[List.length_drop,zaa];omega
   generalize s.data.toList.drop 7=d at *
   rcases d with _|⟨x,_|⟨y,t⟩⟩
   ·cases hm
   ·rw[zcx] at hc
    by_cases hx:x=64
    ·obtain rfl:b=x:=by simpa using hm
     rw[hx];decide
    ·rw[if_neg hx] at hc;cases hc
   ·simp at hl
end Go.Proofs.YtnnipcgblooemaaGreatDoor
namespace Go.Proofs.YtnnipcgblooemaaGreatDoor
open Go.RowKit
theorem zkx (l:List UInt8):(zaL l).2.length≤l.length:=by
 unfold zaL
 split
 ·simp
 ·split
  ·simp
  ·split
   ·simp[zbm]
   ·simp
set_option maxHeartbeats 2000000 in
theorem zod (s:ByteArray) (w:World) (hs:s.size≤maxLen) :
  Calls Tryz.prog 94 #[.string s] w fun e w'=>e=.returned (zaH (zaZ s.data.toList))∧Qb w w':=by
 unfold maxLen at hs
 by_cases h0:4096<s.size
 ·have HF:Hid (zaZ s.data.toList=(5,[],[])):=Lib.hid (by unfold zaZ;rw[if_pos (by rw[zaa];exact h0)])
  go_enter Tryz.func94,Tryz.ntmps94
  go_wp2_with fail
  exact bodyPost_ret (v:=zaH (5,[],[])) (by simp[results,Tryz.results94,go_sem,zaH,zbc]) rfl ⟨by rw[HF.out],(Qb.refl w).alloc _⟩
 have h0':s.size≤4096:=by omega
 by_cases h7:s.size<7
 ·have HF0:Hid (zaZ s.data.toList=(60,[],[])):=Lib.hid (by unfold zaZ;rw[if_neg (by rw[zaa];omega),if_pos (.inl (by rw[zaa];exact h7))])
  clear h0
  have HF:Hid (zaZ s.data.toList=(60,[],[])):=Lib.hid (by exact HF0.out)
  go_enter Tryz.func94,Tryz.ntmps94
  go_wp2_with fail
  exact bodyPost_ret (v:=zaH (60,[],[])) (by simp[results,Tryz.results94,go_sem,zaH,zbc]) rfl ⟨by rw[HF.out],(Qb.refl w).alloc _⟩
 have h7':7≤s.size:=by omega
 have HX7:=Lib.hid (zbb s 7)
 have hxl:(s.extract 0 7).data.toList=s.data.toList.take 7:=by rw[HX7.out]
 have HXD:=Lib.hid (zaB s 7)
 have HE:Hid (zaZ s.data.toList=if eqL (s.data.toList.take 7) zba=false then (60,[],[]) else if (zar 64 (s.data.toList.drop 7)).2.2=false∨anyQ (s.data.toList.drop 7)=true then (6,[],[])
   else if (ze0 (zar 64 (s.data.toList.drop 7)).1).1≠0 then ((ze0 (zar 64 (s.data.toList.drop 7)).1).1,[],[])
   else if (zaL (zar 64 (s.data.toList.drop 7)).2.1).1≠0 then ((zaL (zar 64 (s.data.toList.drop 7)).2.1).1,[],[])
   else if zcs (zaL (zar 64 (s.data.toList.drop 7)).2.1).2=true then (50,[],[])
   else (0,(ze0 (zar 64 (s.data.toList.drop 7)).1).2,(zaL (zar 64 (s.data.toList.drop 7)).2.1).2)):=Lib.hid (by
  unfold zaZ;rw[if_neg (by rw[zaa];omega)]
  have:∀p:Prop,(s.data.toList.length<7∨p)=p:=fun p=>by rw[zaa];exact propext ⟨fun h=>h.resolve_left h7,.inr⟩
  simp only[this])
 have hAP:=any_pre s.data.toList
 have hPA:=fun a b=>zpE s a h7' b
 have hdl:(s.data.toList.drop 7).length≤4096:=by rw[List.length_drop,zaa];omega
 generalize s.data.toList.drop 7=d at *
 obtain⟨p,q,b,hcut⟩:∃p q b,zar 64 d=(p,q,b):=⟨_,_,_,rfl⟩
 obtain⟨ne,u,hn⟩:∃ne u,ze0 p=(ne,u):=⟨_,_,rfl⟩
 obtain⟨he,h,hh⟩:∃he h,zaL q=(he,h):=⟨_,_,rfl⟩
 have hhl:h.length≤4096:=by have:=zkx q;rw[hh] at this;have h2:=(za5 64 d).2;rw[hcut] at h2;simp at this h2;omega
 obtain⟨ip,hip⟩:∃ip,zcs h=ip:=⟨_,rfl⟩
 obtain⟨an,han⟩:∃an,anyQ d=an:=⟨_,rfl⟩
 have HC:=Lib.hid hcut
 have HN:=Lib.hid hn
 have HH:=Lib.hid hh
 have HI:=Lib.hid hip
 have hlens:=za5 64 d
 rw[hcut] at hlens
 have hpl:p.length≤4096:=by have:=hlens.1;simp at this;omega
 have hql:q.length≤4096:=by have:=hlens.2;simp at this;omega
 have hE2:∀x,eqL (s.data.toList.take 7) zba=x→zaZ s.data.toList=if x=false then (60,[],[]) else if b=false∨an=true then (6,[],[]) else if ne≠0 then (ne,[],[]) else if he≠0 then (he,[],[]) else if ip=true then (50,[],[]) else (0,u,h):=fun x hx=>by
  rw[HE.out,hcut];simp only;rw[hn,hh,hx,hip,han]
 have HE2:=Lib.hid hE2
 rw[hcut] at hPA
 rw[han] at hAP
 clear hcut hn hh hE2 HE hlens h0 h7 hip han
 rcases hx:eqL (s.data.toList.take 7) zba with _|_
 ·have HEQ:Hid (eqL (s.extract 0 7).data.toList ({ data:=#[109,97,105,108,116,111,58] }:ByteArray).data.toList=false):=Lib.hid (by rw[hxl];exact hx)
  have HX:=Lib.hid hx
  clear hx hxl hAP hPA
  have HF:Hid (zaZ s.data.toList=(60,[],[])):=Lib.hid (by rw[HE2.out _ HX.out];rfl)
  go_enter Tryz.func94,Tryz.ntmps94
  go_wp2_with fail
  refine(zbq _ _ _ (by unfold maxLen;rw[HX7.out,zac,List.length_take];omega) (by decide)).mono ?_
  rintro e w1 ⟨rfl,hqe⟩
  rw[show eqL (s.extract 0 7).data.toList ({ data:=#[109,97,105,108,116,111,58] }:ByteArray).data.toList=false from HEQ.out]
  have hk:=(Obk.new w _ _).qb hqe
  have hc0:=hk.cell 0
  have hc1:=hk.cell 1
  have hf0:=hk.frozen 0
  have hf1:=hk.frozen 1
  simp at hc0 hc1
  go_wp2_with fail
  exact bodyPost_ret (v:=zaH (60,[],[])) (by simp[results,Tryz.results94,go_sem,hc0,hc1,hf0,hf1,zaH,zbc]) rfl ⟨by rw[HF.out],((((Qb.refl w).alloc _).trans hqe).set (Nat.le_refl _) _).set (Nat.le_refl _) _⟩
 ·have HEQ:Hid (eqL (s.extract 0 7).data.toList ({ data:=#[109,97,105,108,116,111,58] }:ByteArray).data.toList=true):=Lib.hid (by rw[hxl];exact hx)
  have HX:=Lib.hid hx
  have HA:=Lib.hid (hAP hx)
  have hP2:=hPA hx
  clear hx hxl hAP hPA
  rcases b with _|_
  ·clear hP2
   have HF:Hid (zaZ s.data.toList=(6,[],[])):=Lib.hid (by rw[HE2.out _ HX.out];rfl)
   go_enter Tryz.func94,Tryz.ntmps94
   go_wp2_with fail
   refine(zbq _ _ _ (by unfold maxLen;rw[HX7.out,zac,List.length_take];omega) (by decide)).mono ?_
   rintro e w1 ⟨rfl,hqe⟩
   rw[show eqL (s.extract 0 7).data.toList ({ data:=#[109,97,105,108,116,111,58] }:ByteArray).data.toList=true from HEQ.out]
   go_wp2_with fail
   rw[HXD.out]
   refine(zbi (S d) 64 _ (by unfold maxLen;rw[zac];omega)).mono ?_
   rintro e w2 ⟨rfl,hq2⟩
   rw[zab,HC.out]
   unfold zeY
   have hk:=(Obk.new w _ _).qb (hqe.trans hq2)
   have hc0:=hk.cell 0
   have hc1:=hk.cell 1
   have hf0:=hk.frozen 0
   have hf1:=hk.frozen 1
   simp at hc0 hc1
   go_wp2_with fail
   exact bodyPost_ret (v:=zaH (6,[],[])) (by simp[results,Tryz.results94,go_sem,hc0,hc1,hf0,hf1,zaH,zbc]) rfl ⟨by rw[HF.out],((((Qb.refl w).alloc _).trans (hqe.trans hq2)).set (Nat.le_refl _) _).set (Nat.le_refl _) _⟩
  ·have H8:=Lib.hid (hP2 rfl)
   clear hP2
   rcases an with _|_
   ·by_cases hne:ne=0
    ·subst hne
     by_cases hhe:he=0
     ·subst hhe
      rcases ip with _|_
      ·have HF:Hid (zaZ s.data.toList=(0,u,h)):=Lib.hid (by rw[HE2.out _ HX.out];rfl)
       go_enter Tryz.func94,Tryz.ntmps94
       go_wp2_with fail
       refine(zbq _ _ _ (by unfold maxLen;rw[HX7.out,zac,List.length_take];omega) (by decide)).mono ?_
       rintro e w1 ⟨rfl,hqe⟩
       rw[show eqL (s.extract 0 7).data.toList ({ data:=#[109,97,105,108,116,111,58] }:ByteArray).data.toList=true from HEQ.out]
       go_wp2_with fail
       rw[HXD.out]
       refine(zbi (S d) 64 _ (by unfold maxLen;rw[zac];omega)).mono ?_
       rintro e w2 ⟨rfl,hq2⟩
       rw[zab,HC.out]
       unfold zeY
       go_wp2_with fail
       refine(zdW s _ (by omega) H8.out).mono ?_
       rintro e w3 ⟨rfl,hq3⟩
       rw[HA.out]
       go_wp2_with fail
       refine(zcJ (S p) _ (by rw[zac];omega)).mono ?_
       rintro e w4 ⟨rfl,hq4⟩
       rw[zab,HN.out]
       unfold zcZ
       go_wp2_with fail
       refine(zcN (S q) _ (by unfold maxLen;rw[zac];omega)).mono ?_
       rintro e w5 ⟨rfl,hq5⟩
       rw[zab,HH.out]
       unfold zcZ
       go_wp2_with fail
       refine(zeN (S h) _ (by unfold maxLen;rw[zac];omega)).mono ?_
       rintro e w6 ⟨rfl,hq6⟩
       rw[zab,HI.out]
       have hk:=(Obk.new w _ _).qb (((((hqe.trans hq2).trans hq3).trans hq4).trans hq5).trans hq6)
       have hc0:=hk.cell 0
       have hc1:=hk.cell 1
       have hf0:=hk.frozen 0
       have hf1:=hk.frozen 1
       simp at hc0 hc1
       go_wp2_with fail
       exact bodyPost_ret (v:=zaH (0,u,h)) (by simp[results,Tryz.results94,go_sem,hc0,hc1,hf0,hf1,zaH,zbc]) rfl ⟨by rw[HF.out],((((Qb.refl w).alloc _).trans (((((hqe.trans hq2).trans hq3).trans hq4).trans hq5).trans hq6)).set (Nat.le_refl _) _).set (Nat.le_refl _) _⟩
      ·have HF:Hid (zaZ s.data.toList=(50,[],[])):=Lib.hid (by rw[HE2.out _ HX.out];rfl)
       go_enter Tryz.func94,Tryz.ntmps94
       go_wp2_with fail
       refine(zbq _ _ _ (by unfold maxLen;rw[HX7.out,zac,List.length_take];omega) (by decide)).mono ?_
       rintro e w1 ⟨rfl,hqe⟩
       rw[show eqL (s.extract 0 7).data.toList ({ data:=#[109,97,105,108,116,111,58] }:ByteArray).data.toList=true from HEQ.out]
       go_wp2_with fail
       rw[HXD.out]
       refine(zbi (S d) 64 _ (by unfold maxLen;rw[zac];omega)).mono ?_
       rintro e w2 ⟨rfl,hq2⟩
       rw[zab,HC.out]
       unfold zeY
       go_wp2_with fail
       refine(zdW s _ (by omega) H8.out).mono ?_
       rintro e w3 ⟨rfl,hq3⟩
       rw[HA.out]
       go_wp2_with fail
       refine(zcJ (S p) _ (by rw[zac];omega)).mono ?_
       rintro e w4 ⟨rfl,hq4⟩
       rw[zab,HN.out]
       unfold zcZ
       go_wp2_with fail
       refine(zcN (S q) _ (by unfold maxLen;rw[zac];omega)).mono ?_
       rintro e w5 ⟨rfl,hq5⟩
       rw[zab,HH.out]
       unfold zcZ
       go_wp2_with fail
       refine(zeN (S h) _ (by unfold maxLen;rw[zac];omega)).mono ?_
       rintro e w6 ⟨rfl,hq6⟩
       rw[zab,HI.out]
       have hk:=(Obk.new w _ _).qb (((((hqe.trans hq2).trans hq3).trans hq4).trans hq5).trans hq6)
       have hc0:=hk.cell 0
       have hc1:=hk.cell 1
       have hf0:=hk.frozen 0
       have hf1:=hk.frozen 1
       simp at hc0 hc1
       go_wp2_with fail
       exact bodyPost_ret (v:=zaH (50,[],[])) (by simp[results,Tryz.results94,go_sem,hc0,hc1,hf0,hf1,zaH,zbc]) rfl ⟨by rw[HF.out],((((Qb.refl w).alloc _).trans (((((hqe.trans hq2).trans hq3).trans hq4).trans hq5).trans hq6)).set (Nat.le_refl _) _).set (Nat.le_refl _) _⟩
     ·have hb2:(he != 0)=true:=bne_iff_ne.2 hhe
      have HHE:=Lib.hid hhe
      clear hhe
      have HF:Hid (zaZ s.data.toList=(he,[],[])):=Lib.hid (by rw[HE2.out _ HX.out,if_neg (by simp),if_neg (by simp),if_neg (by simp),if_pos HHE.out])
      go_enter Tryz.func94,Tryz.ntmps94
      go_wp2_with fail
      refine(zbq _ _ _ (by unfold maxLen;rw[HX7.out,zac,List.length_take];omega) (by decide)).mono ?_
      rintro e w1 ⟨rfl,hqe⟩
      rw[show eqL (s.extract 0 7).data.toList ({ data:=#[109,97,105,108,116,111,58] }:ByteArray).data.toList=true from HEQ.out]
      go_wp2_with fail
      rw[HXD.out]
      refine(zbi (S d) 64 _ (by unfold maxLen;rw[zac];omega)).mono ?_
      rintro e w2 ⟨rfl,hq2⟩
      rw[zab,HC.out]
      unfold zeY
      go_wp2_with fail
      refine(zdW s _ (by omega) H8.out).mono ?_
      rintro e w3 ⟨rfl,hq3⟩
      rw[HA.out]
      go_wp2_with fail
      refine(zcJ (S p) _ (by rw[zac];omega)).mono ?_
      rintro e w4 ⟨rfl,hq4⟩
      rw[zab,HN.out]
      unfold zcZ
      go_wp2_with fail
      refine(zcN (S q) _ (by unfold maxLen;rw[zac];omega)).mono ?_
      rintro e w5 ⟨rfl,hq5⟩
      rw[zab,HH.out]
      unfold zcZ
      have hk:=(Obk.new w _ _).qb ((((hqe.trans hq2).trans hq3).trans hq4).trans hq5)
      have hc0:=hk.cell 0
      have hc1:=hk.cell 1
      have hf0:=hk.frozen 0
      have hf1:=hk.frozen 1
      simp at hc0 hc1
      go_wp2_with fail
      exact bodyPost_ret (v:=zaH (he,[],[])) (by simp[results,Tryz.results94,go_sem,hc0,hc1,hf0,hf1,zaH,zbc]) rfl ⟨by rw[HF.out],((((Qb.refl w).alloc _).trans ((((hqe.trans hq2).trans hq3).trans hq4).trans hq5)).set (Nat.le_refl _) _).set (Nat.le_refl _) _⟩
    ·have hb2:(ne != 0)=true:=bne_iff_ne.2 hne
     have HNE:=Lib.hid hne
     clear hne
     have HF:Hid (zaZ s.data.toList=(ne,[],[])):=Lib.hid (by rw[HE2.out _ HX.out,if_neg (by simp),if_neg (by simp),if_pos HNE.out])
     go_enter Tryz.func94,Tryz.ntmps94
     go_wp2_with fail
     refine(zbq _ _ _ (by unfold maxLen;rw[HX7.out,zac,List.length_take];omega) (by decide)).mono ?_
     rintro e w1 ⟨rfl,hqe⟩
     rw[show eqL (s.extract 0 7).data.toList ({ data:=#[109,97,105,108,116,111,58] }:ByteArray).data.toList=true from HEQ.out]
     go_wp2_with fail
     rw[HXD.out]
     refine(zbi (S d) 64 _ (by unfold maxLen;rw[zac];omega)).mono ?_
     rintro e w2 ⟨rfl,hq2⟩
     rw[zab,HC.out]
     unfold zeY
     go_wp2_with fail
     refine(zdW s _ (by omega) H8.out).mono ?_
     rintro e w3 ⟨rfl,hq3⟩
     rw[HA.out]
     go_wp2_with fail
     refine(zcJ (S p) _ (by rw[zac];omega)).mono ?_
     rintro e w4 ⟨rfl,hq4⟩
     rw[zab,HN.out]
     unfold zcZ
     have hk:=(Obk.new w _ _).qb (((hqe.trans hq2).trans hq3).trans hq4)
     have hc0:=hk.cell 0
     have hc1:=hk.cell 1
     have hf0:=hk.frozen 0
     have hf1:=hk.frozen 1
     simp at hc0 hc1
     go_wp2_with fail
     exact bodyPost_ret (v:=zaH (ne,[],[])) (by simp[results,Tryz.results94,go_sem,hc0,hc1,hf0,hf1,zaH,zbc]) rfl ⟨by rw[HF.out],((((Qb.refl w).alloc _).trans (((hqe.trans hq2).trans hq3).trans hq4)).set (Nat.le_refl _) _).set (Nat.le_refl _) _⟩
   ·have HF:Hid (zaZ s.data.toList=(6,[],[])):=Lib.hid (by rw[HE2.out _ HX.out];rfl)
    go_enter Tryz.func94,Tryz.ntmps94
    go_wp2_with fail
    refine(zbq _ _ _ (by unfold maxLen;rw[HX7.out,zac,List.length_take];omega) (by decide)).mono ?_
    rintro e w1 ⟨rfl,hqe⟩
    rw[show eqL (s.extract 0 7).data.toList ({ data:=#[109,97,105,108,116,111,58] }:ByteArray).data.toList=true from HEQ.out]
    go_wp2_with fail
    rw[HXD.out]
    refine(zbi (S d) 64 _ (by unfold maxLen;rw[zac];omega)).mono ?_
    rintro e w2 ⟨rfl,hq2⟩
    rw[zab,HC.out]
    unfold zeY
    go_wp2_with fail
    refine(zdW s _ (by omega) H8.out).mono ?_
    rintro e w3 ⟨rfl,hq3⟩
    rw[HA.out]
    have hk:=(Obk.new w _ _).qb ((hqe.trans hq2).trans hq3)
    have hc0:=hk.cell 0
    have hc1:=hk.cell 1
    have hf0:=hk.frozen 0
    have hf1:=hk.frozen 1
    simp at hc0 hc1
    go_wp2_with fail
    exact bodyPost_ret (v:=zaH (6,[],[])) (by simp[results,Tryz.results94,go_sem,hc0,hc1,hf0,hf1,zaH,zbc]) rfl ⟨by rw[HF.out],((((Qb.refl w).alloc _).trans ((hqe.trans hq2).trans hq3)).set (Nat.le_refl _) _).set (Nat.le_refl _) _⟩
end Go.Proofs.YtnnipcgblooemaaGreatDoor
namespace Go.Proofs.YtnnipcgblooemaaGreatDoor
open Go.RowKit
theorem take_at (p d:List UInt8) (k:Nat) (h:p=d.take p.length) (hk:k<p.length) (hk2:k<d.length):p[k]=d[k]:=by
 have:p[k]? = d[k]?:=by
  conv=>lhs;rw[h]
  rw[List.getElem?_take_of_lt hk]
 simpa[List.getElem?_eq_getElem hk,List.getElem?_eq_getElem hk2] using this
set_option maxHeartbeats 2000000 in
theorem zld (s:ByteArray) (w:World) (hs:s.size≤maxLen) :
  Calls Tryz.prog 31 #[.string s] w fun e w'=>e=.returned (zaH (zaZ s.data.toList))∧Qb w w':=by
 unfold maxLen at hs
 by_cases h0:4096<s.size
 ·have HF:Hid (zaZ s.data.toList=(5,[],[])):=Lib.hid (by unfold zaZ;rw[if_pos (by rw[zaa];exact h0)])
  go_enter Tryz.func31,Tryz.ntmps31
  go_wp2_with fail
  exact bodyPost_ret (v:=zaH (5,[],[])) (by simp[results,Tryz.results31,go_sem,zaH,zbc]) rfl ⟨by rw[HF.out],(Qb.refl w).alloc _⟩
 have h0':s.size≤4096:=by omega
 by_cases h7:s.size<7
 ·have HF:Hid (zaZ s.data.toList=(60,[],[])):=Lib.hid (by unfold zaZ;rw[if_neg (by rw[zaa];omega),if_pos (.inl (by rw[zaa];exact h7))])
  clear h0
  go_enter Tryz.func31,Tryz.ntmps31
  go_wp2_with fail
  exact bodyPost_ret (v:=zaH (60,[],[])) (by simp[results,Tryz.results31,go_sem,zaH,zbc]) rfl ⟨by rw[HF.out],(Qb.refl w).alloc _⟩
 have h7':7≤s.size:=by omega
 have HX7:=Lib.hid (zbb s 7)
 have hxl:(s.extract 0 7).data.toList=s.data.toList.take 7:=by rw[HX7.out]
 have HXD:=Lib.hid (zaB s 7)
 have HE:Hid (zaZ s.data.toList=if eqL (s.data.toList.take 7) zba=false then (60,[],[]) else if (zar 64 (s.data.toList.drop 7)).2.2=false∨anyQ (s.data.toList.drop 7)=true then (6,[],[])
   else if (ze0 (zar 64 (s.data.toList.drop 7)).1).1≠0 then ((ze0 (zar 64 (s.data.toList.drop 7)).1).1,[],[])
   else if (zaL (zar 64 (s.data.toList.drop 7)).2.1).1≠0 then ((zaL (zar 64 (s.data.toList.drop 7)).2.1).1,[],[])
   else if zcs (zaL (zar 64 (s.data.toList.drop 7)).2.1).2=true then (50,[],[])
   else (0,(ze0 (zar 64 (s.data.toList.drop 7)).1).2,(zaL (zar 64 (s.data.toList.drop 7)).2.1).2)):=Lib.hid (by
  unfold zaZ;rw[if_neg (by rw[zaa];omega)]
  have:∀p:Prop,(s.data.toList.length<7∨p)=p:=fun p=>by rw[zaa];exact propext ⟨fun h=>h.resolve_left h7,.inr⟩
  simp only[this])
 have hdl:(s.data.toList.drop 7).length≤4096:=by rw[List.length_drop,zaa];omega
 generalize s.data.toList.drop 7=d at *
 obtain⟨p,q,b,hcut⟩:∃p q b,zar 64 d=(p,q,b):=⟨_,_,_,rfl⟩
 obtain⟨he,h,hh⟩:∃he h,zaL q=(he,h):=⟨_,_,rfl⟩
 have hhl:h.length≤4096:=by have:=zkx q;rw[hh] at this;have h2:=(za5 64 d).2;rw[hcut] at h2;simp at this h2;omega
 obtain⟨ip,hip⟩:∃ip,zcs h=ip:=⟨_,rfl⟩
 obtain⟨an,han⟩:∃an,anyQ d=an:=⟨_,rfl⟩
 have HH:=Lib.hid hh
 have HI:=Lib.hid hip
 have hlens:=za5 64 d
 rw[hcut] at hlens
 have hpl:p.length≤4096:=by have:=hlens.1;simp at this;omega
 have hql:q.length≤4096:=by have:=hlens.2;simp at this;omega
 have HIX:Hid (zaA d ({ data:=#[64] }:ByteArray).data.toList=p.length):=Lib.hid (by
  show zaA d [64]=p.length
  rw[zbD,hcut])
 have hE2:∀x,eqL (s.data.toList.take 7) zba=x→zaZ s.data.toList=if x=false then (60,[],[]) else if b=false∨an=true then (6,[],[]) else if (ze0 p).1≠0 then ((ze0 p).1,[],[]) else if he≠0 then (he,[],[]) else if ip=true then (50,[],[]) else (0,(ze0 p).2,h):=fun x hx=>by
  rw[HE.out,hcut];simp only;rw[hh,hx,hip,han]
 have HE2:=Lib.hid hE2
 have hcl:=zcc 64 d
 rw[hcut] at hcl
 simp only at hcl
 have HCL:=Lib.hid hcl
 have hi:=zbs 64 d
 rw[hcut] at hi
 have HCI:=Lib.hid hi
 have HAN:=Lib.hid han
 clear hcut hh hE2 HE hlens h0 h7 hip hcl hi han
 rcases hx:eqL (s.data.toList.take 7) zba with _|_
 ·have HEQ:Hid (eqL (s.extract 0 7).data.toList ({ data:=#[109,97,105,108,116,111,58] }:ByteArray).data.toList=false):=Lib.hid (by rw[hxl];exact hx)
  have HX:=Lib.hid hx
  clear hx hxl
  have HF:Hid (zaZ s.data.toList=(60,[],[])):=Lib.hid (by rw[HE2.out _ HX.out];rfl)
  go_enter Tryz.func31,Tryz.ntmps31
  go_wp2_with fail
  refine(zby _ _ _ (by rw[HX7.out,zac,List.length_take];omega) (by decide)).mono ?_
  rintro e w1 ⟨rfl,hqe⟩
  rw[show eqL (s.extract 0 7).data.toList ({ data:=#[109,97,105,108,116,111,58] }:ByteArray).data.toList=false from HEQ.out]
  have hk:=(Obk.new w _ _).qb hqe
  have hc0:=hk.cell 0
  have hc1:=hk.cell 1
  have hf0:=hk.frozen 0
  have hf1:=hk.frozen 1
  simp at hc0 hc1
  go_wp2_with fail
  exact bodyPost_ret (v:=zaH (60,[],[])) (by simp[results,Tryz.results31,go_sem,hc0,hc1,hf0,hf1,zaH,zbc]) rfl ⟨by rw[HF.out],((((Qb.refl w).alloc _).trans hqe).set (Nat.le_refl _) _).set (Nat.le_refl _) _⟩
 ·have HEQ:Hid (eqL (s.extract 0 7).data.toList ({ data:=#[109,97,105,108,116,111,58] }:ByteArray).data.toList=true):=Lib.hid (by rw[hxl];exact hx)
  have HX:=Lib.hid hx
  clear hx hxl
  rcases b with _|_
  ·have hpd:p.length=d.length:=by rw[(HCL.out.2.2 rfl).1]
   have hb1:((p.length:Int)==(d.length:Int))=true:=by rw[beq_iff_eq];omega
   clear hpd
   have HF:Hid (zaZ s.data.toList=(6,[],[])):=Lib.hid (by rw[HE2.out _ HX.out];rfl)
   go_enter Tryz.func31,Tryz.ntmps31
   go_wp2_with fail
   refine(zby _ _ _ (by rw[HX7.out,zac,List.length_take];omega) (by decide)).mono ?_
   rintro e w1 ⟨rfl,hqe⟩
   rw[show eqL (s.extract 0 7).data.toList ({ data:=#[109,97,105,108,116,111,58] }:ByteArray).data.toList=true from HEQ.out]
   have hk:=(Obk.new w _ _).qb hqe
   have hc0:=hk.cell 0
   have hc1:=hk.cell 1
   have hf0:=hk.frozen 0
   have hf1:=hk.frozen 1
   simp at hc0 hc1
   go_wp2_with fail
   rw[HXD.out]
   refine(zbl _ _ _ (by unfold maxLen;rw[zac];omega) (by decide)).mono ?_
   rintro e w2 ⟨rfl,rfl⟩
   rw[zab,show zaA d ({ data:=#[64] }:ByteArray).data.toList=p.length from HIX.out]
   go_wp2_with fail
   exact bodyPost_ret (v:=zaH (6,[],[])) (by simp[results,Tryz.results31,go_sem,hc0,hc1,hf0,hf1,zaH,zbc]) rfl ⟨by rw[HF.out],((((Qb.refl w).alloc _).trans hqe).set (Nat.le_refl _) _).set (Nat.le_refl _) _⟩
  ·have hpd:=HCL.out.2.1 rfl
   have hpq:p=d.take p.length∧q=d.drop (p.length+1):=by
    rcases HCI.out with ⟨_,h2,_⟩|⟨k,_,hk,h2,_⟩
    ·injection h2 with _ h2;injection h2 with _ h2;cases h2
    ·injection h2 with h2 h3;injection h3 with h3 _
     have:p.length=k:=by rw[h2,List.length_take];omega
     rw[this];exact⟨h2,h3⟩
   have hxp:=zbb (S d) p.length
   rw[zab,←hpq.1] at hxp
   have hxq:=zaB (S d) (p.length+1)
   rw[zab,zac,←hpq.2] at hxq
   have HXP:=Lib.hid hxp
   have HXQ:=Lib.hid hxq
   have HPQ:=Lib.hid hpq
   have hpi:(p.length:Int)+1≤(d.length:Int):=by omega
   have hb1:((p.length:Int)==(d.length:Int))=false:=by rw[beq_eq_false_iff_ne];omega
   clear hpd hpq hxp hxq
   rcases an with _|_
   ·have HIQ:Hid (zaA d ({ data:=#[63,35] }:ByteArray).data.toList=d.length):=Lib.hid ((zqJ d [63,35]).2 HAN.out)
    obtain⟨er,du,hd⟩:∃er du,zaR p=(er,du):=⟨_,_,rfl⟩
    have hdul:du.length≤4096:=by have:=znv p;rw[hd] at this;simp at this;omega
    obtain⟨lo,hlo⟩:∃lo,zb1 du=lo:=⟨_,rfl⟩
    have HD:=Lib.hid hd
    have HL:=Lib.hid hlo
    have HE3:Hid (zaZ s.data.toList=if (ze0 p).1≠0 then ((ze0 p).1,[],[]) else if he≠0 then (he,[],[]) else if ip=true then (50,[],[]) else (0,(ze0 p).2,h)):=Lib.hid (by rw[HE2.out _ HX.out,if_neg (by simp),if_neg (by simp)])
    clear hd hlo
    go_enter Tryz.func31,Tryz.ntmps31
    go_wp2_with fail
    refine(zby _ _ _ (by rw[HX7.out,zac,List.length_take];omega) (by decide)).mono ?_
    rintro e w1 ⟨rfl,hqe⟩
    rw[show eqL (s.extract 0 7).data.toList ({ data:=#[109,97,105,108,116,111,58] }:ByteArray).data.toList=true from HEQ.out]
    have hk:=(Obk.new w _ _).qb hqe
    have hc0:=hk.cell 0
    have hc1:=hk.cell 1
    have hf0:=hk.frozen 0
    have hf1:=hk.frozen 1
    simp at hc0 hc1
    go_wp2_with fail
    rw[HXD.out]
    refine(zbl _ _ _ (by unfold maxLen;rw[zac];omega) (by decide)).mono ?_
    rintro e w2 ⟨rfl,rfl⟩
    rw[zab,show zaA d ({ data:=#[64] }:ByteArray).data.toList=p.length from HIX.out]
    go_wp2_with fail
    refine(zbl _ _ _ (by unfold maxLen;rw[zac];omega) (by decide)).mono ?_
    rintro e w3 ⟨rfl,rfl⟩
    rw[zab,show zaA d ({ data:=#[63,35] }:ByteArray).data.toList=d.length from HIQ.out]
    go_wp2_with fail
    go_loop [5] (fun i=>∃k:Nat,k≤p.length∧i=.int .i64 k∧Hid ((p.take k).all zhV=true)) (fun i=>p.length - (intOf i).toNat)
    case atStart=>exact⟨0,Nat.zero_le _,rfl,Lib.hid rfl⟩
    case round=>
     obtain⟨k,hk0,rfl,HT⟩:=hrel
     by_cases hlt:k<p.length
     ·have hlt2:k<d.length:=by omega
      have hpk:=take_at p d k HPQ.out.1 hlt hlt2
      have hS:Hid (∀h,(S d)[k]'h=d[k]):=Lib.hid (fun h=>rfl)
      have HS:=Lib.hid (zeF zhV p k hlt)
      have HA:=Lib.hid (zdX zhV p (k+1))
      have HM:Hid (zhV p[k]=(zav d[k]||zbe d[k] [37,33,36,39,42,43])):=Lib.hid (by rw[hpk];rfl)
      clear hpk
      rcases ha:zav d[k] with _|_
      ·rcases hb:zbe d[k] [37,33,36,39,42,43] with _|_
       ·have HF:Hid (zaZ s.data.toList=(1,[],[])):=Lib.hid (by rw[HE3.out,ze0,if_pos (HA.out (by rw[HS.out,HM.out,ha,hb,HT.out];rfl))];rfl)
        have H1:=Lib.hid ha
        have H2:=Lib.hid hb
        clear ha hb
        go_wp2_with fail
        refine(zaY _ _).mono ?_
        rintro e w' ⟨rfl,rfl⟩
        rw[hS.out,H1.out]
        go_wp2_with fail
        refine(zb7 _ _ _ (by decide)).mono ?_
        rintro e w' ⟨rfl,rfl⟩
        rw[hS.out,show zbe d[k] ({ data:=#[37,33,36,39,42,43] }:ByteArray).data.toList=false from H2.out]
        go_wp2_with fail
        exact bodyPost_ret (v:=zaH (1,[],[])) (by simp[results,Tryz.results31,go_sem,hc0,hc1,hf0,hf1,zaH,zbc]) rfl ⟨by rw[HF.out],((((Qb.refl w).alloc _).trans hqe).set (Nat.le_refl _) _).set (Nat.le_refl _) _⟩
       ·have HN:Hid ((p.take (k+1)).all zhV=true):=Lib.hid (by rw[HS.out,HM.out,ha,hb,HT.out];rfl)
        have H1:=Lib.hid ha
        have H2:=Lib.hid hb
        clear ha hb
        go_wp2_with fail
        refine(zaY _ _).mono ?_
        rintro e w' ⟨rfl,rfl⟩
        rw[hS.out,H1.out]
        go_wp2_with fail
        refine(zb7 _ _ _ (by decide)).mono ?_
        rintro e w' ⟨rfl,rfl⟩
        rw[hS.out,show zbe d[k] ({ data:=#[37,33,36,39,42,43] }:ByteArray).data.toList=true from H2.out]
        go_wp2_with fail
        go_round
        case rel=>exact⟨k+1,by omega,by go_num,HN⟩
        case measure=>simp[intOf];omega
      ·have HN:Hid ((p.take (k+1)).all zhV=true):=Lib.hid (by rw[HS.out,HM.out,ha,HT.out];rfl)
       have H1:=Lib.hid ha
       clear ha
       go_wp2_with fail
       refine(zaY _ _).mono ?_
       rintro e w' ⟨rfl,rfl⟩
       rw[hS.out,H1.out]
       go_wp2_with fail
       go_round
       case rel=>exact⟨k+1,by omega,by go_num,HN⟩
       case measure=>simp[intOf];omega
     ·obtain rfl:k=p.length:=by omega
      have HE4:Hid (zaZ s.data.toList=if er≠0 then (er,[],[]) else if lo=false then (80,[],[]) else if he≠0 then (he,[],[]) else if ip=true then (50,[],[]) else (0,du,h)):=Lib.hid (by
       have hT:=HT.out
       rw[List.take_length] at hT
       have hLoc:ze0 p=if er≠0 then (er,[]) else if lo=false then (80,[]) else (0,du):=by
        unfold ze0
        rw[if_neg (by rw[hT];simp)]
        simp only[HD.out,HL.out]
       rw[HE3.out,hLoc]
       by_cases h1:er=0
       ·subst h1
        rcases lo with _|_<;>rfl
       ·rw[if_pos h1]
        exact(if_pos h1).trans (if_pos h1).symm)
      by_cases hne:er=0
      ·subst hne
       rcases lo with _|_
       ·have HF:Hid (zaZ s.data.toList=(80,[],[])):=Lib.hid (by rw[HE4.out];rfl)
        go_wp2_with fail
        rw[HXP.out]
        refine(zcF _ _).mono ?_
        rintro e w4 ⟨rfl,hq3⟩
        rw[zab,HD.out]
        unfold zcZ
        go_wp2_with fail
        refine(zeK _ _ (by rw[zac];omega)).mono ?_
        rintro e w5 ⟨rfl,hq4⟩
        rw[zab,HL.out]
        have hk:=(Obk.new w _ _).qb ((hqe.trans hq3).trans hq4)
        have hc0:=hk.cell 0
        have hc1:=hk.cell 1
        have hf0:=hk.frozen 0
        have hf1:=hk.frozen 1
        simp at hc0 hc1
        go_wp2_with fail
        exact bodyPost_ret (v:=zaH (80,[],[])) (by simp[results,Tryz.results31,go_sem,hc0,hc1,hf0,hf1,zaH,zbc]) rfl ⟨by rw[HF.out],((((Qb.refl w).alloc _).trans ((hqe.trans hq3).trans hq4)).set (Nat.le_refl _) _).set (Nat.le_refl _) _⟩
       ·by_cases hhe:he=0
        ·subst hhe
         rcases ip with _|_
         ·have HF:Hid (zaZ s.data.toList=(0,du,h)):=Lib.hid (by rw[HE4.out];rfl)
          go_wp2_with fail
          rw[HXP.out]
          refine(zcF _ _).mono ?_
          rintro e w4 ⟨rfl,hq3⟩
          rw[zab,HD.out]
          unfold zcZ
          go_wp2_with fail
          refine(zeK _ _ (by rw[zac];omega)).mono ?_
          rintro e w5 ⟨rfl,hq4⟩
          rw[zab,HL.out]
          go_wp2_with fail
          rw[HXQ.out]
          refine(zdQ (S q) _ (by rw[zac];omega)).mono ?_
          rintro e w6 ⟨rfl,hq5⟩
          rw[zab,HH.out]
          unfold zcZ
          go_wp2_with fail
          refine(zep (S h) _ (by rw[zac];omega)).mono ?_
          rintro e w7 ⟨rfl,hq6⟩
          rw[zab,HI.out]
          have hk:=(Obk.new w _ _).qb ((((hqe.trans hq3).trans hq4).trans hq5).trans hq6)
          have hc0:=hk.cell 0
          have hc1:=hk.cell 1
          have hf0:=hk.frozen 0
          have hf1:=hk.frozen 1
          simp at hc0 hc1
          go_wp2_with fail
          exact bodyPost_ret (v:=zaH (0,du,h)) (by simp[results,Tryz.results31,go_sem,hc0,hc1,hf0,hf1,zaH,zbc]) rfl ⟨by rw[HF.out],((((Qb.refl w).alloc _).trans ((((hqe.trans hq3).trans hq4).trans hq5).trans hq6)).set (Nat.le_refl _) _).set (Nat.le_refl _) _⟩
         ·have HF:Hid (zaZ s.data.toList=(50,[],[])):=Lib.hid (by rw[HE4.out];rfl)
          go_wp2_with fail
          rw[HXP.out]
          refine(zcF _ _).mono ?_
          rintro e w4 ⟨rfl,hq3⟩
          rw[zab,HD.out]
          unfold zcZ
          go_wp2_with fail
          refine(zeK _ _ (by rw[zac];omega)).mono ?_
          rintro e w5 ⟨rfl,hq4⟩
          rw[zab,HL.out]
          go_wp2_with fail
          rw[HXQ.out]
          refine(zdQ (S q) _ (by rw[zac];omega)).mono ?_
          rintro e w6 ⟨rfl,hq5⟩
          rw[zab,HH.out]
          unfold zcZ
          go_wp2_with fail
          refine(zep (S h) _ (by rw[zac];omega)).mono ?_
          rintro e w7 ⟨rfl,hq6⟩
          rw[zab,HI.out]
          have hk:=(Obk.new w _ _).qb ((((hqe.trans hq3).trans hq4).trans hq5).trans hq6)
          have hc0:=hk.cell 0
          have hc1:=hk.cell 1
          have hf0:=hk.frozen 0
          have hf1:=hk.frozen 1
          simp at hc0 hc1
          go_wp2_with fail
          exact bodyPost_ret (v:=zaH (50,[],[])) (by simp[results,Tryz.results31,go_sem,hc0,hc1,hf0,hf1,zaH,zbc]) rfl ⟨by rw[HF.out],((((Qb.refl w).alloc _).trans ((((hqe.trans hq3).trans hq4).trans hq5).trans hq6)).set (Nat.le_refl _) _).set (Nat.le_refl _) _⟩
        ·have hb2:(he != 0)=true:=bne_iff_ne.2 hhe
         have HHE:=Lib.hid hhe
         clear hhe
         have HF:Hid (zaZ s.data.toList=(he,[],[])):=Lib.hid (by rw[HE4.out,if_neg (by simp),if_neg (by simp),if_pos HHE.out])
         go_wp2_with fail
         rw[HXP.out]
         refine(zcF _ _).mono ?_
         rintro e w4 ⟨rfl,hq3⟩
         rw[zab,HD.out]
         unfold zcZ
         go_wp2_with fail
         refine(zeK _ _ (by rw[zac];omega)).mono ?_
         rintro e w5 ⟨rfl,hq4⟩
         rw[zab,HL.out]
         go_wp2_with fail
         rw[HXQ.out]
         refine(zdQ (S q) _ (by rw[zac];omega)).mono ?_
         rintro e w6 ⟨rfl,hq5⟩
         rw[zab,HH.out]
         unfold zcZ
         have hk:=(Obk.new w _ _).qb (((hqe.trans hq3).trans hq4).trans hq5)
         have hc0:=hk.cell 0
         have hc1:=hk.cell 1
         have hf0:=hk.frozen 0
         have hf1:=hk.frozen 1
         simp at hc0 hc1
         go_wp2_with fail
         exact bodyPost_ret (v:=zaH (he,[],[])) (by simp[results,Tryz.results31,go_sem,hc0,hc1,hf0,hf1,zaH,zbc]) rfl ⟨by rw[HF.out],((((Qb.refl w).alloc _).trans (((hqe.trans hq3).trans hq4).trans hq5)).set (Nat.le_refl _) _).set (Nat.le_refl _) _⟩
      ·have hb2:(er != 0)=true:=bne_iff_ne.2 hne
       have HNE:=Lib.hid hne
       clear hne
       have HF:Hid (zaZ s.data.toList=(er,[],[])):=Lib.hid (by rw[HE4.out,if_pos HNE.out])
       go_wp2_with fail
       rw[HXP.out]
       refine(zcF _ _).mono ?_
       rintro e w4 ⟨rfl,hq3⟩
       rw[zab,HD.out]
       unfold zcZ
       have hk:=(Obk.new w _ _).qb (hqe.trans hq3)
       have hc0:=hk.cell 0
       have hc1:=hk.cell 1
       have hf0:=hk.frozen 0
       have hf1:=hk.frozen 1
       simp at hc0 hc1
       go_wp2_with fail
       exact bodyPost_ret (v:=zaH (er,[],[])) (by simp[results,Tryz.results31,go_sem,hc0,hc1,hf0,hf1,zaH,zbc]) rfl ⟨by rw[HF.out],((((Qb.refl w).alloc _).trans (hqe.trans hq3)).set (Nat.le_refl _) _).set (Nat.le_refl _) _⟩
   ·obtain⟨n,hn⟩:∃n,zaA d [63,35]=n:=⟨_,rfl⟩
    have hnl:(n:Int)<(d.length:Int):=by
     have h1:=zjc d [63,35]
     have h2:¬zaA d [63,35]=d.length:=fun e=>by have:=(zqJ d [63,35]).1 e;rw[show Lib.containsAny d [63,35]=true from HAN.out] at this;cases this
     omega
    have HIQ:Hid (zaA d ({ data:=#[63,35] }:ByteArray).data.toList=n):=Lib.hid hn
    clear hn
    have HF:Hid (zaZ s.data.toList=(6,[],[])):=Lib.hid (by rw[HE2.out _ HX.out];rfl)
    go_enter Tryz.func31,Tryz.ntmps31
    go_wp2_with fail
    refine(zby _ _ _ (by rw[HX7.out,zac,List.length_take];omega) (by decide)).mono ?_
    rintro e w1 ⟨rfl,hqe⟩
    rw[show eqL (s.extract 0 7).data.toList ({ data:=#[109,97,105,108,116,111,58] }:ByteArray).data.toList=true from HEQ.out]
    have hk:=(Obk.new w _ _).qb hqe
    have hc0:=hk.cell 0
    have hc1:=hk.cell 1
    have hf0:=hk.frozen 0
    have hf1:=hk.frozen 1
    simp at hc0 hc1
    go_wp2_with fail
    rw[HXD.out]
    refine(zbl _ _ _ (by unfold maxLen;rw[zac];omega) (by decide)).mono ?_
    rintro e w2 ⟨rfl,rfl⟩
    rw[zab,show zaA d ({ data:=#[64] }:ByteArray).data.toList=p.length from HIX.out]
    go_wp2_with fail
    refine(zbl _ _ _ (by unfold maxLen;rw[zac];omega) (by decide)).mono ?_
    rintro e w3 ⟨rfl,rfl⟩
    rw[zab,show zaA d ({ data:=#[63,35] }:ByteArray).data.toList=n from HIQ.out]
    go_wp2_with fail
    exact bodyPost_ret (v:=zaH (6,[],[])) (by simp[results,Tryz.results31,go_sem,hc0,hc1,hf0,hf1,zaH,zbc]) rfl ⟨by rw[HF.out],((((Qb.refl w).alloc _).trans hqe).set (Nat.le_refl _) _).set (Nat.le_refl _) _⟩
end Go.Proofs.YtnnipcgblooemaaGreatDoor
namespace Go.Proofs.YtnnipcgblooemaaGreatDoor
open Go.RowKit Sx
theorem zq2 (p:UInt8→Bool) (l keep:List UInt8) (h37:p 37=true) (hx:∀n:Fin 16,p (zdp n.val)=true) (hp:∀c,zaT c keep=true→p c=true):(zbX l keep).all p=true:=by
 unfold zbX
 rw[List.all_flatMap]
 refine List.all_eq_true.2 fun c _=>?_
 split
 ·rename_i h
  simp[hp c h]
 ·have hc:=UInt8.toNat_lt c
  have h1:=hx ⟨c.toNat / 16,by omega⟩
  have h2:=hx ⟨c.toNat % 16,by omega⟩
  simp only at h1 h2
  simp[zc5,h37,h1,h2]
theorem zgZ (c x:UInt8):∀l:List UInt8,x∈l→x=c∨∃p∈zah c l,x∈p
 | [],h=>by cases h
 | y::t,h=>by
  obtain⟨p,ps,e⟩:=zaG c t
  rw[zaE,e]
  by_cases hy:y=c
  ·rw[if_pos hy]
   rcases List.mem_cons.1 h with rfl|h
   ·exact .inl hy
   ·rcases zgZ c x t h with h|⟨q,hq,hx⟩
    ·exact .inl h
    ·exact .inr ⟨q,by rw[←e];exact List.mem_cons_of_mem _ hq,hx⟩
  ·rw[if_neg hy]
   rcases List.mem_cons.1 h with rfl|h
   ·exact .inr ⟨_,List.mem_cons_self ..,List.mem_cons_self ..⟩
   ·rcases zgZ c x t h with h|⟨q,hq,hx⟩
    ·exact .inl h
    ·rw[e] at hq
     rcases List.mem_cons.1 hq with rfl|hq
     ·exact .inr ⟨_,List.mem_cons_self ..,List.mem_cons_of_mem _ hx⟩
     ·exact .inr ⟨q,List.mem_cons_of_mem _ hq,hx⟩
theorem zob {h:List UInt8} (hn:zcz h=true) (x:UInt8) (hx:x∈h):x=46∨lbB x=true:=by
 rcases zgZ 46 x h hx with h1|⟨p,hp,hxp⟩
 ·exact .inl h1
 ·unfold zcz at hn
  simp only[Bool.and_eq_true,List.all_eq_true] at hn
  have:=hn.1 p hp
  unfold zbv at this
  simp only[Bool.and_eq_true,List.all_eq_true] at this
  exact .inr (this.2 x hxp)
theorem zqQ {h:List UInt8} (hh:zaL h=(0,h)) (h4:zcs h=false):zcz h=true∧h.length≤253:=by
 unfold zaL at hh
 split at hh
 ·cases hh
 ·split at hh
  ·cases hh
  ·split at hh
   ·rename_i h1 h2 h3
    rw[h4,Bool.or_false] at h3
    exact⟨h3,by omega⟩
   ·cases hh
theorem mark256:∀n:Fin 256,(lbB (UInt8.ofNat n.val)=true∨UInt8.ofNat n.val=46→zbe (UInt8.ofNat n.val) [63,35]=false)∧(zaT (UInt8.ofNat n.val) zc3=true→zhV (UInt8.ofNat n.val)=true∧zbe (UInt8.ofNat n.val) [63,35]=false∧UInt8.ofNat n.val≠64):=by decide +kernel
theorem marks (c:UInt8):(lbB c=true∨c=46→zbe c [63,35]=false)∧(zaT c zc3=true→zhV c=true∧zbe c [63,35]=false∧c≠64):=by
 have:=mark256 ⟨c.toNat,UInt8.toNat_lt c⟩
 simpa using this
theorem mail_fmt {u h:List UInt8} (hu:zb1 u=true) (hh:zaL h=(0,h)) (h4:zcs h=false):zaZ (zkC u h)=(0,u,h)∧u.length≤64∧h.length≤253:=by
 obtain⟨hn,hl⟩:=zqQ hh h4
 have hu64:u.length≤64:=by
  unfold zb1 at hu
  simp only[Bool.and_eq_true,decide_eq_true_eq] at hu
  exact hu.1
 refine⟨?_,hu64,hl⟩
 have he:=zc6 u zc3
 have hr:(zbX u zc3).all zhV=true:=zq2 zhV u zc3 (by decide) (by decide +kernel) fun c hc=>((marks c).2 hc).1
 have hm:(zbX u zc3).all (fun c=>!zbe c [63,35]&&c != 64)=true:=zq2 _ u zc3 (by decide) (by decide +kernel) fun c hc=>by simp[((marks c).2 hc).2.1,((marks c).2 hc).2.2]
 have h64:(64:UInt8)∉zbX u zc3:=fun hx=>by
  have:=List.all_eq_true.1 hm 64 hx
  simp at this
 have hq:anyQ (zbX u zc3++64::h)=false:=by
  unfold anyQ
  rw[zfJ,List.any_append,List.any_cons]
  have e1:(zbX u zc3).any (fun c=>zbe c [63,35])=false:=by
   rw[List.any_eq_false];intro c hc
   have:=List.all_eq_true.1 hm c hc
   simp at this
   simp[this.1]
  have e2:h.any (fun c=>zbe c [63,35])=false:=by
   rw[List.any_eq_false];intro c hc
   rw[(marks c).1 (Or.symm (zob hn c hc))]
   simp
  rw[e1,e2];rfl
 have e7:(zkC u h).take 7=zba:=by unfold zkC zba;simp
 have d7:(zkC u h).drop 7=zbX u zc3++64::h:=by unfold zkC zba;simp
 have hlen:(zkC u h).length=7+(zbX u zc3).length+1+h.length:=by unfold zkC zba;simp;omega
 have hloc:ze0 (zbX u zc3)=(0,u):=by
  unfold ze0
  rw[hr,dec_enc u zc3 (by omega),hu]
  simp
 unfold zaZ
 rw[if_neg (by omega),e7,d7,if_neg (by
  rw[not_or];refine⟨by omega,?_⟩
  have:eqL zba zba=true:=by decide
  rw[this];simp),zaS 64 _ h h64,hq,hloc]
 simp only[hh,h4]
 simp
theorem loc_ok {l u:List UInt8} (h:ze0 l=(0,u)):zb1 u=true:=by
 unfold ze0 at h
 split at h
 ·injection h with h1 _;cases h1
 ·split at h
  ·rename_i h0;injection h with h1 _;exact absurd h1 h0
  ·split at h
   ·injection h with h1 _;cases h1
   ·rename_i h0 h1 h2
    injection h with _ h3
    rw[←h3];simpa using h2
theorem zoc {s u h:List UInt8} (hs:zaZ s=(0,u,h)):zb1 u=true∧zaL h=(0,h)∧zcs h=false:=by
 unfold zaZ at hs
 split at hs
 ·injection hs with h1 _;cases h1
 ·split at hs
  ·injection hs with h1 _;cases h1
  ·split at hs
   ·injection hs with h1 _;cases h1
   ·split at hs
    ·rename_i h3;injection hs with h4 _;exact absurd h4 h3
    ·split at hs
     ·rename_i h3;injection hs with h4 _;exact absurd h4 h3
     ·split at hs
      ·injection hs with h1 _;cases h1
      ·rename_i k0 k1 k2 k3 k4 k5
       injection hs with _ hs
       injection hs with hu hh
       simp only[Decidable.not_not] at k3 k4
       refine⟨loc_ok (l:=(zar 64 (s.drop 7)).1) (by rw[←hu,←k3]),?_,?_⟩
       ·exact(zga (q:=(zar 64 (s.drop 7)).2.1) (by rw[←hh,←k4])).1
       ·rw[←hh];simpa using k5
theorem mail_err {s:List UInt8} (h:(zaZ s).1≠0):(zaZ s).2=([],[]):=by
 unfold zaZ at h ⊢
 split
 ·rfl
 ·rename_i h1;rw[if_neg h1] at h
  split
  ·rfl
  ·rename_i h2;rw[if_neg h2] at h
   split
   ·rfl
   ·rename_i h3;rw[if_neg h3] at h
    split
    ·rfl
    ·rename_i h4;rw[if_neg h4] at h
     split
     ·rfl
     ·rename_i h5;rw[if_neg h5] at h
      split
      ·rfl
      ·rename_i h6;rw[if_neg h6] at h;exact absurd rfl h
section
variable [Tabs Tryz.prog] {objs:List OB} {K:List OB→AV→Prop}
theorem aParse_k (s:List UInt8) (hs:s.length≤maxLen) (hk:K objs (.tup [.agg [.s (zbp s).2.1,.s (zbp s).2.2],.i .i64 (zbp s).1])):zad Tryz.prog 92 [.s s] objs K :=
 conv (vs:=[.string (S s)]) rfl rfl (fun w=>zos (S s) w (by rw[zac];exact hs)) hk
theorem zrJ (u h:List UInt8) (hu:u.length≤9000000000000000000) (hh:h.length≤100000000000000000) (hk:K objs (.s (fmtA u h))):zad Tryz.prog 93 [.agg [.s u,.s h]] objs K :=
 conv (vs:=[zbc u h]) rfl rfl (fun w=>zlR u h w hu hh) hk
theorem zn6 (u h:List UInt8) (hu:u.length≤9000000000000000000) (hh:h.length≤100000000000000000) (hk:K objs (.s (fmtA u h))):zad Tryz.prog 30 [.agg [.s u,.s h]] objs K :=
 conv (vs:=[zbc u h]) rfl rfl (fun w=>zj5 u h w hu hh) hk
theorem mParse_k (s:List UInt8) (hs:s.length≤maxLen) (hk:K objs (.tup [.agg [.s (zaZ s).2.1,.s (zaZ s).2.2],.i .i64 (zaZ s).1])):zad Tryz.prog 94 [.s s] objs K :=
 conv (vs:=[.string (S s)]) rfl rfl (fun w=>zod (S s) w (by rw[zac];exact hs)) hk
theorem zqa (u h:List UInt8) (hu:u.length≤300000000) (hh:h.length≤100000000000000000) (hk:K objs (.s (zkC u h))):zad Tryz.prog 95 [.agg [.s u,.s h]] objs K :=
 conv (vs:=[zbc u h]) rfl rfl (fun w=>zlo u h w hu hh) hk
theorem znZ (u h:List UInt8) (hu:u.length≤300000000) (hh:h.length≤100000000000000000) (hk:K objs (.s (zkC u h))):zad Tryz.prog 32 [.agg [.s u,.s h]] objs K :=
 conv (vs:=[zbc u h]) rfl rfl (fun w=>zjW u h w hu hh) hk
end
end Go.Proofs.YtnnipcgblooemaaGreatDoor
namespace Go.Proofs.YtnnipcgblooemaaGreatDoor
open Nat renaming reduceAdd → z6, reduceSub → z7, reduceLeDiff → z8, reduceLT → j6, reduceMul → j7, reduceEqDiff → j8
open Int renaming reduceToNat → j9, reduceAdd → x0, reduceSub → x5, reduceMul → x6, reduceNeg → x7, reduceLT → x8, reduceLE → x9, reduceEq → y3, reduceNe → y4
open Go.RowKit Sx
structure IdP where
 kind:Int
 text:List UInt8
 host:List UInt8
 port:Int
def idZ:IdP:=⟨0,[],[],0⟩
def zew (x:IdP):AV:=.agg [.i .i64 x.kind,.s x.text,.s x.host,.i .i64 x.port]
def idT (r:Int×IdP):AV:=.tup [zew r.2,.i .i64 r.1]
def acI (s:List UInt8):Int×IdP:=if (zbp s).1≠0 then ((zbp s).1,idZ) else (0,⟨1,fmtA (zbp s).2.1 (zbp s).2.2,(zbp s).2.2,0⟩)
def maI (s:List UInt8):Int×IdP:=if (zaZ s).1≠0 then ((zaZ s).1,idZ) else (0,⟨2,zkC (zaZ s).2.1 (zaZ s).2.2,(zaZ s).2.2,0⟩)
def weI (s:List UInt8):Int×IdP:=if (zfj s).1≠0 then ((zfj s).1,idZ) else (0,⟨3,zcA (zfj s).2,(zfj s).2.host,(zfj s).2.port⟩)
def diC (c:Int×List UInt8×List UInt8):Int×IdP:=if c.1≠0 then (c.1,idZ) else (0,⟨4,zbo c.2.1 c.2.2,(dwA c.2.1 c.2.2).2.1,(dwA c.2.1 c.2.2).2.2⟩)
def diI (s:List UInt8):Int×IdP:=if (zca s).1≠0 then ((zca s).1,idZ) else diC (ze1 (zca s).2.1 (zca s).2.2)
def zkp:List UInt8:=[97,99,99,116]
def zkm:List UInt8:=[109,97,105,108,116,111]
def kWeb:List UInt8:=[104,116,116,112,115]
def kDid:List UInt8:=[100,105,100]
def zgy (k s:List UInt8):Int×IdP:=if k=zkp then acI s else if k=zkm then maI s else if k=kWeb then weI s else if k=kDid then diI s else (60,idZ)
def za2 (s:List UInt8):Int×IdP :=
 if 4096<s.length then (5,idZ)
 else if (zar 58 s).2.2=false then (60,idZ)
 else zgy (zbm (zar 58 s).1) s
theorem zhL (s:List UInt8):(zbp s).2.1.length≤16384∧(zbp s).2.2.length≤253:=by
 unfold zbp
 split
 ·exact⟨Nat.zero_le _,Nat.zero_le _⟩
 split
 ·exact⟨Nat.zero_le _,Nat.zero_le _⟩
 split
 ·exact⟨Nat.zero_le _,Nat.zero_le _⟩
 split
 ·exact⟨Nat.zero_le _,Nat.zero_le _⟩
 split
 ·exact⟨Nat.zero_le _,Nat.zero_le _⟩
 rename_i h
 simp only[ne_eq,Decidable.not_not] at h
 refine⟨(zdF _ _).2,?_⟩
 have e:zaL (zar 64 (s.drop 5)).2.1=(0,(zaL (zar 64 (s.drop 5)).2.1).2):=by rw[←h]
 exact(zga e).2.2.1
theorem zht (s:List UInt8):(zaZ s).2.1.length≤64∧(zaZ s).2.2.length≤253:=by
 by_cases h:(zaZ s).1=0
 ·have e:zaZ s=(0,(zaZ s).2.1,(zaZ s).2.2):=by rw[←h]
  obtain⟨k1,k2,k3⟩:=zoc e
  obtain⟨_,k4,k5⟩:=mail_fmt k1 k2 k3
  exact⟨k4,k5⟩
 ·rw[mail_err h];exact⟨by simp,by simp⟩
theorem zkO {s:List UInt8} (h:(zca s).1=0):(zca s).2.1.length≤4096∧(zca s).2.2.length≤12300:=by
 have e:zca s=(0,(zca s).2.1,(zca s).2.2):=by rw[←h]
 obtain⟨k1,l,k2,k3,k4⟩:=znt e
 have hl:(zbo (zca s).2.1 l).length=(zca s).2.1.length+l.length+5:=by simp[zbo,zbF];omega
 rw[←k2] at hl
 have hi:=idE_le k3
 omega
theorem zrw {m i:List UInt8} (h:(ze1 m i).1≠0):(ze1 m i).2=([],[]):=by
 unfold ze1 at h ⊢
 split
 ·rfl
 ·rename_i g;rw[if_neg g] at h;exact from_err h
theorem znA {m i:List UInt8} (h:(ze1 m i).1=0):(dwA (ze1 m i).2.1 (ze1 m i).2.2).1=0∧(ze1 m i).2.1.length≤3∧(ze1 m i).2.2.length≤4096:=by
 have e:ze1 m i=(0,(ze1 m i).2):=by rw[←h]
 obtain⟨k1,k2,k3,k4,k5⟩:=can_ok e
 obtain⟨_,_,_,k6,_⟩:=zl0 k1
 refine⟨by rw[k6],by rw[k5];decide,from_len k2⟩
section
variable [Tabs Tryz.prog] {objs:List OB} {K:List OB→AV→Prop}
theorem zpw (s:List UInt8) (hs:s.length≤maxLen) (hk:K objs (.tup [.agg [.s (zbp s).2.1,.s (zbp s).2.2],.i .i64 (zbp s).1])):zad Tryz.prog 29 [.s s] objs K :=
 conv (vs:=[.string (S s)]) rfl rfl (fun w=>zle (S s) w (by rw[zac];exact hs)) hk
theorem zps (s:List UInt8) (hs:s.length≤maxLen) (hk:K objs (.tup [.agg [.s (zaZ s).2.1,.s (zaZ s).2.2],.i .i64 (zaZ s).1])):zad Tryz.prog 31 [.s s] objs K :=
 conv (vs:=[.string (S s)]) rfl rfl (fun w=>zld (S s) w (by rw[zac];exact hs)) hk
theorem rLower_k (s:List UInt8) (hs:s.length≤140737488351232) (hk:K objs (.s (zbm s))):zad Tryz.prog 28 [.s s] objs K :=
 conv (vs:=[.string (S s)]) rfl rfl (fun w=>zdP (S s) w (by rw[zac];exact hs)) hk
theorem tAcct_k (s:List UInt8) (hs:s.length≤4096) (hk:K objs (idT (acI s))):zad Tryz.prog 63 [.s s] objs K:=by
 refine zaU is_ident_text_acct rfl fun C _=>?_
 simp only[c_ident_text_acct,sxZ,z6,z7,z8,j6,j7,j8,j9,x0,x5,x6,x7,x8,x9,y3,y4,reduceCtorEq,↓reduceIte]
 refine zaf (aParse_k s (by unfold maxLen;omega) ?_)
 have hl:=zhL s
 unfold acI at hk
 by_cases c:(zbp s).1=0
 ·simp only[c,ne_eq,not_true_eq_false,if_false] at hk
  simp only[c,sxZ,z6,z7,z8,j6,j7,j8,j9,x0,x5,x6,x7,x8,x9,y3,y4,reduceCtorEq,↓reduceIte]
  refine zbM (zrJ _ _ (by omega) (by omega) ⟨rfl,rfl⟩) ?_
  simp only[sxZ,z6,z7,z8,j6,j7,j8,j9,x0,x5,x6,x7,x8,x9,y3,y4,reduceCtorEq,↓reduceIte]
  exact hk
 ·simp only[c,ne_eq,not_false_eq_true,if_true] at hk
  simp only[c,sxZ,z6,z7,z8,j6,j7,j8,j9,x0,x5,x6,x7,x8,x9,y3,y4,reduceCtorEq,↓reduceIte]
  exact hk
theorem tMail_k (s:List UInt8) (hs:s.length≤4096) (hk:K objs (idT (maI s))):zad Tryz.prog 64 [.s s] objs K:=by
 refine zaU is_ident_text_mail rfl fun C _=>?_
 simp only[c_ident_text_mail,sxZ,z6,z7,z8,j6,j7,j8,j9,x0,x5,x6,x7,x8,x9,y3,y4,reduceCtorEq,↓reduceIte]
 refine zaf (mParse_k s (by unfold maxLen;omega) ?_)
 have hl:=zht s
 unfold maI at hk
 by_cases c:(zaZ s).1=0
 ·simp only[c,ne_eq,not_true_eq_false,if_false] at hk
  simp only[c,sxZ,z6,z7,z8,j6,j7,j8,j9,x0,x5,x6,x7,x8,x9,y3,y4,reduceCtorEq,↓reduceIte]
  refine zbM (zqa _ _ (by omega) (by omega) ⟨rfl,rfl⟩) ?_
  simp only[sxZ,z6,z7,z8,j6,j7,j8,j9,x0,x5,x6,x7,x8,x9,y3,y4,reduceCtorEq,↓reduceIte]
  exact hk
 ·simp only[c,ne_eq,not_false_eq_true,if_true] at hk
  simp only[c,sxZ,z6,z7,z8,j6,j7,j8,j9,x0,x5,x6,x7,x8,x9,y3,y4,reduceCtorEq,↓reduceIte]
  exact hk
theorem tWeb_k [Pow Tryz.prog] (s:List UInt8) (hs:s.length≤4096) (hk:K objs (idT (weI s))):zad Tryz.prog 65 [.s s] objs K:=by
 refine zaU is_ident_text_web rfl fun C _=>?_
 simp only[c_ident_text_web,sxZ,z6,z7,z8,j6,j7,j8,j9,x0,x5,x6,x7,x8,x9,y3,y4,reduceCtorEq,↓reduceIte]
 refine zaf (zlY s (by unfold maxLen;omega) ?_)
 have hl:=zlX s
 unfold weI at hk
 by_cases c:(zfj s).1=0
 ·simp only[c,ne_eq,not_true_eq_false,if_false] at hk
  generalize (zfj s).2=u at *
  simp only[c,zaQ,sxZ,z6,z7,z8,j6,j7,j8,j9,x0,x5,x6,x7,x8,x9,y3,y4,reduceCtorEq,↓reduceIte]
  refine zbM (zdJ u hl ⟨rfl,rfl⟩) ?_
  simp only[sxZ,z6,z7,z8,j6,j7,j8,j9,x0,x5,x6,x7,x8,x9,y3,y4,reduceCtorEq,↓reduceIte]
  exact hk
 ·simp only[c,ne_eq,not_false_eq_true,if_true] at hk
  simp only[c,zaQ,sxZ,z6,z7,z8,j6,j7,j8,j9,x0,x5,x6,x7,x8,x9,y3,y4,reduceCtorEq,↓reduceIte]
  exact hk
theorem tDid_k [Shp Tryz.prog] [Pow Tryz.prog] (s:List UInt8) (hs:s.length≤4096) (hk:K objs (idT (diI s))):zad Tryz.prog 66 [.s s] objs K:=by
 refine zaU is_ident_text_did rfl fun C _=>?_
 simp only[c_ident_text_did,sxZ,z6,z7,z8,j6,j7,j8,j9,x0,x5,x6,x7,x8,x9,y3,y4,reduceCtorEq,↓reduceIte]
 refine zaf (zhB s (by unfold maxLen;omega) ?_)
 unfold diI diC at hk
 by_cases c:(zca s).1=0
 ·obtain⟨l1,l2⟩:=zkO c
  simp only[c,ne_eq,not_true_eq_false,if_false] at hk
  generalize (zca s).2.1=m at *
  generalize (zca s).2.2=i at *
  simp only[c,sxZ,z6,z7,z8,j6,j7,j8,j9,x0,x5,x6,x7,x8,x9,y3,y4,reduceCtorEq,↓reduceIte]
  refine zaf (dwCan_k m i (by omega) (by omega) ?_)
  by_cases c1:(ze1 m i).1=0
  ·obtain⟨a1,a2,a3⟩:=znA c1
   simp only[c1,not_true_eq_false,if_false] at hk
   generalize (ze1 m i).2.1=cm at *
   generalize (ze1 m i).2.2=ci at *
   simp only[c1,sxZ,z6,z7,z8,j6,j7,j8,j9,x0,x5,x6,x7,x8,x9,y3,y4,reduceCtorEq,↓reduceIte]
   refine zaf (znd cm ci (by omega) (by omega) ?_)
   simp only[a1,zdY,sxZ,z6,z7,z8,j6,j7,j8,j9,x0,x5,x6,x7,x8,x9,y3,y4,reduceCtorEq,↓reduceIte]
   refine zbM (zdD cm ci (by omega) (by omega) ⟨rfl,rfl⟩) ?_
   simp only[sxZ,z6,z7,z8,j6,j7,j8,j9,x0,x5,x6,x7,x8,x9,y3,y4,reduceCtorEq,↓reduceIte]
   exact hk
  ·have e:=zrw c1
   simp only[c1,not_false_eq_true,if_true] at hk
   simp only[c1,sxZ,z6,z7,z8,j6,j7,j8,j9,x0,x5,x6,x7,x8,x9,y3,y4,reduceCtorEq,↓reduceIte]
   exact hk
 ·simp only[c,ne_eq,not_false_eq_true,if_true] at hk
  simp only[c,sxZ,z6,z7,z8,j6,j7,j8,j9,x0,x5,x6,x7,x8,x9,y3,y4,reduceCtorEq,↓reduceIte]
  exact hk
end
end Go.Proofs.YtnnipcgblooemaaGreatDoor
namespace Go.Proofs.YtnnipcgblooemaaGreatDoor
open Go.RowKit Sx
theorem zgP {P:Program} [Tabs P] {f:FuncId} {args:List AV} {vs:List Value} {r:AV} {v:Value} {w:World} (ha:zow args=some vs) (hr:val r=some v) (hT:Tabs.T (P:=P) w) (h:zad P f args [] (fun _ x=>x=r)) :
  Calls P f vs.toArray w fun e w'=>e=.returned v∧Qb w w':=by
 haveI:On P ⟨w,fun _=>False,fun g o v=>w.cell? ⟨g,o,none⟩=some v,Gh.none⟩:=⟨hT,fun _ h=>h⟩
 have hc:=h ⟨w,fun _=>False,fun g o v=>w.cell? ⟨g,o,none⟩=some v,Gh.none⟩ Gh.none (fun g o v=>w.cell? ⟨g,o,none⟩=some v) w
  ⟨rfl,rfl,rfl,Nat.le_refl _,fun _ _ _=>rfl,fun _ _ _ h=>h,fun _ _ _ h=>.inl h,fun b g hb=>by simp[Gh.own,Gh.none] at hb,Gh.le.refl _⟩
  ⟨fun _ _ _ h=>h,by simp,by simp,by simp,fun b b' g hb=>by simp[Gh.own,Gh.none] at hb,fun b g hb=>by simp[Gh.own,Gh.none] at hb,fun b g o v hb=>by simp[Gh.own,Gh.none] at hb,fun b _=>⟨rfl,rfl⟩⟩ vs ((zco _ _ args vs ha vs).2 rfl)
 refine hc.mono ?_
 rintro e w' ⟨y,objs',r',G',I',rfl,rfl,_,_,hin,_,hy⟩
 rw[(ze4 _ _ _ v hr y).1 hy]
 exact⟨rfl,hin.os,hin.tape,hin.output,hin.size,fun k hk=>hin.block k hk (fun h=>h)⟩
def mapW (W:World) (r:Nat) (es:Array MapEntry) (c:Nat):World:={ W with heap:=W.heap.setIfInBounds r (.map es c) }
theorem zgJ {W:World} {r:Nat} {es:Array MapEntry} {c:Nat} (h:r<W.heap.size):(mapW W r es c).heap[r]? = some (.map es c):=by
 simp[mapW,h]
theorem zdT {W:World} {r g:Nat} {es:Array MapEntry} {c:Nat} (h:g≠r):(mapW W r es c).heap[g]? = W.heap[g]?:=by
 simp only[mapW,Array.getElem?_setIfInBounds]
 rw[if_neg (fun e=>h e.symm)]
theorem zb0 (W:World) (r:Nat) (es:Array MapEntry) (c:Nat):(mapW W r es c).heap.size=W.heap.size:=by simp[mapW]
theorem Qb.map {w W:World} (h:Qb w W) (r:Nat) (es:Array MapEntry) (c:Nat) (hr:w.heap.size≤r):Qb w (mapW W r es c) :=
 ⟨h.os,h.tape,h.output,by rw[zb0];exact h.size,fun k hk=>by rw[zdT (by omega)];exact h.block k hk⟩
theorem ziU {P:Program} {w:World} (mty kt et:TypeId) (r clock:Nat) (es:Array MapEntry) (s:ByteArray) (val:Value) (hm:P.underlying mty=some (.map kt et)) (hk:P.underlying kt=some .string) (hb:w.heap[r]? = some (.map es clock)) (hf:Instr.findNow .string (.string s) es.toList 0=some none) :
  (Instr.mapUpdate mty (.map (some r)) (.string s) val).run P w=.ok () (mapW w r (es.push { key:=.string s,val:=val,born:=clock }) (clock+1)):=by
 have hc:(Instr.checkKey false 10000 kt (.string s)).run P w=.ok () w:=MapKept.run_checkKey (k:=.string s) hk (by simp[MapKept.IsKey]) false 9999
 simp[Instr.mapUpdate,run_underlying hm,MapKept.run_getObj_map hb,hc,MapKept.run_findKey hk hf,MapKept.run_setObj_map _ hb,Result.andThen,mapW]
theorem run_look {P:Program} {w:World} (mty kt et:TypeId) (r clock:Nat) (es:Array MapEntry) (s:ByteArray) (z:Value) (o:Option (Nat×Value)) (hm:P.underlying mty=some (.map kt et)) (hk:P.underlying kt=some .string) (hz:(zeroValue et).run P w=.ok z w) (hb:w.heap[r]? = some (.map es clock)) (hf:Instr.findNow .string (.string s) es.toList 0=some o) :
  (Instr.lookup mty (.map (some r)) (.string s) true).run P w=.ok (.tuple #[(o.map (·.2)).getD z,.bool o.isSome]) w:=by
 have hc:∀b,(Instr.checkKey b 10000 kt (.string s)).run P w=.ok () w:=fun b=>MapKept.run_checkKey (k:=.string s) hk (by simp[MapKept.IsKey]) b 9999
 cases o with
 | none=>simp[Instr.lookup,run_underlying hm,MapKept.run_getObj_map hb,hc,MapKept.run_findKey hk hf,Result.andThen,hz]
 | some p=>simp[Instr.lookup,run_underlying hm,MapKept.run_getObj_map hb,hc,MapKept.run_findKey hk hf,Result.andThen,hz]
def idV (r:Int×IdP):Value:=.tuple #[.agg #[.int .i64 r.2.kind,.string (S r.2.text),.string (S r.2.host),.int .i64 r.2.port],.int .i64 r.1]
theorem zhu (r:Int×IdP):val (idT r)=some (idV r):=rfl
def rdrs:Array MapEntry:=#[⟨.string (S zkp),.func (.func 63) #[] #[],0⟩,⟨.string (S zkm),.func (.func 64) #[] #[],1⟩,⟨.string (S kWeb),.func (.func 65) #[] #[],2⟩,⟨.string (S kDid),.func (.func 66) #[] #[],3⟩]
def zlB (k:List UInt8):Option (Nat×Value) :=
 if k=zkp then some (0,.func (.func 63) #[] #[]) else if k=zkm then some (1,.func (.func 64) #[] #[]) else if k=kWeb then some (2,.func (.func 65) #[] #[]) else if k=kDid then some (3,.func (.func 66) #[] #[]) else none
theorem findK_is (k:List UInt8):Instr.findNow .string (.string (S k)) rdrs.toList 0=some (zlB k):=by
 have key:∀x:List UInt8,Instr.sameNow .string (.string (S k)) (.string (S x))=some (decide (k=x)):=by
  intro x
  have e:(S k==S x)=(k.toArray==x.toArray):=rfl
  show some (S k==S x)=_
  rw[e]
  by_cases h:k=x
  ·subst h;simp
  ·simp[h]
 show Instr.findNow .string (.string (S k)) [⟨.string (S zkp),_,_⟩,⟨.string (S zkm),_,_⟩,⟨.string (S kWeb),_,_⟩,⟨.string (S kDid),_,_⟩] 0=_
 unfold zlB
 by_cases h1:k=zkp
 ·simp only[Instr.findNow,key,decide_eq_true h1,if_pos h1]
 ·by_cases h2:k=zkm
  ·simp only[Instr.findNow,key,decide_eq_false h1,decide_eq_true h2,if_pos h2,if_neg h1]
  ·by_cases h3:k=kWeb
   ·simp only[Instr.findNow,key,decide_eq_false h1,decide_eq_false h2,decide_eq_true h3,if_pos h3,if_neg h1,if_neg h2]
   ·by_cases h4:k=kDid
    ·simp only[Instr.findNow,key,decide_eq_false h1,decide_eq_false h2,decide_eq_false h3,decide_eq_true h4,if_pos h4,if_neg h1,if_neg h2,if_neg h3]
    ·simp only[Instr.findNow,key,decide_eq_false h1,decide_eq_false h2,decide_eq_false h3,decide_eq_false h4,if_neg h4,if_neg h1,if_neg h2,if_neg h3]
section
set_option maxHeartbeats 2000000 in
theorem zhX [Tabs Tryz.prog] [Shp Tryz.prog] [Pow Tryz.prog] (s:ByteArray) (w:World) (hs:s.size≤140737488351232) (hT:Tabs.T (P:=Tryz.prog) w):Calls Tryz.prog 39 #[.string s] w fun e w'=>e=.returned (idV (za2 s.data.toList))∧Qb w w':=by
 by_cases h0:4096<s.size
 ·have HF:Hid (za2 s.data.toList=(5,idZ)):=Lib.hid (by unfold za2;rw[if_pos (by rw[zaa];exact h0)])
  go_enter Tryz.func39,Tryz.ntmps39
  go_wp2_with fail
  exact bodyPost_ret (v:=idV (5,idZ)) (by simp[results,Tryz.results39,go_sem,idV,idZ]) rfl ⟨by rw[HF.out],(Qb.refl w).alloc _⟩
 have hmm:=@run_makeMap Tryz.prog
 have hk0:(Tryz.prog).underlying 9=some .string:=by kernel_rfl
 obtain⟨et,hm⟩:∃et,(Tryz.prog).underlying 103=some (.map 9 et):=⟨100,by kernel_rfl⟩
 have hb0:((w.alloc (Obj.cells #[Value.int IntKind.i64 0,Value.string ⟨#[]⟩,Value.string ⟨#[]⟩,Value.int IntKind.i64 0] 28)).alloc (Obj.map #[] 0)).heap[w.heap.size+1]? = some (.map #[] 0):=by
  have e:(w.alloc (Obj.cells #[Value.int IntKind.i64 0,Value.string ⟨#[]⟩,Value.string ⟨#[]⟩,Value.int IntKind.i64 0] 28)).heap.size=w.heap.size+1:=by simp
  rw[←e];exact heap_alloc_new _ _
 have hob:Obk ((w.alloc (Obj.cells #[Value.int IntKind.i64 0,Value.string ⟨#[]⟩,Value.string ⟨#[]⟩,Value.int IntKind.i64 0] 28)).alloc (Obj.map #[] 0)) w.heap.size 28 #[Value.int IntKind.i64 0,Value.string ⟨#[]⟩,Value.string ⟨#[]⟩,Value.int IntKind.i64 0]:=(Obk.new w _ _).alloc _
 have hqb:Qb w ((w.alloc (Obj.cells #[Value.int IntKind.i64 0,Value.string ⟨#[]⟩,Value.string ⟨#[]⟩,Value.int IntKind.i64 0] 28)).alloc (Obj.map #[] 0)):=((Qb.refl w).alloc _).alloc _
 go_enter Tryz.func39,Tryz.ntmps39
 go_wp2_with fail
 generalize ((w.alloc (Obj.cells #[Value.int IntKind.i64 0,Value.string ⟨#[]⟩,Value.string ⟨#[]⟩,Value.int IntKind.i64 0] 28)).alloc (Obj.map #[] 0))=W0 at hb0 hob hqb ⊢
 have hlt:w.heap.size+1<W0.heap.size:=by
  rcases Nat.lt_or_ge (w.heap.size+1) W0.heap.size with h|h
  ·exact h
  ·rw[Array.getElem?_eq_none h] at hb0;cases hb0
 rw[ziU _ 9 et (w.heap.size+1) 0 #[] ⟨#[97,99,99,116]⟩ _ hm hk0 hb0 rfl]
 simp only[Result.andThen]
 rw[Oper.upon_skip]
 go_wp2_with fail
 rw[ziU _ 9 et (w.heap.size+1) 1 _ ⟨#[109,97,105,108,116,111]⟩ _ hm hk0 (zgJ hlt) rfl]
 simp only[Result.andThen]
 rw[Oper.upon_skip]
 go_wp2_with fail
 rw[ziU _ 9 et (w.heap.size+1) 2 _ ⟨#[104,116,116,112,115]⟩ _ hm hk0 (zgJ (by rw[zb0];exact hlt)) rfl]
 simp only[Result.andThen]
 rw[Oper.upon_skip]
 go_wp2_with fail
 rw[ziU _ 9 et (w.heap.size+1) 3 _ ⟨#[100,105,100]⟩ _ hm hk0 (zgJ (by rw[zb0,zb0];exact hlt)) rfl]
 simp only[Result.andThen]
 rw[Oper.upon_skip]
 go_wp2_with fail
 refine(zbi s 58 _ (by unfold maxLen;omega)).mono ?_
 rintro e w1 ⟨rfl,hq1⟩
 have hM:w1.heap[w.heap.size+1]? = some (.map rdrs 4):=(hq1.block _ (by rw[zb0,zb0,zb0,zb0];exact hlt)).trans (zgJ (by rw[zb0,zb0,zb0];exact hlt))
 have hO:Obk w1 w.heap.size 28 #[Value.int IntKind.i64 0,Value.string ⟨#[]⟩,Value.string ⟨#[]⟩,Value.int IntKind.i64 0]:=by
  refine Obk.qb ?_ hq1
  unfold Obk
  rw[zdT (by omega),zdT (by omega),zdT (by omega),zdT (by omega)]
  exact hob
 have hQ:Qb w w1:=((((hqb.map _ _ _ (by omega)).map _ _ _ (by omega)).map _ _ _ (by omega)).map _ _ _ (by omega)).trans hq1
 clear hq1 hob hqb hb0 hlt
 have hcl:=za5 58 s.data.toList
 rw[zaa] at hcl
 obtain⟨p,q,b,hcut⟩:∃p q b,zar 58 s.data.toList=(p,q,b):=⟨_,_,_,rfl⟩
 have HC:=Lib.hid hcut
 rw[hcut] at hcl ⊢
 simp only[zeY] at hcl ⊢
 go_wp2_with fail
 refine(zhN (S p) w1 (by rw[zac];omega)).mono ?_
 rintro e w2 ⟨rfl,hq2⟩
 have hM2:w2.heap[w.heap.size+1]? = some (.map rdrs 4):=(hq2.block _ (by
  rcases Nat.lt_or_ge (w.heap.size+1) w1.heap.size with h|h
  ·exact h
  ·rw[Array.getElem?_eq_none h] at hM;cases hM)).trans hM
 have hO2:=hO.qb hq2
 have hQ2:=hQ.trans hq2
 clear hq2 hM hO hQ
 have hSp:(S p).data.toList=p:=rfl
 rw[hSp]
 have hz:(zeroValue et).run Tryz.prog w2=.ok .nilFunc w2:=by
  have:et=100:=by
   have h2:(Tryz.prog).underlying 103=some (.map 9 100):=by kernel_rfl
   rw[hm] at h2;injection h2 with h2;injection h2
  subst this
  rfl
 go_wp2_with fail
 rw[run_look _ 9 et (w.heap.size+1) 4 rdrs (S (zbm p)) .nilFunc (zlB (zbm p)) hm hk0 hz hM2 (findK_is _)]
 simp only[Result.andThen]
 rw[Oper.upon_value]
 obtain⟨fv,hfv⟩:∃fv,((zlB (zbm p)).map (·.2)).getD Value.nilFunc=fv:=⟨_,rfl⟩
 obtain⟨fb,hfb⟩:∃fb,(zlB (zbm p)).isSome=fb:=⟨_,rfl⟩
 rw[hfv,hfb]
 clear hM2 hz hSp hmm hm hk0
 have hc0:=hO2.cell 0
 have hc1:=hO2.cell 1
 have hc2:=hO2.cell 2
 have hc3:=hO2.cell 3
 have hf0:=hO2.frozen 0
 have hf1:=hO2.frozen 1
 have hf2:=hO2.frozen 2
 have hf3:=hO2.frozen 3
 simp at hc0 hc1 hc2 hc3
 cases b with
 | false=>
  have HF:Hid (za2 s.data.toList=(60,idZ)):=Lib.hid (by unfold za2;rw[if_neg (by rw[zaa];exact h0),HC.out,if_pos rfl])
  go_wp2_with fail
  exact bodyPost_ret (v:=idV (60,idZ)) (by simp[results,Tryz.results39,go_sem,hc0,hc1,hc2,hc3,hf0,hf1,hf2,hf3,idV,idZ]) rfl ⟨by rw[HF.out],(((hQ2.set (Nat.le_refl _) _).set (Nat.le_refl _) _).set (Nat.le_refl _) _).set (Nat.le_refl _) _⟩
 | true=>
 cases fb with
 | false=>
  have HF:Hid (za2 s.data.toList=(60,idZ)):=Lib.hid (by
   unfold za2;rw[if_neg (by rw[zaa];exact h0),HC.out,if_neg (by simp)]
   show zgy (zbm p) _=_
   unfold zlB at hfb
   unfold zgy
   split at hfb
   ·cases hfb
   split at hfb
   ·cases hfb
   split at hfb
   ·cases hfb
   split at hfb
   ·cases hfb
   rename_i a1 a2 a3 a4
   rw[if_neg a1,if_neg a2,if_neg a3,if_neg a4])
  go_wp2_with fail
  exact bodyPost_ret (v:=idV (60,idZ)) (by simp[results,Tryz.results39,go_sem,hc0,hc1,hc2,hc3,hf0,hf1,hf2,hf3,idV,idZ]) rfl ⟨by rw[HF.out],(((hQ2.set (Nat.le_refl _) _).set (Nat.le_refl _) _).set (Nat.le_refl _) _).set (Nat.le_refl _) _⟩
 | true=>
 clear hc0 hc1 hc2 hc3 hf0 hf1 hf2 hf3
 have hT2:Tabs.T (P:=Tryz.prog) w2:=Sx.Tabs.keep _ _ hT (fun k hk=>hQ2.block k hk) hQ2.size
 obtain⟨fid,r,hfv2,hr,hent,hcall⟩:∃fid r,fv=.func (.func fid) #[] #[]∧za2 s.data.toList=r∧(∀W,(callFunc fid #[.string s]).run Tryz.prog W=.ok (.enter fid #[.string s]) W)∧Calls Tryz.prog fid #[.string s] w2 fun e w'=>e=.returned (idV r)∧Qb w2 w':=by
  have HF:za2 s.data.toList=zgy (zbm p) s.data.toList:=by
   unfold za2;rw[if_neg (by rw[zaa];exact h0),HC.out,if_neg (by simp)]
  have h4:s.data.toList.length≤4096:=by rw[zaa];omega
  have hv:zow [AV.s s.data.toList]=some [.string s]:=rfl
  unfold zlB at hfb hfv
  unfold zgy at HF
  by_cases a1:zbm p=zkp
  ·simp only[if_pos a1] at hfv HF
   exact⟨_,_,hfv.symm,HF,fun _=>rfl,zgP hv (zhu _) hT2 (tAcct_k s.data.toList h4 rfl)⟩
  simp only[if_neg a1] at hfv hfb HF
  by_cases a2:zbm p=zkm
  ·simp only[if_pos a2] at hfv HF
   exact⟨_,_,hfv.symm,HF,fun _=>rfl,zgP hv (zhu _) hT2 (tMail_k s.data.toList h4 rfl)⟩
  simp only[if_neg a2] at hfv hfb HF
  by_cases a3:zbm p=kWeb
  ·simp only[if_pos a3] at hfv HF
   exact⟨_,_,hfv.symm,HF,fun _=>rfl,zgP hv (zhu _) hT2 (tWeb_k s.data.toList h4 rfl)⟩
  simp only[if_neg a3] at hfv hfb HF
  by_cases a4:zbm p=kDid
  ·simp only[if_pos a4] at hfv HF
   exact⟨_,_,hfv.symm,HF,fun _=>rfl,zgP hv (zhu _) hT2 (tDid_k s.data.toList h4 rfl)⟩
  simp only[if_neg a4] at hfb
  cases hfb
 rw[hfv2]
 have HR:=Lib.hid hr
 clear hr hfv hfb hfv2
 go_wp2_with fail
 refine hcall.mono ?_
 rintro e w3 ⟨rfl,hq3⟩
 have hO3:=hO2.qb hq3
 have hQ3:=hQ2.trans hq3
 have hc0:=hO3.cell 0
 have hc1:=hO3.cell 1
 have hc2:=hO3.cell 2
 have hc3:=hO3.cell 3
 have hf0:=hO3.frozen 0
 have hf1:=hO3.frozen 1
 have hf2:=hO3.frozen 2
 have hf3:=hO3.frozen 3
 simp at hc0 hc1 hc2 hc3
 clear hcall hent
 obtain⟨er,kd,tx,ho,pt⟩:=r
 simp only[idV]
 go_wp2_with fail
 exact bodyPost_ret (v:=idV (er,⟨kd,tx,ho,pt⟩)) (by simp[results,Tryz.results39,go_sem,hc0,hc1,hc2,hc3,hf0,hf1,hf2,hf3,idV]) rfl ⟨by rw[HR.out],(((hQ3.set (Nat.le_refl _) _).set (Nat.le_refl _) _).set (Nat.le_refl _) _).set (Nat.le_refl _) _⟩
end
end Go.Proofs.YtnnipcgblooemaaGreatDoor
namespace Go.Proofs.YtnnipcgblooemaaGreatDoor
open Nat renaming reduceAdd → z6, reduceSub → z7, reduceLeDiff → z8, reduceLT → j6, reduceMul → j7, reduceEqDiff → j8
open Int renaming reduceToNat → j9, reduceAdd → x0, reduceSub → x5, reduceMul → x6, reduceNeg → x7, reduceLT → x8, reduceLE → x9, reduceEq → y3, reduceNe → y4
open Go.RowKit Sx
def zgr (x y:IdP):Bool:=decide (x.kind=y.kind)&&(decide (x.text=y.text)&&(decide (x.host=y.host)&&decide (x.port=y.port)))
def valB (x:IdP):Bool:=decide ((za2 x.text).1=0)&&zgr (za2 x.text).2 x
section
variable [Tabs Tryz.prog] {objs:List OB} {K:List OB→AV→Prop}
theorem zlw (x:IdP) (hk:K objs (.agg [.s x.host,.i .i64 x.port])):zad Tryz.prog 42 [zew x] objs K:=by
 refine zaU is_ident_Authority rfl fun C _=>?_
 simp only[c_ident_Authority,zew,sxZ,z6,z7,z8,j6,j7,j8,j9,x0,x5,x6,x7,x8,x9,y3,y4,reduceCtorEq,↓reduceIte]
 exact hk
theorem rIdWeb_k (s:List UInt8) (hs:s.length≤4096) (hk:K objs (idT (weI s))):zad Tryz.prog 33 [.s s] objs K:=by
 refine zaU is_ref12_web rfl fun C _=>?_
 simp only[c_ref12_web,sxZ,z6,z7,z8,j6,j7,j8,j9,x0,x5,x6,x7,x8,x9,y3,y4,reduceCtorEq,↓reduceIte]
 refine zaf (zjR s (by omega) ?_)
 have hl:=zlX s
 unfold weI at hk
 by_cases c:(zfj s).1=0
 ·simp only[c,ne_eq,not_true_eq_false,if_false] at hk
  generalize (zfj s).2=u at *
  simp only[c,zaQ,sxZ,z6,z7,z8,j6,j7,j8,j9,x0,x5,x6,x7,x8,x9,y3,y4,reduceCtorEq,↓reduceIte]
  refine zbM (zcE u hl ⟨rfl,rfl⟩) ?_
  simp only[sxZ,z6,z7,z8,j6,j7,j8,j9,x0,x5,x6,x7,x8,x9,y3,y4,reduceCtorEq,↓reduceIte]
  exact hk
 ·simp only[c,ne_eq,not_false_eq_true,if_true] at hk
  simp only[c,zaQ,sxZ,z6,z7,z8,j6,j7,j8,j9,x0,x5,x6,x7,x8,x9,y3,y4,reduceCtorEq,↓reduceIte]
  exact hk
theorem rIdDid_k (s:List UInt8) (hs:s.length≤4096) (hk:K objs (idT (diI s))):zad Tryz.prog 34 [.s s] objs K:=by
 refine zaU is_ref12_decentral rfl fun C _=>?_
 simp only[c_ref12_decentral,sxZ,z6,z7,z8,j6,j7,j8,j9,x0,x5,x6,x7,x8,x9,y3,y4,reduceCtorEq,↓reduceIte]
 refine zaf (zgl s (by unfold maxLen;omega) ?_)
 unfold diI diC at hk
 by_cases c:(zca s).1=0
 ·obtain⟨l1,l2⟩:=zkO c
  simp only[c,ne_eq,not_true_eq_false,if_false] at hk
  generalize (zca s).2.1=m at *
  generalize (zca s).2.2=i at *
  simp only[c,sxZ,z6,z7,z8,j6,j7,j8,j9,x0,x5,x6,x7,x8,x9,y3,y4,reduceCtorEq,↓reduceIte]
  refine zaf (rdwCan_k m i (by omega) (by omega) ?_)
  by_cases c1:(ze1 m i).1=0
  ·obtain⟨a1,a2,a3⟩:=znA c1
   simp only[c1,not_true_eq_false,if_false] at hk
   generalize (ze1 m i).2.1=cm at *
   generalize (ze1 m i).2.2=ci at *
   simp only[c1,sxZ,z6,z7,z8,j6,j7,j8,j9,x0,x5,x6,x7,x8,x9,y3,y4,reduceCtorEq,↓reduceIte]
   refine zaf (zpu cm ci (by omega) (by omega) ?_)
   simp only[a1,zdY,sxZ,z6,z7,z8,j6,j7,j8,j9,x0,x5,x6,x7,x8,x9,y3,y4,reduceCtorEq,↓reduceIte]
   refine zbM (zc0 cm ci (by omega) (by omega) ⟨rfl,rfl⟩) ?_
   simp only[sxZ,z6,z7,z8,j6,j7,j8,j9,x0,x5,x6,x7,x8,x9,y3,y4,reduceCtorEq,↓reduceIte]
   exact hk
  ·have e:=zrw c1
   simp only[c1,not_false_eq_true,if_true] at hk
   simp only[c1,sxZ,z6,z7,z8,j6,j7,j8,j9,x0,x5,x6,x7,x8,x9,y3,y4,reduceCtorEq,↓reduceIte]
   exact hk
 ·simp only[c,ne_eq,not_false_eq_true,if_true] at hk
  simp only[c,sxZ,z6,z7,z8,j6,j7,j8,j9,x0,x5,x6,x7,x8,x9,y3,y4,reduceCtorEq,↓reduceIte]
  exact hk
theorem zig (s:List UInt8) (hs:s.length≤140737488351232) (hk:K objs (idT (za2 s))):zad Tryz.prog 14 [.s s] objs K:=by
 refine zaU is_ref12_Parse rfl fun C _=>?_
 have hm:maxLen=2 ^ 63 - 1:=rfl
 unfold za2 at hk
 by_cases c0:(4096:Int)<↑s.length
 ·have c0':4096<s.length:=by omega
  rw[if_pos c0'] at hk
  simp only[c0,c_ref12_Parse,sxZ,z6,z7,z8,j6,j7,j8,j9,x0,x5,x6,x7,x8,x9,y3,y4,reduceCtorEq,↓reduceIte]
  exact hk
 have c0':¬4096<s.length:=by omega
 rw[if_neg c0'] at hk
 simp only[c0,c_ref12_Parse,sxZ,z6,z7,z8,j6,j7,j8,j9,x0,x5,x6,x7,x8,x9,y3,y4,reduceCtorEq,↓reduceIte]
 refine zaf (za3 s [58] (by omega) (by decide) ?_)
 have c58:=zeB 58 s
 have hil:=zjc s [58]
 by_cases h58:zaA s [58]<s.length
 ·have e58:=c58.1 h58
  rw[e58,if_neg (by simp)] at hk
  have hne:¬((zaA s [58]:Nat):Int)=((s.length:Nat):Int):=by omega
  have htl:(s.take (zaA s [58])).length≤s.length:=by rw[List.length_take];omega
  simp only[hne,sxZ,z6,z7,z8,j6,j7,j8,j9,x0,x5,x6,x7,x8,x9,y3,y4,reduceCtorEq,↓reduceIte]
  refine⟨⟨by omega,by omega⟩,?_⟩
  refine zaf (rLower_k _ (by omega) ?_)
  simp only at hk
  generalize zbm (s.take (zaA s [58]))=kd at *
  unfold zgy at hk
  by_cases a1:kd=zkp
  ·subst a1
   rw[if_pos rfl] at hk
   simp only[zkp,sxZ,z6,z7,z8,j6,j7,j8,j9,x0,x5,x6,x7,x8,x9,y3,y4,reduceCtorEq,↓reduceIte]
   refine zaf (zpw s (by omega) ?_)
   have hl:=zhL s
   unfold acI at hk
   by_cases c:(zbp s).1=0
   ·simp only[c,ne_eq,not_true_eq_false,if_false] at hk
    simp only[c,sxZ,z6,z7,z8,j6,j7,j8,j9,x0,x5,x6,x7,x8,x9,y3,y4,reduceCtorEq,↓reduceIte]
    refine zbM (zn6 _ _ (by omega) (by omega) ⟨rfl,rfl⟩) ?_
    simp only[sxZ,z6,z7,z8,j6,j7,j8,j9,x0,x5,x6,x7,x8,x9,y3,y4,reduceCtorEq,↓reduceIte]
    exact hk
   ·simp only[c,ne_eq,not_false_eq_true,if_true] at hk
    simp only[c,sxZ,z6,z7,z8,j6,j7,j8,j9,x0,x5,x6,x7,x8,x9,y3,y4,reduceCtorEq,↓reduceIte]
    exact hk
  rw[if_neg a1] at hk
  by_cases a2:kd=zkm
  ·subst a2
   rw[if_pos rfl] at hk
   have n0:¬([109,97,105,108,116,111]:List UInt8)=[97,99,99,116]:=by decide
   simp only[zkm,n0,sxZ,z6,z7,z8,j6,j7,j8,j9,x0,x5,x6,x7,x8,x9,y3,y4,reduceCtorEq,↓reduceIte]
   refine zaf (zps s (by omega) ?_)
   have hl:=zht s
   unfold maI at hk
   by_cases c:(zaZ s).1=0
   ·simp only[c,ne_eq,not_true_eq_false,if_false] at hk
    simp only[c,sxZ,z6,z7,z8,j6,j7,j8,j9,x0,x5,x6,x7,x8,x9,y3,y4,reduceCtorEq,↓reduceIte]
    refine zbM (znZ _ _ (by omega) (by omega) ⟨rfl,rfl⟩) ?_
    simp only[sxZ,z6,z7,z8,j6,j7,j8,j9,x0,x5,x6,x7,x8,x9,y3,y4,reduceCtorEq,↓reduceIte]
    exact hk
   ·simp only[c,ne_eq,not_false_eq_true,if_true] at hk
    simp only[c,sxZ,z6,z7,z8,j6,j7,j8,j9,x0,x5,x6,x7,x8,x9,y3,y4,reduceCtorEq,↓reduceIte]
    exact hk
  rw[if_neg a2] at hk
  by_cases a3:kd=kWeb
  ·subst a3
   rw[if_pos rfl] at hk
   have n0:¬([104,116,116,112,115]:List UInt8)=[97,99,99,116]:=by decide
   have n1:¬([104,116,116,112,115]:List UInt8)=[109,97,105,108,116,111]:=by decide
   simp only[kWeb,n0,n1,sxZ,z6,z7,z8,j6,j7,j8,j9,x0,x5,x6,x7,x8,x9,y3,y4,reduceCtorEq,↓reduceIte]
   refine zaf (rIdWeb_k s (by omega) ?_)
   simp only[idT,zew,sxZ,z6,z7,z8,j6,j7,j8,j9,x0,x5,x6,x7,x8,x9,y3,y4,reduceCtorEq,↓reduceIte]
   exact hk
  rw[if_neg a3] at hk
  by_cases a4:kd=kDid
  ·subst a4
   rw[if_pos rfl] at hk
   have n0:¬([100,105,100]:List UInt8)=[97,99,99,116]:=by decide
   have n1:¬([100,105,100]:List UInt8)=[109,97,105,108,116,111]:=by decide
   have n2:¬([100,105,100]:List UInt8)=[104,116,116,112,115]:=by decide
   simp only[kDid,n0,n1,n2,sxZ,z6,z7,z8,j6,j7,j8,j9,x0,x5,x6,x7,x8,x9,y3,y4,reduceCtorEq,↓reduceIte]
   refine zaf (rIdDid_k s (by omega) ?_)
   simp only[idT,zew,sxZ,z6,z7,z8,j6,j7,j8,j9,x0,x5,x6,x7,x8,x9,y3,y4,reduceCtorEq,↓reduceIte]
   exact hk
  rw[if_neg a4] at hk
  have b1:¬kd=[97,99,99,116]:=a1
  have b2:¬kd=[109,97,105,108,116,111]:=a2
  have b3:¬kd=[104,116,116,112,115]:=a3
  have b4:¬kd=[100,105,100]:=a4
  simp only[b1,b2,b3,b4,sxZ,z6,z7,z8,j6,j7,j8,j9,x0,x5,x6,x7,x8,x9,y3,y4,reduceCtorEq,↓reduceIte]
  exact hk
 ·have e58:=c58.2 h58
  rw[e58,if_pos rfl] at hk
  have he:((zaA s [58]:Nat):Int)=((s.length:Nat):Int):=by omega
  simp only[he,sxZ,z6,z7,z8,j6,j7,j8,j9,x0,x5,x6,x7,x8,x9,y3,y4,reduceCtorEq,↓reduceIte]
  exact hk
end
section
variable [Tabs Tryz.prog] [Shp Tryz.prog] [Pow Tryz.prog] {objs:List OB} {K:List OB→AV→Prop}
theorem zgq (s:List UInt8) (hs:s.length≤140737488351232) (hk:K objs (idT (za2 s))):zad Tryz.prog 39 [.s s] objs K :=
 convT (vs:=[.string (S s)]) rfl (zhu _) (fun w hT=>zhX (S s) w (by rw[zac];exact hs) hT) hk
theorem zku (x:IdP) (hs:x.text.length≤140737488351232) (hk:K objs (.b (valB x))):zad Tryz.prog 41 [zew x] objs K:=by
 refine zaU is_ident_Valid rfl fun C _=>?_
 simp only[c_ident_Valid,zew,sxZ,z6,z7,z8,j6,j7,j8,j9,x0,x5,x6,x7,x8,x9,y3,y4,reduceCtorEq,↓reduceIte]
 refine zaf (zgq x.text hs ?_)
 unfold valB at hk
 obtain⟨⟨er,y⟩,hy⟩:∃r,za2 x.text=r:=⟨_,rfl⟩
 rw[hy] at hk ⊢
 simp only[idT,zew,sxZ,z6,z7,z8,j6,j7,j8,j9,x0,x5,x6,x7,x8,x9,y3,y4,reduceCtorEq,↓reduceIte]
 by_cases c:er=0
 ·simp only[c,sxZ,z6,z7,z8,j6,j7,j8,j9,x0,x5,x6,x7,x8,x9,y3,y4,reduceCtorEq,↓reduceIte]
  simpa[c,zgr] using hk
 ·simp only[c,sxZ,z6,z7,z8,j6,j7,j8,j9,x0,x5,x6,x7,x8,x9,y3,y4,reduceCtorEq,↓reduceIte]
  simpa[c] using hk
end
end Go.Proofs.YtnnipcgblooemaaGreatDoor
namespace Go.Proofs.YtnnipcgblooemaaGreatDoor.Sx
open Go.RowKit Go.WideShapes Go.ChangeShapes Go.ChangeAt
inductive TT where
 | s
 | b
 | i (k:IntKind)
 | st (ts:List TT)
 | sl (t:TT)
 | rv
inductive RV where
 | mk (k:Int) (t:List UInt8) (ks:List (List UInt8)) (its:List RV)
mutual
def zif:RV→List AV
 | .mk k t ks its=>[.i .i64 k,.s t,.row ks.length (ks.map .s),.row its.length (zhd its)]
def zhd:List RV→List AV
 | []=>[]
 | v::l=>zif v++zhd l
end
mutual
def RVok:RV→Prop
 | .mk k t ks its=>(Lit.int .i64 k).wf=true∧t.length≤140737488351232∧ks.length≤140737488351232∧(∀k∈ks,k.length≤140737488351232)∧its.length≤140737488351232∧zrM its
def zrM:List RV→Prop
 | []=>True
 | v::l=>RVok v∧zrM l
end
mutual
def ShT:TT→List AV→Prop
 | .s,xs=>∃l:List UInt8,xs=[.s l]∧l.length≤140737488351232
 | .b,xs=>∃b,xs=[.b b]
 | .i k,xs=>∃n,xs=[.i k n]∧(Lit.int k n).wf=true
 | .st ts,xs=>ShTs ts xs
 | .sl t,xs=>∃gs:List (List AV),xs=[.row gs.length gs.flatten]∧gs.length≤140737488351232∧∀g∈gs,ShT t g
 | .rv,xs=>∃r:RV,xs=zif r∧RVok r
def ShTs:List TT→List AV→Prop
 | [],xs=>xs=[]
 | t::ts,xs=>∃a b,xs=a++b∧ShT t a∧ShTs ts b
end
def ShA:TT→AV→Prop
 | .st ts,x=>∃cs,x=.agg cs∧ShTs ts cs
 | .rv,x=>∃r:RV,x=.agg (zif r)∧RVok r
 | t,x=>ShT t [x]
def ShAs:List TT→List AV→Prop
 | [],xs=>xs=[]
 | t::ts,xs=>∃x ys,xs=x::ys∧ShA t x∧ShAs ts ys
def trTs (P:Program) (rc:TypeId→Option TT):Nat→List Field→Option (List TT)
 | o,[]=>some []
 | o,f::fs=>match rc f.type,trTs P rc (o+P.cellsOf f.type) fs with
  | some t,some ts=>if f.offset=o then some (t::ts) else none
  | _,_=>none
def zhG (P:Program):List Field→Nat
 | []=>0
 | f::fs=>P.cellsOf f.type+zhG P fs
def isRV (P:Program) (t:TypeId):List Field→Bool
 | [a,b,c,d]=>(a.offset==0&&b.offset==1&&c.offset==2&&d.offset==3)&&(P.cellsOf t==4&&P.cellsOf a.type==1&&P.cellsOf b.type==1&&P.cellsOf c.type==1&&P.cellsOf d.type==1)&&decide (0<P.bytesOf t)&&(match P.underlying a.type,P.underlying b.type,P.underlying c.type,P.underlying d.type with
  | some (.int .i64),some .string,some (.slice e),some (.slice f)=>f==t&&P.cellsOf e==1&&decide (0<P.bytesOf e)&&(match P.underlying e with|some .string=>true|_=>false)
  | _,_,_,_=>false)
 | _=>false
def trT (P:Program):Nat→TypeId→Option TT
 | 0,_=>none
 | d+1,t=>match P.underlying t with
  | some .string=>some .s
  | some .bool=>some .b
  | some (.int k)=>some (.i k)
  | some (.struct fs)=>if isRV P t fs.toList=true then some .rv else if P.cellsOf t=zhG P fs.toList then (trTs P (trT P d) 0 fs.toList).map .st else none
  | some (.slice e)=>if 0<P.cellsOf e∧0<P.bytesOf e then (trT P d e).map .sl else none
  | _=>none
theorem zel {H:Type} {P:Program} {e:TypeId}:∀{ds:List (DataW H)} {d:DataW H},d∈ds→∀n∈d.weights P e,n∈DataW.weightsAll P e ds
 | [],d,hd,n,hn=>by cases hd
 | d0::ds,d,hd,n,hn=>by
  simp only[DataW.weightsAll,List.mem_append]
  rcases List.mem_cons.1 hd with rfl|hd
  ·exact .inl hn
  ·exact .inr (zel hd n hn)
theorem zl7 {w:World} {G:Gh} {I:Imm} {t:TT} (a:Addr) (c:Nat) (hI:∀g o v,w.cell? ⟨g,o,none⟩=some v→I g o v):∀k:Nat,
  (∀i,i<k→∃(g:List AV) (ys:List Value),ys.length=c∧(∀j,j<c→w.cell? ((a.add (i*c)).add j)=ys[j]?)∧zao G I g ys∧ShT t g∧∀u∈ys,u.oneCell'=true) →
  ∃(gs:List (List AV)) (ys:List Value),gs.length=k∧ys.length=k*c∧zao G I gs.flatten ys∧(∀g∈gs,ShT t g)∧(∀u∈ys,u.oneCell'=true)∧∀j,j<k*c→w.cell? (a.add j)=ys[j]?
 | 0,_=>⟨[],[],rfl,by simp,zao.nil,by simp,by simp,fun j hj=>by simp at hj⟩
 | k+1,h=>by
  obtain⟨gs,ys,h1,h2,h3,h4,h5,h6⟩:=zl7 a c hI k (fun i hi=>h i (by omega))
  obtain⟨g,zs,k1,k2,k3,k4,k5⟩:=h k (by omega)
  have hm:(k+1)*c=k*c+c:=Nat.succ_mul k c
  refine⟨gs++[g],ys++zs,by simp[h1],by rw[List.length_append,h2,k1,hm],?_,?_,?_,?_⟩
  ·rw[List.flatten_append,List.flatten_cons,List.flatten_nil,List.append_nil]
   exact zao.append h3 k3
  ·intro x hx
   rcases List.mem_append.1 hx with hx|hx
   ·exact h4 x hx
   ·rw[List.mem_singleton] at hx;subst hx;exact k4
  ·intro u hu
   rcases List.mem_append.1 hu with hu|hu
   ·exact h5 u hu
   ·exact k5 u hu
  ·intro j hj
   by_cases hjk:j<k*c
   ·rw[h6 j hjk,List.getElem?_append_left (by omega)]
   ·have:=k2 (j - k*c) (by omega)
    rw[Addr.add_add,show k*c+(j - k*c)=j by omega] at this
    rw[this,List.getElem?_append_right (by omega),h2]
theorem add_flat {a:Addr} {j:Nat} (ha:a.spot=none):a.add j=⟨a.block,a.off+j,none⟩:=by
 cases a
 simp only at ha
 subst ha
 unfold Addr.add
 split
 ·rename_i h;subst h;rfl
 ·rfl
section
variable {H:Type} {enc:TypeId×Value→H} {P:Program} {w:World} {base:Nat} {spare:Nat→Bool} {held:Bool} {G:Gh} {I:Imm}
theorem zij (d:Nat) (ih:∀(t:TypeId) (tt:TT) (fuel:Nat) (cs:List Value) (x:DataW H×List MemPlace),trT P d t=some tt→DataW.trod enc P w base spare held fuel t cs=some x→(∀n∈x.1.weights P t,n≤reachBytes)→∃xs,zao G I xs cs∧ShT tt xs∧∀u∈cs,u.oneCell'=true) (n:Nat) :
  ∀(fs:List Field) (ts:List TT) (o:Nat) (cs:List Value),trTs P (trT P d) o fs=some ts→cs.length=o+zhG P fs→(∀f∈fs,∃x,DataW.trod enc P w base spare held n f.type ((cs.drop f.offset).take (P.cellsOf f.type))=some x∧∀m∈x.1.weights P f.type,m≤reachBytes) →
   ∃xs,zao G I xs (cs.drop o)∧ShTs ts xs∧∀u∈cs.drop o,u.oneCell'=true
 | [],ts,o,cs,ht,hl,hf=>by
  simp only[trTs,Option.some.injEq] at ht;subst ht
  have:cs.drop o=[]:=List.drop_eq_nil_of_le (by simp[zhG] at hl;omega)
  rw[this]
  exact⟨[],zao.nil,rfl,by simp⟩
 | f::fs,ts,o,cs,ht,hl,hf=>by
  simp only[trTs] at ht
  split at ht
  ·rename_i t ts' h1 h2
   split at ht
   ·rename_i ho
    injection ht with ht;subst ht
    obtain⟨x,hx,hxw⟩:=hf f (List.mem_cons_self ..)
    rw[ho] at hx
    obtain⟨xs,k1,k2,k3⟩:=ih _ _ _ _ _ h1 hx hxw
    simp only[zhG] at hl
    obtain⟨ys,m1,m2,m3⟩:=zij d ih n fs ts' (o+P.cellsOf f.type) cs h2 (by omega) (fun f' hf'=>hf f' (List.mem_cons_of_mem _ hf'))
    have e:cs.drop o=(cs.drop o).take (P.cellsOf f.type)++cs.drop (o+P.cellsOf f.type):=by
     rw[←List.drop_drop,List.take_append_drop]
    refine⟨xs++ys,?_,?_,?_⟩
    ·rw[e];exact zao.append k1 m1
    ·exact⟨xs,ys,rfl,k2,m2⟩
    ·rw[e];intro u hu
     rcases List.mem_append.1 hu with hu|hu
     ·exact k3 u hu
     ·exact m3 u hu
   ·cases ht
  ·cases ht
theorem zf1 (hI:∀g o v,w.cell? ⟨g,o,none⟩=some v→I g o v) (hspa:∀b,spare b=true) {t e:TypeId} {te:TT} {fuel:Nat} {cs:List Value} {x:DataW H×List MemPlace} (hu:P.underlying t=some (.slice e)) (hc:0<P.cellsOf e∧0<P.bytesOf e)
  (ih:∀(n:Nat) (ys:List Value) (x:DataW H×List MemPlace),n<fuel→DataW.trod enc P w base spare held n e ys=some x→(∀n∈x.1.weights P e,n≤reachBytes)→∃g,zao G I g ys∧ShT te g∧∀u∈ys,u.oneCell'=true)
  (h:DataW.trod enc P w base spare held fuel t cs=some x) (hwt:∀n∈x.1.weights P t,n≤reachBytes):∃xs,zao G I xs cs∧ShT (.sl te) xs∧∀u∈cs,u.oneCell'=true:=by
 rcases DataW.trod_slice hu h with ⟨rfl,rfl⟩|⟨a,len,cap,elems,rest,n,hfu,rfl,rfl,hb,hl,hm,hlen,hel,hsr,_⟩
 ·exact⟨[.row 0 []],zao.cons (by simp only[Den];exact⟨none,0,[],rfl,⟨Nat.le_refl _,fun ad h=>by cases h⟩,zao.nil,by simp,by simp⟩) zao.nil,⟨[],rfl,by simp,by simp⟩,by simp;rfl⟩
 ·have hw2:(elems.length+rest.length)*P.bytesOf e≤reachBytes:=by
   have:=hwt ((elems.map (·.1)).length+(rest.map (·.1)).length |> (·*P.bytesOf e)) (by simp[DataW.weights,hu])
   simpa using this
  have hel2:elems.length≤140737488351232:=by
   have h1:elems.length*1≤(elems.length+rest.length)*P.bytesOf e:=Nat.mul_le_mul (by omega) hc.2
   have:reachBytes=140737488351232:=rfl
   omega
  have hel3:∀i,i<len→∃(g:List AV) (ys:List Value),ys.length=P.cellsOf e∧(∀j,j<P.cellsOf e→w.cell? ((a.add (i*P.cellsOf e)).add j)=ys[j]?)∧zao G I g ys∧ShT te g∧∀u∈ys,u.oneCell'=true:=by
   intro i hi
   have h1:=hel i hi
   have hil:i<elems.length:=by omega
   rw[List.getElem?_eq_getElem hil,Option.bind_eq_some_iff] at h1
   obtain⟨ys,y1,y2⟩:=h1
   obtain⟨_,z1,z2⟩:=World.cells?_some y1
   obtain⟨g,g1,g2,g3⟩:=ih n ys _ (by omega) y2 (fun m hm=>hwt m (by
    simp only[DataW.weights,hu,List.mem_cons,List.mem_append]
    exact .inr (.inl (zel (List.mem_map.2 ⟨_,List.getElem_mem hil,rfl⟩) m hm))))
   exact⟨g,ys,z1,z2,g1,g2,g3⟩
  obtain⟨gs,ys,k1,k2,k3,k4,k5,k6⟩:=zl7 (G:=G) a (P.cellsOf e) hI len hel3
  have hsp0:cap≠0→a.spot=none:=by
   intro hcap
   by_cases hl0:0<len
   ·have hp:0<len*P.cellsOf e:=Nat.mul_pos hl0 hc.1
    have h2:=k6 0 hp
    rw[List.getElem?_eq_getElem (by omega)] at h2
    have:=World.cell?_spot h2
    simpa[Addr.add] using this
   ·have hr:=(hsr (hspa _)).2 0 (by omega)
    have hrl:=(hsr (hspa _)).1
    rw[List.getElem?_eq_getElem (by omega),Option.bind_eq_some_iff] at hr
    obtain⟨zs,y1,_⟩:=hr
    obtain⟨_,z1,z2⟩:=World.cells?_some y1
    have h2:=z2 0 hc.1
    rw[List.getElem?_eq_getElem (by omega)] at h2
    have:=World.cell?_spot h2
    have hl1:len=0:=by omega
    subst hl1
    simpa[Addr.add] using this
  refine⟨[.row gs.length gs.flatten],zao.cons ?_ zao.nil,⟨gs,rfl,by omega,k4⟩,by simp;rfl⟩
  simp only[Den]
  refine⟨some a,cap,ys,by rw[k1],⟨by omega,fun ad h hc0=>by injection h with h;subst h;exact hsp0 hc0⟩,k3,k5,fun j u hj=>?_⟩
  have hjl:=(List.getElem?_eq_some_iff.1 hj).1
  have hlp:len≠0:=by rintro rfl;rw[k2,Nat.zero_mul] at hjl;omega
  have hs:=hsp0 (by omega)
  refine⟨a.block,a.off,by cases a;simp only at hs;subst hs;rfl,hI _ _ _ ?_⟩
  have h2:=k6 j (k2▸hjl)
  rw[add_flat hs] at h2
  rw[h2,hj]
theorem isRV_of {t:TypeId} {fs:List Field} (h:isRV P t fs=true):∃a b c d e,fs=[a,b,c,d]∧(a.offset=0∧b.offset=1∧c.offset=2∧d.offset=3)∧(P.cellsOf t=4∧P.cellsOf a.type=1∧P.cellsOf b.type=1∧P.cellsOf c.type=1∧P.cellsOf d.type=1)∧0<P.bytesOf t ∧
  P.underlying a.type=some (.int .i64)∧P.underlying b.type=some .string∧P.underlying c.type=some (.slice e)∧P.underlying d.type=some (.slice t)∧P.cellsOf e=1∧0<P.bytesOf e∧P.underlying e=some .string:=by
 unfold isRV at h
 split at h
 ·rename_i a b c d
  simp only[Bool.and_eq_true,beq_iff_eq,decide_eq_true_eq] at h
  obtain⟨⟨⟨h1,h2⟩,h3⟩,h4⟩:=h
  split at h4
  ·rename_i e f u1 u2 u3 u4
   simp only[Bool.and_eq_true,beq_iff_eq,decide_eq_true_eq] at h4
   obtain⟨⟨⟨k1,k2⟩,k3⟩,k4⟩:=h4
   subst k1
   split at k4
   ·rename_i u5
    exact⟨a,b,c,d,e,rfl,⟨h1.1.1.1,h1.1.1.2,h1.1.2,h1.2⟩,⟨h2.1.1.1.1,h2.1.1.1.2,h2.1.1.2,h2.1.2,h2.2⟩,h3,u1,u2,u3,u4,k2,k3,u5⟩
   ·cases k4
  ·cases h4
 ·cases h
theorem zo8:∀gs:List (List AV),(∀g∈gs,ShT .s g)→∃ks:List (List UInt8),gs.flatten=ks.map .s∧ks.length=gs.length∧∀k∈ks,k.length≤140737488351232
 | [],_=>⟨[],rfl,rfl,by simp⟩
 | g::gs,h=>by
  obtain⟨ks,h1,h2,h3⟩:=zo8 gs (fun g hg=>h g (List.mem_cons_of_mem _ hg))
  obtain⟨l,hl,hl2⟩:=h g (List.mem_cons_self ..)
  refine⟨l::ks,by rw[List.flatten_cons,hl,h1];rfl,by simp[h2],fun k hk=>?_⟩
  rcases List.mem_cons.1 hk with rfl|hk
  ·exact hl2
  ·exact h3 k hk
theorem zl6:∀gs:List (List AV),(∀g∈gs,ShT .rv g)→∃rs:List RV,gs.flatten=zhd rs∧rs.length=gs.length∧zrM rs
 | [],_=>⟨[],by rw[zhd];rfl,rfl,by rw[zrM];trivial⟩
 | g::gs,h=>by
  obtain⟨rs,h1,h2,h3⟩:=zl6 gs (fun g hg=>h g (List.mem_cons_of_mem _ hg))
  obtain⟨r,hr,hr2⟩:=h g (List.mem_cons_self ..)
  exact⟨r::rs,by rw[List.flatten_cons,hr,h1,zhd],by simp[h2],by rw[zrM];exact⟨hr2,h3⟩⟩
theorem open_rv (hI:∀g o v,w.cell? ⟨g,o,none⟩=some v→I g o v) (hspa:∀b,spare b=true) {t:TypeId} {fs:Array Field} (hu:P.underlying t=some (.struct fs)) (hrv:isRV P t fs.toList=true):∀(m fuel:Nat) (cs:List Value) (x:DataW H×List MemPlace),fuel<m→DataW.trod enc P w base spare held fuel t cs=some x→(∀n∈x.1.weights P t,n≤reachBytes)→∃xs,zao G I xs cs∧ShT .rv xs∧∀u∈cs,u.oneCell'=true:=by
 intro m
 induction m with
 | zero=>intro fuel cs x hm;omega
 | succ m ih=>
  intro fuel cs x hm h hwt
  obtain⟨a,b,c,d,e,hfs,⟨o1,o2,o3,o4⟩,⟨c0,c1,c2,c3,c4⟩,hb,u1,u2,u3,u4,e1,e2,e3⟩:=isRV_of hrv
  obtain⟨xs,n,hfu,rfl,hlen,hxl,hf⟩:=DataW.trod_struct hu h
  have hsz:fs.size=4:=by rw[←Array.length_toList,hfs];rfl
  have gf:∀j,fs[j]? = [a,b,c,d][j]?:=fun j=>by rw[←hfs,Array.getElem?_toList]
  have hall:∀(j:Nat) (f:Field),[a,b,c,d][j]? = some f→∃x,DataW.trod enc P w base spare held n f.type ((cs.drop f.offset).take (P.cellsOf f.type))=some x∧∀m∈x.1.weights P f.type,m≤reachBytes:=by
   intro j f hj
   have h1:=hf j f (by rw[gf];exact hj)
   have hjl:j<xs.length:=by
    rw[hxl,hsz]
    exact(List.getElem?_eq_some_iff.1 hj).1
   rw[List.getElem?_eq_getElem hjl] at h1
   refine⟨_,h1,fun m hm=>hwt m ?_⟩
   have hj2:(fs.toList.map (·.type))[j]? = some f.type:=by rw[List.getElem?_map,hfs,hj];rfl
   have:=DataW.weights_mem_each hj2 (show (xs.map (·.1))[j]? = some xs[j].1 by rw[List.getElem?_map,List.getElem?_eq_getElem hjl];rfl) m hm
   simpa[DataW.weights,hu] using this
  obtain⟨xa,ha,wa⟩:=hall 0 a rfl
  obtain⟨xb,hb',wb⟩:=hall 1 b rfl
  obtain⟨xc,hc',wc⟩:=hall 2 c rfl
  obtain⟨xd,hd',wd⟩:=hall 3 d rfl
  rw[o1,c1] at ha
  rw[o2,c2] at hb'
  rw[o3,c3] at hc'
  rw[o4,c4] at hd'
  rw[c0] at hlen
  obtain⟨v0,v1,v2,v3,rfl⟩:∃v0 v1 v2 v3,cs=[v0,v1,v2,v3]:=by
   match cs,hlen with
   | [v0,v1,v2,v3],_=>exact⟨v0,v1,v2,v3,rfl⟩
  simp only[List.drop_zero,List.drop_succ_cons,List.take_succ_cons,List.take_zero] at ha hb' hc' hd'
  obtain⟨i0,r0,_,w0⟩:=DataW.trod_int u1 ha
  injection r0 with r0 _
  obtain⟨s0,r1,rx1,_⟩:=DataW.trod_string u2 hb'
  injection r1 with r1 _
  subst r0 r1
  obtain⟨ys2,d2,⟨g2,q2,l2,m2⟩,oc2⟩:=zf1 (te:=.s) (G:=G) (I:=I) hI hspa u3 ⟨by omega,e2⟩ (fun n' ys y hn' hy hyw=>by
   obtain⟨s,rfl,rfl,hs⟩:=DataW.trod_string e3 hy
   exact⟨[.s s.data.toList],zao.cons (by simp[Den]) zao.nil,⟨_,rfl,hyw _ (by simp[DataW.weights])⟩,by simp;rfl⟩) hc' wc
  obtain⟨ys3,d3,⟨g3,q3,l3,m3⟩,oc3⟩:=zf1 (te:=.rv) (G:=G) (I:=I) hI hspa u4 ⟨by omega,hb⟩ (fun n' ys y hn' hy hyw=>ih n' ys y (by omega) hy hyw) hd' wd
  subst q2 q3
  obtain⟨ks,k1,k2,k3⟩:=zo8 g2 m2
  obtain⟨rs,j1,j2,j3⟩:=zl6 g3 m3
  refine⟨zif (.mk i0 s0.data.toList ks rs),?_,⟨_,rfl,?_⟩,?_⟩
  ·rw[zif,k2,j2,←k1,←j1]
   exact zao.cons (by simp[Den]) (zao.cons (by simp[Den]) (zao.append d2 d3))
  ·rw[RVok]
   refine⟨w0,?_,by omega,k3,by omega,j3⟩
   subst rx1
   exact wb _ (by simp[DataW.weights])
  ·intro u hu'
   simp only[List.mem_cons,List.not_mem_nil,or_false] at hu'
   rcases hu' with rfl|rfl|rfl|rfl
   ·rfl
   ·rfl
   ·exact oc2 _ (by simp)
   ·exact oc3 _ (by simp)
theorem zpU (hI:∀g o v,w.cell? ⟨g,o,none⟩=some v→I g o v) (hspa:∀b,spare b=true):∀(d:Nat) (t:TypeId) (tt:TT) (fuel:Nat) (cs:List Value) (x:DataW H×List MemPlace),trT P d t=some tt→DataW.trod enc P w base spare held fuel t cs=some x→(∀n∈x.1.weights P t,n≤reachBytes)→∃xs,zao G I xs cs∧ShT tt xs∧∀u∈cs,u.oneCell'=true:=by
 intro d
 induction d with
 | zero=>intro t tt fuel cs x ht;simp[trT] at ht
 | succ d ih=>
  intro t tt fuel cs x ht h hwt
  simp only[trT] at ht
  split at ht
  ·rename_i hu
   injection ht with ht;subst ht
   obtain⟨s,rfl,rfl,hs⟩:=DataW.trod_string hu h
   refine⟨[.s s.data.toList],zao.cons (by simp[Den]) zao.nil,⟨_,rfl,?_⟩,by simp;rfl⟩
   exact hwt _ (by simp[DataW.weights])
  ·rename_i hu
   injection ht with ht;subst ht
   obtain⟨b,rfl,_⟩:=DataW.trod_bool hu h
   exact⟨[.b b],zao.cons (by simp[Den]) zao.nil,⟨_,rfl⟩,by simp;rfl⟩
  ·rename_i k hu
   injection ht with ht;subst ht
   obtain⟨n,rfl,_,hw⟩:=DataW.trod_int hu h
   exact⟨[.i k n],zao.cons (by simp[Den]) zao.nil,⟨_,rfl,hw⟩,by simp;rfl⟩
  ·rename_i fs hu
   split at ht
   ·rename_i hrv
    injection ht with ht;subst ht
    exact open_rv hI hspa hu hrv (fuel+1) fuel cs x (by omega) h hwt
   split at ht
   ·rename_i hc
    cases hts:trTs P (trT P d) 0 fs.toList with
    | none=>rw[hts] at ht;cases ht
    | some ts=>
     rw[hts] at ht;injection ht with ht;subst ht
     obtain⟨xs,n,_,rfl,hlen,hxl,hf⟩:=DataW.trod_struct hu h
     have hall:∀f∈fs.toList,∃x,DataW.trod enc P w base spare held n f.type ((cs.drop f.offset).take (P.cellsOf f.type))=some x∧∀m∈x.1.weights P f.type,m≤reachBytes:=by
      intro f hfm
      obtain⟨j,hj⟩:=List.mem_iff_getElem?.1 hfm
      have h1:=hf j f (by simpa using hj)
      have hjl:j<xs.length:=by
       rw[hxl]
       have:=(List.getElem?_eq_some_iff.1 hj).1
       simpa using this
      rw[List.getElem?_eq_getElem hjl] at h1
      refine⟨_,h1,fun m hm=>hwt m ?_⟩
      have hj2:(fs.toList.map (·.type))[j]? = some f.type:=by rw[List.getElem?_map,hj];rfl
      have:=DataW.weights_mem_each hj2 (show (xs.map (·.1))[j]? = some xs[j].1 by rw[List.getElem?_map,List.getElem?_eq_getElem hjl];rfl) m hm
      simpa[DataW.weights,hu] using this
     obtain⟨ys,k1,k2,k3⟩:=zij d ih n fs.toList ts 0 cs hts (by rw[hlen,hc];omega) hall
     exact⟨ys,by simpa using k1,k2,by simpa using k3⟩
   ·cases ht
  ·rename_i e hu
   split at ht
   ·rename_i hc
    cases hte:trT P d e with
    | none=>rw[hte] at ht;cases ht
    | some te=>
     rw[hte] at ht;injection ht with ht;subst ht
     exact zf1 hI hspa hu hc (fun n ys y _ hy hyw=>ih e te n ys y hte hy hyw) h hwt
   ·cases ht
  ·cases ht
theorem open_arg (hI:∀g o v,w.cell? ⟨g,o,none⟩=some v→I g o v) (hspa:∀b,spare b=true) {r:Reach} {b0:Nat} {t:TypeId} {tt:TT} {v:Value} {dd:DataW H} {ps:List MemPlace} (ht:trT P 20 t=some tt) (hv:Value.okWide P w r b0 t v) (h:DataW.Trod enc P w base spare held t v dd ps) (hwt:∀n∈dd.weights P t,n≤reachBytes):∃x,Den G I x v∧ShA tt x:=by
 obtain⟨fuel,hf⟩:=h
 obtain⟨xs,h1,h2,h3⟩:=zpU hI hspa 20 t tt fuel _ _ ht hf hwt
 have ht':=ht
 unfold trT at ht
 cases tt with
 | st ts=>
  split at ht<;>first|(injection ht with ht;cases ht;done)|skip
  ·rename_i fs hu
   obtain⟨cs,rfl,_⟩:=okWide_struct hu hv
   refine⟨.agg xs,?_,⟨xs,rfl,h2⟩⟩
   simp only[Den]
   exact⟨cs.toList,by simp,h1,h3⟩
  ·split at ht
   ·cases hq:trT P 19 _ with
    | none=>rw[hq] at ht;cases ht
    | some q=>rw[hq] at ht;injection ht with ht;cases ht
   ·cases ht
  ·cases ht
 | rv=>
  split at ht<;>first|(injection ht with ht;cases ht;done)|skip
  ·rename_i fs hu
   obtain⟨cs,rfl,_⟩:=okWide_struct hu hv
   obtain⟨r,rfl,hr⟩:=h2
   refine⟨.agg (zif r),?_,⟨r,rfl,hr⟩⟩
   simp only[Den]
   exact⟨cs.toList,by simp,h1,h3⟩
  ·split at ht
   ·cases hq:trT P 19 _ with
    | none=>rw[hq] at ht;cases ht
    | some q=>rw[hq] at ht;injection ht with ht;cases ht
   ·cases ht
  ·cases ht
 | sl t=>
  split at ht<;>first|(injection ht with ht;cases ht;done)|skip
  ·split at ht
   ·injection ht with ht;cases ht
   split at ht
   ·cases hq:trTs P (trT P 19) 0 _ with
    | none=>rw[hq] at ht;cases ht
    | some q=>rw[hq] at ht;injection ht with ht;cases ht
   ·cases ht
  ·rename_i e hu
   obtain⟨a,len,cap,rfl⟩:=okWide_slice hu hv
   obtain⟨gs,rfl,hl,hg⟩:=h2
   simp only[zao] at h1
   obtain⟨y,ys,e1,k1,k2⟩:=h1
   subst k2
   have e2:[Value.slice a len cap]=[y]:=e1
   injection e2 with e2 _
   subst e2
   exact⟨.row gs.length gs.flatten,k1,⟨gs,rfl,hl,hg⟩⟩
  ·cases ht
 | s=>
  split at ht<;>first|(injection ht with ht;cases ht;done)|skip
  ·rename_i hu
   obtain⟨s,rfl⟩:=okWide_string hu hv
   obtain⟨l,rfl,hl⟩:=h2
   simp only[zao] at h1
   obtain⟨y,ys,e,k1,k2⟩:=h1
   subst k2
   have e2:[Value.string s]=[y]:=e
   injection e2 with e2 _
   subst e2
   exact⟨.s l,k1,⟨l,rfl,hl⟩⟩
  ·split at ht
   ·injection ht with ht;cases ht
   split at ht
   ·cases hq:trTs P (trT P 19) 0 _ with
    | none=>rw[hq] at ht;cases ht
    | some q=>rw[hq] at ht;injection ht with ht;cases ht
   ·cases ht
  ·split at ht
   ·cases hq:trT P 19 _ with
    | none=>rw[hq] at ht;cases ht
    | some q=>rw[hq] at ht;injection ht with ht;cases ht
   ·cases ht
  ·cases ht
 | b=>
  split at ht<;>first|(injection ht with ht;cases ht;done)|skip
  ·rename_i hu
   obtain⟨s,rfl⟩:=okWide_bool hu hv
   obtain⟨l,rfl⟩:=h2
   simp only[zao] at h1
   obtain⟨y,ys,e,k1,k2⟩:=h1
   subst k2
   have e2:[Value.bool s]=[y]:=e
   injection e2 with e2 _
   subst e2
   exact⟨.b l,k1,⟨l,rfl⟩⟩
  ·split at ht
   ·injection ht with ht;cases ht
   split at ht
   ·cases hq:trTs P (trT P 19) 0 _ with
    | none=>rw[hq] at ht;cases ht
    | some q=>rw[hq] at ht;injection ht with ht;cases ht
   ·cases ht
  ·split at ht
   ·cases hq:trT P 19 _ with
    | none=>rw[hq] at ht;cases ht
    | some q=>rw[hq] at ht;injection ht with ht;cases ht
   ·cases ht
  ·cases ht
 | i k=>
  split at ht<;>first|(injection ht with ht;cases ht;done)|skip
  ·rename_i k' hu
   injection ht with ht;injection ht with ht;subst ht
   obtain⟨s,rfl⟩:=okWide_int hu hv
   obtain⟨l,rfl,hl⟩:=h2
   simp only[zao] at h1
   obtain⟨y,ys,e,k1,k2⟩:=h1
   subst k2
   have e2:[Value.int _ s]=[y]:=e
   injection e2 with e2 _
   subst e2
   exact⟨.i _ l,k1,⟨l,rfl,hl⟩⟩
  ·split at ht
   ·injection ht with ht;cases ht
   split at ht
   ·cases hq:trTs P (trT P 19) 0 _ with
    | none=>rw[hq] at ht;cases ht
    | some q=>rw[hq] at ht;injection ht with ht;cases ht
   ·cases ht
  ·split at ht
   ·cases hq:trT P 19 _ with
    | none=>rw[hq] at ht;cases ht
    | some q=>rw[hq] at ht;injection ht with ht;cases ht
   ·cases ht
  ·cases ht
theorem open_args (hI:∀g o v,w.cell? ⟨g,o,none⟩=some v→I g o v) (hspa:∀b,spare b=true) {r:Reach} {b0:Nat}:∀(ts:List TypeId) (tts:List TT) (vs:List Value) (ds:List (DataW H)) (ps:List MemPlace),ts.mapM (trT P 20)=some tts→(∀(j:Nat) t v,ts[j]? = some t→vs[j]? = some v→Value.okWide P w r b0 t v)→DataW.TrodAll enc P w base spare held ts vs ds ps→(∀n∈DataW.weightsEach P ts ds,n≤reachBytes)→∃xs,zao G I xs vs∧ShAs tts xs
 | [],tts,vs,ds,ps,ht,hv,h,hwt=>by
  simp at ht;subst ht
  obtain⟨rfl,_,_⟩:=trodAll_nil h
  exact⟨[],zao.nil,rfl⟩
 | t::ts,tts,vs,ds,ps,ht,hv,h,hwt=>by
  simp only[List.mapM_cons,Option.bind_eq_bind,Option.pure_def] at ht
  cases h1:trT P 20 t with
  | none=>simp[h1] at ht
  | some tt=>
   cases h2:ts.mapM (trT P 20) with
   | none=>simp[h1,h2] at ht
   | some tts'=>
    simp[h1,h2] at ht
    subst ht
    obtain⟨v,vs',d,ds',p,q,rfl,rfl,rfl,k1,k2⟩:=trodAll_cons h
    obtain⟨x,x1,x2⟩:=open_arg (G:=G) (I:=I) hI hspa h1 (hv 0 t v rfl rfl) k1 (fun n hn=>hwt n (by simp only[DataW.weightsEach,List.mem_append];exact .inl hn))
    obtain⟨xs,y1,y2⟩:=open_args hI hspa ts tts' vs' ds' q h2 (fun j t v hj hv'=>hv (j+1) t v (by simpa using hj) (by simpa using hv')) k2 (fun n hn=>hwt n (by simp only[DataW.weightsEach,List.mem_append];exact .inr hn))
    exact⟨x::xs,zao.cons x1 y1,⟨x,xs,rfl,x2,y2⟩⟩
theorem zfm (hl:laidOutB P=true) {W W':World} {sp':Nat→Bool}:∀(ts:List TypeId) (vs:List Value) (ds:List (DataW H)) (ps:List MemPlace),(∀t∈ts,P.readableRec t=true∧t<P.types.size)→DataW.TrodAll enc P W 0 (fun _=>true) true ts vs ds ps→Below W.heap.size W W'→(∀p∈ps,p.block<W.heap.size)→(∀p∈ps,sp' p.block=true)→DataW.TrodAll enc P W' 0 sp' true ts vs ds ps
 | [],vs,ds,ps,hr,h,hb,hlt,hs=>by
  obtain⟨rfl,rfl,rfl⟩:=trodAll_nil h
  exact trodAll_mk0
 | t::ts,vs,ds,ps,hr,h,hb,hlt,hs=>by
  obtain⟨v,vs',d,ds',p,q,rfl,rfl,rfl,k1,k2⟩:=trodAll_cons h
  have h1:=hr t (List.mem_cons_self ..)
  exact trodAll_cons_mk (WideElems.Trod_stays hl h1.1 h1.2 k1 (fun x hx=>hb.same (hlt x (List.mem_append_left _ hx))) (fun x hx=>hs x (List.mem_append_left _ hx)))
   (zfm hl ts vs' ds' q (fun t ht=>hr t (List.mem_cons_of_mem _ ht)) k2 hb (fun x hx=>hlt x (List.mem_append_right _ hx)) (fun x hx=>hs x (List.mem_append_right _ hx)))
end
theorem post_true {H:Type} {enc:TypeId×Value→H} {P:Program} {f:Func} {s:ChangeSpec} {apart fresh handsOn again:Bool} {W W':World} {args:Array Value} {ds gs:List (DataW H)} {before:List MemPlace}
  (hl:laidOutB P=true) (hts:∀t∈f.params.toList,P.readableRec t=true∧t<P.types.size) {tb:TypeId} (hrt:f.resultTypes=#[tb]) (hub:P.underlying tb=some .bool) (hsv:s.vars=[])
  (hW:DataW.Whole enc P f.params.toList s.vars apart W args.toList ds gs before) (hfn:s.fn H (ds++gs)={ results:=[.lit (.bool true)],args:=ds }) (hb:Below W.heap.size W W'):s.post enc P f apart fresh handsOn again W args (.bool true) W':=by
 have hlt:∀p∈before,p.block<W.heap.size:=fun p hp=>hW.lt p hp
 have hold:∀p∈before,(fun b=>decide (b<W.heap.size)) p.block=true:=fun p hp=>by simpa using hlt p hp
 have hW':=hW
 obtain⟨p,q,hA,hV,rfl,hz,hn⟩:=hW'
 rw[hsv] at hV
 have hvars:gs=[]∧q=[]:=by
  cases gs with
  | nil=>exact⟨rfl,hV⟩
  | cons g gs=>exact hV.elim
 obtain⟨rfl,rfl⟩:=hvars
 simp only[List.append_nil] at *
 have hres:∀(b:Nat) (sp:Nat→Bool) (hd:Bool),DataW.TrodAll enc P W' b sp hd f.resultTypes.toList ((Value.bool true).resultList f.resultTypes.size) (s.fn H ds).results []:=by
  intro b sp hd
  rw[hfn,hrt]
  exact trodAll_cons_mk (shut_bool hub _) trodAll_mk0
 have hargs:∀sp:Nat→Bool,(∀x∈p,sp x.block=true)→DataW.TrodAll enc P W' 0 sp true f.params.toList args.toList (s.fn H ds).args p:=by
  intro sp hsp
  rw[hfn]
  exact zfm hl _ _ _ _ hts hA hb hlt hsp
 have hvs:∀sp:Nat→Bool,DataW.TrodVars enc P W' sp s.vars (s.fn H ds).vars []:=by
  intro sp
  rw[hsv,hfn];rfl
 refine⟨ds,[],p,[],p,[],hW,by simpa using hres _ _ _,by simpa using hargs _ hold,by simpa using hvs _,World.keptBut_mono (fun x hx=>⟨hx,?_⟩) (hb.frame (·∈p)),fun _=>?_⟩
 ·exact Or.inr (Or.inl hx)
 ·refine⟨?_,_,_,([]++p)++[],⟨[]++p,[],trodAll_append (by simpa using hargs _ (fun _ _=>rfl)) (by simpa using hres _ _ _),by simpa using hvs _,rfl,?_,?_⟩,?_⟩
  ·intro j t r hj hr
   rw[hrt] at hj hr
   cases j with
   | zero=>
    simp at hj;subst hj
    have:r=.bool true:=by simpa[Value.resultList] using hr.symm
    subst this
    exact okWide_bool_mk hub _
   | succ j=>simp at hj
  ·intro b off hp
   have hin:MemPlace.cell b off∈p:=by simpa using hp
   rw[hb.frozen (hlt _ hin)]
   exact hz b off hin
  ·intro ha
   simpa using hn ha
  ·intro x hx _
   simpa using hx
section
variable {H:Type} {enc:TypeId×Value→H}
end
end Go.Proofs.YtnnipcgblooemaaGreatDoor.Sx
namespace Go.Proofs.YtnnipcgblooemaaGreatDoor
open Sx
theorem sl_wf8 {c:Int} (h:(Lit.int .u8 c).wf=true):∃u:UInt8,c=(u.toNat:Int):=by
 have h':0≤c∧c≤255:=by simpa[Lit.wf,IntKind.min,IntKind.max,IntKind.signed,IntKind.bits] using h
 exact⟨UInt8.ofNat c.toNat,by rw[UInt8.toNat_ofNat'];omega⟩
theorem sl_u8:∀{gs:List (List AV)},(∀g∈gs,ShT (.i .u8) g)→∃l:List UInt8,gs.flatten=byA l∧gs.length=l.length
 | [],_=>⟨[],rfl,rfl⟩
 | g::gs,h=>by
  obtain⟨l,h1,h2⟩:=sl_u8 (fun x hx=>h x (List.mem_cons_of_mem _ hx))
  obtain⟨n,rfl,hw⟩:=h g (List.mem_cons_self ..)
  obtain⟨c,rfl⟩:=sl_wf8 hw
  exact⟨c::l,by rw[List.flatten_cons,h1];rfl,by rw[List.length_cons,List.length_cons,h2]⟩
theorem sl_str:∀{gs:List (List AV)},(∀g∈gs,ShT .s g)→∃l:List (List UInt8),gs.flatten=l.map .s∧gs.length=l.length∧∀x∈l,x.length≤140737488351232
 | [],_=>⟨[],rfl,rfl,by simp⟩
 | g::gs,h=>by
  obtain⟨l,h1,h2,h3⟩:=sl_str (fun x hx=>h x (List.mem_cons_of_mem _ hx))
  obtain⟨x,rfl,hw⟩:=h g (List.mem_cons_self ..)
  refine⟨x::l,by rw[List.flatten_cons,h1];rfl,by rw[List.length_cons,List.length_cons,h2],fun y hy=>?_⟩
  rcases List.mem_cons.1 hy with rfl|hy
  ·exact hw
  ·exact h3 y hy
end Go.Proofs.YtnnipcgblooemaaGreatDoor
namespace Go.Proofs.YtnnipcgblooemaaGreatDoor.Sx
open Go.RowKit
theorem zjt {k:IntKind} {r:Int} {K K':Int→Prop} (hk:∀v,K v→K' v) (h:arK k r K):arK k r K':=by
 cases k
 all_goals first|exact hk _ h|exact⟨h.1,hk _ h.2⟩
theorem zrA {op:BinOp} {x y:AV} {K K':AV→Prop} (hk:∀v,K v→K' v) (h:binK op x y K):binK op x y K':=by
 unfold binK at h ⊢
 split at h
 ·refine⟨h.1,?_⟩
  replace h:=h.2
  cases op
  all_goals first
   | exact h.elim
   | exact zjt (fun _ g=>hk _ g) h
   | exact⟨h.1,zjt (fun _ g=>hk _ g) h.2⟩
   | exact⟨h.1,hk _ h.2⟩
   | exact hk _ h
 all_goals
  revert h
  cases op
  all_goals first
   | exact fun h=>h.elim
   | exact fun h=>⟨h.1,hk _ h.2⟩
   | exact fun h=>hk _ h
section
variable {P:Program} [Tabs P] {C:Cx}
theorem zgE {so:SOp} {objs:List OB} {tm:List AV} {K K':List OB→AV→Prop} (hk:∀o v,K o v→K' o v) (h:wpS P so objs tm K):wpS P so objs tm K':=by
 cases so
 all_goals simp only[wpS] at h ⊢
 all_goals try exact hk _ _ h
 all_goals try exact⟨h.1,hk _ _ h.2⟩
 all_goals try exact zrA (fun _ g=>hk _ _ g) h
 all_goals try exact h.mono hk
 all_goals try exact⟨h.1,h.2.mono fun _ _ g=>⟨g.1,hk _ _ g.2⟩⟩
 all_goals
  revert h
  repeat' split
  all_goals first
   | exact fun h=>h.elim
   | exact fun h=>hk _ _ h
   | exact fun h=>⟨h.1,hk _ _ h.2⟩
   | exact fun h=>zjt (fun _ g=>hk _ _ g) h
   | exact fun h=>⟨fun e=>hk _ _ (h.1 e),fun e=>hk _ _ (h.2 e)⟩
   | exact fun ⟨v,h1,h2⟩=>⟨v,h1,hk _ _ h2⟩
   | exact fun ⟨h0,l,h1,h2⟩=>⟨h0,l,h1,hk _ _ h2⟩
   | exact fun h=>⟨h.1,h.2.mono hk⟩
theorem zeG:∀{l:List SO} {objs:List OB} {tm:List AV} {K K':List OB→List AV→Prop},(∀o t,K o t→K' o t)→wpR P l objs tm K→wpR P l objs tm K'
 | [],_,_,_,_,hk,h=>hk _ _ h
 | ⟨dst,op,none⟩::r,_,_,_,_,hk,h=>zgE (fun _ _ g=>zeG hk g) h
 | ⟨dst,op,some (t,want)⟩::r,objs,tm,K,K',hk,h=>by
  simp only[wpR] at h ⊢
  revert h
  split
  ·exact fun h=>⟨fun e=>zgE (fun _ _ g=>zeG hk g) (h.1 e),fun e=>zeG hk (h.2 e)⟩
  ·exact fun h=>zeG hk h
  ·exact fun h=>h.elim
theorem zd0:∀{l:List SO} {objs:List OB} {tm:List AV} {K K':List OB→List AV→Prop},(∀o t,K o t→K' o t)→wpD P l objs tm K→wpD P l objs tm K'
 | [],_,_,_,_,hk,h=>hk _ _ h
 | ⟨dst,op,none⟩::r,_,_,_,_,hk,h=>by
  simp only[wpD] at h ⊢
  revert h
  split
  ·exact fun ⟨v,h1,h2⟩=>⟨v,h1,zd0 hk h2⟩
  ·exact fun h=>zgE (fun _ _ g=>zd0 hk g) h
 | ⟨dst,op,some (t,want)⟩::r,objs,tm,K,K',hk,h=>by
  simp only[wpD] at h ⊢
  revert h
  split
  ·refine fun h=>⟨fun e=>?_,fun e=>zd0 hk (h.2 e)⟩
   have h1:=h.1 e
   revert h1
   split
   ·exact fun ⟨v,h1,h2⟩=>⟨v,h1,zd0 hk h2⟩
   ·exact fun h=>zgE (fun _ _ g=>zd0 hk g) h
  ·exact fun h=>zd0 hk h
  ·exact fun h=>h.elim
theorem znQ {N N':List OB→List AV→Prop} {K K':zbu} (hn:∀o t,N o t→N' o t) (hk:∀e o t,K e o t→K' e o t):∀e o t,zgz N K e o t→zgz N' K' e o t:=by
 intro e o t h
 cases e<;>first|exact hn _ _ h|exact hk _ _ _ h
theorem zrz {id:Nat} {K K':zbu} (hk:∀e o t,K e o t→K' e o t):∀e o t,blkK id K e o t→blkK id K' e o t:=by
 intro e o t h
 cases e
 all_goals try exact hk _ _ _ h
 rename_i i
 unfold blkK at h ⊢
 simp only at h ⊢
 split at h
 ·rename_i g;rw[if_pos g];exact hk _ _ _ h
 ·rename_i g;rw[if_neg g];exact hk _ _ _ h
theorem zeH:∀(c:SCode) {K K':zbu} {objs:List OB} {tm:List AV},(∀e o t,K e o t→K' e o t)→wpC P C c K objs tm→wpC P C c K' objs tm
 | .skip,_,_,_,_,hk,h=>hk _ _ _ h
 | .reg l,_,_,_,_,hk,h=>zeG (fun _ _ g=>hk _ _ _ g) h
 | .drw l k ap,_,_,_,_,hk,h=>zd0 (fun _ _ g=>⟨g.1,zeG (fun _ _ g=>hk _ _ _ g) g.2⟩) h
 | .seq x y,_,_,_,_,hk,h=>zeH x (znQ (fun _ _ g=>zeH y hk g) hk) h
 | .cond c x y,_,_,_,_,hk,h=>by
  simp only[wpC] at h ⊢
  revert h
  split
  ·exact fun h=>⟨fun e=>zeH x hk (h.1 e),fun e=>zeH y hk (h.2 e)⟩
  ·exact fun h=>h.elim
 | .blk id c,_,_,_,_,hk,h=>zeH c (zrz hk) h
 | .loop c,_,_,_,_,hk,h=>fun c hc=>WP.mono (fun e o t g=>by cases e<;>first|exact hk _ _ _ g|exact g) (h c hc)
 | .exit id,_,_,_,_,hk,h=>hk _ _ _ h
 | .ret,_,_,_,_,hk,h=>hk _ _ _ h
 | .dead,_,_,_,_,hk,h=>h.elim
def cutF (P:Program) [Tabs P] (C:Cx) (J:List OB→List AV→Prop) (k:List IT) (F:zbu):zbu:=zgz J (znw P C F k)
variable {F:zbu} {k:List IT} {objs:List OB} {tm:List AV}
theorem zaz (J:List OB→List AV→Prop):cutF P C J k F .normal objs tm=J objs tm:=Eq.trans rfl rfl
theorem zgk {x:SCode} (J:List OB→List AV→Prop) (h:run P C [.code x] objs tm (cutF P C J k F)) (hJ:∀o t,J o t→run P C k o t F):run P C (.code x::k) objs tm F :=
 zeH x (fun e o t g=>by
  cases e
  ·exact hJ _ _ g
  all_goals exact g) h
end
end Go.Proofs.YtnnipcgblooemaaGreatDoor.Sx
namespace Go.Proofs.YtnnipcgblooemaaGreatDoor.Sx
open Go.RowKit
section
variable {P:Program} [Tabs P] {C:Cx} {F:zbu} {k:List IT} {objs:List OB} {tm:List AV}
theorem zae {x y:SCode} (h:∀Y,Y=y→run P C (.code x::.code Y::k) objs tm F):run P C (.code (.seq x y)::k) objs tm F:=h y rfl
end
end Go.Proofs.YtnnipcgblooemaaGreatDoor.Sx
namespace Go.Proofs.YtnnipcgblooemaaGreatDoor
open Go.RowKit Sx
section
attribute [local irreducible] run
structure PrP where
 name:List UInt8
 val:List UInt8
 nul:Bool
structure LkP where
 rel:List UInt8
 typ:List UInt8
 href:List UInt8
 tmp:List UInt8
 tit:List PrP
 pro:List PrP
def zcT (l:List PrP):List AV:=l.flatMap fun p=>[.s p.name,.s p.val,.b p.nul]
def lkc (x:LkP):List AV:=[.s x.rel,.s x.typ,.s x.href,.s x.tmp,.row x.tit.length (zcT x.tit),.row x.pro.length (zcT x.pro)]
def zdk (l:List LkP):List AV:=l.flatMap lkc
theorem zmp:∀l:List PrP,(zcT l).length=l.length*3
 | []=>rfl
 | p::l=>by
  have:=zmp l
  unfold zcT at this ⊢
  rw[List.flatMap_cons,List.length_append,this,List.length_cons]
  simp only[List.length_cons,List.length_nil];omega
theorem zdA:∀l:List LkP,(zdk l).length=l.length*6
 | []=>rfl
 | p::l=>by
  have:=zdA l
  unfold zdk lkc at this ⊢
  rw[List.flatMap_cons,List.length_append,this,List.length_cons]
  simp only[List.length_cons,List.length_nil];omega
theorem zmD (a b:List LkP):zdk (a++b)=zdk a++zdk b:=by unfold zdk;rw[List.flatMap_append]
theorem zd6:∀l:List PrP,zaK (zcT l)=true
 | []=>rfl
 | p::l=>by
  have:=zd6 l
  unfold zcT at this ⊢
  rw[List.flatMap_cons]
  simpa only[List.cons_append,List.nil_append,zaK,AV.plain,Bool.true_and] using this
theorem zf5:∀l:List LkP,zaK (zdk l)=true
 | []=>rfl
 | p::l=>by
  have:=zf5 l
  unfold zdk lkc at this ⊢
  rw[List.flatMap_cons]
  simpa only[List.cons_append,List.nil_append,zaK,AV.plain,Bool.true_and,zd6] using this
theorem zof:∀{l:List LkP} {i:Nat} (hi:i<l.length),((zdk l).drop (i*6)).take 6=lkc l[i]
 | x::l,0,hi=>by
  rw[Nat.zero_mul,List.drop_zero]
  unfold zdk
  rw[List.flatMap_cons];rfl
 | x::l,i+1,hi=>by
  have h:=zof (l:=l) (i:=i) (by simpa using hi)
  rw[List.getElem_cons_succ,←h]
  have e:(zdk (x::l)).drop ((i+1)*6)=(zdk l).drop (i*6):=by
   unfold zdk
   rw[List.flatMap_cons,List.drop_append,List.drop_of_length_le (by unfold lkc;simp only[List.length_cons,List.length_nil];omega)]
   have:(i+1)*6 - (lkc x).length=i*6:=by unfold lkc;simp only[List.length_cons,List.length_nil];omega
   rw[this,List.nil_append]
  rw[e]
def LkOk (x:LkP):Prop:=x.rel.length≤140737488351232∧x.typ.length≤140737488351232∧x.href.length≤140737488351232∧x.tmp.length≤140737488351232∧x.tit.length≤140737488351232∧x.pro.length≤140737488351232
theorem ziN:∀{gs:List (List AV)},(∀g∈gs,ShT (.st [.s,.s,.b]) g)→∃l:List PrP,gs.flatten=zcT l∧gs.length=l.length
 | [],_=>⟨[],rfl,rfl⟩
 | g::gs,h=>by
  obtain⟨l,h1,h2⟩:=ziN (fun x hx=>h x (List.mem_cons_of_mem _ hx))
  obtain⟨_,_,rfl,⟨a,rfl,ha⟩,_,_,rfl,⟨b,rfl,hb⟩,_,_,rfl,⟨c,rfl⟩,rfl⟩:=h g (List.mem_cons_self ..)
  exact⟨⟨a,b,c⟩::l,by rw[List.flatten_cons,h1];rfl,by rw[List.length_cons,List.length_cons,h2]⟩
theorem zo0:∀{gs:List (List AV)},(∀g∈gs,ShT (.st [.s,.s,.s,.s,.sl (.st [.s,.s,.b]),.sl (.st [.s,.s,.b])]) g)→∃l:List LkP,gs.flatten=zdk l∧gs.length=l.length∧∀x∈l,LkOk x
 | [],_=>⟨[],rfl,rfl,by simp⟩
 | g::gs,h=>by
  obtain⟨l,h1,h2,h3⟩:=zo0 (fun x hx=>h x (List.mem_cons_of_mem _ hx))
  obtain⟨_,_,rfl,⟨a,rfl,ha⟩,_,_,rfl,⟨b,rfl,hb⟩,_,_,rfl,⟨c,rfl,hc⟩,_,_,rfl,⟨d,rfl,hd⟩,_,_,rfl,⟨t,rfl,ht,ht2⟩,_,_,rfl,⟨p,rfl,hp,hp2⟩,rfl⟩:=h g (List.mem_cons_self ..)
  obtain⟨t',e1,e2⟩:=ziN ht2
  obtain⟨p',e3,e4⟩:=ziN hp2
  refine⟨⟨a,b,c,d,t',p'⟩::l,?_,by rw[List.length_cons,List.length_cons,h2],fun y hy=>?_⟩
  ·rw[List.flatten_cons,h1,e1,e2,e3,e4];rfl
  ·rcases List.mem_cons.1 hy with rfl|hy
   ·exact⟨ha,hb,hc,hd,by show t'.length≤_;omega,by show p'.length≤_;omega⟩
   ·exact h3 y hy
def zb5 (rel:List UInt8) (l:List LkP):List LkP:=l.filter fun x=>decide (x.rel=rel)
theorem ziv {rel:List UInt8} {l:List LkP} {i:Nat} (hi:i<l.length):zb5 rel (l.take (i+1))=if l[i].rel=rel then zb5 rel (l.take i)++[l[i]] else zb5 rel (l.take i):=by
 unfold zb5
 rw[List.take_add_one,List.getElem?_eq_getElem hi,List.filter_append]
 by_cases c:l[i].rel=rel
 ·rw[if_pos c];simp[c]
 ·rw[if_neg c];simp[c]
def zdS (links:List LkP) (subj:List UInt8) (al:List (List UInt8)):List (List UInt8):=(zb5 [115,101,108,102] links).map (·.href)++[subj]++al
end
end Go.Proofs.YtnnipcgblooemaaGreatDoor
namespace Go.Proofs.YtnnipcgblooemaaGreatDoor
open Nat renaming reduceAdd → z6, reduceSub → z7, reduceLeDiff → z8, reduceLT → j6, reduceMul → j7, reduceEqDiff → j8
open Int renaming reduceToNat → j9, reduceAdd → x0, reduceSub → x5, reduceMul → x6, reduceNeg → x7, reduceLT → x8, reduceLE → x9, reduceEq → y3, reduceNe → y4
open Go.RowKit Sx
section
attribute [local irreducible] run
theorem zoa {P:Program} [Tabs P] {f:FuncId} {objs:List OB} {K:List OB→AV→Prop} (h:∀b,zad P f [.zn b] objs K):zad P f [.row 0 []] objs K:=by
 intro C _ G I w hin hm ys hd
 have hd':=hd
 simp only[zao,Den] at hd'
 obtain⟨y,l,rfl,⟨a,c,cells,rfl,hq,hc⟩,hl⟩:=hd'
 refine h a.isNone C G I w hin hm _ ?_
 simp only[zao,Den]
 exact⟨_,_,rfl,⟨a,c,by simp,rfl,by simpa using hq.2⟩,hl⟩
theorem zeq {G:Gh} {I:Imm} {y:Value} (h:Den G I .nil y):Den G I (.row 0 []) y:=by
 simp only[zao,Den] at h ⊢
 exact⟨none,0,[],h,⟨Nat.le_refl _,fun ad h=>by cases h⟩,rfl,by simp,by simp⟩
theorem zp5 {P:Program} [Tabs P] {f:FuncId} {args:List AV} {objs:List OB} {K:List OB→AV→Prop} (r':AV) (hc:zad P f args objs (fun o r=>(∀G I y,Den G I r y→Den G I r' y)∧K o r')):zad P f args objs K:=by
 intro C _ G I w hin hm ys hd
 refine(hc C G I w hin hm ys hd).mono ?_
 rintro e w' ⟨y,objs',r,G',I',he,⟨hr,hk⟩,h1,h2,h3,h4,hy⟩
 exact⟨y,objs',r',G',I',he,hk,h1,h2,h3,h4,hr _ _ _ hy⟩
theorem zpC:∀(l:List PrP) (o:List OB) (d:Nat),zhg o (d+1) (zcT l)=some (zcT l)
 | [],o,d=>by unfold zcT;simp only[List.flatMap_nil,zhg]
 | p::l,o,d=>by
  have:=zpC l o d
  unfold zcT at this ⊢
  rw[List.flatMap_cons]
  simp only[List.cons_append,List.nil_append,zhg,pub,AV.plain,if_true,this]
theorem zlg:∀(l:List LkP) (o:List OB) (d:Nat),zhg o (d+1) (zdk l)=some (zdk l)
 | [],o,d=>by unfold zdk;simp only[List.flatMap_nil,zhg]
 | p::l,o,d=>by
  have:=zlg l o d
  have e:zdk (p::l)=.s p.rel::.s p.typ::.s p.href::.s p.tmp::.row p.tit.length (zcT p.tit)::.row p.pro.length (zcT p.pro)::zdk l:=rfl
  rw[e]
  simp only[zhg,pub,AV.plain,zd6,if_true,this]
section
variable [Tabs Tryz.prog] {objs:List OB} {K:List OB→AV→Prop}
theorem znx (l:List PrP) (hl:l.length≤1099511627776) (hk:K objs (.row l.length (zcT l))):zad Tryz.prog 38 [.row l.length (zcT l)] objs K:=by
 cases l with
 | nil=>
  refine zoa fun b=>?_
  refine zp5 (.row 0 []) ?_
  refine zaU is_slices_Clone__api_Property_api_Property rfl fun C _=>?_
  rw[c_slices_Clone__api_Property_api_Property]
  cases b with
  | true=>
   simp only[sxZ,z6,z7,z8,j6,j7,j8,j9,x0,x5,x6,x7,x8,x9,y3,y4,reduceCtorEq,↓reduceIte,Bool.false_eq_true]
   exact⟨fun G I y hy=>zeq hy,hk⟩
  | false=>
   simp only[sxZ,z6,z7,z8,j6,j7,j8,j9,x0,x5,x6,x7,x8,x9,y3,y4,reduceCtorEq,↓reduceIte,Bool.false_eq_true]
   exact⟨by decide,fun G I y hy=>hy,hk⟩
 | cons k l=>
  have hl3:=zmp (k::l)
  have hp:=fun o d=>zpC (k::l) o d
  have e:zcT (k::l)=.s k.name::(.s k.val::.b k.nul::zcT l):=rfl
  generalize hX:(.s k.val::.b k.nul::zcT l:List AV)=X at e
  have hpl:=zd6 (k::l)
  rw[e] at hl3 hp hk hpl ⊢
  generalize hn:(k::l).length=n at hl hl3 hk ⊢
  have hn0:n≠0:=by rw[←hn];simp
  refine zaU is_slices_Clone__api_Property_api_Property (by simp only[zaK,AV.plain] at hpl ⊢;simpa using hpl) fun C _=>?_
  rw[c_slices_Clone__api_Property_api_Property]
  simp only[sxZ,z6,z7,z8,j6,j7,j8,j9,x0,x5,x6,x7,x8,x9,y3,y4,reduceCtorEq,↓reduceIte,hp]
  refine⟨by omega,⟨by simp only[List.length_cons] at hl3 ⊢;omega,by omega,by omega⟩,?_⟩
  rw[Nat.zero_add]
  exact hk
end
def zi8 (subj:List UInt8) (al:List (List UInt8)) (pr:List PrP) (lk:List LkP):AV:=.agg [.s subj,.row al.length (al.map .s),.row pr.length (zcT pr),.row lk.length (zdk lk)]
theorem zdy:∀l:List (List UInt8),zaK (l.map AV.s)=true
 | []=>rfl
 | _::l=>zdy l
theorem jr_pl (subj:List UInt8) (al:List (List UInt8)) (pr:List PrP) (lk:List LkP) (rel:List UInt8):zaK [zi8 subj al pr lk,.s rel]=true:=by
 unfold zi8
 simp only[zaK,AV.plain,zdy,zd6,zf5,Bool.and_self]
def RowA (l:List LkP) (o:List OB) (X:AV):Prop:=(l=[]∧X=.nil)∨∃r g,X=.orow r g∧o[r]? = some (.orow 46 6 g l.length (zdk l))
theorem RowA.mono {l:List LkP} {o:List OB} {X:AV} (h:RowA l o X) (z:OB):RowA l (o++[z]) X:=by
 rcases h with h|⟨r,g,h1,h2⟩
 ·exact .inl h
 ·exact .inr ⟨r,g,h1,by rw[List.getElem?_append_left (List.getElem?_eq_some_iff.1 h2).1];exact h2⟩
section
variable [Tabs Tryz.prog] {objs:List OB} {K:List OB→AV→Prop}
theorem zpz (subj:List UInt8) (al:List (List UInt8)) (pr:List PrP) (lk:List LkP) (rel:List UInt8) (hl:lk.length≤1000000) (hcl:∀x∈lk,x.tit.length≤1000∧x.pro.length≤1000) (hk:K objs (.row (zb5 rel lk).length (zdk (zb5 rel lk)))):zad Tryz.prog 19 [zi8 subj al pr lk,.s rel] objs K:=by
 refine zp5 (.row (zb5 rel lk).length (zdk (zb5 rel lk))) ?_
 refine zaU is_ref16_Find (jr_pl _ _ _ _ _) fun C _=>?_
 rw[c_ref16_Find]
 unfold zi8
 have hlen6:=zdA lk
 refine zae fun Z hZ=>?_
 simp only[sxZ,z6,z7,z8,j6,j7,j8,j9,x0,x5,x6,x7,x8,x9,y3,y4,reduceCtorEq,↓reduceIte]
 subst hZ
 refine zae fun Z hZ=>?_
 simp only[sxZ,z6,z7,z8,j6,j7,j8,j9,x0,x5,x6,x7,x8,x9,y3,y4,reduceCtorEq,↓reduceIte]
 subst hZ
 refine zae fun Z hZ=>?_
 refine zae fun W hW=>?_
 simp only[sxZ,z6,z7,z8,j6,j7,j8,j9,x0,x5,x6,x7,x8,x9,y3,y4,reduceCtorEq,↓reduceIte]
 subst hW
 rw[zbY]
 refine zbg (fun m o tm=>∃(i:Nat),i≤lk.length∧m=lk.length - i∧1≤o.length∧RowA (zb5 rel (lk.take i)) o (tm[5]?.getD .u)∧tm.length=25∧tm[1]? = some (.s rel)∧tm[9]? = some (.row lk.length (zdk lk))∧tm[10]? = some (.i .i64 (lk.length:Int))∧tm[11]? = some (.i .i64 (i:Int))) lk.length ⟨0,Nat.zero_le _,rfl,by simp,.inl ⟨rfl,rfl⟩,rfl,rfl,rfl,rfl,rfl⟩ ?_
 rintro m o tm ⟨i,hi,rfl,ho,hA,hlen,t1,t9,t10,t11⟩
 obtain⟨a5,t5⟩:∃a,tm[5]? = some a:=⟨_,List.getElem?_eq_getElem (by omega)⟩
 rw[t5,Option.getD_some] at hA
 refine zae fun W hW=>?_
 by_cases hlt:(i:Int)<(lk.length:Int)
 ·have hi':i<lk.length:=by omega
  have hjc:=zof hi'
  have hft:=ziv (rel:=rel) hi'
  have hcl':=hcl lk[i] (List.getElem_mem hi')
  generalize lk[i]=x at hjc hft hcl'
  unfold lkc at hjc
  simp only[sxZ,z6,z7,z8,j6,j7,j8,j9,x0,x5,x6,x7,x8,x9,y3,y4,reduceCtorEq,↓reduceIte,List.getElem?_set,hlen,t9,t10,t11,hlt]
  subst hW
  refine zae fun W hW=>?_
  simp only[sxZ,z6,z7,z8,j6,j7,j8,j9,x0,x5,x6,x7,x8,x9,y3,y4,reduceCtorEq,↓reduceIte,List.getElem?_set,hlen]
  subst hW
  refine zae fun V hV=>?_
  rw[zbY]
  refine zae fun W hW=>?_
  simp only[sxZ,z6,z7,z8,j6,j7,j8,j9,x0,x5,x6,x7,x8,x9,y3,y4,reduceCtorEq,↓reduceIte,List.getElem?_set,hlen,t9,t11,hjc]
  refine⟨⟨by omega,by omega,by omega⟩,by omega,?_⟩
  simp only[sxZ,z6,z7,z8,j6,j7,j8,j9,x0,x5,x6,x7,x8,x9,y3,y4,reduceCtorEq,↓reduceIte,List.getElem?_set,hlen,gn1,sn1]
  subst hW
  refine zae fun W hW=>?_
  simp only[sxZ,z6,z7,z8,j6,j7,j8,j9,x0,x5,x6,x7,x8,x9,y3,y4,reduceCtorEq,↓reduceIte,List.getElem?_set,hlen,t1,gn1]
  subst hW
  by_cases c:x.rel=rel
  ·rw[if_pos c] at hft
   simp only[sxZ,z6,z7,z8,j6,j7,j8,j9,x0,x5,x6,x7,x8,x9,y3,y4,reduceCtorEq,↓reduceIte,List.getElem?_set,hlen,c,gn1]
   rcases hA with ⟨h0,rfl⟩|⟨r,g,rfl,hr⟩
   ·simp only[sxZ,z6,z7,z8,j6,j7,j8,j9,x0,x5,x6,x7,x8,x9,y3,y4,reduceCtorEq,↓reduceIte,List.getElem?_set,hlen,t5,gn1]
    subst hV
    simp only[sxZ,z6,z7,z8,j6,j7,j8,j9,x0,x5,x6,x7,x8,x9,y3,y4,reduceCtorEq,↓reduceIte,List.getElem?_set,hlen,t1,t5,t9,t10,t11]
    refine⟨by omega,lk.length - (i+1),by omega,i+1,by omega,rfl,?_⟩
    rw[hft,h0]
    exact⟨.inr ⟨_,0,rfl,by rw[List.getElem?_append_right (by simp)];simp[zdk,lkc,c]⟩,rfl⟩
   ·have hrl:=(List.getElem?_eq_some_iff.1 hr).1
    have hlf:=zdA (zb5 rel (lk.take i))
    have hff:(zb5 rel (lk.take i)).length≤i:=by
     have:=List.length_filter_le (fun x:LkP=>decide (x.rel=rel)) (lk.take i)
     rw[List.length_take] at this
     unfold zb5;omega
    have h1:∀z,(o++[z])[r]? = some (.orow 46 6 g (zb5 rel (lk.take i)).length (zdk (zb5 rel (lk.take i)))):=fun z=>by rw[List.getElem?_append_left hrl];exact hr
    simp only[sxZ,z6,z7,z8,j6,j7,j8,j9,x0,x5,x6,x7,x8,x9,y3,y4,reduceCtorEq,↓reduceIte,List.getElem?_set,hlen,t5,gn1,h1]
    refine⟨⟨by omega,by omega⟩,?_⟩
    subst hV
    simp only[sxZ,z6,z7,z8,j6,j7,j8,j9,x0,x5,x6,x7,x8,x9,y3,y4,reduceCtorEq,↓reduceIte,List.getElem?_set,hlen,t1,t5,t9,t10,t11]
    refine⟨by omega,lk.length - (i+1),by omega,i+1,by omega,rfl,?_⟩
    rw[hft]
    refine⟨.inr ⟨r,g+1,rfl,?_⟩,rfl⟩
    rw[List.getElem?_set_self (by simp;omega),zmD,List.length_append]
    simp[zdk,lkc,c]
  ·rw[if_neg c] at hft
   simp only[sxZ,z6,z7,z8,j6,j7,j8,j9,x0,x5,x6,x7,x8,x9,y3,y4,reduceCtorEq,↓reduceIte,List.getElem?_set,hlen,c]
   subst hV
   simp only[sxZ,z6,z7,z8,j6,j7,j8,j9,x0,x5,x6,x7,x8,x9,y3,y4,reduceCtorEq,↓reduceIte,List.getElem?_set,hlen,t1,t5,t9,t10,t11]
   refine⟨by omega,lk.length - (i+1),by omega,i+1,by omega,rfl,?_⟩
   rw[hft]
   exact⟨hA.mono _,rfl⟩
 have hn:i=lk.length:=by omega
 rw[hn,List.take_of_length_le (Nat.le_refl _)] at hA
 simp only[sxZ,z6,z7,z8,j6,j7,j8,j9,x0,x5,x6,x7,x8,x9,y3,y4,reduceCtorEq,↓reduceIte,List.getElem?_set,hlen,t9,t10,t11,hlt]
 subst hW
 simp only[sxZ,z6,z7,z8,j6,j7,j8,j9,x0,x5,x6,x7,x8,x9,y3,y4,reduceCtorEq,↓reduceIte,List.getElem?_set,hlen]
 subst hZ
 rcases hA with ⟨h0,rfl⟩|⟨r,g,rfl,hr⟩
 ·simp only[sxZ,z6,z7,z8,j6,j7,j8,j9,x0,x5,x6,x7,x8,x9,y3,y4,reduceCtorEq,↓reduceIte,List.getElem?_set,hlen,t5]
  rw[h0] at hk ⊢
  exact⟨fun G I y hy=>zeq hy,hk⟩
 ·simp only[sxZ,z6,z7,z8,j6,j7,j8,j9,x0,x5,x6,x7,x8,x9,y3,y4,reduceCtorEq,↓reduceIte,List.getElem?_set,hlen,t5,hr,zlg]
  exact⟨fun G I y hy=>hy,hk⟩
theorem jFind_k (subj:List UInt8) (al:List (List UInt8)) (pr:List PrP) (lk:List LkP) (rel:List UInt8) (hl:lk.length≤1000000) (hcl:∀x∈lk,x.tit.length≤1000∧x.pro.length≤1000) (hk:K objs (.row (zb5 rel lk).length (zdk (zb5 rel lk)))):zad Tryz.prog 17 [zi8 subj al pr lk,.s rel] objs K:=by
 refine zp5 (.row (zb5 rel lk).length (zdk (zb5 rel lk))) ?_
 refine zaU is_jrd_Find (jr_pl _ _ _ _ _) fun C _=>?_
 rw[c_jrd_Find]
 unfold zi8
 have hlen6:=zdA lk
 refine zae fun Z hZ=>?_
 simp only[sxZ,z6,z7,z8,j6,j7,j8,j9,x0,x5,x6,x7,x8,x9,y3,y4,reduceCtorEq,↓reduceIte]
 subst hZ
 refine zae fun Z hZ=>?_
 simp only[sxZ,z6,z7,z8,j6,j7,j8,j9,x0,x5,x6,x7,x8,x9,y3,y4,reduceCtorEq,↓reduceIte]
 subst hZ
 refine zae fun Z hZ=>?_
 refine zae fun W hW=>?_
 simp only[sxZ,z6,z7,z8,j6,j7,j8,j9,x0,x5,x6,x7,x8,x9,y3,y4,reduceCtorEq,↓reduceIte]
 subst hW
 rw[zbY]
 refine zbg (fun m o tm=>∃(i:Nat),i≤lk.length∧m=lk.length - i∧1≤o.length∧RowA (zb5 rel (lk.take i)) o (tm[5]?.getD .u)∧tm.length=33∧tm[1]? = some (.s rel)∧tm[9]? = some (.row lk.length (zdk lk))∧tm[10]? = some (.i .i64 (lk.length:Int))∧tm[11]? = some (.i .i64 (i:Int))) lk.length ⟨0,Nat.zero_le _,rfl,by simp,.inl ⟨rfl,rfl⟩,rfl,rfl,rfl,rfl,rfl⟩ ?_
 rintro m o tm ⟨i,hi,rfl,ho,hA,hlen,t1,t9,t10,t11⟩
 obtain⟨a5,t5⟩:∃a,tm[5]? = some a:=⟨_,List.getElem?_eq_getElem (by omega)⟩
 rw[t5,Option.getD_some] at hA
 refine zae fun W hW=>?_
 by_cases hlt:(i:Int)<(lk.length:Int)
 ·have hi':i<lk.length:=by omega
  have hjc:=zof hi'
  have hft:=ziv (rel:=rel) hi'
  have hcl':=hcl lk[i] (List.getElem_mem hi')
  generalize lk[i]=x at hjc hft hcl'
  unfold lkc at hjc
  simp only[sxZ,z6,z7,z8,j6,j7,j8,j9,x0,x5,x6,x7,x8,x9,y3,y4,reduceCtorEq,↓reduceIte,List.getElem?_set,hlen,t9,t10,t11,hlt]
  subst hW
  refine zae fun W hW=>?_
  simp only[sxZ,z6,z7,z8,j6,j7,j8,j9,x0,x5,x6,x7,x8,x9,y3,y4,reduceCtorEq,↓reduceIte,List.getElem?_set,hlen]
  subst hW
  refine zae fun V hV=>?_
  rw[zbY]
  refine zae fun W hW=>?_
  simp only[sxZ,z6,z7,z8,j6,j7,j8,j9,x0,x5,x6,x7,x8,x9,y3,y4,reduceCtorEq,↓reduceIte,List.getElem?_set,hlen,t9,t11,hjc]
  refine⟨⟨by omega,by omega,by omega⟩,by omega,?_⟩
  simp only[sxZ,z6,z7,z8,j6,j7,j8,j9,x0,x5,x6,x7,x8,x9,y3,y4,reduceCtorEq,↓reduceIte,List.getElem?_set,hlen,gn1,sn1]
  subst hW
  refine zae fun W hW=>?_
  simp only[sxZ,z6,z7,z8,j6,j7,j8,j9,x0,x5,x6,x7,x8,x9,y3,y4,reduceCtorEq,↓reduceIte,List.getElem?_set,hlen,t1,gn1]
  subst hW
  by_cases c:x.rel=rel
  ·rw[if_pos c] at hft
   simp only[sxZ,z6,z7,z8,j6,j7,j8,j9,x0,x5,x6,x7,x8,x9,y3,y4,reduceCtorEq,↓reduceIte,List.getElem?_set,hlen,c,gn1]
   refine zaf (znx x.tit (by omega) ?_)
   simp only[sxZ,z6,z7,z8,j6,j7,j8,j9,x0,x5,x6,x7,x8,x9,y3,y4,reduceCtorEq,↓reduceIte,List.getElem?_set,hlen,gn1,sn1]
   refine zaf (znx x.pro (by omega) ?_)
   simp only[sxZ,z6,z7,z8,j6,j7,j8,j9,x0,x5,x6,x7,x8,x9,y3,y4,reduceCtorEq,↓reduceIte,List.getElem?_set,hlen,gn1,sn1]
   rcases hA with ⟨h0,rfl⟩|⟨r,g,rfl,hr⟩
   ·simp only[sxZ,z6,z7,z8,j6,j7,j8,j9,x0,x5,x6,x7,x8,x9,y3,y4,reduceCtorEq,↓reduceIte,List.getElem?_set,hlen,t5,gn1]
    subst hV
    simp only[sxZ,z6,z7,z8,j6,j7,j8,j9,x0,x5,x6,x7,x8,x9,y3,y4,reduceCtorEq,↓reduceIte,List.getElem?_set,hlen,t1,t5,t9,t10,t11]
    refine⟨by omega,lk.length - (i+1),by omega,i+1,by omega,rfl,?_⟩
    rw[hft,h0]
    exact⟨.inr ⟨_,0,rfl,by rw[List.getElem?_append_right (by simp)];simp[zdk,lkc,c]⟩,rfl⟩
   ·have hrl:=(List.getElem?_eq_some_iff.1 hr).1
    have hlf:=zdA (zb5 rel (lk.take i))
    have hff:(zb5 rel (lk.take i)).length≤i:=by
     have:=List.length_filter_le (fun x:LkP=>decide (x.rel=rel)) (lk.take i)
     rw[List.length_take] at this
     unfold zb5;omega
    have h1:∀z,(o++[z])[r]? = some (.orow 46 6 g (zb5 rel (lk.take i)).length (zdk (zb5 rel (lk.take i)))):=fun z=>by rw[List.getElem?_append_left hrl];exact hr
    simp only[sxZ,z6,z7,z8,j6,j7,j8,j9,x0,x5,x6,x7,x8,x9,y3,y4,reduceCtorEq,↓reduceIte,List.getElem?_set,hlen,t5,gn1,h1]
    refine⟨⟨by omega,by omega⟩,?_⟩
    subst hV
    simp only[sxZ,z6,z7,z8,j6,j7,j8,j9,x0,x5,x6,x7,x8,x9,y3,y4,reduceCtorEq,↓reduceIte,List.getElem?_set,hlen,t1,t5,t9,t10,t11]
    refine⟨by omega,lk.length - (i+1),by omega,i+1,by omega,rfl,?_⟩
    rw[hft]
    refine⟨.inr ⟨r,g+1,rfl,?_⟩,rfl⟩
    rw[List.getElem?_set_self (by simp;omega),zmD,List.length_append]
    simp[zdk,lkc,c]
  ·rw[if_neg c] at hft
   simp only[sxZ,z6,z7,z8,j6,j7,j8,j9,x0,x5,x6,x7,x8,x9,y3,y4,reduceCtorEq,↓reduceIte,List.getElem?_set,hlen,c]
   subst hV
   simp only[sxZ,z6,z7,z8,j6,j7,j8,j9,x0,x5,x6,x7,x8,x9,y3,y4,reduceCtorEq,↓reduceIte,List.getElem?_set,hlen,t1,t5,t9,t10,t11]
   refine⟨by omega,lk.length - (i+1),by omega,i+1,by omega,rfl,?_⟩
   rw[hft]
   exact⟨hA.mono _,rfl⟩
 have hn:i=lk.length:=by omega
 rw[hn,List.take_of_length_le (Nat.le_refl _)] at hA
 simp only[sxZ,z6,z7,z8,j6,j7,j8,j9,x0,x5,x6,x7,x8,x9,y3,y4,reduceCtorEq,↓reduceIte,List.getElem?_set,hlen,t9,t10,t11,hlt]
 subst hW
 simp only[sxZ,z6,z7,z8,j6,j7,j8,j9,x0,x5,x6,x7,x8,x9,y3,y4,reduceCtorEq,↓reduceIte,List.getElem?_set,hlen]
 subst hZ
 rcases hA with ⟨h0,rfl⟩|⟨r,g,rfl,hr⟩
 ·simp only[sxZ,z6,z7,z8,j6,j7,j8,j9,x0,x5,x6,x7,x8,x9,y3,y4,reduceCtorEq,↓reduceIte,List.getElem?_set,hlen,t5]
  rw[h0] at hk ⊢
  exact⟨fun G I y hy=>zeq hy,hk⟩
 ·simp only[sxZ,z6,z7,z8,j6,j7,j8,j9,x0,x5,x6,x7,x8,x9,y3,y4,reduceCtorEq,↓reduceIte,List.getElem?_set,hlen,t5,hr,zlg]
  exact⟨fun G I y hy=>hy,hk⟩
end
end
end Go.Proofs.YtnnipcgblooemaaGreatDoor
namespace Go.Proofs.YtnnipcgblooemaaGreatDoor
open Go.RowKit Sx
section
attribute [local irreducible] run
def zej (l:List IdP):List AV:=l.flatMap fun x=>[.i .i64 x.kind,.s x.text,.s x.host,.i .i64 x.port]
theorem zeO:∀l:List IdP,(zej l).length=l.length*4
 | []=>rfl
 | p::l=>by
  have:=zeO l
  unfold zej at this ⊢
  rw[List.flatMap_cons,List.length_append,this,List.length_cons]
  simp only[List.length_cons,List.length_nil];omega
theorem zmT (a b:List IdP):zej (a++b)=zej a++zej b:=by unfold zej;rw[List.flatMap_append]
theorem zeu:∀l:List IdP,zaK (zej l)=true
 | []=>rfl
 | p::l=>by
  have:=zeu l
  unfold zej at this ⊢
  rw[List.flatMap_cons]
  simpa only[List.cons_append,List.nil_append,zaK,AV.plain,Bool.true_and] using this
theorem id_at:∀{l:List IdP} {i:Nat} (hi:i<l.length),((zej l).drop (i*4)).take 4=[.i .i64 l[i].kind,.s l[i].text,.s l[i].host,.i .i64 l[i].port]
 | x::l,0,hi=>by
  rw[Nat.zero_mul,List.drop_zero]
  unfold zej
  rw[List.flatMap_cons];rfl
 | x::l,i+1,hi=>by
  have h:=id_at (l:=l) (i:=i) (by simpa using hi)
  rw[List.getElem_cons_succ,←h]
  have e:(zej (x::l)).drop ((i+1)*4)=(zej l).drop (i*4):=by
   unfold zej
   rw[List.flatMap_cons,List.drop_append,List.drop_of_length_le (by simp only[List.length_cons,List.length_nil];omega)]
   have:(i+1)*4 - [AV.i .i64 x.kind,.s x.text,.s x.host,.i .i64 x.port].length=i*4:=by simp only[List.length_cons,List.length_nil];omega
   rw[this,List.nil_append]
  rw[e]
def zhY (x:IdP) (l:List IdP):Bool:=l.any (zgr x)
theorem zkw {x:IdP} {l:List IdP} {i:Nat} (hi:i<l.length):zhY x (l.take (i+1))=(zhY x (l.take i)||zgr x l[i]):=by
 unfold zhY
 rw[List.take_add_one,List.getElem?_eq_getElem hi,List.any_append]
 simp
def zjA (id:IdP) (acc:List IdP) (t:List UInt8):List IdP:=if (decide ((za2 t).1=0)&&(!zgr (za2 t).2 id&&(!zhY (za2 t).2 acc&&decide (acc.length<64))))=true then acc++[(za2 t).2] else acc
def zhU (id:IdP) (ts:List (List UInt8)):List IdP:=ts.foldl (zjA id) []
theorem othS_len {id:IdP} {acc:List IdP} {t:List UInt8} (h:acc.length≤64):(zjA id acc t).length≤64:=by
 unfold zjA
 split
 ·rename_i c
  simp only[Bool.and_eq_true,decide_eq_true_eq] at c
  rw[List.length_append]
  simp only[List.length_cons,List.length_nil];omega
 ·exact h
theorem zka {id:IdP} {ts:List (List UInt8)} {i:Nat} (hi:i<ts.length):zhU id (ts.take (i+1))=zjA id (zhU id (ts.take i)) ts[i]:=by
 unfold zhU
 rw[List.take_add_one,List.getElem?_eq_getElem hi,Option.toList_some,List.foldl_append];rfl
theorem zgI (id:IdP) (ts:List (List UInt8)):(zhU id ts).length≤64:=by
 unfold zhU
 suffices h:∀(ts:List (List UInt8)) (acc:List IdP),acc.length≤64→(ts.foldl (zjA id) acc).length≤64 from h ts [] (by simp)
 intro ts
 induction ts with
 | nil=>intro acc h;exact h
 | cons t ts ih=>intro acc h;rw[List.foldl_cons];exact ih _ (othS_len h)
theorem zpT {id:IdP} {acc:List IdP} {t:List UInt8} (h:(za2 t).1≠0):zjA id acc t=acc:=by
 unfold zjA;simp[h]
theorem zpQ {id:IdP} {acc:List IdP} {t:List UInt8} (h:zgr (za2 t).2 id=true):zjA id acc t=acc:=by
 unfold zjA;simp[h]
theorem zpR {id:IdP} {acc:List IdP} {t:List UInt8} (h:zhY (za2 t).2 acc=true):zjA id acc t=acc:=by
 unfold zjA;simp[h]
theorem zpS {id:IdP} {acc:List IdP} {t:List UInt8} (h:¬acc.length<64):zjA id acc t=acc:=by
 unfold zjA;simp[h]
theorem zpP {id:IdP} {acc:List IdP} {t:List UInt8} (h1:(za2 t).1=0) (h2:zgr (za2 t).2 id=false) (h3:zhY (za2 t).2 acc=false) (h4:acc.length<64):zjA id acc t=acc++[(za2 t).2]:=by
 unfold zjA;simp[h1,h2,h3,h4]
theorem zlh:∀(l:List IdP) (o:List OB) (d:Nat),zhg o (d+1) (zej l)=some (zej l)
 | [],o,d=>by unfold zej;simp only[List.flatMap_nil,zhg]
 | p::l,o,d=>by
  have:=zlh l o d
  unfold zej at this ⊢
  rw[List.flatMap_cons]
  simp only[List.cons_append,List.nil_append,zhg,pub,AV.plain,if_true,this]
theorem zlx (x:IdP):AV.plain (zew x)=true:=rfl
def zou (l:List IdP) (o:List OB) (X:AV):Prop:=(l=[]∧X=.nil)∨∃r g,X=.orow r g∧o[r]? = some (.orow 28 4 g l.length (zej l))
theorem zou.mono {l:List IdP} {o:List OB} {X:AV} (h:zou l o X) (z:OB):zou l (o++[z]) X:=by
 rcases h with h|⟨r,g,h1,h2⟩
 ·exact .inl h
 ·exact .inr ⟨r,g,h1,by rw[List.getElem?_append_left (List.getElem?_eq_some_iff.1 h2).1];exact h2⟩
end
end Go.Proofs.YtnnipcgblooemaaGreatDoor
namespace Go.Proofs.YtnnipcgblooemaaGreatDoor
open Go.RowKit Sx
section
attribute [local irreducible] run
def wkL:List UInt8:=[47,46,119,101,108,108,45,107,110,111,119,110,47,119,101,98,102,105,110,103,101,114]
def rsL:List UInt8:=[114,101,115,111,117,114,99,101,61]
def atE (x:IdP) (path:List UInt8):Int×UrlP:=if valB x=true then (0,⟨x.host,x.port,path,[],[],false,false⟩) else (8,zdt)
def zox (x:IdP):UrlP:=⟨x.host,x.port,wkL,rsL++zbX x.text [],[],true,false⟩
def zhf (x:IdP):Int×UrlP:=if valB x=true then (if 4096<(zcA (zox x)).length then (5,zdt) else (0,zox x)) else (8,zdt)
def zkY (x:IdP):Prop:=x.text.length≤17000∧x.host.length≤5000∧-9223372036854775808≤x.port∧x.port≤9223372036854775807
section
variable [Tabs Tryz.prog] {objs:List OB} {K:List OB→AV→Prop}
end
end
end Go.Proofs.YtnnipcgblooemaaGreatDoor
namespace Go.Proofs.YtnnipcgblooemaaGreatDoor
open Nat renaming reduceAdd → z6, reduceSub → z7, reduceLeDiff → z8, reduceLT → j6, reduceMul → j7, reduceEqDiff → j8
open Int renaming reduceToNat → j9, reduceAdd → x0, reduceSub → x5, reduceMul → x6, reduceNeg → x7, reduceLT → x8, reduceLE → x9, reduceEq → y3, reduceNe → y4
open Go.RowKit Sx
section
attribute [local irreducible] run
section
variable [Tabs Tryz.prog] [Shp Tryz.prog] [Pow Tryz.prog] {objs:List OB} {K:List OB→AV→Prop}
theorem fAt_k (x:IdP) (path:List UInt8) (hx:zkY x) (hk:K objs (.tup [zaQ (atE x path).2,.i .i64 (atE x path).1])):zad Tryz.prog 21 [zew x,.s path] objs K:=by
 refine zaU is_finger_atAuthority rfl fun C _=>?_
 unfold atE at hk
 rw[c_finger_atAuthority]
 refine zae fun Y hY=>?_
 simp only[zew,sxZ,z6,z7,z8,j6,j7,j8,j9,x0,x5,x6,x7,x8,x9,y3,y4,reduceCtorEq,↓reduceIte]
 subst hY
 refine zae fun Y hY=>?_
 simp only[sxZ,z6,z7,z8,j6,j7,j8,j9,x0,x5,x6,x7,x8,x9,y3,y4,reduceCtorEq,↓reduceIte]
 refine zaf (zku x (by have:=hx.1;omega) ?_)
 by_cases c1:valB x=true
 ·simp only[c1,zaQ,sxZ,z6,z7,z8,j6,j7,j8,j9,x0,x5,x6,x7,x8,x9,y3,y4,reduceCtorEq,↓reduceIte] at hk ⊢
  subst hY
  simp only[sxZ,z6,z7,z8,j6,j7,j8,j9,x0,x5,x6,x7,x8,x9,y3,y4,reduceCtorEq,↓reduceIte]
  refine zaf (zlw x ?_)
  simp only[sxZ,z6,z7,z8,j6,j7,j8,j9,x0,x5,x6,x7,x8,x9,y3,y4,reduceCtorEq,↓reduceIte]
  exact hk
 ·simp only[Bool.not_eq_true] at c1
  simp only[c1,zaQ,zdt,sxZ,z6,z7,z8,j6,j7,j8,j9,x0,x5,x6,x7,x8,x9,y3,y4,reduceCtorEq,↓reduceIte] at hk ⊢
  exact hk
theorem zm4 (x:IdP) (hx:zkY x) (hk:K objs (.tup [zaQ (zhf x).2,.i .i64 (zhf x).1])):zad Tryz.prog 11 [zew x] objs K:=by
 have hm:maxLen=2 ^ 63 - 1:=rfl
 have hel:=zc6 x.text []
 obtain⟨x1,x2,x3,x4⟩:=hx
 have hxs:zkY x:=⟨x1,x2,x3,x4⟩
 refine zaU is_finger_Query rfl fun C _=>?_
 unfold zhf at hk
 rw[c_finger_Query]
 refine zae fun Y hY=>?_
 simp only[zew,sxZ,z6,z7,z8,j6,j7,j8,j9,x0,x5,x6,x7,x8,x9,y3,y4,reduceCtorEq,↓reduceIte]
 subst hY
 refine zae fun Y hY=>?_
 simp only[sxZ,z6,z7,z8,j6,j7,j8,j9,x0,x5,x6,x7,x8,x9,y3,y4,reduceCtorEq,↓reduceIte]
 refine zaf (fAt_k x wkL hxs ?_)
 unfold atE
 by_cases c1:valB x=true
 ·simp only[c1,zaQ,sxZ,z6,z7,z8,j6,j7,j8,j9,x0,x5,x6,x7,x8,x9,y3,y4,reduceCtorEq,↓reduceIte] at hk ⊢
  subst hY
  refine zae fun Y hY=>?_
  simp only[sxZ,z6,z7,z8,j6,j7,j8,j9,x0,x5,x6,x7,x8,x9,y3,y4,reduceCtorEq,↓reduceIte]
  subst hY
  refine zae fun Y hY=>?_
  simp only[sxZ,z6,z7,z8,j6,j7,j8,j9,x0,x5,x6,x7,x8,x9,y3,y4,reduceCtorEq,↓reduceIte]
  refine zaf (zj9 x.text [] (by omega) ?_)
  simp only[sxZ,z6,z7,z8,j6,j7,j8,j9,x0,x5,x6,x7,x8,x9,y3,y4,reduceCtorEq,↓reduceIte]
  refine⟨by omega,?_⟩
  subst hY
  refine zae fun Y hY=>?_
  simp only[sxZ,z6,z7,z8,j6,j7,j8,j9,x0,x5,x6,x7,x8,x9,y3,y4,reduceCtorEq,↓reduceIte]
  have hq:zcm (zox x):=⟨by show x.host.length≤_;omega,x3,x4,by show wkL.length≤_;decide,by show (rsL++zbX x.text []).length≤_;rw[List.length_append];have:rsL.length=9:=rfl;omega,by show ([]:List UInt8).length≤_;decide⟩
  refine zaf (zdJ (zox x) hq ?_)
  by_cases c2:4096<(zcA (zox x)).length
  ·rw[if_pos c2] at hk
   have c3:(4096:Int)<(zcA (zox x)).length:=by omega
   simp only[c3,zaQ,zdt,sxZ,z6,z7,z8,j6,j7,j8,j9,x0,x5,x6,x7,x8,x9,y3,y4,reduceCtorEq,↓reduceIte] at hk ⊢
   exact hk
  ·rw[if_neg c2] at hk
   have c3:¬(4096:Int)<(zcA (zox x)).length:=by omega
   simp only[c3,sxZ,z6,z7,z8,j6,j7,j8,j9,x0,x5,x6,x7,x8,x9,y3,y4,reduceCtorEq,↓reduceIte]
   subst hY
   simp only[sxZ,z6,z7,z8,j6,j7,j8,j9,x0,x5,x6,x7,x8,x9,y3,y4,reduceCtorEq,↓reduceIte]
   exact hk
 ·simp only[Bool.not_eq_true] at c1
  simp only[c1,zaQ,zdt,sxZ,z6,z7,z8,j6,j7,j8,j9,x0,x5,x6,x7,x8,x9,y3,y4,reduceCtorEq,↓reduceIte] at hk ⊢
  subst hY
  simp only[sxZ,z6,z7,z8,j6,j7,j8,j9,x0,x5,x6,x7,x8,x9,y3,y4,reduceCtorEq,↓reduceIte]
  exact hk
end
end
end Go.Proofs.YtnnipcgblooemaaGreatDoor
namespace Go.Proofs.YtnnipcgblooemaaGreatDoor
open Go.RowKit Sx
theorem from_did {u:UrlP} {i:List UInt8} (h:zdq u=(0,zei,i)):zca (zbo zei i)=(0,zei,i):=by
 unfold zdq at h
 split at h
 ·cases h
 rename_i g1
 simp only[Bool.not_eq_false] at g1
 split at h
 ·cases h
 rename_i g2
 simp only[not_or,Bool.not_eq_true,Decidable.not_not] at g2
 obtain⟨gq,gf,gl⟩:=g2
 split at h
 ·cases h
 rename_i g3
 split at h
 ·cases h
 rename_i g4
 injection h with _ h
 injection h with _ h
 subst h
 have hc:=zfl g1
 obtain⟨n,hn,hn1,hn2⟩:=hc.port
 obtain⟨m,hm,hms,hp⟩:=hc.path
 have hsp:zdv u=m:=by
  unfold zdv
  rw[hp,zem m (fun x hx=>(hms x hx).1.1)];rfl
 rw[hsp] at gl g3
 have hplen:∀x∈m,x.length≤4096:=by
  intro x hx
  have h1:=zb2 u
  have h2:=hc.len
  have h3:x.length≤(jn m).length:=by
   obtain⟨a,b,rfl⟩:=List.append_of_mem hx
   rw[zes,zb8];simp;omega
  rw[hp] at h1
  omega
 have hE:=zm3 (h:=u.host) (n:=n) hc.host
 obtain⟨segs,hid,hok,hmem⟩:∃segs:List (List UInt8),zeP u=hpI u.host n++js ((segs.map fun x=>(zaR x).2).map zbf)∧segs.all okI=true∧(∀x∈segs,x∈m):=by
  by_cases hw:u.path=wkP
  ·refine⟨[],?_,rfl,by simp⟩
   unfold zeP;rw[if_pos hw,hn];rfl
  ·have g3':¬m.dropLast=[]∧m.dropLast.all okI=true:=by
    refine⟨fun e=>g3 ⟨hw,.inl e⟩,?_⟩
    cases e:m.dropLast.all okI with
    | true=>rfl
    | false=>exact absurd ⟨hw,.inr e⟩ g3
   refine⟨m.dropLast,?_,g3'.2,fun x hx=>List.dropLast_subset m hx⟩
   unfold zeP
   rw[if_neg hw,hn,hsp,zg4 _ g3'.2,List.map_map];rfl
 have hil:(zeP u).length≤4096:=by
  have:(zbo zei (zeP u)).length=(zeP u).length+8:=by simp[zbo,zbF,zei]
  omega
 have hne:hpI u.host n≠[]:=by
  have:=zmU hc.host
  unfold hpI
  split
  ·exact this
  ·simp[this]
 have hie:idE (zeP u)=(0,zeP u):=by
  rw[hid]
  refine idE_of (d:=zjf u.host n) _ hE.symm hne ?_ (by rw[←hid];omega)
  intro q hq
  obtain⟨x,hx,rfl⟩:=List.mem_map.1 hq
  have h1:=List.all_eq_true.1 hok x hx
  unfold okI at h1
  simp only[Bool.and_eq_true,decide_eq_true_eq,Bool.not_eq_true',decide_eq_false_iff_not] at h1
  have hxl:=hplen x (hmem x hx)
  have hup:=((zcH (l:=x) (by omega)).1 h1.1).2
  have hse:=(ziO (hms x (hmem x hx)).2 (by omega) hup).2
  intro e
  refine h1.2 ?_
  rw[e] at hse
  rw[←hse];rfl
 exact zlH (by decide) hie (by omega)
structure DidOk (c:List UInt8×List UInt8) (u:UrlP):Prop where
 meth:c.1=zei
 id:c.2=zeP u
 can:CanW u
 au:dwA c.1 c.2=(0,u.host,(dwA c.1 c.2).2.2)
 port:u.port=(dwA c.1 c.2).2.2
 didb:zca (zbo c.1 c.2)=(0,c.1,c.2)
 canb:ze1 c.1 c.2=(0,c)
 len:(zbo c.1 c.2).length≤4096
theorem can_did {m i:List UInt8} {c:List UInt8×List UInt8} (h:ze1 m i=(0,c)):∃u,DidOk c u:=by
 obtain⟨k1,k2,k3,k4,k5⟩:=can_ok h
 obtain⟨j1,_,_,j4,j5,_⟩:=zl0 k1
 obtain⟨f1,f2,f3⟩:=zm0 k2
 have hd:=from_did f2
 obtain⟨c1,c2⟩:=c
 simp only at k5 f3 hd j4 j5 k1 k3
 subst k5
 exact⟨_,rfl,f3,j1,j4,j5,hd,k3,(zq4 j4).2.2.1⟩
theorem zlv {s:List UInt8} {x:IdP} (h:za2 s=(0,x)):s.length≤4096∧(
  (∃u h,zbp s=(0,u,h)∧x=⟨1,fmtA u h,h,0⟩)∨(∃u h,zaZ s=(0,u,h)∧x=⟨2,zkC u h,h,0⟩) ∨
  (∃u,zfj s=(0,u)∧x=⟨3,zcA u,u.host,u.port⟩)∨(∃c u,DidOk c u∧x=⟨4,zbo c.1 c.2,u.host,u.port⟩)):=by
 unfold za2 at h
 split at h
 ·cases h
 rename_i g0
 refine⟨by omega,?_⟩
 split at h
 ·cases h
 unfold zgy at h
 split at h
 ·unfold acI at h
  split at h
  ·rename_i g;injection h with h1 _;exact absurd h1 g
  ·rename_i g
   injection h with _ h1
   simp only[ne_eq,Decidable.not_not] at g
   exact .inl ⟨_,_,by rw[←g],h1.symm⟩
 split at h
 ·unfold maI at h
  split at h
  ·rename_i g;injection h with h1 _;exact absurd h1 g
  ·rename_i g
   injection h with _ h1
   simp only[ne_eq,Decidable.not_not] at g
   exact .inr (.inl ⟨_,_,by rw[←g],h1.symm⟩)
 split at h
 ·unfold weI at h
  split at h
  ·rename_i g;injection h with h1 _;exact absurd h1 g
  ·rename_i g
   injection h with _ h1
   simp only[ne_eq,Decidable.not_not] at g
   exact .inr (.inr (.inl ⟨_,by rw[←g],h1.symm⟩))
 split at h
 ·unfold diI at h
  split at h
  ·rename_i g;injection h with h1 _;exact absurd h1 g
  ·unfold diC at h
   split at h
   ·rename_i g;injection h with h1 _;exact absurd h1 g
   ·rename_i g
    injection h with _ h1
    simp only[ne_eq,Decidable.not_not] at g
    obtain⟨u,hu⟩:=can_did (c:=(ze1 (zca s).2.1 (zca s).2.2).2) (by rw[←g])
    refine .inr (.inr (.inr ⟨_,u,hu,?_⟩))
    rw[←h1,hu.port,hu.au]
 ·cases h
theorem zqL {s:List UInt8} (h:(za2 s).1≠0):(za2 s).2=idZ:=by
 unfold za2 at h ⊢
 split
 ·rfl
 rename_i g0
 rw[if_neg g0] at h
 split
 ·rfl
 rename_i g1
 rw[if_neg g1] at h
 unfold zgy at h ⊢
 unfold acI maI weI diI diC at h ⊢
 repeat' split
 all_goals first
  | rfl
  | (exfalso;simp_all)
end Go.Proofs.YtnnipcgblooemaaGreatDoor
namespace Go.Proofs.YtnnipcgblooemaaGreatDoor
open Go.RowKit Sx
section
attribute [local irreducible] run
theorem zkS {u:UrlP} (h:CanW u):u.host.length≤4096:=by
 have h1:=h.len
 have:u.host.length≤(zcA u).length:=by
  unfold zcA zjf
  split<;>simp<;>omega
 omega
theorem zlu (s:List UInt8):zkY (za2 s).2:=by
 by_cases c:(za2 s).1=0
 ·have e:za2 s=(0,(za2 s).2):=by rw[←c]
  rcases(zlv e).2 with ⟨u,q,h1,h2⟩|⟨u,q,h1,h2⟩|⟨u,h1,h2⟩|⟨d,u,h1,h2⟩
  ·rw[h2]
   have:=zhL s
   rw[h1] at this
   refine⟨?_,?_,by show (_:Int)≤0;decide,by show (0:Int)≤_;decide⟩
   ·show (fmtA u q).length≤_
    simp only[fmtA,zdo,List.length_append,List.length_cons,List.length_nil] at this ⊢
    omega
   ·show q.length≤_
    simp only at this
    omega
  ·rw[h2]
   have:=zht s
   rw[h1] at this
   have he:=zc6 u zc3
   refine⟨?_,?_,by show (_:Int)≤0;decide,by show (0:Int)≤_;decide⟩
   ·show (zkC u q).length≤_
    simp only[zkC,zba,List.length_append,List.length_cons,List.length_nil] at this ⊢
    omega
   ·show q.length≤_
    simp only at this
    omega
  ·rw[h2]
   have hc:=CanW.of h1
   have:=hc.len
   obtain⟨n,hn,hn1,_⟩:=hc.port
   refine⟨?_,?_,?_,?_⟩
   ·show (zcA u).length≤_
    omega
   ·show u.host.length≤_
    have:=zkS hc;omega
   ·show _≤u.port
    omega
   ·show u.port≤_
    omega
  ·rw[h2]
   have:=h1.len
   have hc:=h1.can
   obtain⟨n,hn,hn1,_⟩:=hc.port
   refine⟨?_,?_,?_,?_⟩
   ·show (zbo d.1 d.2).length≤_
    omega
   ·show u.host.length≤_
    have:=zkS hc;omega
   ·show _≤u.port
    omega
   ·show u.port≤_
    omega
 ·rw[zqL c]
  exact⟨by decide,by decide,by decide,by decide⟩
end
end Go.Proofs.YtnnipcgblooemaaGreatDoor
namespace Go.Proofs.YtnnipcgblooemaaGreatDoor
open Go.RowKit Sx
def allJ (w:World):Imm:=fun g o v=>w.cell? ⟨g,o,none⟩=some v
theorem den_lndR {G:Gh} {I:Imm} {w:World} {objs:List OB} {b E sz gen n:Nat} {xs:List AV} {y:Value} (hb:objs[b]? = some (.orow E sz gen n xs)) (hp:zaK xs=true) (hm:MemOk G I objs w) (h:Den G I (.orow b gen) y):Den Gh.none (allJ w) (.row n xs) y:=by
 obtain⟨v',vs,m1,m2,m3,m4,m5⟩:=hm.row b E sz gen n xs hb
 simp only[Den] at h ⊢
 obtain⟨g0,v,k1,k2,k3,_⟩:=h
 rw[k1] at m1;injection m1 with m1;injection m1 with m1 m6
 have hv:=k3 m1.symm
 subst m1 m6 hv
 have q1:zao Gh.none (allJ w) xs vs:=zao.plain (fun g o v hi=>hm.imm g o v hi) _ _ hp m3
 rcases m2.2 with ⟨rfl,rfl⟩|⟨g,cap,cur,rfl,hx1,hx2,hx3,hx4⟩
 ·have hvs:vs=[]:=List.eq_nil_of_length_eq_zero (by simpa using m2.1)
  subst hvs
  exact⟨none,0,[],rfl,⟨Nat.le_refl _,by intro _ e;cases e⟩,q1,by simp,by simp⟩
 ·refine⟨some ⟨g,0,none⟩,cap,vs,rfl,⟨hx3,by rintro _ ⟨⟩ _;rfl⟩,q1,m4,fun j u hj=>⟨g,0,rfl,?_⟩⟩
  have:=m2.cells (g:=g) rfl j u hj
  rw[zaO] at this
  rw[Nat.zero_add]
  exact this
theorem zop {P:Program} [Tabs P] {f:FuncId} {args args':List AV} {objs:List OB} {K:List OB→AV→Prop} (r:AV) {v:Value} (hr:val r=some v) (hk:K objs r)
  (hl:∀(G:Gh) (I:Imm) (w:World) (ys:List Value),MemOk G I objs w→zao G I args ys→zao Gh.none (allJ w) args' ys) (h:zad P f args' [] (fun _ r'=>r'=r)):zad P f args objs K:=by
 refine zgd r hk fun G I w ys hT hm hd=>?_
 have hd':=hl G I w ys hm hd
 haveI:On P ⟨w,fun _=>False,allJ w,Gh.none⟩:=⟨hT,fun _ h=>h⟩
 have hc:=h ⟨w,fun _=>False,allJ w,Gh.none⟩ Gh.none (allJ w) w
  ⟨rfl,rfl,rfl,Nat.le_refl _,fun _ _ _=>rfl,fun _ _ _ h=>h,fun _ _ _ h=>.inl h,fun b g hb=>by simp[Gh.own,Gh.none] at hb,Gh.le.refl _⟩
  ⟨fun _ _ _ h=>h,by simp,by simp,by simp,fun b b' g hb=>by simp[Gh.own,Gh.none] at hb,fun b g hb=>by simp[Gh.own,Gh.none] at hb,fun b g o v hb=>by simp[Gh.own,Gh.none] at hb,fun b _=>⟨rfl,rfl⟩⟩ ys hd'
 refine⟨v,hc.mono ?_,(ze4 G I r v hr v).2 rfl⟩
 rintro e w' ⟨y,objs',r',G',I',rfl,rfl,_,_,hin,_,hy⟩
 rw[(ze4 _ _ r' v hr y).1 hy]
 exact⟨rfl,⟨hin.os,hin.tape,hin.output,hin.size,fun k hk=>hin.block k hk (fun h=>h)⟩⟩
theorem zlO {P:Program} [Tabs P] {f:FuncId} {rest:List AV} {objs:List OB} {K:List OB→AV→Prop} {b E sz gen n:Nat} {xs:List AV} (r:AV) {v:Value} (hb:objs[b]? = some (.orow E sz gen n xs)) (hp:zaK xs=true) (hq:zaK rest=true) (hr:val r=some v) (hk:K objs r)
  (h:zad P f (.row n xs::rest) [] (fun _ r'=>r'=r)):zad P f (.orow b gen::rest) objs K:=by
 refine zop r hr hk (fun G I w ys hm hd=>?_) h
 simp only[zao] at hd
 obtain⟨y,ys',rfl,h1,h2⟩:=hd
 exact zao.cons (den_lndR hb hp hm h1) (zao.plain (fun g o v hi=>hm.imm g o v hi) _ _ hq h2)
theorem zlP {P:Program} [Tabs P] {f:FuncId} {rest:List AV} {objs:List OB} {K:List OB→AV→Prop} (h:zad P f (.row 0 []::rest) objs K):zad P f (.nil::rest) objs K:=by
 intro C _ G I w hin hm ys hd
 refine h C G I w hin hm ys ?_
 simp only[zao] at hd ⊢
 obtain⟨y,ys',rfl,h1,h2⟩:=hd
 refine⟨y,ys',rfl,?_,h2⟩
 simp only[zao,Den] at h1 ⊢
 exact⟨none,0,[],h1,⟨Nat.le_refl _,fun ad h=>by cases h⟩,rfl,by simp,by simp⟩
end Go.Proofs.YtnnipcgblooemaaGreatDoor
namespace Go.Proofs.YtnnipcgblooemaaGreatDoor
open Nat renaming reduceAdd → z6, reduceSub → z7, reduceLeDiff → z8, reduceLT → j6, reduceMul → j7, reduceEqDiff → j8
open Int renaming reduceToNat → j9, reduceAdd → x0, reduceSub → x5, reduceMul → x6, reduceNeg → x7, reduceLT → x8, reduceLE → x9, reduceEq → y3, reduceNe → y4
open Go.RowKit Sx
section
attribute [local irreducible] run
section
variable [Tabs Tryz.prog] {objs:List OB} {K:List OB→AV→Prop}
theorem zqM (l:List IdP) (x:IdP) (hl:l.length≤1000) (hk:∀i:Int,(0≤i↔zhY x l=true)→K objs (.i .i64 i)):zad Tryz.prog 69 [.row l.length (zej l),zew x] objs K:=by
 have hlen4:=zeO l
 refine zaU is_slices_Index__api_ID_api_ID (by simp only[zaK,zlx,AV.plain,zeu,Bool.and_self]) fun C _=>?_
 rw[c_slices_Index__api_ID_api_ID]
 unfold zew
 refine zae fun Y hY=>?_
 simp only[sxZ,z6,z7,z8,j6,j7,j8,j9,x0,x5,x6,x7,x8,x9,y3,y4,reduceCtorEq,↓reduceIte]
 subst hY
 refine zae fun Y hY=>?_
 simp only[sxZ,z6,z7,z8,j6,j7,j8,j9,x0,x5,x6,x7,x8,x9,y3,y4,reduceCtorEq,↓reduceIte]
 refine zbg (fun n o tm=>∃i:Nat,i≤l.length∧n=l.length - i∧o=[.box 28 [.i .i64 x.kind,.s x.text,.s x.host,.i .i64 x.port]]∧zhY x (l.take i)=false∧tm.length=19∧tm[0]? = some (.row l.length (zej l))∧tm[3]? = some (.p 0 0)∧tm[7]? = some (.i .i64 (l.length:Int))∧tm[8]? = some (.i .i64 (i:Int))) l.length ⟨0,Nat.zero_le _,rfl,rfl,rfl,rfl,rfl,rfl,rfl,rfl⟩ ?_
 rintro n _ tm ⟨i,hi,rfl,rfl,hall,hlen,t0,t3,t7,t8⟩
 refine zae fun Z hZ=>?_
 by_cases hlt:(i:Int)<(l.length:Int)
 ·have hi':i<l.length:=by omega
  have kv:=id_at hi'
  have hin:=zkw (x:=x) hi'
  have hin2:zgr x l[i]=true→zhY x l=true:=fun h=>by
   unfold zhY;exact List.any_eq_true.2 ⟨l[i],List.getElem_mem hi',h⟩
  generalize l[i]=y at kv hin hin2
  simp only[sxZ,z6,z7,z8,j6,j7,j8,j9,x0,x5,x6,x7,x8,x9,y3,y4,reduceCtorEq,↓reduceIte,List.getElem?_set,hlen,t0,t3,t7,t8,hlt]
  subst hZ
  refine zae fun Z hZ=>?_
  simp only[sxZ,z6,z7,z8,j6,j7,j8,j9,x0,x5,x6,x7,x8,x9,y3,y4,reduceCtorEq,↓reduceIte,List.getElem?_set,hlen]
  subst hZ
  refine zae fun W hW=>?_
  rw[zbY]
  refine zae fun Z hZ=>?_
  simp only[sxZ,z6,z7,z8,j6,j7,j8,j9,x0,x5,x6,x7,x8,x9,y3,y4,reduceCtorEq,↓reduceIte,List.getElem?_set,hlen,t8]
  subst hZ
  refine zae fun Z hZ=>?_
  by_cases c2:zgr x y=true
  ·have c3:=c2
   unfold zgr at c3
   simp only[sxZ,z6,z7,z8,j6,j7,j8,j9,x0,x5,x6,x7,x8,x9,y3,y4,reduceCtorEq,↓reduceIte,List.getElem?_set,hlen,t0,t3,kv,c3]
   refine⟨⟨by omega,by omega,by omega⟩,by omega,?_⟩
   subst hZ
   simp only[sxZ,z6,z7,z8,j6,j7,j8,j9,x0,x5,x6,x7,x8,x9,y3,y4,reduceCtorEq,↓reduceIte,List.getElem?_set,hlen]
   exact hk _ ⟨fun _=>hin2 c2,fun _=>by omega⟩
  ·rw[Bool.not_eq_true] at c2
   have c3:=c2
   unfold zgr at c3
   simp only[sxZ,z6,z7,z8,j6,j7,j8,j9,x0,x5,x6,x7,x8,x9,y3,y4,reduceCtorEq,↓reduceIte,List.getElem?_set,hlen,t0,t3,kv,c3]
   refine⟨⟨by omega,by omega,by omega⟩,by omega,?_⟩
   subst hZ
   simp only[sxZ,z6,z7,z8,j6,j7,j8,j9,x0,x5,x6,x7,x8,x9,y3,y4,reduceCtorEq,↓reduceIte,List.getElem?_set,hlen]
   subst hW
   simp only[sxZ,z6,z7,z8,j6,j7,j8,j9,x0,x5,x6,x7,x8,x9,y3,y4,reduceCtorEq,↓reduceIte,List.getElem?_set,hlen,t0,t3,t7,t8]
   exact⟨by omega,l.length - (i+1),by omega,i+1,by omega,rfl,by rw[hin,hall,c2];rfl,rfl⟩
 have hn:i=l.length:=by omega
 rw[hn,List.take_of_length_le (Nat.le_refl _)] at hall
 simp only[sxZ,z6,z7,z8,j6,j7,j8,j9,x0,x5,x6,x7,x8,x9,y3,y4,reduceCtorEq,↓reduceIte,List.getElem?_set,hlen,t0,t7,t8,hlt]
 subst hZ
 subst hY
 simp only[sxZ,z6,z7,z8,j6,j7,j8,j9,x0,x5,x6,x7,x8,x9,y3,y4,reduceCtorEq,↓reduceIte,List.getElem?_set,hlen,t0,t7,t8,hlt]
 exact hk _ (by rw[hall];simp)
theorem zgs (l:List IdP) (x:IdP) (hl:l.length≤1000) (hk:K objs (.b (zhY x l))):zad Tryz.prog 40 [.row l.length (zej l),zew x] objs K:=by
 refine zaU is_slices_Contains__api_ID_api_ID (by simp only[zaK,zlx,AV.plain,zeu,Bool.and_self]) fun C _=>?_
 rw[c_slices_Contains__api_ID_api_ID]
 unfold zew
 simp only[sxZ,z6,z7,z8,j6,j7,j8,j9,x0,x5,x6,x7,x8,x9,y3,y4,reduceCtorEq,↓reduceIte]
 refine zaf (zqM l x hl fun i hi=>?_)
 simp only[sxZ,z6,z7,z8,j6,j7,j8,j9,x0,x5,x6,x7,x8,x9,y3,y4,reduceCtorEq,↓reduceIte]
 have e:decide (0≤i)=zhY x l:=by
  cases h:zhY x l with
  | true=>exact decide_eq_true (hi.2 h)
  | false=>exact decide_eq_false fun h2=>by rw[hi.1 h2] at h;cases h
 rw[e]
 exact hk
end
section
variable [Tabs Tryz.prog] [Shp Tryz.prog] [Pow Tryz.prog] {objs:List OB} {K:List OB→AV→Prop}
theorem zp7 (x:IdP) (ts:List (List UInt8)) (hn:ts.length≤1000) (hts:∀t∈ts,t.length≤140737488351232) (hk:K objs (.row (zhU x ts).length (zej (zhU x ts)))):zad Tryz.prog 18 [zew x,.row ts.length (ts.map .s)] objs K:=by
 refine zp5 (.row (zhU x ts).length (zej (zhU x ts))) ?_
 refine zaU is_naming_Others (by simp only[zaK,zlx,AV.plain,zdy,Bool.and_self]) fun C _=>?_
 rw[c_naming_Others]
 unfold zew
 refine zae fun Z hZ=>?_
 simp only[sxZ,z6,z7,z8,j6,j7,j8,j9,x0,x5,x6,x7,x8,x9,y3,y4,reduceCtorEq,↓reduceIte]
 subst hZ
 refine zae fun Z hZ=>?_
 simp only[sxZ,z6,z7,z8,j6,j7,j8,j9,x0,x5,x6,x7,x8,x9,y3,y4,reduceCtorEq,↓reduceIte]
 subst hZ
 refine zae fun Z hZ=>?_
 refine zae fun W hW=>?_
 simp only[sxZ,z6,z7,z8,j6,j7,j8,j9,x0,x5,x6,x7,x8,x9,y3,y4,reduceCtorEq,↓reduceIte]
 subst hW
 rw[zbY]
 refine zbg (fun m o tm=>∃(i:Nat),i≤ts.length∧m=ts.length - i∧o[0]? = some (.box 28 [.i .i64 x.kind,.s x.text,.s x.host,.i .i64 x.port])∧zou (zhU x (ts.take i)) o (tm[5]?.getD .u)∧tm.length=45∧tm[2]? = some (.p 0 0)∧tm[10]? = some (.row ts.length (ts.map .s))∧tm[11]? = some (.i .i64 (ts.length:Int))∧tm[12]? = some (.i .i64 (i:Int))) ts.length ⟨0,Nat.zero_le _,rfl,rfl,.inl ⟨rfl,rfl⟩,rfl,rfl,rfl,rfl,rfl⟩ ?_
 rintro m o tm ⟨i,hi,rfl,e0,hA,hlen,t2,t10,t11,t12⟩
 obtain⟨a5,t5⟩:∃a,tm[5]? = some a:=⟨_,List.getElem?_eq_getElem (by omega)⟩
 rw[t5,Option.getD_some] at hA
 refine zae fun W hW=>?_
 by_cases hlt:(i:Int)<(ts.length:Int)
 ·have hi':i<ts.length:=by omega
  have kv:(ts.map AV.s)[i*1]? = some (.s ts[i]):=by rw[Nat.mul_one,List.getElem?_map,List.getElem?_eq_getElem hi'];rfl
  have hft:=zka (id:=x) hi'
  have hok:=hts ts[i] (List.getElem_mem hi')
  have hal:=zgI x (ts.take i)
  generalize ts[i]=t at kv hft hok
  generalize zhU x (ts.take i)=acc at hA hft hal
  have hal4:=zeO acc
  have e0':∀z,(o++[z])[0]? = some (.box 28 [.i .i64 x.kind,.s x.text,.s x.host,.i .i64 x.port]):=fun z=>by rw[List.getElem?_append_left (List.getElem?_eq_some_iff.1 e0).1];exact e0
  simp only[sxZ,z6,z7,z8,j6,j7,j8,j9,x0,x5,x6,x7,x8,x9,y3,y4,reduceCtorEq,↓reduceIte,List.getElem?_set,hlen,t10,t11,t12,hlt]
  subst hW
  refine zae fun W hW=>?_
  simp only[sxZ,z6,z7,z8,j6,j7,j8,j9,x0,x5,x6,x7,x8,x9,y3,y4,reduceCtorEq,↓reduceIte,List.getElem?_set,hlen]
  subst hW
  refine zae fun V hV=>?_
  rw[zbY]
  refine zae fun W hW=>?_
  simp only[sxZ,z6,z7,z8,j6,j7,j8,j9,x0,x5,x6,x7,x8,x9,y3,y4,reduceCtorEq,↓reduceIte,List.getElem?_set,hlen,t10,t12,kv,List.length_map]
  refine⟨⟨by omega,by omega,by omega⟩,?_⟩
  subst hW
  refine zae fun W hW=>?_
  simp only[sxZ,z6,z7,z8,j6,j7,j8,j9,x0,x5,x6,x7,x8,x9,y3,y4,reduceCtorEq,↓reduceIte,List.getElem?_set,hlen]
  refine zaf (zgq t hok ?_)
  have s1:=@zpT x acc t
  have s2:=@zpQ x acc t
  have s3:=@zpR x acc t
  have s4:=@zpS x acc t
  have s5:=@zpP x acc t
  obtain⟨⟨er,y⟩,hy⟩:∃r,za2 t=r:=⟨_,rfl⟩
  rw[hy] at s1 s2 s3 s5 ⊢
  simp only[idT,zew,sxZ,z6,z7,z8,j6,j7,j8,j9,x0,x5,x6,x7,x8,x9,y3,y4,reduceCtorEq,↓reduceIte,List.getElem?_set,hlen,gn1,sn1]
  subst hW
  refine zgk (fun o2 t2=>o2[0]? = some (.box 28 [.i .i64 x.kind,.s x.text,.s x.host,.i .i64 x.port])∧zou (zjA x acc t) o2 (t2[5]?.getD .u)∧t2.length=45∧t2[2]? = some (.p 0 0)∧t2[10]? = some (.row ts.length (ts.map .s))∧t2[11]? = some (.i .i64 (ts.length:Int))∧t2[12]? = some (.i .i64 (i:Int))) ?_ ?_
  ·by_cases c1:er=0
   ·by_cases c2:zgr y x=true
    ·rw[s2 c2]
     have c2':=c2
     unfold zgr at c2'
     simp only[sxZ,z6,z7,z8,j6,j7,j8,j9,x0,x5,x6,x7,x8,x9,y3,y4,reduceCtorEq,↓reduceIte,List.getElem?_set,hlen,t2,t5,t10,t11,t12,e0',gn1,c1,c2',zaz]
     exact hA.mono _
    ·rw[Bool.not_eq_true] at c2
     have c2':=c2
     unfold zgr at c2'
     simp only[sxZ,z6,z7,z8,j6,j7,j8,j9,x0,x5,x6,x7,x8,x9,y3,y4,reduceCtorEq,↓reduceIte,List.getElem?_set,hlen,t2,t5,t10,t11,t12,e0',gn1,c1,c2',zaz]
     rcases hA with ⟨rfl,rfl⟩|⟨r,g,rfl,hr⟩
     ·refine zaf (zlP (zgs [] y (by simp) ?_))
      have c3:zhY y []=false:=rfl
      rw[s5 c1 c2 c3 (by simp)]
      simp only[sxZ,z6,z7,z8,j6,j7,j8,j9,x0,x5,x6,x7,x8,x9,y3,y4,reduceCtorEq,↓reduceIte,List.getElem?_set,hlen,t2,t5,t10,t11,t12,e0',gn1,c1,c2',c3,zaz]
      refine⟨?_,.inr ⟨_,0,rfl,?_⟩⟩
      ·rw[List.getElem?_append_left (by simp)]
       exact e0' _
      ·rw[List.getElem?_append_right (by simp)];simp[zej]
     ·have hrl:=(List.getElem?_eq_some_iff.1 hr).1
      have hr0:r≠0:=fun h=>by rw[h,e0] at hr;cases hr
      have h1:∀z,(o++[z])[r]? = some (.orow 28 4 g acc.length (zej acc)):=fun z=>by rw[List.getElem?_append_left hrl];exact hr
      refine zaf (zlO (.b (zhY y acc)) (h1 _) (zeu _) rfl rfl ?_ (zgs acc y (by omega) rfl))
      by_cases c3:zhY y acc=true
      ·rw[s3 c3]
       simp only[sxZ,z6,z7,z8,j6,j7,j8,j9,x0,x5,x6,x7,x8,x9,y3,y4,reduceCtorEq,↓reduceIte,List.getElem?_set,hlen,t2,t5,t10,t11,t12,e0',gn1,c1,c2',c3,zaz]
       exact zou.mono (.inr ⟨r,g,rfl,hr⟩) _
      ·rw[Bool.not_eq_true] at c3
       by_cases c4:(acc.length:Int)<64
       ·rw[s5 c1 c2 c3 (by omega)]
        simp only[sxZ,z6,z7,z8,j6,j7,j8,j9,x0,x5,x6,x7,x8,x9,y3,y4,reduceCtorEq,↓reduceIte,List.getElem?_set,hlen,t2,t5,t10,t11,t12,e0',gn1,c1,c2',c3,c4,h1,zaz]
        refine⟨⟨by omega,by omega⟩,?_,.inr ⟨r,g+1,rfl,?_⟩⟩
        ·rw[if_neg hr0]
        ·rw[List.getElem?_set_self (by simp;omega),zmT,List.length_append]
         simp[zej]
       ·rw[s4 (by omega)]
        simp only[sxZ,z6,z7,z8,j6,j7,j8,j9,x0,x5,x6,x7,x8,x9,y3,y4,reduceCtorEq,↓reduceIte,List.getElem?_set,hlen,t2,t5,t10,t11,t12,e0',gn1,c1,c2',c3,c4,h1,zaz]
        exact zou.mono (.inr ⟨r,g,rfl,hr⟩) _
   ·rw[s1 c1]
    simp only[sxZ,z6,z7,z8,j6,j7,j8,j9,x0,x5,x6,x7,x8,x9,y3,y4,reduceCtorEq,↓reduceIte,List.getElem?_set,hlen,t2,t5,t10,t11,t12,e0',gn1,c1,zaz]
    exact hA.mono _
  ·rintro o2 tm2 ⟨e2,hA2,hlen2,k2,k10,k11,k12⟩
   simp only[sxZ,z6,z7,z8,j6,j7,j8,j9,x0,x5,x6,x7,x8,x9,y3,y4,reduceCtorEq,↓reduceIte]
   subst hV
   simp only[sxZ,z6,z7,z8,j6,j7,j8,j9,x0,x5,x6,x7,x8,x9,y3,y4,reduceCtorEq,↓reduceIte,List.getElem?_set,hlen2,k2,k10,k11,k12]
   rw[←hft] at hA2
   exact⟨by omega,ts.length - (i+1),by omega,i+1,by omega,rfl,e2,hA2,rfl⟩
 have hn:i=ts.length:=by omega
 rw[hn,List.take_of_length_le (Nat.le_refl _)] at hA
 simp only[sxZ,z6,z7,z8,j6,j7,j8,j9,x0,x5,x6,x7,x8,x9,y3,y4,reduceCtorEq,↓reduceIte,List.getElem?_set,hlen,t10,t11,t12,hlt]
 subst hW
 simp only[sxZ,z6,z7,z8,j6,j7,j8,j9,x0,x5,x6,x7,x8,x9,y3,y4,reduceCtorEq,↓reduceIte,List.getElem?_set,hlen]
 subst hZ
 rcases hA with ⟨h0,rfl⟩|⟨r,g,rfl,hr⟩
 ·simp only[sxZ,z6,z7,z8,j6,j7,j8,j9,x0,x5,x6,x7,x8,x9,y3,y4,reduceCtorEq,↓reduceIte,List.getElem?_set,hlen,t5]
  rw[h0] at hk ⊢
  exact⟨fun G I y hy=>zeq hy,hk⟩
 ·simp only[sxZ,z6,z7,z8,j6,j7,j8,j9,x0,x5,x6,x7,x8,x9,y3,y4,reduceCtorEq,↓reduceIte,List.getElem?_set,hlen,t5,hr,zlh]
  exact⟨fun G I y hy=>hy,hk⟩
end
end
section
attribute [local irreducible] run
theorem zou.cases {l:List IdP} {o:List OB} {X:AV} (h:zou l o X):(l=[]∧X=.nil)∨∃r g,X=.orow r g∧o[r]? = some (.orow 28 4 g l.length (zej l)):=h
section
variable [Tabs Tryz.prog] {objs:List OB} {K:List OB→AV→Prop}
theorem zgm (l:List IdP) (hl:l.length≤1000) (hk:K objs (.b true)):zad Tryz.prog 8 [.row l.length (zej l),.row l.length (zej l)] objs K:=by
 have hlen4:=zeO l
 refine zaU is_ref27_SameNames (by simp only[zaK,AV.plain,zeu,Bool.and_self]) fun C _=>?_
 rw[c_ref27_SameNames]
 refine zae fun Y hY=>?_
 simp only[sxZ,z6,z7,z8,j6,j7,j8,j9,x0,x5,x6,x7,x8,x9,y3,y4,reduceCtorEq,↓reduceIte]
 subst hY
 refine zae fun Y hY=>?_
 refine zae fun Z hZ=>?_
 simp only[sxZ,z6,z7,z8,j6,j7,j8,j9,x0,x5,x6,x7,x8,x9,y3,y4,reduceCtorEq,↓reduceIte]
 subst hZ
 simp only[sxZ,z6,z7,z8,j6,j7,j8,j9,x0,x5,x6,x7,x8,x9,y3,y4,reduceCtorEq,↓reduceIte]
 subst hY
 refine zae fun Y hY=>?_
 refine zae fun Z hZ=>?_
 simp only[sxZ,z6,z7,z8,j6,j7,j8,j9,x0,x5,x6,x7,x8,x9,y3,y4,reduceCtorEq,↓reduceIte]
 subst hZ
 rw[zbY]
 refine zbg (fun n o tm=>∃i:Nat,i≤l.length∧n=l.length - i∧o=[]∧tm.length=26∧tm[0]? = some (.row l.length (zej l))∧tm[1]? = some (.row l.length (zej l))∧tm[12]? = some (.i .i64 (l.length:Int))∧tm[13]? = some (.i .i64 (i:Int))) l.length ⟨0,Nat.zero_le _,rfl,rfl,rfl,rfl,rfl,rfl,rfl⟩ ?_
 rintro n _ tm ⟨i,hi,rfl,rfl,hlen,t0,t1,t12,t13⟩
 refine zae fun Z hZ=>?_
 by_cases hlt:(i:Int)<(l.length:Int)
 ·have hi':i<l.length:=by omega
  have kv:=id_at hi'
  generalize l[i]=y at kv
  simp only[sxZ,z6,z7,z8,j6,j7,j8,j9,x0,x5,x6,x7,x8,x9,y3,y4,reduceCtorEq,↓reduceIte,List.getElem?_set,hlen,t0,t1,t12,t13,hlt]
  subst hZ
  refine zae fun Z hZ=>?_
  simp only[sxZ,z6,z7,z8,j6,j7,j8,j9,x0,x5,x6,x7,x8,x9,y3,y4,reduceCtorEq,↓reduceIte,List.getElem?_set,hlen]
  subst hZ
  refine zae fun W hW=>?_
  rw[zbY]
  refine zae fun Z hZ=>?_
  simp only[sxZ,z6,z7,z8,j6,j7,j8,j9,x0,x5,x6,x7,x8,x9,y3,y4,reduceCtorEq,↓reduceIte,List.getElem?_set,hlen,t13]
  subst hZ
  simp only[sxZ,z6,z7,z8,j6,j7,j8,j9,x0,x5,x6,x7,x8,x9,y3,y4,reduceCtorEq,↓reduceIte,List.getElem?_set,hlen,t0,t1,kv]
  (and_intros<;>try omega)
  subst hW
  simp only[sxZ,z6,z7,z8,j6,j7,j8,j9,x0,x5,x6,x7,x8,x9,y3,y4,reduceCtorEq,↓reduceIte,List.getElem?_set,hlen,t0,t1,t12,t13]
  exact⟨by omega,l.length - (i+1),by omega,i+1,by omega,rfl,rfl⟩
 simp only[sxZ,z6,z7,z8,j6,j7,j8,j9,x0,x5,x6,x7,x8,x9,y3,y4,reduceCtorEq,↓reduceIte,List.getElem?_set,hlen,t0,t1,t12,t13,hlt]
 subst hZ
 subst hY
 simp only[sxZ,z6,z7,z8,j6,j7,j8,j9,x0,x5,x6,x7,x8,x9,y3,y4,reduceCtorEq,↓reduceIte,List.getElem?_set,hlen]
 exact hk
end
section
variable [Tabs Tryz.prog] {objs:List OB} {K:List OB→AV→Prop}
theorem zih (x:IdP) (ts:List (List UInt8)) (hn:ts.length≤1000) (hts:∀t∈ts,t.length≤140737488351232) (hk:K objs (.row (zhU x ts).length (zej (zhU x ts)))):zad Tryz.prog 20 [.row ts.length (ts.map .s),zew x] objs K:=by
 refine zp5 (.row (zhU x ts).length (zej (zhU x ts))) ?_
 refine zaU is_ref27_Collect (by simp only[zaK,zlx,AV.plain,zdy,Bool.and_self]) fun C _=>?_
 rw[c_ref27_Collect]
 unfold zew
 refine zae fun Z hZ=>?_
 simp only[sxZ,z6,z7,z8,j6,j7,j8,j9,x0,x5,x6,x7,x8,x9,y3,y4,reduceCtorEq,↓reduceIte]
 subst hZ
 refine zae fun Z hZ=>?_
 simp only[sxZ,z6,z7,z8,j6,j7,j8,j9,x0,x5,x6,x7,x8,x9,y3,y4,reduceCtorEq,↓reduceIte]
 subst hZ
 refine zae fun Z hZ=>?_
 refine zae fun W hW=>?_
 simp only[sxZ,z6,z7,z8,j6,j7,j8,j9,x0,x5,x6,x7,x8,x9,y3,y4,reduceCtorEq,↓reduceIte]
 subst hW
 rw[zbY]
 refine zbg (fun m o tm=>∃(i:Nat),i≤ts.length∧m=ts.length - i∧o[0]? = some (.box 28 [.i .i64 x.kind,.s x.text,.s x.host,.i .i64 x.port])∧zou (zhU x (ts.take i)) o (tm[5]?.getD .u)∧tm.length=57∧tm[3]? = some (.p 0 0)∧tm[13]? = some (.row ts.length (ts.map .s))∧tm[14]? = some (.i .i64 (ts.length:Int))∧tm[15]? = some (.i .i64 (i:Int))) ts.length ⟨0,Nat.zero_le _,rfl,rfl,.inl ⟨rfl,rfl⟩,rfl,rfl,rfl,rfl,rfl⟩ ?_
 rintro m o tm ⟨i,hi,rfl,e0,hA,hlen,t3,t13,t14,t15⟩
 obtain⟨a5,t5⟩:∃a,tm[5]? = some a:=⟨_,List.getElem?_eq_getElem (by omega)⟩
 rw[t5,Option.getD_some] at hA
 refine zae fun W hW=>?_
 by_cases hlt:(i:Int)<(ts.length:Int)
 ·have hi':i<ts.length:=by omega
  have kv:(ts.map AV.s)[i*1]? = some (.s ts[i]):=by rw[Nat.mul_one,List.getElem?_map,List.getElem?_eq_getElem hi'];rfl
  have hft:=zka (id:=x) hi'
  have hok:=hts ts[i] (List.getElem_mem hi')
  have hal:=zgI x (ts.take i)
  generalize ts[i]=t at kv hft hok
  generalize zhU x (ts.take i)=acc at hA hft hal
  have hal4:=zeO acc
  have e0':∀z,(o++[z])[0]? = some (.box 28 [.i .i64 x.kind,.s x.text,.s x.host,.i .i64 x.port]):=fun z=>by rw[List.getElem?_append_left (List.getElem?_eq_some_iff.1 e0).1];exact e0
  simp only[sxZ,z6,z7,z8,j6,j7,j8,j9,x0,x5,x6,x7,x8,x9,y3,y4,reduceCtorEq,↓reduceIte,List.getElem?_set,hlen,t13,t14,t15,hlt]
  subst hW
  refine zae fun W hW=>?_
  simp only[sxZ,z6,z7,z8,j6,j7,j8,j9,x0,x5,x6,x7,x8,x9,y3,y4,reduceCtorEq,↓reduceIte,List.getElem?_set,hlen]
  subst hW
  refine zae fun V hV=>?_
  rw[zbY]
  refine zae fun W hW=>?_
  simp only[sxZ,z6,z7,z8,j6,j7,j8,j9,x0,x5,x6,x7,x8,x9,y3,y4,reduceCtorEq,↓reduceIte,List.getElem?_set,hlen,t13,t15,kv,List.length_map]
  refine⟨⟨by omega,by omega,by omega⟩,?_⟩
  subst hW
  refine zae fun W hW=>?_
  simp only[sxZ,z6,z7,z8,j6,j7,j8,j9,x0,x5,x6,x7,x8,x9,y3,y4,reduceCtorEq,↓reduceIte,List.getElem?_set,hlen]
  refine zaf (zig t hok ?_)
  have s1:=@zpT x acc t
  have s2:=@zpQ x acc t
  have s3:=@zpR x acc t
  have s4:=@zpS x acc t
  have s5:=@zpP x acc t
  obtain⟨⟨er,y⟩,hy⟩:∃r,za2 t=r:=⟨_,rfl⟩
  rw[hy] at s1 s2 s3 s5 ⊢
  simp only[idT,zew,sxZ,z6,z7,z8,j6,j7,j8,j9,x0,x5,x6,x7,x8,x9,y3,y4,reduceCtorEq,↓reduceIte,List.getElem?_set,hlen,gn1,sn1]
  subst hW
  refine zae fun W hW=>?_
  refine zgk (fun o2 t2=>o2=o++[.box 28 [.i .i64 y.kind,.s y.text,.s y.host,.i .i64 y.port]]∧t2.length=57∧t2[3]? = some (.p 0 0)∧t2[5]? = some a5∧t2[8]? = some (.p o.length 0)∧t2[13]? = some (.row ts.length (ts.map .s))∧t2[14]? = some (.i .i64 (ts.length:Int))∧t2[15]? = some (.i .i64 (i:Int))∧t2[10]? = some (.b (!decide (er=0)||zgr y x))) ?_ ?_
  ·by_cases c1:er=0
   ·cases c2:zgr y x with
    | true=>
     have c2':=c2
     unfold zgr at c2'
     simp only[sxZ,z6,z7,z8,j6,j7,j8,j9,x0,x5,x6,x7,x8,x9,y3,y4,reduceCtorEq,↓reduceIte,List.getElem?_set,hlen,t3,t5,t13,t14,t15,e0',gn1,c1,c2',zaz,decide_true,Bool.not_true,Bool.false_or]
    | false=>
     have c2':=c2
     unfold zgr at c2'
     simp only[sxZ,z6,z7,z8,j6,j7,j8,j9,x0,x5,x6,x7,x8,x9,y3,y4,reduceCtorEq,↓reduceIte,List.getElem?_set,hlen,t3,t5,t13,t14,t15,e0',gn1,c1,c2',zaz,decide_true,Bool.not_true,Bool.false_or]
   ·simp only[sxZ,z6,z7,z8,j6,j7,j8,j9,x0,x5,x6,x7,x8,x9,y3,y4,reduceCtorEq,↓reduceIte,List.getElem?_set,hlen,t3,t5,t13,t14,t15,e0',gn1,c1,zaz,decide_false,Bool.not_false,Bool.true_or]
  rintro _ tm2 ⟨rfl,hlen2,k3,k5,k8,k13,k14,k15,k10⟩
  subst hW
  refine zae fun W hW=>?_
  refine zae fun U hU=>?_
  have hA2:=hA.mono (.box 28 [.i .i64 y.kind,.s y.text,.s y.host,.i .i64 y.port])
  have ey:(o++[.box 28 [.i .i64 y.kind,.s y.text,.s y.host,.i .i64 y.port]])[o.length]? = some (.box 28 [.i .i64 y.kind,.s y.text,.s y.host,.i .i64 y.port]):=gn1 _ _
  have e2:=e0' (.box 28 [.i .i64 y.kind,.s y.text,.s y.host,.i .i64 y.port])
  generalize o++[.box 28 [.i .i64 y.kind,.s y.text,.s y.host,.i .i64 y.port]]=o2 at hA2 ey e2 ⊢
  refine zgk (fun o3 t3=>o3=o2∧t3.length=57∧t3[3]? = some (.p 0 0)∧t3[5]? = some a5∧t3[8]? = some (.p o.length 0)∧t3[13]? = some (.row ts.length (ts.map .s))∧t3[14]? = some (.i .i64 (ts.length:Int))∧t3[15]? = some (.i .i64 (i:Int))∧t3[10]? = some (.b (!decide (er=0)||zgr y x))∧t3[31]? = some a5∧t3[32]? = some (.i .i64 (acc.length:Int))∧t3[33]? = some (.i .i64 0)) ?_ ?_
  ·rcases hA2 with ⟨rfl,rfl⟩|⟨r,g,rfl,hr⟩
   ·simp only[sxZ,z6,z7,z8,j6,j7,j8,j9,x0,x5,x6,x7,x8,x9,y3,y4,reduceCtorEq,↓reduceIte,List.getElem?_set,hlen2,k3,k5,k8,k10,k13,k14,k15,zaz,List.length_nil]
    rfl
   ·simp only[sxZ,z6,z7,z8,j6,j7,j8,j9,x0,x5,x6,x7,x8,x9,y3,y4,reduceCtorEq,↓reduceIte,List.getElem?_set,hlen2,k3,k5,k8,k10,k13,k14,k15,hr,zaz]
  rintro _ tm3 ⟨rfl,hlen3,m3,m5,m8,m13,m14,m15,m10,m31,m32,m33⟩
  subst hU
  rw[zbY]
  refine zbg (fun m o3 t3=>∃(j:Nat),j≤acc.length∧m=acc.length - j∧o3[0]? = some (.box 28 [.i .i64 x.kind,.s x.text,.s x.host,.i .i64 x.port])∧o3[o.length]? = some (.box 28 [.i .i64 y.kind,.s y.text,.s y.host,.i .i64 y.port])∧zou acc o3 a5∧t3.length=57∧t3[3]? = some (.p 0 0)∧t3[5]? = some a5∧t3[8]? = some (.p o.length 0)∧t3[13]? = some (.row ts.length (ts.map .s))∧t3[14]? = some (.i .i64 (ts.length:Int))∧t3[15]? = some (.i .i64 (i:Int))∧t3[10]? = some (.b ((!decide (er=0)||zgr y x)||zhY y (acc.take j)))∧t3[31]? = some a5∧t3[32]? = some (.i .i64 (acc.length:Int))∧t3[33]? = some (.i .i64 (j:Int))) acc.length ⟨0,Nat.zero_le _,rfl,e2,ey,hA2,hlen3,m3,m5,m8,m13,m14,m15,by rw[m10,List.take_zero];simp[zhY],m31,m32,m33⟩ ?_
  clear hlen2 k3 k5 k8 k13 k14 k15 k10 hlen3 m3 m5 m8 m13 m14 m15 m10 m31 m32 m33 hA2 ey e2
  rintro m o3 tm3 ⟨j,hj,rfl,e2,ey,hA2,hlen3,m3,m5,m8,m13,m14,m15,m10,m31,m32,m33⟩
  refine zae fun U hU=>?_
  by_cases hlt2:(j:Int)<(acc.length:Int)
  ·have hj':j<acc.length:=by omega
   have kj:=id_at hj'
   have hin:=zkw (x:=y) hj'
   generalize acc[j]=z at kj hin
   rcases hA2 with ⟨h0,rfl⟩|⟨r,g,rfl,hr⟩
   ·rw[h0] at hj';simp at hj'
   simp only[sxZ,z6,z7,z8,j6,j7,j8,j9,x0,x5,x6,x7,x8,x9,y3,y4,reduceCtorEq,↓reduceIte,List.getElem?_set,hlen3,m31,m32,m33,hlt2]
   subst hU
   refine zae fun U hU=>?_
   simp only[sxZ,z6,z7,z8,j6,j7,j8,j9,x0,x5,x6,x7,x8,x9,y3,y4,reduceCtorEq,↓reduceIte,List.getElem?_set,hlen3]
   subst hU
   refine zae fun U hU=>?_
   rw[zbY]
   refine zae fun T hT=>?_
   simp only[sxZ,z6,z7,z8,j6,j7,j8,j9,x0,x5,x6,x7,x8,x9,y3,y4,reduceCtorEq,↓reduceIte,List.getElem?_set,hlen3,m31,m33,hr,kj]
   have hal5:=zeO acc
   refine⟨⟨by omega,by omega⟩,by omega,?_⟩
   simp only[sxZ,z6,z7,z8,j6,j7,j8,j9,x0,x5,x6,x7,x8,x9,y3,y4,reduceCtorEq,↓reduceIte,List.getElem?_set,hlen3,gn1,sn1]
   subst hT
   have hA3:=zou.mono (l:=acc) (o:=o3) (.inr ⟨r,g,rfl,hr⟩) (.box 28 [.i .i64 z.kind,.s z.text,.s z.host,.i .i64 z.port])
   have f2:(o3++[.box 28 [.i .i64 z.kind,.s z.text,.s z.host,.i .i64 z.port]])[0]? = some (.box 28 [.i .i64 x.kind,.s x.text,.s x.host,.i .i64 x.port]):=by rw[List.getElem?_append_left (List.getElem?_eq_some_iff.1 e2).1];exact e2
   have fy:(o3++[.box 28 [.i .i64 z.kind,.s z.text,.s z.host,.i .i64 z.port]])[o.length]? = some (.box 28 [.i .i64 y.kind,.s y.text,.s y.host,.i .i64 y.port]):=by rw[List.getElem?_append_left (List.getElem?_eq_some_iff.1 ey).1];exact ey
   have fz:(o3++[.box 28 [.i .i64 z.kind,.s z.text,.s z.host,.i .i64 z.port]])[o3.length]? = some (.box 28 [.i .i64 z.kind,.s z.text,.s z.host,.i .i64 z.port]):=gn1 _ _
   generalize o3++[.box 28 [.i .i64 z.kind,.s z.text,.s z.host,.i .i64 z.port]]=o4 at hA3 f2 fy fz ⊢
   refine zgk (fun o5 t3=>o5=o4∧t3.length=57∧t3[3]? = some (.p 0 0)∧t3[5]? = some (.orow r g)∧t3[8]? = some (.p o.length 0)∧t3[13]? = some (.row ts.length (ts.map .s))∧t3[14]? = some (.i .i64 (ts.length:Int))∧t3[15]? = some (.i .i64 (i:Int))∧t3[10]? = some (.b ((!decide (er=0)||zgr y x)||zhY y (acc.take (j+1))))∧t3[31]? = some (.orow r g)∧t3[32]? = some (.i .i64 (acc.length:Int))∧t3[33]? = some (.i .i64 (j:Int))) ?_ ?_
   ·rw[hin,←Bool.or_assoc]
    cases hs:((!decide (er=0)||zgr y x)||zhY y (acc.take j)) with
    | true=>
     rw[hs] at m10
     simp only[sxZ,z6,z7,z8,j6,j7,j8,j9,x0,x5,x6,x7,x8,x9,y3,y4,reduceCtorEq,↓reduceIte,List.getElem?_set,hlen3,m3,m5,m8,m13,m14,m15,m10,m31,m32,m33,zaz,Bool.true_or]
    | false=>
     rw[hs] at m10
     cases c2:zgr y z with
     | true=>
      have c2':=c2
      unfold zgr at c2'
      simp only[sxZ,z6,z7,z8,j6,j7,j8,j9,x0,x5,x6,x7,x8,x9,y3,y4,reduceCtorEq,↓reduceIte,List.getElem?_set,hlen3,m3,m5,m8,m13,m14,m15,m10,m31,m32,m33,fy,fz,c2',zaz,Bool.false_or]
     | false=>
      have c2':=c2
      unfold zgr at c2'
      simp only[sxZ,z6,z7,z8,j6,j7,j8,j9,x0,x5,x6,x7,x8,x9,y3,y4,reduceCtorEq,↓reduceIte,List.getElem?_set,hlen3,m3,m5,m8,m13,m14,m15,m10,m31,m32,m33,fy,fz,c2',zaz,Bool.false_or]
   rintro _ tm4 ⟨rfl,hlen4,n3,n5,n8,n13,n14,n15,n10,n31,n32,n33⟩
   simp only[sxZ,z6,z7,z8,j6,j7,j8,j9,x0,x5,x6,x7,x8,x9,y3,y4,reduceCtorEq,↓reduceIte]
   subst hU
   simp only[sxZ,z6,z7,z8,j6,j7,j8,j9,x0,x5,x6,x7,x8,x9,y3,y4,reduceCtorEq,↓reduceIte,List.getElem?_set,hlen4,n3,n5,n8,n13,n14,n15,n10,n31,n32,n33]
   exact⟨by omega,acc.length - (j+1),by omega,j+1,by omega,rfl,f2,fy,hA3,rfl,rfl⟩
  ·have hn2:j=acc.length:=by omega
   rw[hn2,List.take_of_length_le (Nat.le_refl _)] at m10
   simp only[sxZ,z6,z7,z8,j6,j7,j8,j9,x0,x5,x6,x7,x8,x9,y3,y4,reduceCtorEq,↓reduceIte,List.getElem?_set,hlen3,m31,m32,m33,hlt2]
   subst hU
   simp only[sxZ,z6,z7,z8,j6,j7,j8,j9,x0,x5,x6,x7,x8,x9,y3,y4,reduceCtorEq,↓reduceIte,List.getElem?_set,hlen3]
   subst hW
   refine zgk (fun o2 t2=>o2[0]? = some (.box 28 [.i .i64 x.kind,.s x.text,.s x.host,.i .i64 x.port])∧zou (zjA x acc t) o2 (t2[5]?.getD .u)∧t2.length=57∧t2[3]? = some (.p 0 0)∧t2[13]? = some (.row ts.length (ts.map .s))∧t2[14]? = some (.i .i64 (ts.length:Int))∧t2[15]? = some (.i .i64 (i:Int))) ?_ ?_
   ·cases hs:((!decide (er=0)||zgr y x)||zhY y acc) with
    | true=>
     rw[hs] at m10
     have e:zjA x acc t=acc:=by
      rcases Bool.or_eq_true _ _▸hs with h|h
      ·rcases Bool.or_eq_true _ _▸h with h|h
       ·exact s1 (by simpa using h)
       ·exact s2 h
      ·exact s3 h
     rw[e]
     simp only[sxZ,z6,z7,z8,j6,j7,j8,j9,x0,x5,x6,x7,x8,x9,y3,y4,reduceCtorEq,↓reduceIte,List.getElem?_set,hlen3,m3,m5,m8,m13,m14,m15,m10,zaz]
     exact⟨e2,hA2⟩
    | false=>
     rw[hs] at m10
     simp only[Bool.or_eq_false_iff,Bool.not_eq_false',decide_eq_true_eq] at hs
     obtain⟨⟨c1,c2⟩,c3⟩:=hs
     by_cases c4:(acc.length:Int)<64
     ·rw[s5 c1 c2 c3 (by omega)]
      rcases hA2 with ⟨rfl,rfl⟩|⟨r,g,rfl,hr⟩
      ·simp only[sxZ,z6,z7,z8,j6,j7,j8,j9,x0,x5,x6,x7,x8,x9,y3,y4,reduceCtorEq,↓reduceIte,List.getElem?_set,hlen3,m3,m5,m8,m13,m14,m15,m10,ey,zaz]
       refine⟨?_,.inr ⟨_,0,rfl,?_⟩⟩
       ·rw[List.getElem?_append_left (List.getElem?_eq_some_iff.1 e2).1]
        exact e2
       ·rw[gn1];simp[zej]
      ·have hrl:=(List.getElem?_eq_some_iff.1 hr).1
       have hr0:r≠0:=fun h=>by rw[h,e2] at hr;cases hr
       simp only[sxZ,z6,z7,z8,j6,j7,j8,j9,x0,x5,x6,x7,x8,x9,y3,y4,reduceCtorEq,↓reduceIte,List.getElem?_set,hlen3,m3,m5,m8,m13,m14,m15,m10,ey,hr,c4,zaz]
       refine⟨⟨by omega,by omega⟩,?_,.inr ⟨r,g+1,rfl,?_⟩⟩
       ·rw[if_neg hr0];exact e2
       ·rw[List.getElem?_set_self hrl,zmT,List.length_append]
        simp[zej]
     ·rw[s4 (by omega)]
      rcases hA2 with ⟨rfl,rfl⟩|⟨r,g,rfl,hr⟩
      ·simp at c4
      ·simp only[sxZ,z6,z7,z8,j6,j7,j8,j9,x0,x5,x6,x7,x8,x9,y3,y4,reduceCtorEq,↓reduceIte,List.getElem?_set,hlen3,m3,m5,m8,m13,m14,m15,m10,ey,hr,c4,zaz]
       exact⟨e2,.inr ⟨r,g,rfl,hr⟩⟩
   ·rintro o2 tm2 ⟨e2,hA2,hlen2,k3,k13,k14,k15⟩
    simp only[sxZ,z6,z7,z8,j6,j7,j8,j9,x0,x5,x6,x7,x8,x9,y3,y4,reduceCtorEq,↓reduceIte]
    subst hV
    simp only[sxZ,z6,z7,z8,j6,j7,j8,j9,x0,x5,x6,x7,x8,x9,y3,y4,reduceCtorEq,↓reduceIte,List.getElem?_set,hlen2,k3,k13,k14,k15]
    rw[←hft] at hA2
    exact⟨by omega,ts.length - (i+1),by omega,i+1,by omega,rfl,e2,hA2,rfl⟩
 have hn:i=ts.length:=by omega
 rw[hn,List.take_of_length_le (Nat.le_refl _)] at hA
 simp only[sxZ,z6,z7,z8,j6,j7,j8,j9,x0,x5,x6,x7,x8,x9,y3,y4,reduceCtorEq,↓reduceIte,List.getElem?_set,hlen,t13,t14,t15,hlt]
 subst hW
 simp only[sxZ,z6,z7,z8,j6,j7,j8,j9,x0,x5,x6,x7,x8,x9,y3,y4,reduceCtorEq,↓reduceIte,List.getElem?_set,hlen]
 subst hZ
 rcases hA with ⟨h0,rfl⟩|⟨r,g,rfl,hr⟩
 ·simp only[sxZ,z6,z7,z8,j6,j7,j8,j9,x0,x5,x6,x7,x8,x9,y3,y4,reduceCtorEq,↓reduceIte,List.getElem?_set,hlen,t5]
  rw[h0] at hk ⊢
  exact⟨fun G I y hy=>zeq hy,hk⟩
 ·simp only[sxZ,z6,z7,z8,j6,j7,j8,j9,x0,x5,x6,x7,x8,x9,y3,y4,reduceCtorEq,↓reduceIte,List.getElem?_set,hlen,t5,hr,zlh]
  exact⟨fun G I y hy=>hy,hk⟩
end
end
section
attribute [local irreducible] run
def JrB (subj:List UInt8) (al:List (List UInt8)) (pr:List PrP) (lk:List LkP):Prop:=subj.length≤300∧al.length≤70∧lk.length≤70∧pr.length≤70∧(∀a∈al,a.length≤300)∧∀x∈lk,x.rel.length+x.typ.length+x.href.length+x.tmp.length≤900∧x.tit.length≤70∧x.pro.length≤70
theorem jr_pl1 (subj:List UInt8) (al:List (List UInt8)) (pr:List PrP) (lk:List LkP):zaK [zi8 subj al pr lk]=true:=by
 unfold zi8
 simp only[zaK,AV.plain,zdy,zd6,zf5,Bool.and_self]
section
variable [Tabs Tryz.prog] {objs:List OB} {K:List OB→AV→Prop}
theorem zqf (subj:List UInt8) (al:List (List UInt8)) (pr:List PrP) (lk:List LkP) (h0:subj.length≤140737488351232) (h1:∀a∈al,a.length≤140737488351232) (h2:∀x∈lk,LkOk x) (hk:∀b,(b=true→JrB subj al pr lk)→K objs (.b b)):zad Tryz.prog 5 [zi8 subj al pr lk] objs K:=by
 refine zaU is_keep_JRD (jr_pl1 _ _ _ _) fun C _=>?_
 rw[c_keep_JRD]
 unfold zi8
 have hlen6:=zdA lk
 have no:=hk false (fun h=>by cases h)
 refine zae fun Z hZ=>?_
 simp only[sxZ,z6,z7,z8,j6,j7,j8,j9,x0,x5,x6,x7,x8,x9,y3,y4,reduceCtorEq,↓reduceIte]
 subst hZ
 refine zae fun Z hZ=>?_
 by_cases c1:(300:Int)<(subj.length:Int)
 ·simp only[sxZ,z6,z7,z8,j6,j7,j8,j9,x0,x5,x6,x7,x8,x9,y3,y4,reduceCtorEq,↓reduceIte,c1]
  exact no
 by_cases c2:(70:Int)<(al.length:Int)
 ·simp only[sxZ,z6,z7,z8,j6,j7,j8,j9,x0,x5,x6,x7,x8,x9,y3,y4,reduceCtorEq,↓reduceIte,c1,c2]
  exact no
 by_cases c3:(70:Int)<(lk.length:Int)
 ·simp only[sxZ,z6,z7,z8,j6,j7,j8,j9,x0,x5,x6,x7,x8,x9,y3,y4,reduceCtorEq,↓reduceIte,c1,c2,c3]
  exact no
 by_cases c4:(70:Int)<(pr.length:Int)
 ·simp only[sxZ,z6,z7,z8,j6,j7,j8,j9,x0,x5,x6,x7,x8,x9,y3,y4,reduceCtorEq,↓reduceIte,c1,c2,c3,c4]
  exact no
 simp only[sxZ,z6,z7,z8,j6,j7,j8,j9,x0,x5,x6,x7,x8,x9,y3,y4,reduceCtorEq,↓reduceIte,c1,c2,c3,c4]
 subst hZ
 refine zae fun Z hZ=>?_
 refine zae fun W hW=>?_
 simp only[sxZ,z6,z7,z8,j6,j7,j8,j9,x0,x5,x6,x7,x8,x9,y3,y4,reduceCtorEq,↓reduceIte]
 subst hW
 rw[zbY]
 refine zbg (fun m o tm=>∃(i:Nat),i≤al.length∧m=al.length - i∧o[0]? = some (.box 26 [.s subj,.row al.length (al.map .s),.row pr.length (zcT pr),.row lk.length (zdk lk)])∧(∀a∈al.take i,a.length≤300)∧tm.length=76∧tm[1]? = some (.p 0 0)∧tm[30]? = some (.row al.length (al.map .s))∧tm[31]? = some (.i .i64 (al.length:Int))∧tm[32]? = some (.i .i64 (i:Int))) al.length ⟨0,Nat.zero_le _,rfl,rfl,by simp,rfl,rfl,rfl,rfl,rfl⟩ ?_
 rintro m o tm ⟨i,hi,rfl,e0,hall,hlen,t1,t30,t31,t32⟩
 refine zae fun W hW=>?_
 by_cases hlt:(i:Int)<(al.length:Int)
 ·have hi':i<al.length:=by omega
  have kv:(al.map AV.s)[i*1]? = some (.s al[i]):=by rw[Nat.mul_one,List.getElem?_map,List.getElem?_eq_getElem hi'];rfl
  have htk:al.take (i+1)=al.take i++[al[i]]:=by rw[List.take_add_one,List.getElem?_eq_getElem hi'];rfl
  generalize al[i]=x at kv htk
  simp only[sxZ,z6,z7,z8,j6,j7,j8,j9,x0,x5,x6,x7,x8,x9,y3,y4,reduceCtorEq,↓reduceIte,List.getElem?_set,hlen,t30,t31,t32,hlt]
  subst hW
  refine zae fun W hW=>?_
  simp only[sxZ,z6,z7,z8,j6,j7,j8,j9,x0,x5,x6,x7,x8,x9,y3,y4,reduceCtorEq,↓reduceIte,List.getElem?_set,hlen]
  subst hW
  refine zae fun V hV=>?_
  rw[zbY]
  refine zae fun W hW=>?_
  simp only[sxZ,z6,z7,z8,j6,j7,j8,j9,x0,x5,x6,x7,x8,x9,y3,y4,reduceCtorEq,↓reduceIte,List.getElem?_set,hlen,t30,t32,kv,List.length_map]
  refine⟨⟨by omega,by omega,by omega⟩,?_⟩
  subst hW
  by_cases c:(300:Int)<(x.length:Int)
  ·simp only[sxZ,z6,z7,z8,j6,j7,j8,j9,x0,x5,x6,x7,x8,x9,y3,y4,reduceCtorEq,↓reduceIte,List.getElem?_set,hlen,c]
   exact no
  ·simp only[sxZ,z6,z7,z8,j6,j7,j8,j9,x0,x5,x6,x7,x8,x9,y3,y4,reduceCtorEq,↓reduceIte,List.getElem?_set,hlen,c]
   subst hV
   simp only[sxZ,z6,z7,z8,j6,j7,j8,j9,x0,x5,x6,x7,x8,x9,y3,y4,reduceCtorEq,↓reduceIte,List.getElem?_set,hlen,t1,t30,t31,t32]
   refine⟨by omega,al.length - (i+1),by omega,i+1,by omega,rfl,e0,fun a ha=>?_,rfl⟩
   rw[htk] at ha
   rcases List.mem_append.1 ha with ha|ha
   ·exact hall a ha
   ·rw[List.mem_singleton] at ha;subst ha;omega
 have hn:i=al.length:=by omega
 rw[hn,List.take_of_length_le (Nat.le_refl _)] at hall
 simp only[sxZ,z6,z7,z8,j6,j7,j8,j9,x0,x5,x6,x7,x8,x9,y3,y4,reduceCtorEq,↓reduceIte,List.getElem?_set,hlen,t30,t31,t32,hlt]
 subst hW
 simp only[sxZ,z6,z7,z8,j6,j7,j8,j9,x0,x5,x6,x7,x8,x9,y3,y4,reduceCtorEq,↓reduceIte,List.getElem?_set,hlen]
 subst hZ
 refine zae fun Z hZ=>?_
 refine zae fun W hW=>?_
 simp only[sxZ,z6,z7,z8,j6,j7,j8,j9,x0,x5,x6,x7,x8,x9,y3,y4,reduceCtorEq,↓reduceIte,List.getElem?_set,hlen,t1,e0]
 subst hW
 rw[zbY]
 refine zbg (fun m o tm=>∃(i:Nat),i≤lk.length∧m=lk.length - i∧(∀x∈lk.take i,x.rel.length+x.typ.length+x.href.length+x.tmp.length≤900∧x.tit.length≤70∧x.pro.length≤70)∧tm.length=76∧tm[41]? = some (.row lk.length (zdk lk))∧tm[42]? = some (.i .i64 (lk.length:Int))∧tm[43]? = some (.i .i64 (i:Int))) lk.length ⟨0,Nat.zero_le _,rfl,by simp,?_⟩ ?_
 ·simp only[sxZ,z6,z7,z8,j6,j7,j8,j9,x0,x5,x6,x7,x8,x9,y3,y4,reduceCtorEq,↓reduceIte,List.length_set,List.getElem?_set,hlen,Int.cast_ofNat_Int,and_self]
 clear hlen t1 t30 t31 t32 e0 hlt hi hn
 rintro m o tm ⟨i,hi,rfl,hal2,hlen,t41,t42,t43⟩
 refine zae fun W hW=>?_
 by_cases hlt:(i:Int)<(lk.length:Int)
 ·have hi':i<lk.length:=by omega
  have hjc:=zof hi'
  have hok:=h2 lk[i] (List.getElem_mem hi')
  have htk:lk.take (i+1)=lk.take i++[lk[i]]:=by rw[List.take_add_one,List.getElem?_eq_getElem hi'];rfl
  generalize lk[i]=x at hjc hok htk
  obtain⟨o1,o2,o3,o4,o5,o6⟩:=hok
  unfold lkc at hjc
  simp only[sxZ,z6,z7,z8,j6,j7,j8,j9,x0,x5,x6,x7,x8,x9,y3,y4,reduceCtorEq,↓reduceIte,List.getElem?_set,hlen,t41,t42,t43,hlt]
  subst hW
  refine zae fun W hW=>?_
  simp only[sxZ,z6,z7,z8,j6,j7,j8,j9,x0,x5,x6,x7,x8,x9,y3,y4,reduceCtorEq,↓reduceIte,List.getElem?_set,hlen]
  subst hW
  refine zae fun V hV=>?_
  rw[zbY]
  refine zae fun W hW=>?_
  simp only[sxZ,z6,z7,z8,j6,j7,j8,j9,x0,x5,x6,x7,x8,x9,y3,y4,reduceCtorEq,↓reduceIte,List.getElem?_set,hlen,t41,t43,hjc]
  refine⟨⟨by omega,by omega,by omega⟩,by omega,?_⟩
  simp only[sxZ,z6,z7,z8,j6,j7,j8,j9,x0,x5,x6,x7,x8,x9,y3,y4,reduceCtorEq,↓reduceIte,List.getElem?_set,hlen,gn1,sn1]
  subst hW
  by_cases c1:(900:Int)<(x.rel.length:Int)+x.typ.length+x.href.length+x.tmp.length
  ·simp only[sxZ,z6,z7,z8,j6,j7,j8,j9,x0,x5,x6,x7,x8,x9,y3,y4,reduceCtorEq,↓reduceIte,List.getElem?_set,hlen,gn1,c1]
   refine⟨by omega,by omega,by omega,no⟩
  by_cases c2:(70:Int)<(x.tit.length:Int)
  ·simp only[sxZ,z6,z7,z8,j6,j7,j8,j9,x0,x5,x6,x7,x8,x9,y3,y4,reduceCtorEq,↓reduceIte,List.getElem?_set,hlen,gn1,c1,c2]
   refine⟨by omega,by omega,by omega,no⟩
  by_cases c3:(70:Int)<(x.pro.length:Int)
  ·simp only[sxZ,z6,z7,z8,j6,j7,j8,j9,x0,x5,x6,x7,x8,x9,y3,y4,reduceCtorEq,↓reduceIte,List.getElem?_set,hlen,gn1,c1,c2,c3]
   refine⟨by omega,by omega,by omega,no⟩
  simp only[sxZ,z6,z7,z8,j6,j7,j8,j9,x0,x5,x6,x7,x8,x9,y3,y4,reduceCtorEq,↓reduceIte,List.getElem?_set,hlen,gn1,c1,c2,c3]
  refine⟨by omega,by omega,by omega,?_⟩
  subst hV
  simp only[sxZ,z6,z7,z8,j6,j7,j8,j9,x0,x5,x6,x7,x8,x9,y3,y4,reduceCtorEq,↓reduceIte,List.getElem?_set,hlen,t41,t42,t43]
  refine⟨by omega,lk.length - (i+1),by omega,i+1,by omega,rfl,fun y hy=>?_,rfl⟩
  rw[htk] at hy
  rcases List.mem_append.1 hy with hy|hy
  ·exact hal2 y hy
  ·rw[List.mem_singleton] at hy;subst hy;exact⟨by omega,by omega,by omega⟩
 have hn:i=lk.length:=by omega
 rw[hn,List.take_of_length_le (Nat.le_refl _)] at hal2
 simp only[sxZ,z6,z7,z8,j6,j7,j8,j9,x0,x5,x6,x7,x8,x9,y3,y4,reduceCtorEq,↓reduceIte,List.getElem?_set,hlen,t41,t42,t43,hlt]
 subst hW
 simp only[sxZ,z6,z7,z8,j6,j7,j8,j9,x0,x5,x6,x7,x8,x9,y3,y4,reduceCtorEq,↓reduceIte,List.getElem?_set,hlen]
 subst hZ
 simp only[sxZ,z6,z7,z8,j6,j7,j8,j9,x0,x5,x6,x7,x8,x9,y3,y4,reduceCtorEq,↓reduceIte,List.getElem?_set,hlen]
 exact hk true fun _=>⟨by omega,by omega,by omega,by omega,hall,hal2⟩
end
end
end Go.Proofs.YtnnipcgblooemaaGreatDoor
namespace Go.Proofs.YtnnipcgblooemaaGreatDoor.Sx
open Go.RowKit
def zgA (b gen n:Nat) (xs:List AV):AV→AV
 | .orow b' g'=>if b'=b∧g'=gen then .row n xs else .orow b' g'
 | x=>x
def subOB (b gen n:Nat) (xs:List AV):OB→OB
 | .box T cs=>.box T (cs.map (zgA b gen n xs))
 | x=>x
def pubO (objs:List OB) (b gen n:Nat) (xs:List AV):List OB:=(objs.map (subOB b gen n xs)).set b .dead
def zlk (G:Gh) (b gen:Nat):Gh:=⟨G.blk,fun x=>if x=b then some (gen+1,.slice none 0 0) else G.cur x⟩
theorem zlj {G:Gh} {b gen:Nat} {v:Value} (h:G.cur b=some (gen,v)):G.le (zlk G b gen) where
 blk:=fun _ _ h=>h
 cur:=fun x n w hx=>by
  by_cases hb:x=b
  ·subst hb
   rw[h] at hx;injection hx with hx;injection hx with h1 h2
   exact⟨gen+1,.slice none 0 0,by simp[zlk],.inr (by omega)⟩
  ·exact⟨n,w,by simp[zlk,hb,hx],.inl ⟨rfl,rfl⟩⟩
theorem zfz {G:Gh} {b gen:Nat} (hb:G.blk b=none) {x g:Nat} (h:(zlk G b gen).own x=some g):x≠b∧G.own x=some g:=by
 by_cases hx:x=b
 ·subst hx
  exfalso
  unfold Gh.own zlk at h
  simp only[hb] at h
  simp[Value.ownBlock] at h
 ·refine⟨hx,?_⟩
  unfold Gh.own zlk at h
  simp only[if_neg hx] at h
  exact h
def pubI (I:Imm) (G:Gh) (b:Nat) (w:World):Imm:=fun g o v=>I g o v∨(w.cell? ⟨g,o,none⟩=some v∧G.own b=some g)
theorem den_sub {G:Gh} {I:Imm} {objs:List OB} {w:World} (hm:MemOk G I objs w) {b E sz gen n:Nat} {xs:List AV} (hb:objs[b]? = some (.orow E sz gen n xs)) (x:AV) (y:Value) (h:Den G I x y):Den (zlk G b gen) (pubI I G b w) (zgA b gen n xs x) y:=by
 obtain⟨v',vs,m1,m2,m3,m4,m5⟩:=hm.row b E sz gen n xs hb
 have hG:=zlj m1
 have hI:Imm.le I (pubI I G b w):=fun _ _ _ h=>.inl h
 have other:zgA b gen n xs x=x→Den (zlk G b gen) (pubI I G b w) (zgA b gen n xs x) y:=fun e=>by rw[e];exact Den.mono hG hI x y h
 cases x with
 | orow b' g'=>
  by_cases hh:b'=b∧g'=gen
  ·obtain⟨rfl,rfl⟩:=hh
   have e:zgA b' g' n xs (.orow b' g')=.row n xs:=by simp[zgA]
   rw[e]
   simp only[Den] at h ⊢
   obtain⟨g0,v,k1,k2,k3,_⟩:=h
   rw[k1] at m1;injection m1 with m1;injection m1 with m1 m6
   have hv:=k3 m1.symm
   subst m1 m6 hv
   have hown:=zbS m5 k1
   have q1:=zao.mono hG hI xs vs m3
   rcases m2.2 with ⟨rfl,rfl⟩|⟨g,cap,cur,rfl,hx1,hx2,hx3,hx4⟩
   ·have hvs:vs=[]:=List.eq_nil_of_length_eq_zero (by simpa using m2.1)
    subst hvs
    exact⟨none,0,[],rfl,⟨Nat.le_refl _,by intro _ e;cases e⟩,q1,by simp,by simp⟩
   ·refine⟨some ⟨g,0,none⟩,cap,vs,rfl,⟨hx3,by rintro _ ⟨⟩ _;rfl⟩,q1,m4,fun j u hj=>⟨g,0,rfl,.inr ⟨?_,hown⟩⟩⟩
    have:=m2.cells (g:=g) rfl j u hj
    rwa [zaO] at this
  ·exact other (by simp only[zgA,if_neg hh])
 | _=>exact other rfl
theorem zjo {G:Gh} {I:Imm} {objs:List OB} {w:World} (hm:MemOk G I objs w) {b E sz gen n:Nat} {xs:List AV} (hb:objs[b]? = some (.orow E sz gen n xs)):∀(l:List AV) (ys:List Value),zao G I l ys→zao (zlk G b gen) (pubI I G b w) (l.map (zgA b gen n xs)) ys
 | [],ys,h=>by simpa[zao] using h
 | x::l,ys,h=>by
  simp only[zao] at h
  obtain⟨y,ys',rfl,h1,h2⟩:=h
  exact zao.cons (den_sub hm hb x y h1) (zjo hm hb l ys' h2)
theorem mem_pub {P:Program} [Tabs P] {C:Cx} {G:Gh} {I:Imm} {w:World} {objs:List OB} {b E sz gen n:Nat} {xs:List AV} (hb:objs[b]? = some (.orow E sz gen n xs)) (hin:In C G I w) (hm:MemOk G I objs w) :
  In C (zlk G b gen) (pubI I G b w) w∧MemOk (zlk G b gen) (pubI I G b w) (pubO objs b gen n xs) w:=by
 obtain⟨v',vs,m1,m2,m3,m4,m5⟩:=hm.row b E sz gen n xs hb
 have hlt:b<objs.length:=by
  by_cases h:b<objs.length
  ·exact h
  ·rw[List.getElem?_eq_none (by omega)] at hb;cases hb
 have hG:=zlj m1
 have hI:Imm.le I (pubI I G b w):=fun _ _ _ h=>.inl h
 have hin':In C (zlk G b gen) (pubI I G b w) w:={
  os:=hin.os,tape:=hin.tape,output:=hin.output,size:=hin.size,block:=hin.block
  imm:=fun g o v h=>.inl (hin.imm g o v h)
  news:=fun g o v h=>by
   rcases h with h|⟨_,h⟩
   ·exact hin.news g o v h
   ·exact .inr (hin.blk b g h)
  blk:=fun x g h=>hin.blk x g (zfz m5 h).2
  gh:=hin.gh.trans hG }
 have hat:∀x o,(pubO objs b gen n xs)[x]? = some o→o=.dead∨(x≠b∧∃o',objs[x]? = some o'∧subOB b gen n xs o'=o):=by
  intro x o h
  unfold pubO at h
  by_cases hx:x=b
  ·subst hx
   rw[List.getElem?_set_self (by simpa using hlt)] at h
   injection h with h;exact .inl h.symm
  ·rw[List.getElem?_set_ne (Ne.symm hx),List.getElem?_map] at h
   obtain⟨o',h1,h2⟩:=Option.map_eq_some_iff.1 h
   exact .inr ⟨hx,o',h1,h2⟩
 have hm':MemOk (zlk G b gen) (pubI I G b w) (pubO objs b gen n xs) w:={
  imm:=fun g o v h=>by
   rcases h with h|⟨h,_⟩
   ·exact hm.imm g o v h
   ·exact h
  box:=fun x T cs h=>by
   rcases hat x _ h with h|⟨hx,o',h1,h2⟩
   ·cases h
   ·cases o' with
    | box T' cs'=>
     injection h2 with e1 e2
     subst e1 e2
     obtain⟨g,ys,k1,k2,k3,k4⟩:=hm.box x _ _ h1
     exact⟨g,ys,k1,k2,zjo hm hb _ _ k3,k4⟩
    | orow=>cases h2
    | mp=>cases h2
    | dead=>cases h2
  row:=fun x E' sz' gen' n' xs' h=>by
   rcases hat x _ h with h|⟨hx,o',h1,h2⟩
   ·cases h
   ·cases o' with
    | box T' cs'=>cases h2
    | orow=>
     injection h2 with e1 e2 e3 e4 e5
     subst e1 e2 e3 e4 e5
     obtain⟨v,ys,k1,k2,k3,k4,k5⟩:=hm.row x _ _ _ _ _ h1
     exact⟨v,ys,by simp[zlk,hx,k1],k2,zao.mono hG hI _ _ k3,k4,k5⟩
    | mp=>cases h2
    | dead=>cases h2
  map:=fun x es h=>by
   rcases hat x _ h with h|⟨hx,o',h1,h2⟩
   ·cases h
   ·cases o' with
    | box T' cs'=>cases h2
    | orow=>cases h2
    | mp=>
     injection h2 with e1
     subst e1
     obtain⟨g,en,ck,k1,k2,k3⟩:=hm.map x _ h1
     exact⟨g,en,ck,k1,k2,k3.mono hG hI⟩
    | dead=>cases h2
  inj:=fun x x' g h h'=>hm.inj x x' g (zfz m5 h).2 (zfz m5 h').2
  lt:=fun x g h=>hm.lt x g (zfz m5 h).2
  apart:=fun x g o v h h'=>by
   obtain⟨hx,h1⟩:=zfz m5 h
   rcases h' with h' | ⟨_,h'⟩
   ·exact hm.apart x g o v h1 h'
   ·exact hx (hm.inj x b g h1 h')
  fresh:=fun x hx=>by
   have hx':objs.length≤x:=by simpa[pubO] using hx
   obtain⟨k1,k2⟩:=hm.fresh x hx'
   exact⟨k1,by simp[zlk,k2];omega⟩ }
 exact⟨hin',hm'⟩
theorem zge {P:Program} [Tabs P] {f:FuncId} {args:List AV} {objs:List OB} {K:List OB→AV→Prop} {b E sz gen n:Nat} {xs:List AV} (hb:objs[b]? = some (.orow E sz gen n xs)) (hc:zad P f (args.map (zgA b gen n xs)) (pubO objs b gen n xs) K):zad P f args objs K:=by
 intro C _ G I w hin hm ys hd
 obtain⟨v',vs,m1,m2,m3,m4,m5⟩:=hm.row b E sz gen n xs hb
 have hG:=zlj m1
 have hI:Imm.le I (pubI I G b w):=fun _ _ _ h=>.inl h
 obtain⟨hin',hm'⟩:=mem_pub (P:=P) hb hin hm
 refine(hc C _ _ w hin' hm' ys (zjo hm hb _ _ hd)).mono ?_
 rintro e w' ⟨y,objs',r,G',I',he,hk,h1,h2,h3,h4,hy⟩
 exact⟨y,objs',r,G',I',he,hk,hG.trans h1,fun g o v h=>h2 g o v (hI g o v h),h3,h4,hy⟩
end Go.Proofs.YtnnipcgblooemaaGreatDoor.Sx
namespace Go.Proofs.YtnnipcgblooemaaGreatDoor
open Nat renaming reduceAdd → z6, reduceSub → z7, reduceLeDiff → z8, reduceLT → j6, reduceMul → j7, reduceEqDiff → j8
open Int renaming reduceToNat → j9, reduceAdd → x0, reduceSub → x5, reduceMul → x6, reduceNeg → x7, reduceLT → x8, reduceLE → x9, reduceEq → y3, reduceNe → y4
open Go.RowKit Sx
section
attribute [local irreducible] run
def RowS (l:List (List UInt8)) (o:List OB) (X:AV):Prop:=(l=[]∧X=.nil)∨∃r g,X=.orow r g∧o[r]? = some (.orow 9 1 g l.length (l.map .s))
theorem RowS.mono {l:List (List UInt8)} {o:List OB} {X:AV} (h:RowS l o X) (z:OB):RowS l (o++[z]) X:=by
 rcases h with h|⟨r,g,h1,h2⟩
 ·exact .inl h
 ·exact .inr ⟨r,g,h1,by rw[List.getElem?_append_left (List.getElem?_eq_some_iff.1 h2).1];exact h2⟩
theorem zkf {subj:List UInt8} {al:List (List UInt8)} {pr:List PrP} {lk:List LkP} (h:JrB subj al pr lk):(zdS lk subj al).length≤1000∧∀t∈zdS lk subj al,t.length≤140737488351232:=by
 obtain⟨h1,h2,h3,_,h4,h5⟩:=h
 have h6:=List.length_filter_le (fun x:LkP=>decide (x.rel=[115,101,108,102])) lk
 unfold zdS
 constructor
 ·rw[List.length_append,List.length_append,List.length_map]
  unfold zb5
  simp only[List.length_cons,List.length_nil]
  omega
 ·intro t ht
  rcases List.mem_append.1 ht with ht|ht
  ·rcases List.mem_append.1 ht with ht|ht
   ·obtain⟨y,hy,rfl⟩:=List.mem_map.1 ht
    have:=(h5 y (List.mem_filter.1 hy).1).1
    omega
   ·rw[List.mem_singleton] at ht;subst ht;omega
  ·have:=h4 t ht;omega
section
variable [Tabs Tryz.prog] {objs:List OB} {K:List OB→AV→Prop}
theorem zm5 [Shp Tryz.prog] [Pow Tryz.prog] (subj:List UInt8) (al:List (List UInt8)) (pr:List PrP) (lk:List LkP) (x:IdP) (hb:JrB subj al pr lk) (hk:K objs (.row (zhU x (zdS lk subj al)).length (zej (zhU x (zdS lk subj al))))):zad Tryz.prog 9 [zi8 subj al pr lk,zew x] objs K:=by
 obtain⟨hn1,hn2⟩:=zkf hb
 obtain⟨b1,b2,b3,b4,b5,b6⟩:=hb
 refine zaU is_finger_Names (by unfold zi8;simp only[zaK,zlx,AV.plain,zdy,zd6,zf5,Bool.and_self]) fun C _=>?_
 rw[c_finger_Names]
 unfold zew
 refine zae fun Z hZ=>?_
 unfold zi8
 simp only[sxZ,z6,z7,z8,j6,j7,j8,j9,x0,x5,x6,x7,x8,x9,y3,y4,reduceCtorEq,↓reduceIte]
 subst hZ
 refine zae fun Z hZ=>?_
 simp only[sxZ,z6,z7,z8,j6,j7,j8,j9,x0,x5,x6,x7,x8,x9,y3,y4,reduceCtorEq,↓reduceIte]
 subst hZ
 refine zae fun Z hZ=>?_
 refine zae fun W hW=>?_
 simp only[sxZ,z6,z7,z8,j6,j7,j8,j9,x0,x5,x6,x7,x8,x9,y3,y4,reduceCtorEq,↓reduceIte]
 refine zaf (jFind_k subj al pr lk [115,101,108,102] (by omega) (fun y hy=>⟨by have:=b6 y hy;omega,by have:=b6 y hy;omega⟩) ?_)
 have hFl:(zb5 [115,101,108,102] lk).length≤70:=by
  have h6:=List.length_filter_le (fun x:LkP=>decide (x.rel=[115,101,108,102])) lk
  unfold zb5;omega
 have hN:zdS lk subj al=(zb5 [115,101,108,102] lk).map (·.href)++[subj]++al:=rfl
 generalize zdS lk subj al=ts at hN hn1 hn2 hk
 generalize zb5 [115,101,108,102] lk=F at hFl hN ⊢
 have hlen6:=zdA F
 simp only[sxZ,z6,z7,z8,j6,j7,j8,j9,x0,x5,x6,x7,x8,x9,y3,y4,reduceCtorEq,↓reduceIte]
 subst hW
 rw[zbY]
 refine zbg (fun m o tm=>∃(i:Nat),i≤F.length∧m=F.length - i∧o[0]? = some (.box 26 [.s subj,.row al.length (al.map .s),.row pr.length (zcT pr),.row lk.length (zdk lk)])∧o[1]? = some (.box 28 [.i .i64 x.kind,.s x.text,.s x.host,.i .i64 x.port])∧RowS ((F.take i).map (·.href)) o (tm[5]?.getD .u)∧tm.length=33∧tm[2]? = some (.p 0 0)∧tm[3]? = some (.p 1 0)∧tm[9]? = some (.row F.length (zdk F))∧tm[10]? = some (.i .i64 (F.length:Int))∧tm[11]? = some (.i .i64 (i:Int))) F.length ⟨0,Nat.zero_le _,rfl,rfl,rfl,.inl ⟨rfl,rfl⟩,rfl,rfl,rfl,rfl,rfl,rfl⟩ ?_
 rintro m o tm ⟨i,hi,rfl,e0,e1,hA,hlen,t2,t3,t9,t10,t11⟩
 obtain⟨a5,t5⟩:∃a,tm[5]? = some a:=⟨_,List.getElem?_eq_getElem (by omega)⟩
 rw[t5,Option.getD_some] at hA
 refine zae fun W hW=>?_
 by_cases hlt:(i:Int)<(F.length:Int)
 ·have hi':i<F.length:=by omega
  have hjc:=zof hi'
  have hft:(F.take (i+1)).map (·.href)=(F.take i).map (·.href)++[F[i].href]:=by
   rw[List.take_add_one,List.getElem?_eq_getElem hi',List.map_append];rfl
  have hfl:((F.take i).map (·.href)).length=i:=by rw[List.length_map,List.length_take];omega
  generalize F[i]=y at hjc hft
  generalize (F.take i).map (·.href)=acc at hA hft hfl
  unfold lkc at hjc
  simp only[sxZ,z6,z7,z8,j6,j7,j8,j9,x0,x5,x6,x7,x8,x9,y3,y4,reduceCtorEq,↓reduceIte,List.getElem?_set,hlen,t9,t10,t11,hlt]
  subst hW
  refine zae fun W hW=>?_
  simp only[sxZ,z6,z7,z8,j6,j7,j8,j9,x0,x5,x6,x7,x8,x9,y3,y4,reduceCtorEq,↓reduceIte,List.getElem?_set,hlen]
  subst hW
  refine zae fun V hV=>?_
  rw[zbY]
  refine zae fun W hW=>?_
  simp only[sxZ,z6,z7,z8,j6,j7,j8,j9,x0,x5,x6,x7,x8,x9,y3,y4,reduceCtorEq,↓reduceIte,List.getElem?_set,hlen,t9,t11,hjc]
  refine⟨⟨by omega,by omega,by omega⟩,by omega,?_⟩
  simp only[sxZ,z6,z7,z8,j6,j7,j8,j9,x0,x5,x6,x7,x8,x9,y3,y4,reduceCtorEq,↓reduceIte,List.getElem?_set,hlen,gn1,sn1]
  subst hW
  have hrow:=hA.mono (.box 46 [.s y.rel,.s y.typ,.s y.href,.s y.tmp,.row y.tit.length (zcT y.tit),.row y.pro.length (zcT y.pro)])
  have f0:(o++[.box 46 [.s y.rel,.s y.typ,.s y.href,.s y.tmp,.row y.tit.length (zcT y.tit),.row y.pro.length (zcT y.pro)]])[0]? = some (.box 26 [.s subj,.row al.length (al.map .s),.row pr.length (zcT pr),.row lk.length (zdk lk)]):=by rw[List.getElem?_append_left (List.getElem?_eq_some_iff.1 e0).1];exact e0
  have f1:(o++[.box 46 [.s y.rel,.s y.typ,.s y.href,.s y.tmp,.row y.tit.length (zcT y.tit),.row y.pro.length (zcT y.pro)]])[1]? = some (.box 28 [.i .i64 x.kind,.s x.text,.s x.host,.i .i64 x.port]):=by rw[List.getElem?_append_left (List.getElem?_eq_some_iff.1 e1).1];exact e1
  have fy:(o++[.box 46 [.s y.rel,.s y.typ,.s y.href,.s y.tmp,.row y.tit.length (zcT y.tit),.row y.pro.length (zcT y.pro)]])[o.length]? = some (.box 46 [.s y.rel,.s y.typ,.s y.href,.s y.tmp,.row y.tit.length (zcT y.tit),.row y.pro.length (zcT y.pro)]):=gn1 _ _
  generalize o++[OB.box 46 [.s y.rel,.s y.typ,.s y.href,.s y.tmp,.row y.tit.length (zcT y.tit),.row y.pro.length (zcT y.pro)]]=o2 at hrow f0 f1 fy ⊢
  refine zgk (fun o3 t3=>o3[0]? = some (.box 26 [.s subj,.row al.length (al.map .s),.row pr.length (zcT pr),.row lk.length (zdk lk)])∧o3[1]? = some (.box 28 [.i .i64 x.kind,.s x.text,.s x.host,.i .i64 x.port])∧RowS (acc++[y.href]) o3 (t3[5]?.getD .u)∧t3.length=33∧t3[2]? = some (.p 0 0)∧t3[3]? = some (.p 1 0)∧t3[9]? = some (.row F.length (zdk F))∧t3[10]? = some (.i .i64 (F.length:Int))∧t3[11]? = some (.i .i64 (i:Int))) ?_ ?_
  ·rcases hrow with ⟨rfl,rfl⟩|⟨r,g,rfl,hr⟩
   ·simp only[sxZ,z6,z7,z8,j6,j7,j8,j9,x0,x5,x6,x7,x8,x9,y3,y4,reduceCtorEq,↓reduceIte,List.getElem?_set,hlen,t2,t3,t5,t9,t10,t11,fy,zaz]
    refine⟨?_,?_,.inr ⟨_,0,rfl,?_⟩⟩
    ·rw[List.getElem?_append_left (List.getElem?_eq_some_iff.1 f0).1];exact f0
    ·rw[List.getElem?_append_left (List.getElem?_eq_some_iff.1 f1).1];exact f1
    ·rw[gn1];simp
   ·have hrl:=(List.getElem?_eq_some_iff.1 hr).1
    have hr0:r≠0:=fun h=>by rw[h,f0] at hr;cases hr
    have hr1:r≠1:=fun h=>by rw[h,f1] at hr;cases hr
    simp only[sxZ,z6,z7,z8,j6,j7,j8,j9,x0,x5,x6,x7,x8,x9,y3,y4,reduceCtorEq,↓reduceIte,List.getElem?_set,hlen,t2,t3,t5,t9,t10,t11,fy,hr,zaz]
    refine⟨⟨by omega,by omega⟩,?_,?_,.inr ⟨r,g+1,rfl,?_⟩⟩
    ·rw[if_neg hr0];exact f0
    ·rw[if_neg hr1];exact f1
    ·rw[List.getElem?_set_self hrl,List.length_append,List.map_append]
     rfl
  rintro o3 tm2 ⟨g0,g1,hA2,hlen2,k2,k3,k9,k10,k11⟩
  simp only[sxZ,z6,z7,z8,j6,j7,j8,j9,x0,x5,x6,x7,x8,x9,y3,y4,reduceCtorEq,↓reduceIte]
  subst hV
  simp only[sxZ,z6,z7,z8,j6,j7,j8,j9,x0,x5,x6,x7,x8,x9,y3,y4,reduceCtorEq,↓reduceIte,List.getElem?_set,hlen2,k2,k3,k9,k10,k11]
  rw[←hft] at hA2
  exact⟨by omega,F.length - (i+1),by omega,i+1,by omega,rfl,g0,g1,hA2,rfl⟩
 have hn:i=F.length:=by omega
 rw[hn,List.take_of_length_le (Nat.le_refl _)] at hA
 simp only[sxZ,z6,z7,z8,j6,j7,j8,j9,x0,x5,x6,x7,x8,x9,y3,y4,reduceCtorEq,↓reduceIte,List.getElem?_set,hlen,t9,t10,t11,hlt]
 subst hW
 simp only[sxZ,z6,z7,z8,j6,j7,j8,j9,x0,x5,x6,x7,x8,x9,y3,y4,reduceCtorEq,↓reduceIte,List.getElem?_set,hlen]
 subst hZ
 have hal:(F.map (·.href)).length≤70:=by rw[List.length_map];exact hFl
 generalize F.map (·.href)=acc at hA hN hal
 refine zae fun Z hZ=>?_
 refine zgk (fun o3 t3=>o3[0]? = some (.box 26 [.s subj,.row al.length (al.map .s),.row pr.length (zcT pr),.row lk.length (zdk lk)])∧o3[1]? = some (.box 28 [.i .i64 x.kind,.s x.text,.s x.host,.i .i64 x.port])∧(∃r g,t3[5]? = some (.orow r g)∧o3[r]? = some (.orow 9 1 g (acc++[subj]).length ((acc++[subj]).map .s)))∧t3.length=33∧t3[2]? = some (.p 0 0)∧t3[3]? = some (.p 1 0)) ?_ ?_
 ·rcases hA with ⟨rfl,rfl⟩|⟨r,g,rfl,hr⟩
  ·simp only[sxZ,z6,z7,z8,j6,j7,j8,j9,x0,x5,x6,x7,x8,x9,y3,y4,reduceCtorEq,↓reduceIte,List.getElem?_set,hlen,t2,t3,t5,e0,zaz]
   refine⟨?_,?_,_,0,rfl,?_⟩
   ·rw[List.getElem?_append_left (List.getElem?_eq_some_iff.1 e0).1];exact e0
   ·rw[List.getElem?_append_left (List.getElem?_eq_some_iff.1 e1).1];exact e1
   ·rw[gn1]
  ·have hrl:=(List.getElem?_eq_some_iff.1 hr).1
   have hr0:r≠0:=fun h=>by rw[h,e0] at hr;cases hr
   have hr1:r≠1:=fun h=>by rw[h,e1] at hr;cases hr
   simp only[sxZ,z6,z7,z8,j6,j7,j8,j9,x0,x5,x6,x7,x8,x9,y3,y4,reduceCtorEq,↓reduceIte,List.getElem?_set,hlen,t2,t3,t5,e0,hr,zaz]
   refine⟨⟨by omega,by omega⟩,by rw[if_neg hr0],by rw[if_neg hr1];exact e1,r,g+1,rfl,?_⟩
   rw[if_pos rfl,if_pos hrl,List.map_append];rfl
 rintro o3 tm2 ⟨g0,g1,⟨r,g,k5,hr⟩,hlen2,k2,k3⟩
 subst hZ
 have hrl:=(List.getElem?_eq_some_iff.1 hr).1
 have hr0:r≠0:=fun h=>by rw[h,g0] at hr;cases hr
 have hr1:r≠1:=fun h=>by rw[h,g1] at hr;cases hr
 refine zae fun Z hZ=>?_
 simp only[sxZ,z6,z7,z8,j6,j7,j8,j9,x0,x5,x6,x7,x8,x9,y3,y4,reduceCtorEq,↓reduceIte,List.getElem?_set,hlen2,k2,k3,k5,g0,hr]
 refine⟨⟨by rw[List.length_map];omega,by omega,by omega⟩,?_⟩
 have eN:acc.length+1+al.length=ts.length:=by rw[hN];simp;omega
 have eC:(acc++[subj]).map AV.s++al.map AV.s=ts.map AV.s:=by rw[hN,←List.map_append]
 rw[eN,eC]
 have g4:(o3.set r (.orow 9 1 (g+1) ts.length (ts.map .s)))[r]? = some (.orow 9 1 (g+1) ts.length (ts.map .s)):=List.getElem?_set_self hrl
 have g5:(o3.set r (.orow 9 1 (g+1) ts.length (ts.map .s)))[1]? = some (.box 28 [.i .i64 x.kind,.s x.text,.s x.host,.i .i64 x.port]):=by rw[List.getElem?_set,if_neg hr1];exact g1
 generalize o3.set r (.orow 9 1 (g+1) ts.length (ts.map .s))=o4 at g4 g5 ⊢
 subst hZ
 simp only[sxZ,z6,z7,z8,j6,j7,j8,j9,x0,x5,x6,x7,x8,x9,y3,y4,reduceCtorEq,↓reduceIte,List.getElem?_set,hlen2,k3,g5]
 refine zaf (zge (b:=r) g4 ?_)
 simp only[zgA,List.map_cons,List.map_nil,and_self,if_true]
 refine zp7 x ts hn1 hn2 ?_
 simp only[sxZ,z6,z7,z8,j6,j7,j8,j9,x0,x5,x6,x7,x8,x9,y3,y4,reduceCtorEq,↓reduceIte,List.getElem?_set,hlen2,zeu]
 exact hk
theorem zml (subj:List UInt8) (al:List (List UInt8)) (pr:List PrP) (lk:List LkP) (x:IdP) (hb:JrB subj al pr lk) (hk:K objs (.row (zhU x (zdS lk subj al)).length (zej (zhU x (zdS lk subj al))))):zad Tryz.prog 10 [zi8 subj al pr lk,zew x] objs K:=by
 obtain⟨hn1,hn2⟩:=zkf hb
 obtain⟨b1,b2,b3,b4,b5,b6⟩:=hb
 refine zaU is_ref27_Names (by unfold zi8;simp only[zaK,zlx,AV.plain,zdy,zd6,zf5,Bool.and_self]) fun C _=>?_
 rw[c_ref27_Names]
 unfold zew
 refine zae fun Z hZ=>?_
 unfold zi8
 simp only[sxZ,z6,z7,z8,j6,j7,j8,j9,x0,x5,x6,x7,x8,x9,y3,y4,reduceCtorEq,↓reduceIte]
 subst hZ
 refine zae fun Z hZ=>?_
 simp only[sxZ,z6,z7,z8,j6,j7,j8,j9,x0,x5,x6,x7,x8,x9,y3,y4,reduceCtorEq,↓reduceIte]
 subst hZ
 refine zae fun Z hZ=>?_
 refine zae fun W hW=>?_
 simp only[sxZ,z6,z7,z8,j6,j7,j8,j9,x0,x5,x6,x7,x8,x9,y3,y4,reduceCtorEq,↓reduceIte]
 refine zaf (zpz subj al pr lk [115,101,108,102] (by omega) (fun y hy=>⟨by have:=b6 y hy;omega,by have:=b6 y hy;omega⟩) ?_)
 have hFl:(zb5 [115,101,108,102] lk).length≤70:=by
  have h6:=List.length_filter_le (fun x:LkP=>decide (x.rel=[115,101,108,102])) lk
  unfold zb5;omega
 have hN:zdS lk subj al=(zb5 [115,101,108,102] lk).map (·.href)++[subj]++al:=rfl
 generalize zdS lk subj al=ts at hN hn1 hn2 hk
 generalize zb5 [115,101,108,102] lk=F at hFl hN ⊢
 have hlen6:=zdA F
 simp only[sxZ,z6,z7,z8,j6,j7,j8,j9,x0,x5,x6,x7,x8,x9,y3,y4,reduceCtorEq,↓reduceIte]
 subst hW
 rw[zbY]
 refine zbg (fun m o tm=>∃(i:Nat),i≤F.length∧m=F.length - i∧o[0]? = some (.box 26 [.s subj,.row al.length (al.map .s),.row pr.length (zcT pr),.row lk.length (zdk lk)])∧o[1]? = some (.box 28 [.i .i64 x.kind,.s x.text,.s x.host,.i .i64 x.port])∧RowS ((F.take i).map (·.href)) o (tm[5]?.getD .u)∧tm.length=31∧tm[2]? = some (.p 0 0)∧tm[3]? = some (.p 1 0)∧tm[9]? = some (.row F.length (zdk F))∧tm[10]? = some (.i .i64 (F.length:Int))∧tm[11]? = some (.i .i64 (i:Int))) F.length ⟨0,Nat.zero_le _,rfl,rfl,rfl,.inl ⟨rfl,rfl⟩,rfl,rfl,rfl,rfl,rfl,rfl⟩ ?_
 rintro m o tm ⟨i,hi,rfl,e0,e1,hA,hlen,t2,t3,t9,t10,t11⟩
 obtain⟨a5,t5⟩:∃a,tm[5]? = some a:=⟨_,List.getElem?_eq_getElem (by omega)⟩
 rw[t5,Option.getD_some] at hA
 refine zae fun W hW=>?_
 by_cases hlt:(i:Int)<(F.length:Int)
 ·have hi':i<F.length:=by omega
  have hjc:=zof hi'
  have hft:(F.take (i+1)).map (·.href)=(F.take i).map (·.href)++[F[i].href]:=by
   rw[List.take_add_one,List.getElem?_eq_getElem hi',List.map_append];rfl
  have hfl:((F.take i).map (·.href)).length=i:=by rw[List.length_map,List.length_take];omega
  generalize F[i]=y at hjc hft
  generalize (F.take i).map (·.href)=acc at hA hft hfl
  unfold lkc at hjc
  simp only[sxZ,z6,z7,z8,j6,j7,j8,j9,x0,x5,x6,x7,x8,x9,y3,y4,reduceCtorEq,↓reduceIte,List.getElem?_set,hlen,t9,t10,t11,hlt]
  subst hW
  refine zae fun W hW=>?_
  simp only[sxZ,z6,z7,z8,j6,j7,j8,j9,x0,x5,x6,x7,x8,x9,y3,y4,reduceCtorEq,↓reduceIte,List.getElem?_set,hlen]
  subst hW
  refine zae fun V hV=>?_
  rw[zbY]
  refine zae fun W hW=>?_
  simp only[sxZ,z6,z7,z8,j6,j7,j8,j9,x0,x5,x6,x7,x8,x9,y3,y4,reduceCtorEq,↓reduceIte,List.getElem?_set,hlen,t9,t11,hjc]
  refine⟨⟨by omega,by omega,by omega⟩,by omega,?_⟩
  simp only[sxZ,z6,z7,z8,j6,j7,j8,j9,x0,x5,x6,x7,x8,x9,y3,y4,reduceCtorEq,↓reduceIte,List.getElem?_set,hlen,gn1,sn1]
  subst hW
  have hrow:=hA.mono (.box 46 [.s y.rel,.s y.typ,.s y.href,.s y.tmp,.row y.tit.length (zcT y.tit),.row y.pro.length (zcT y.pro)])
  have f0:(o++[.box 46 [.s y.rel,.s y.typ,.s y.href,.s y.tmp,.row y.tit.length (zcT y.tit),.row y.pro.length (zcT y.pro)]])[0]? = some (.box 26 [.s subj,.row al.length (al.map .s),.row pr.length (zcT pr),.row lk.length (zdk lk)]):=by rw[List.getElem?_append_left (List.getElem?_eq_some_iff.1 e0).1];exact e0
  have f1:(o++[.box 46 [.s y.rel,.s y.typ,.s y.href,.s y.tmp,.row y.tit.length (zcT y.tit),.row y.pro.length (zcT y.pro)]])[1]? = some (.box 28 [.i .i64 x.kind,.s x.text,.s x.host,.i .i64 x.port]):=by rw[List.getElem?_append_left (List.getElem?_eq_some_iff.1 e1).1];exact e1
  have fy:(o++[.box 46 [.s y.rel,.s y.typ,.s y.href,.s y.tmp,.row y.tit.length (zcT y.tit),.row y.pro.length (zcT y.pro)]])[o.length]? = some (.box 46 [.s y.rel,.s y.typ,.s y.href,.s y.tmp,.row y.tit.length (zcT y.tit),.row y.pro.length (zcT y.pro)]):=gn1 _ _
  generalize o++[OB.box 46 [.s y.rel,.s y.typ,.s y.href,.s y.tmp,.row y.tit.length (zcT y.tit),.row y.pro.length (zcT y.pro)]]=o2 at hrow f0 f1 fy ⊢
  refine zgk (fun o3 t3=>o3[0]? = some (.box 26 [.s subj,.row al.length (al.map .s),.row pr.length (zcT pr),.row lk.length (zdk lk)])∧o3[1]? = some (.box 28 [.i .i64 x.kind,.s x.text,.s x.host,.i .i64 x.port])∧RowS (acc++[y.href]) o3 (t3[5]?.getD .u)∧t3.length=31∧t3[2]? = some (.p 0 0)∧t3[3]? = some (.p 1 0)∧t3[9]? = some (.row F.length (zdk F))∧t3[10]? = some (.i .i64 (F.length:Int))∧t3[11]? = some (.i .i64 (i:Int))) ?_ ?_
  ·rcases hrow with ⟨rfl,rfl⟩|⟨r,g,rfl,hr⟩
   ·simp only[sxZ,z6,z7,z8,j6,j7,j8,j9,x0,x5,x6,x7,x8,x9,y3,y4,reduceCtorEq,↓reduceIte,List.getElem?_set,hlen,t2,t3,t5,t9,t10,t11,fy,zaz]
    refine⟨?_,?_,.inr ⟨_,0,rfl,?_⟩⟩
    ·rw[List.getElem?_append_left (List.getElem?_eq_some_iff.1 f0).1];exact f0
    ·rw[List.getElem?_append_left (List.getElem?_eq_some_iff.1 f1).1];exact f1
    ·rw[gn1];simp
   ·have hrl:=(List.getElem?_eq_some_iff.1 hr).1
    have hr0:r≠0:=fun h=>by rw[h,f0] at hr;cases hr
    have hr1:r≠1:=fun h=>by rw[h,f1] at hr;cases hr
    simp only[sxZ,z6,z7,z8,j6,j7,j8,j9,x0,x5,x6,x7,x8,x9,y3,y4,reduceCtorEq,↓reduceIte,List.getElem?_set,hlen,t2,t3,t5,t9,t10,t11,fy,hr,zaz]
    refine⟨⟨by omega,by omega⟩,?_,?_,.inr ⟨r,g+1,rfl,?_⟩⟩
    ·rw[if_neg hr0];exact f0
    ·rw[if_neg hr1];exact f1
    ·rw[List.getElem?_set_self hrl,List.length_append,List.map_append]
     rfl
  rintro o3 tm2 ⟨g0,g1,hA2,hlen2,k2,k3,k9,k10,k11⟩
  simp only[sxZ,z6,z7,z8,j6,j7,j8,j9,x0,x5,x6,x7,x8,x9,y3,y4,reduceCtorEq,↓reduceIte]
  subst hV
  simp only[sxZ,z6,z7,z8,j6,j7,j8,j9,x0,x5,x6,x7,x8,x9,y3,y4,reduceCtorEq,↓reduceIte,List.getElem?_set,hlen2,k2,k3,k9,k10,k11]
  rw[←hft] at hA2
  exact⟨by omega,F.length - (i+1),by omega,i+1,by omega,rfl,g0,g1,hA2,rfl⟩
 have hn:i=F.length:=by omega
 rw[hn,List.take_of_length_le (Nat.le_refl _)] at hA
 simp only[sxZ,z6,z7,z8,j6,j7,j8,j9,x0,x5,x6,x7,x8,x9,y3,y4,reduceCtorEq,↓reduceIte,List.getElem?_set,hlen,t9,t10,t11,hlt]
 subst hW
 simp only[sxZ,z6,z7,z8,j6,j7,j8,j9,x0,x5,x6,x7,x8,x9,y3,y4,reduceCtorEq,↓reduceIte,List.getElem?_set,hlen]
 subst hZ
 have hal:(F.map (·.href)).length≤70:=by rw[List.length_map];exact hFl
 generalize F.map (·.href)=acc at hA hN hal
 have eN:acc.length+1+al.length=ts.length:=by rw[hN];simp;omega
 have eC:acc.map AV.s++[.s subj]++al.map AV.s=ts.map AV.s:=by rw[hN,List.map_append,List.map_append];rfl
 have eL:(al.map AV.s).length=al.length:=List.length_map _
 rcases hA with ⟨rfl,rfl⟩|⟨r,g,rfl,hr⟩
 ·have z0:∀z,(o++[z])[0]? = some (.box 26 [.s subj,.row al.length (al.map .s),.row pr.length (zcT pr),.row lk.length (zdk lk)]):=fun z=>by rw[List.getElem?_append_left (List.getElem?_eq_some_iff.1 e0).1];exact e0
  have z1:∀z,(o++[z])[1]? = some (.box 28 [.i .i64 x.kind,.s x.text,.s x.host,.i .i64 x.port]):=fun z=>by rw[List.getElem?_append_left (List.getElem?_eq_some_iff.1 e1).1];exact e1
  simp only[sxZ,z6,z7,z8,j6,j7,j8,j9,x0,x5,x6,x7,x8,x9,y3,y4,reduceCtorEq,↓reduceIte,List.getElem?_set,hlen,t2,t3,t5,e0,e1,z0,z1,gn1,sn1]
  have hol:=(List.getElem?_eq_some_iff.1 e1).1
  refine⟨⟨by omega,by omega,by omega⟩,⟨by omega,by omega,by omega⟩,?_⟩
  have eN2:1+al.length=ts.length:=by rw[←eN];simp
  have eC2:AV.s subj::al.map AV.s=ts.map AV.s:=by rw[←eC];rfl
  rw[eN2,eC2]
  refine zaf (zge (b:=o.length) (gn1 _ _) ?_)
  simp only[zgA,List.map_cons,List.map_nil,and_self,if_true]
  refine zih x ts hn1 hn2 ?_
  simp only[sxZ,z6,z7,z8,j6,j7,j8,j9,x0,x5,x6,x7,x8,x9,y3,y4,reduceCtorEq,↓reduceIte,List.getElem?_set,hlen,zeu]
  exact hk
 ·have hrl:=(List.getElem?_eq_some_iff.1 hr).1
  have hr0:r≠0:=fun h=>by rw[h,e0] at hr;cases hr
  have hr1:r≠1:=fun h=>by rw[h,e1] at hr;cases hr
  simp only[sxZ,z6,z7,z8,j6,j7,j8,j9,x0,x5,x6,x7,x8,x9,y3,y4,reduceCtorEq,↓reduceIte,List.getElem?_set,hlen,t2,t3,t5,e0,e1,hr,hr0,hr1]
  refine⟨⟨by omega,by omega⟩,?_⟩
  simp only[sxZ,z6,z7,z8,j6,j7,j8,j9,x0,x5,x6,x7,x8,x9,y3,y4,reduceCtorEq,↓reduceIte,List.getElem?_set,hlen,t2,t3,t5,e0,e1,hr,hr0,hr1,hrl]
  refine⟨⟨by omega,by omega,by omega⟩,⟨fun h=>hr0 h.symm,fun h=>hr1 h.symm,fun h=>hr1 h.symm⟩,?_⟩
  rw[eN,eC,List.set_set]
  refine zaf (zge (b:=r) (List.getElem?_set_self hrl) ?_)
  simp only[zgA,List.map_cons,List.map_nil,and_self,if_true]
  refine zih x ts hn1 hn2 ?_
  simp only[sxZ,z6,z7,z8,j6,j7,j8,j9,x0,x5,x6,x7,x8,x9,y3,y4,reduceCtorEq,↓reduceIte,List.getElem?_set,hlen,zeu]
  exact hk
end
end
end Go.Proofs.YtnnipcgblooemaaGreatDoor
namespace Go.Proofs.YtnnipcgblooemaaGreatDoor
open Go.RowKit Sx
section
variable [Tabs Tryz.prog] {objs:List OB} {K:List OB→AV→Prop}
end
end Go.Proofs.YtnnipcgblooemaaGreatDoor
namespace Go.Proofs.YtnnipcgblooemaaGreatDoor
open Go.RowKit Sx
section
variable [Tabs Tryz.prog] {objs:List OB} {K:List OB→AV→Prop}
end
end Go.Proofs.YtnnipcgblooemaaGreatDoor
namespace Go.Proofs.YtnnipcgblooemaaGreatDoor
open Go.RowKit Sx
end Go.Proofs.YtnnipcgblooemaaGreatDoor
namespace Go.Proofs.YtnnipcgblooemaaGreatDoor
open Go.RowKit Sx
section
variable [Tabs Tryz.prog] {objs:List OB} {K:List OB→AV→Prop}
end
end Go.Proofs.YtnnipcgblooemaaGreatDoor
namespace Go.Proofs.YtnnipcgblooemaaGreatDoor
open Go.RowKit Sx
section
variable [Tabs Tryz.prog] {objs:List OB} {K:List OB→AV→Prop}
end
end Go.Proofs.YtnnipcgblooemaaGreatDoor
namespace Go.Proofs.YtnnipcgblooemaaGreatDoor
open Go.RowKit Sx
section
variable [Tabs Tryz.prog] {objs:List OB} {K:List OB→AV→Prop}
end
end Go.Proofs.YtnnipcgblooemaaGreatDoor
namespace Go.Proofs.YtnnipcgblooemaaGreatDoor
open Go.RowKit Sx
section
variable [Tabs Tryz.prog] {objs:List OB} {K:List OB→AV→Prop}
end
end Go.Proofs.YtnnipcgblooemaaGreatDoor
namespace Go.Proofs.YtnnipcgblooemaaGreatDoor
open Go.RowKit Sx
section
variable [Tabs Tryz.prog] {objs:List OB} {K:List OB→AV→Prop}
end
end Go.Proofs.YtnnipcgblooemaaGreatDoor
namespace Go.Proofs.YtnnipcgblooemaaGreatDoor
open Go.RowKit Sx
end Go.Proofs.YtnnipcgblooemaaGreatDoor
namespace Go.Proofs.YtnnipcgblooemaaGreatDoor
open Go.RowKit Sx
section
variable [Tabs Tryz.prog] {objs:List OB} {K:List OB→AV→Prop}
end
end Go.Proofs.YtnnipcgblooemaaGreatDoor
namespace Go.Proofs.YtnnipcgblooemaaGreatDoor
open Go.RowKit Sx
section
attribute [local irreducible] run
def zlK (l:List UInt8):OB:=.box 76 [.row l.length (byA l)]
theorem zg2 {objs:List OB} {b:Nat} {x:OB} (h:objs[b]? = some x):objs.set b x=objs:=by
 obtain⟨h1,h2⟩:=List.getElem?_eq_some_iff.1 h
 rw[←h2,List.set_getElem_self]
theorem zoD (n:Int) (h0:0≤n) (h1:n<9223372036854775808):IntKind.i64.wrap n=n:=by
 have e1:IntKind.signed .i64=true:=rfl
 simp only[IntKind.wrap,IntKind.bits,e1,if_true]
 have e2:(2:Int) ^ 64=18446744073709551616:=by decide
 have e3:(2:Int) ^ 63=9223372036854775808:=by decide
 first|(rw[Int.emod_eq_of_lt (by omega) (by omega)];split<;>omega)|(simp;omega)|omega
section
variable [Tabs Tryz.prog] {objs:List OB} {K:List OB→AV→Prop}
end
end
end Go.Proofs.YtnnipcgblooemaaGreatDoor
namespace Go.Proofs.YtnnipcgblooemaaGreatDoor
open Go.RowKit Sx
section
attribute [local irreducible] run
theorem gsb {objs:List OB} {b:Nat} (h:b<objs.length) (x:OB):(objs.set b x)[b]? = some x:=List.getElem?_set_self h
section
variable [Tabs Tryz.prog] {objs:List OB} {K:List OB→AV→Prop}
end
end
end Go.Proofs.YtnnipcgblooemaaGreatDoor
namespace Go.Proofs.YtnnipcgblooemaaGreatDoor
open Nat renaming reduceAdd → z6, reduceSub → z7, reduceLeDiff → z8, reduceLT → j6, reduceMul → j7, reduceEqDiff → j8
open Int renaming reduceToNat → j9, reduceAdd → x0, reduceSub → x5, reduceMul → x6, reduceNeg → x7, reduceLT → x8, reduceLE → x9, reduceEq → y3, reduceNe → y4
open Go.RowKit Sx
section
attribute [local irreducible] run
section
variable [Tabs Tryz.prog]
theorem dNextV (l:List UInt8) (n:Int) (hl:l.length≤200) (hn:1≤n) (hn2:n≤1000000):∃(r:Int) (l':List UInt8),l'.length≤200∧0≤r∧r<n ∧
  ∀{objs:List OB} {K:List OB→AV→Prop} (b:Nat),objs[b]? = some (zlK l)→K (objs.set b (zlK l')) (.i .i64 r)→zad Tryz.prog 36 [.p b 0,.i .i64 n] objs K:=by
 by_cases c1:(l.length:Int)=0
 ·refine⟨0,l,hl,by omega,by omega,fun {objs K} b hb hk=>?_⟩
  refine zcR is_made_Dice_Next fun C _=>?_
  have hs:=zg2 hb
  unfold zlK at hb
  simp only[c_made_Dice_Next,sxZ,z6,z7,z8,j6,j7,j8,j9,x0,x5,x6,x7,x8,x9,y3,y4,reduceCtorEq,↓reduceIte,hb,c1]
  rw[hs] at hk
  exact hk
 by_cases c2:n≤1
 ·refine⟨0,l,hl,by omega,by omega,fun {objs K} b hb hk=>?_⟩
  refine zcR is_made_Dice_Next fun C _=>?_
  have hs:=zg2 hb
  unfold zlK at hb
  simp only[c_made_Dice_Next,sxZ,z6,z7,z8,j6,j7,j8,j9,x0,x5,x6,x7,x8,x9,y3,y4,reduceCtorEq,↓reduceIte,hb,c1,c2]
  rw[hs] at hk
  exact hk
 obtain⟨c,l',rfl⟩:∃c l',l=c::l':=by
  cases l with
  | nil=>simp at c1
  | cons c l'=>exact⟨c,l',rfl⟩
 have c3:¬((l'.length+1:Nat):Int)=0:=by omega
 have hc:=c.toNat_lt
 have h1:=Int.emod_nonneg (c.toNat:Int) (show n≠0 by omega)
 have h2:=Int.emod_lt_of_pos (c.toNat:Int) (show 0<n by omega)
 refine⟨(c.toNat:Int) % n,l',by rw[List.length_cons] at hl;omega,h1,h2,fun {objs K} b hb hk=>?_⟩
 refine zcR is_made_Dice_Next fun C _=>?_
 have hcons:byA (c::l')=.i .u8 (c.toNat:Int)::byA l':=rfl
 have hbl:=zlQ l'
 unfold zlK at hb
 rw[hcons] at hb
 simp only[c_made_Dice_Next,sxZ,z6,z7,z8,j6,j7,j8,j9,x0,x5,x6,x7,x8,x9,y3,y4,reduceCtorEq,↓reduceIte,hb,c1,c2,c3,hcons]
 have e1:IntKind.i64.wrap (c.toNat:Int)=c.toNat:=zoD _ (by omega) (by omega)
 have e2:(List.take ((l'.length+1)*1) (AV.i IntKind.u8 (c.toNat:Int)::byA l')).drop 1=byA l':=by
  rw[List.take_of_length_le (by rw[List.length_cons,hbl];omega),List.drop_one,List.tail_cons]
 have e3:(c.toNat:Int).tmod n=((c.toNat:Int) % n):=Int.tmod_eq_emod_of_nonneg (by omega)
 rw[e1,e2,e3,Nat.add_sub_cancel]
 exact⟨⟨by omega,by omega⟩,by omega,by omega,hk⟩
theorem dNewV (l:List UInt8) (hl:l.length≤140737488351232):∃l':List UInt8,l'.length≤200∧∀{objs:List OB} {K:List OB→AV→Prop},K (objs++[zlK l']) (.p objs.length 0)→zad Tryz.prog 16 [.row l.length (byA l)] objs K:=by
 by_cases c1:(200:Int)<l.length
 ·refine⟨l.take 200,by rw[List.length_take];omega,fun {objs K} h=>?_⟩
  refine zcR is_made_New fun C _=>?_
  have hbl:=zlQ l
  simp only[c_made_New,sxZ,z6,z7,z8,j6,j7,j8,j9,x0,x5,x6,x7,x8,x9,y3,y4,reduceCtorEq,↓reduceIte]
  rw[if_pos c1]
  refine⟨⟨by omega,by omega⟩,?_⟩
  have e:byA (l.take 200)=(byA l).take 200:=by simp[byA,List.map_take]
  have e2:(l.take 200).length=200:=by rw[List.length_take];omega
  unfold zlK at h
  rw[e,e2] at h
  exact h
 ·refine⟨l,by omega,fun {objs K} h=>?_⟩
  refine zcR is_made_New fun C _=>?_
  have hbl:=zlQ l
  simp only[c_made_New,sxZ,z6,z7,z8,j6,j7,j8,j9,x0,x5,x6,x7,x8,x9,y3,y4,reduceCtorEq,↓reduceIte]
  rw[if_neg c1]
  refine⟨⟨by omega,by omega⟩,?_⟩
  unfold zlK at h
  rw[Int.toNat_natCast,Nat.mul_one,List.take_of_length_le (by omega)]
  exact h
theorem zkQ (l:List UInt8) (xs:List (List UInt8)) (m:Nat) (hl:l.length≤200) (hn:1≤xs.length) (hn2:xs.length≤1000) (hm:xs.all (fun x=>decide (x.length≤m))=true):∃(x l':List UInt8),l'.length≤200∧x.length≤m ∧
  ∀{objs:List OB} {K:List OB→AV→Prop} (b:Nat),objs[b]? = some (zlK l)→K (objs.set b (zlK l')) (.s x)→zad Tryz.prog 37 [.p b 0,.row xs.length (xs.map .s)] objs K:=by
 obtain⟨r,l',hl',h0,h1,H⟩:=dNextV l xs.length hl (by omega) (by omega)
 obtain⟨i,rfl⟩:=Int.eq_ofNat_of_zero_le h0
 have hlt:i<xs.length:=by omega
 have hat:(xs.map AV.s)[i]? = some (.s xs[i]):=by simp[hlt]
 refine⟨xs[i],l',hl',of_decide_eq_true (List.all_eq_true.1 hm _ (List.getElem_mem hlt)),fun {objs K} b hb hk=>?_⟩
 refine zcR is_made_Dice_One fun C _=>?_
 simp only[c_made_Dice_One,sxZ,z6,z7,z8,j6,j7,j8,j9,x0,x5,x6,x7,x8,x9,y3,y4,reduceCtorEq,↓reduceIte]
 refine zaf (H b hb ?_)
 simp only[sxZ,z6,z7,z8,j6,j7,j8,j9,x0,x5,x6,x7,x8,x9,y3,y4,reduceCtorEq,↓reduceIte,Int.toNat_natCast,Nat.mul_one,hat]
 exact⟨⟨by omega,by omega,by rw[List.length_map];omega⟩,hk⟩
theorem dHostV (l:List UInt8) (hl:l.length≤200):∃(x l':List UInt8),l'.length≤200∧x.length≤14∧∀{objs:List OB} {K:List OB→AV→Prop} (b:Nat),objs[b]? = some (zlK l)→K (objs.set b (zlK l')) (.s x)→zad Tryz.prog 35 [.p b 0] objs K:=by
 obtain⟨x,l',hl',hx,H⟩:=zkQ l [[97,46,101,120,97,109,112,108,101],[98,46,101,120,97,109,112,108,101],[99,46,101,120,97,109,112,108,101,58,56,52,52,51],[100,46,101,120,97,109,112,108,101]] 14 hl (by decide) (by decide) (by decide)
 refine⟨x,l',hl',hx,fun {objs K} b hb hk=>?_⟩
 refine zcR is_made_host fun C _=>?_
 simp only[c_made_host,sxZ,z6,z7,z8,j6,j7,j8,j9,x0,x5,x6,x7,x8,x9,y3,y4,reduceCtorEq,↓reduceIte]
 refine zaf (H b hb ?_)
 simp only[sxZ,z6,z7,z8,j6,j7,j8,j9,x0,x5,x6,x7,x8,x9,y3,y4,reduceCtorEq,↓reduceIte]
 exact hk
theorem dTextV (l:List UInt8) (hl:l.length≤200):∃(x l':List UInt8),l'.length≤200∧x.length≤100∧∀{objs:List OB} {K:List OB→AV→Prop} (b:Nat),objs[b]? = some (zlK l)→K (objs.set b (zlK l')) (.s x)→zad Tryz.prog 15 [.p b 0] objs K:=by
 have hmx:maxLen=2 ^ 63 - 1:=rfl
 obtain⟨h,l1,hl1,hh,H1⟩:=dHostV l hl
 obtain⟨r,l2,hl2,h0,h6,H2⟩:=dNextV l1 6 hl1 (by omega) (by omega)
 by_cases c0:r=0∨r=1
 ·obtain⟨x1,l3,hl3,hx1,H3⟩:=zkQ l2 [[97,99,99,116,58],[65,67,67,84,58]] 5 hl2 (by decide) (by decide) (by decide)
  obtain⟨x2,l4,hl4,hx2,H4⟩:=zkQ l3 [[98,111,98],[97,109,121],[120,37,50,102,121],[99,43,100]] 5 hl3 (by decide) (by decide) (by decide)
  obtain⟨x3,l5,hl5,hx3,H5⟩:=zkQ l4 [[97,46,101,120,97,109,112,108,101],[66,46,101,120,97,109,112,108,101],[99,46,101,120,97,109,112,108,101]] 9 hl4 (by decide) (by decide) (by decide)
  refine⟨x1++x2++[64]++x3,l5,hl5,by simp;omega,fun {objs K} b hb hk=>?_⟩
  have hlt:b<objs.length:=(List.getElem?_eq_some_iff.1 hb).1
  refine zcR is_made_Text fun C _=>?_
  rw[c_made_Text]
  refine zae fun Y hY=>?_
  simp only[sxZ,z6,z7,z8,j6,j7,j8,j9,x0,x5,x6,x7,x8,x9,y3,y4,reduceCtorEq,↓reduceIte]
  subst hY
  refine zae fun Y hY=>?_
  simp only[sxZ,z6,z7,z8,j6,j7,j8,j9,x0,x5,x6,x7,x8,x9,y3,y4,reduceCtorEq,↓reduceIte]
  refine zaf (H1 b hb ?_)
  simp only[sxZ,z6,z7,z8,j6,j7,j8,j9,x0,x5,x6,x7,x8,x9,y3,y4,reduceCtorEq,↓reduceIte]
  subst hY
  refine zae fun Y hY=>?_
  simp only[sxZ,z6,z7,z8,j6,j7,j8,j9,x0,x5,x6,x7,x8,x9,y3,y4,reduceCtorEq,↓reduceIte]
  refine zaf (H2 b (gsb hlt _) ?_)
  simp only[List.set_set,sxZ,z6,z7,z8,j6,j7,j8,j9,x0,x5,x6,x7,x8,x9,y3,y4,reduceCtorEq,↓reduceIte]
  rcases c0 with rfl|rfl
  all_goals
   simp only[sxZ,z6,z7,z8,j6,j7,j8,j9,x0,x5,x6,x7,x8,x9,y3,y4,reduceCtorEq,↓reduceIte]
   refine zaf (H3 b (gsb hlt _) ?_)
   simp only[List.set_set,sxZ,z6,z7,z8,j6,j7,j8,j9,x0,x5,x6,x7,x8,x9,y3,y4,reduceCtorEq,↓reduceIte]
   refine zaf (H4 b (gsb hlt _) ?_)
   simp only[List.set_set,sxZ,z6,z7,z8,j6,j7,j8,j9,x0,x5,x6,x7,x8,x9,y3,y4,reduceCtorEq,↓reduceIte]
   refine⟨by omega,by omega,?_⟩
   refine zaf (H5 b (gsb hlt _) ?_)
   simp only[List.set_set,sxZ,z6,z7,z8,j6,j7,j8,j9,x0,x5,x6,x7,x8,x9,y3,y4,reduceCtorEq,↓reduceIte]
   refine⟨by omega,?_⟩
   simp only[List.append_assoc,List.cons_append,List.nil_append] at hk ⊢
   exact hk
 have c1:¬r=0:=fun e=>c0 (.inl e)
 have c2:¬r=1:=fun e=>c0 (.inr e)
 by_cases c3:r=2
 ·obtain⟨x1,l3,hl3,hx1,H3⟩:=zkQ l2 [[98,111,98],[37,54,49,109,121],[99,43,100]] 5 hl2 (by decide) (by decide) (by decide)
  obtain⟨x2,l4,hl4,hx2,H4⟩:=zkQ l3 [[97,46,101,120,97,109,112,108,101],[98,46,69,120,97,109,112,108,101]] 9 hl3 (by decide) (by decide) (by decide)
  refine⟨[109,97,105,108,116,111,58]++x1++[64]++x2,l4,hl4,by simp;omega,fun {objs K} b hb hk=>?_⟩
  have hlt:b<objs.length:=(List.getElem?_eq_some_iff.1 hb).1
  refine zcR is_made_Text fun C _=>?_
  rw[c_made_Text]
  refine zae fun Y hY=>?_
  simp only[sxZ,z6,z7,z8,j6,j7,j8,j9,x0,x5,x6,x7,x8,x9,y3,y4,reduceCtorEq,↓reduceIte]
  subst hY
  refine zae fun Y hY=>?_
  simp only[sxZ,z6,z7,z8,j6,j7,j8,j9,x0,x5,x6,x7,x8,x9,y3,y4,reduceCtorEq,↓reduceIte]
  refine zaf (H1 b hb ?_)
  simp only[sxZ,z6,z7,z8,j6,j7,j8,j9,x0,x5,x6,x7,x8,x9,y3,y4,reduceCtorEq,↓reduceIte]
  subst hY
  refine zae fun Y hY=>?_
  simp only[sxZ,z6,z7,z8,j6,j7,j8,j9,x0,x5,x6,x7,x8,x9,y3,y4,reduceCtorEq,↓reduceIte]
  refine zaf (H2 b (gsb hlt _) ?_)
  simp only[List.set_set,sxZ,z6,z7,z8,j6,j7,j8,j9,x0,x5,x6,x7,x8,x9,y3,y4,reduceCtorEq,↓reduceIte]
  subst c3
  simp only[sxZ,z6,z7,z8,j6,j7,j8,j9,x0,x5,x6,x7,x8,x9,y3,y4,reduceCtorEq,↓reduceIte]
  refine zaf (H3 b (gsb hlt _) ?_)
  simp only[List.set_set,sxZ,z6,z7,z8,j6,j7,j8,j9,x0,x5,x6,x7,x8,x9,y3,y4,reduceCtorEq,↓reduceIte]
  refine⟨by omega,by omega,?_⟩
  refine zaf (H4 b (gsb hlt _) ?_)
  simp only[List.set_set,sxZ,z6,z7,z8,j6,j7,j8,j9,x0,x5,x6,x7,x8,x9,y3,y4,reduceCtorEq,↓reduceIte]
  refine⟨by omega,?_⟩
  simp only[List.append_assoc,List.cons_append,List.nil_append] at hk ⊢
  exact hk
 by_cases c4:r=3
 ·obtain⟨x1,l3,hl3,hx1,H3⟩:=zkQ l2 [[],[47],[47,117,47,98,111,98],[47,46,47,120,63,121,61,49],[47,126,97,35,109,101]] 8 hl2 (by decide) (by decide) (by decide)
  refine⟨[104,116,116,112,115,58,47,47]++h++x1,l3,hl3,by simp;omega,fun {objs K} b hb hk=>?_⟩
  have hlt:b<objs.length:=(List.getElem?_eq_some_iff.1 hb).1
  refine zcR is_made_Text fun C _=>?_
  rw[c_made_Text]
  refine zae fun Y hY=>?_
  simp only[sxZ,z6,z7,z8,j6,j7,j8,j9,x0,x5,x6,x7,x8,x9,y3,y4,reduceCtorEq,↓reduceIte]
  subst hY
  refine zae fun Y hY=>?_
  simp only[sxZ,z6,z7,z8,j6,j7,j8,j9,x0,x5,x6,x7,x8,x9,y3,y4,reduceCtorEq,↓reduceIte]
  refine zaf (H1 b hb ?_)
  simp only[sxZ,z6,z7,z8,j6,j7,j8,j9,x0,x5,x6,x7,x8,x9,y3,y4,reduceCtorEq,↓reduceIte]
  subst hY
  refine zae fun Y hY=>?_
  simp only[sxZ,z6,z7,z8,j6,j7,j8,j9,x0,x5,x6,x7,x8,x9,y3,y4,reduceCtorEq,↓reduceIte]
  refine zaf (H2 b (gsb hlt _) ?_)
  simp only[List.set_set,sxZ,z6,z7,z8,j6,j7,j8,j9,x0,x5,x6,x7,x8,x9,y3,y4,reduceCtorEq,↓reduceIte]
  subst c4
  simp only[sxZ,z6,z7,z8,j6,j7,j8,j9,x0,x5,x6,x7,x8,x9,y3,y4,reduceCtorEq,↓reduceIte]
  refine⟨by omega,?_⟩
  refine zaf (H3 b (gsb hlt _) ?_)
  simp only[List.set_set,sxZ,z6,z7,z8,j6,j7,j8,j9,x0,x5,x6,x7,x8,x9,y3,y4,reduceCtorEq,↓reduceIte]
  refine⟨by omega,?_⟩
  simp only[List.append_assoc,List.cons_append,List.nil_append] at hk ⊢
  exact hk
 obtain⟨x1,l3,hl3,hx1,H3⟩:=zkQ l2 [[],[58,117],[58,117,58,98,111,98],[58,97,37,55,101,98]] 6 hl2 (by decide) (by decide) (by decide)
 obtain⟨h',hh',hh2⟩:∃h':List UInt8,h'.length≤20∧h'=if h=[99,46,101,120,97,109,112,108,101,58,56,52,52,51] then [99,46,101,120,97,109,112,108,101,37,51,65,56,52,52,51] else h:=⟨_,by split<;>first|decide|omega,rfl⟩
 refine⟨[100,105,100,58,119,101,98,58]++h'++x1,l3,hl3,by simp;omega,fun {objs K} b hb hk=>?_⟩
 have hlt:b<objs.length:=(List.getElem?_eq_some_iff.1 hb).1
 refine zcR is_made_Text fun C _=>?_
 rw[c_made_Text]
 refine zae fun Y hY=>?_
 simp only[sxZ,z6,z7,z8,j6,j7,j8,j9,x0,x5,x6,x7,x8,x9,y3,y4,reduceCtorEq,↓reduceIte]
 subst hY
 refine zae fun Y hY=>?_
 simp only[sxZ,z6,z7,z8,j6,j7,j8,j9,x0,x5,x6,x7,x8,x9,y3,y4,reduceCtorEq,↓reduceIte]
 refine zaf (H1 b hb ?_)
 simp only[sxZ,z6,z7,z8,j6,j7,j8,j9,x0,x5,x6,x7,x8,x9,y3,y4,reduceCtorEq,↓reduceIte]
 subst hY
 refine zae fun Y hY=>?_
 simp only[sxZ,z6,z7,z8,j6,j7,j8,j9,x0,x5,x6,x7,x8,x9,y3,y4,reduceCtorEq,↓reduceIte]
 refine zaf (H2 b (gsb hlt _) ?_)
 simp only[List.set_set,sxZ,z6,z7,z8,j6,j7,j8,j9,x0,x5,x6,x7,x8,x9,y3,y4,reduceCtorEq,↓reduceIte]
 simp only[c1,c2,c3,c4,sxZ,z6,z7,z8,j6,j7,j8,j9,x0,x5,x6,x7,x8,x9,y3,y4,reduceCtorEq,↓reduceIte]
 subst hY
 refine zae fun Y hY=>?_
 have last:∀tm,tm.length=50→tm[0]? = some (.p b 0)→tm[3]? = some (.s h')→run Tryz.prog C [.code Y] (objs.set b (zlK l2)) tm (endI [.tmp 2] K):=by
  intro tm hlen t0 t3
  subst hY
  simp only[sxZ,z6,z7,z8,j6,j7,j8,j9,x0,x5,x6,x7,x8,x9,y3,y4,reduceCtorEq,↓reduceIte,List.getElem?_set,hlen,t0,t3]
  refine⟨by omega,?_⟩
  refine zaf (H3 b (gsb hlt _) ?_)
  simp only[List.set_set,sxZ,z6,z7,z8,j6,j7,j8,j9,x0,x5,x6,x7,x8,x9,y3,y4,reduceCtorEq,↓reduceIte,List.getElem?_set,hlen]
  refine⟨by omega,?_⟩
  simp only[List.append_assoc,List.cons_append,List.nil_append] at hk ⊢
  exact hk
 by_cases c5:h=[99,46,101,120,97,109,112,108,101,58,56,52,52,51]
 ·rw[if_pos c5] at hh2
  simp only[c5,sxZ,z6,z7,z8,j6,j7,j8,j9,x0,x5,x6,x7,x8,x9,y3,y4,reduceCtorEq,↓reduceIte]
  exact last _ rfl rfl (by rw[hh2];rfl)
 ·rw[if_neg c5] at hh2
  simp only[c5,sxZ,z6,z7,z8,j6,j7,j8,j9,x0,x5,x6,x7,x8,x9,y3,y4,reduceCtorEq,↓reduceIte]
  exact last _ rfl rfl (by rw[hh2];rfl)
end
end
section
attribute [local irreducible] run
theorem ziw (l:List UInt8):zaK (byA l)=true:=by
 induction l with
 | nil=>rfl
 | cons a l ih=>simp only[byA,List.map_cons] at ih ⊢;simp[zaK,AV.plain,ih]
section
variable [Tabs Tryz.prog] [Shp Tryz.prog] [Pow Tryz.prog] {objs:List OB} {K:List OB→AV→Prop}
def bobF:IdP:=⟨1,[97,99,99,116,58,98,111,98,64,101,120,97,109,112,108,101,46,99,111,109],[101,120,97,109,112,108,101,46,99,111,109],0⟩
theorem sane27_k (hk:K objs (.b true)):zad Tryz.prog 4 [] objs K:=by
 have e1:zhf bobF=(0,zox bobF):=by
  have h1:valB bobF=true:=by decide +kernel
  have h2:¬4096<(zcA (zox bobF)).length:=by decide +kernel
  unfold zhf
  rw[if_pos h1,if_neg h2]
 have e2:zhf idZ=(8,zdt):=by
  have h1:¬valB idZ=true:=by decide +kernel
  unfold zhf
  rw[if_neg h1]
 have e3:zcA (zox bobF)=[104,116,116,112,115,58,47,47,101,120,97,109,112,108,101,46,99,111,109,47,46,119,101,108,108,45,107,110,111,119,110,47,119,101,98,102,105,110,103,101,114,63,114,101,115,111,117,114,99,101,61,97,99,99,116,37,51,65,98,111,98,37,52,48,101,120,97,109,112,108,101,46,99,111,109]:=by decide +kernel
 have hb:zad Tryz.prog 12 [] [] (fun o r=>o=[]∧r=zew bobF):=by
  refine zaU is_law27_bob rfl fun C _=>?_
  simp only[c_law27_bob,sxZ,z6,z7,z8,j6,j7,j8,j9,x0,x5,x6,x7,x8,x9,y3,y4,reduceCtorEq,↓reduceIte]
  rfl
 have su:zcm (zox bobF):=⟨by decide,by decide,by decide,by decide,by decide +kernel,by decide⟩
 refine zaU is_law27_sane rfl fun C _=>?_
 rw[c_law27_sane]
 refine zae fun Y hY=>?_
 simp only[sxZ,z6,z7,z8,j6,j7,j8,j9,x0,x5,x6,x7,x8,x9,y3,y4,reduceCtorEq,↓reduceIte]
 subst hY
 refine zae fun Y hY=>?_
 simp only[sxZ,z6,z7,z8,j6,j7,j8,j9,x0,x5,x6,x7,x8,x9,y3,y4,reduceCtorEq,↓reduceIte]
 refine zaf (hb.mono ?_)
 rintro o r ⟨rfl,rfl⟩
 simp only[sxZ,z6,z7,z8,j6,j7,j8,j9,x0,x5,x6,x7,x8,x9,y3,y4,reduceCtorEq,↓reduceIte]
 refine zaf (zm4 bobF ⟨by decide,by decide,by decide,by decide⟩ ?_)
 rw[e1]
 simp only[zaQ,sxZ,z6,z7,z8,j6,j7,j8,j9,x0,x5,x6,x7,x8,x9,y3,y4,reduceCtorEq,↓reduceIte]
 subst hY
 refine zae fun Y hY=>?_
 simp only[sxZ,z6,z7,z8,j6,j7,j8,j9,x0,x5,x6,x7,x8,x9,y3,y4,reduceCtorEq,↓reduceIte]
 refine zaf (zm4 idZ ⟨by decide,by decide,by decide,by decide⟩ ?_)
 rw[e2]
 simp only[zaQ,zdt,sxZ,z6,z7,z8,j6,j7,j8,j9,x0,x5,x6,x7,x8,x9,y3,y4,reduceCtorEq,↓reduceIte]
 subst hY
 simp only[sxZ,z6,z7,z8,j6,j7,j8,j9,x0,x5,x6,x7,x8,x9,y3,y4,reduceCtorEq,↓reduceIte]
 refine zaf (zcE (zox bobF) su ?_)
 rw[e3]
 simp only[sxZ,z6,z7,z8,j6,j7,j8,j9,x0,x5,x6,x7,x8,x9,y3,y4,reduceCtorEq,↓reduceIte]
 exact hk
omit [Shp Tryz.prog] [Pow Tryz.prog] in
theorem keepID_k (x:IdP) (h1:x.text.length≤140737488351232) (h2:x.host.length≤140737488351232) (hk:K objs (.b (decide ((x.text.length:Int)+x.host.length≤1000)))):zad Tryz.prog 6 [zew x] objs K:=by
 refine zaU is_keep_ID rfl fun C _=>?_
 simp only[c_keep_ID,zew,sxZ,z6,z7,z8,j6,j7,j8,j9,x0,x5,x6,x7,x8,x9,y3,y4,reduceCtorEq,↓reduceIte]
 refine⟨⟨by omega,by omega⟩,hk⟩
omit [Shp Tryz.prog] [Pow Tryz.prog] in
theorem zhW (l:List UInt8) (hl:l.length≤140737488351232):∃x:IdP,zkY x∧∀{objs:List OB} {K:List OB→AV→Prop},K objs (zew x)→zad Tryz.prog 7 [.row l.length (byA l)] objs K:=by
 obtain⟨l',hl',H1⟩:=dNewV l hl
 obtain⟨x,l2,hl2,hx,H2⟩:=dTextV l' hl'
 refine⟨(za2 x).2,zlu x,fun {objs K} hk=>?_⟩
 refine zaU is_law27_identifier (by simp[zaK,AV.plain,ziw]) fun C _=>?_
 rw[c_law27_identifier]
 refine zae fun Y hY=>?_
 simp only[sxZ,z6,z7,z8,j6,j7,j8,j9,x0,x5,x6,x7,x8,x9,y3,y4,reduceCtorEq,↓reduceIte]
 subst hY
 refine zae fun Y hY=>?_
 simp only[sxZ,z6,z7,z8,j6,j7,j8,j9,x0,x5,x6,x7,x8,x9,y3,y4,reduceCtorEq,↓reduceIte]
 refine zaf (H1 ?_)
 simp only[sxZ,z6,z7,z8,j6,j7,j8,j9,x0,x5,x6,x7,x8,x9,y3,y4,reduceCtorEq,↓reduceIte]
 refine zaf (H2 1 rfl ?_)
 simp only[sxZ,z6,z7,z8,j6,j7,j8,j9,x0,x5,x6,x7,x8,x9,y3,y4,reduceCtorEq,↓reduceIte]
 refine zaf (zig x (by omega) ?_)
 obtain⟨⟨er,y⟩,hy⟩:∃r,za2 x=r:=⟨_,rfl⟩
 rw[hy] at hk ⊢
 simp only[idT,zew,sxZ,z6,z7,z8,j6,j7,j8,j9,x0,x5,x6,x7,x8,x9,y3,y4,reduceCtorEq,↓reduceIte] at hk ⊢
 subst hY
 simp only[sxZ,z6,z7,z8,j6,j7,j8,j9,x0,x5,x6,x7,x8,x9,y3,y4,reduceCtorEq,↓reduceIte]
 exact hk
end
end
section
attribute [local irreducible] run
section
variable [Tabs Tryz.prog] [Shp Tryz.prog] [Pow Tryz.prog]
theorem zji (subj:List UInt8) (al:List (List UInt8)) (pr:List PrP) (lk:List LkP) (x:IdP) (l4:List UInt8) (h0:subj.length≤140737488351232) (h1:∀a∈al,a.length≤140737488351232) (h2:∀x∈lk,LkOk x) (a1:x.text.length≤140737488351232) (a2:x.host.length≤140737488351232) (w4:l4.length≤140737488351232) :
  zad Tryz.prog 3 [zi8 subj al pr lk,zew x,.row l4.length (byA l4)] [] (fun _ r=>r=.b true):=by
 obtain⟨y,hy,HY⟩:=zhW l4 w4
 refine zaU is_law27_FingerNames (by unfold zi8;simp only[zaK,zlx,AV.plain,zdy,zd6,zf5,ziw,Bool.and_self]) fun C _=>?_
 rw[c_law27_FingerNames]
 refine zae fun Y hY=>?_
 unfold zi8
 simp only[zew,sxZ,z6,z7,z8,j6,j7,j8,j9,x0,x5,x6,x7,x8,x9,y3,y4,reduceCtorEq,↓reduceIte]
 subst hY
 refine zae fun Y hY=>?_
 simp only[sxZ,z6,z7,z8,j6,j7,j8,j9,x0,x5,x6,x7,x8,x9,y3,y4,reduceCtorEq,↓reduceIte]
 refine zaf (sane27_k ?_)
 simp only[sxZ,z6,z7,z8,j6,j7,j8,j9,x0,x5,x6,x7,x8,x9,y3,y4,reduceCtorEq,↓reduceIte]
 subst hY
 refine zae fun Y hY=>?_
 simp only[sxZ,z6,z7,z8,j6,j7,j8,j9,x0,x5,x6,x7,x8,x9,y3,y4,reduceCtorEq,↓reduceIte]
 refine zaf (zqf subj al pr lk h0 h1 h2 fun b hb=>?_)
 cases b with
 | false=>simp only[sxZ,z6,z7,z8,j6,j7,j8,j9,x0,x5,x6,x7,x8,x9,y3,y4,reduceCtorEq,↓reduceIte]
 | true=>
  have hj:=hb rfl
  simp only[sxZ,z6,z7,z8,j6,j7,j8,j9,x0,x5,x6,x7,x8,x9,y3,y4,reduceCtorEq,↓reduceIte]
  refine zaf (keepID_k x a1 a2 ?_)
  by_cases c1:((x.text.length:Int)+x.host.length≤1000)
  ·simp only[c1,sxZ,z6,z7,z8,j6,j7,j8,j9,x0,x5,x6,x7,x8,x9,y3,y4,reduceCtorEq,↓reduceIte]
   subst hY
   refine zae fun Y hY=>?_
   simp only[sxZ,z6,z7,z8,j6,j7,j8,j9,x0,x5,x6,x7,x8,x9,y3,y4,reduceCtorEq,↓reduceIte]
   refine zaf (HY ?_)
   simp only[zew,sxZ,z6,z7,z8,j6,j7,j8,j9,x0,x5,x6,x7,x8,x9,y3,y4,reduceCtorEq,↓reduceIte]
   subst hY
   simp only[sxZ,z6,z7,z8,j6,j7,j8,j9,x0,x5,x6,x7,x8,x9,y3,y4,reduceCtorEq,↓reduceIte]
   refine zbM (zm5 subj al pr lk x hj ⟨rfl,rfl⟩) ?_
   have l1:=zgI x (zdS lk subj al)
   have l2:=zgI y (zdS lk subj al)
   simp only[sxZ,z6,z7,z8,j6,j7,j8,j9,x0,x5,x6,x7,x8,x9,y3,y4,reduceCtorEq,↓reduceIte]
   refine zbM (zml subj al pr lk x hj ⟨rfl,rfl⟩) ?_
   simp only[sxZ,z6,z7,z8,j6,j7,j8,j9,x0,x5,x6,x7,x8,x9,y3,y4,reduceCtorEq,↓reduceIte]
   refine zbM (zgm _ (by omega) ⟨rfl,rfl⟩) ?_
   simp only[sxZ,z6,z7,z8,j6,j7,j8,j9,x0,x5,x6,x7,x8,x9,y3,y4,reduceCtorEq,↓reduceIte]
   refine zbM (zm5 subj al pr lk y hj ⟨rfl,rfl⟩) ?_
   simp only[sxZ,z6,z7,z8,j6,j7,j8,j9,x0,x5,x6,x7,x8,x9,y3,y4,reduceCtorEq,↓reduceIte]
   refine zbM (zml subj al pr lk y hj ⟨rfl,rfl⟩) ?_
   simp only[sxZ,z6,z7,z8,j6,j7,j8,j9,x0,x5,x6,x7,x8,x9,y3,y4,reduceCtorEq,↓reduceIte]
   refine zbM (zgm _ (by omega) ⟨rfl,rfl⟩) ?_
   simp only[sxZ,z6,z7,z8,j6,j7,j8,j9,x0,x5,x6,x7,x8,x9,y3,y4,reduceCtorEq,↓reduceIte]
  ·simp only[c1,sxZ,z6,z7,z8,j6,j7,j8,j9,x0,x5,x6,x7,x8,x9,y3,y4,reduceCtorEq,↓reduceIte]
theorem fingerNames_c (l0:List UInt8) (w0:l0.length≤140737488351232) (g1:List (List AV)) (w1:g1.length≤140737488351232) (h1:∀g∈g1,ShT .s g) (g2:List (List AV)) (w2:g2.length≤140737488351232) (h2:∀g∈g2,ShT (.st [.s,.s,.b]) g) (g3:List (List AV)) (w3:g3.length≤140737488351232) (h3:∀g∈g3,ShT (.st [.s,.s,.s,.s,.sl (.st [.s,.s,.b]),.sl (.st [.s,.s,.b])]) g) (n4:Int) (w4:(Lit.int .i64 n4).wf=true) (l5:List UInt8) (w5:l5.length≤140737488351232) (l6:List UInt8) (w6:l6.length≤140737488351232) (n7:Int) (w7:(Lit.int .i64 n7).wf=true) (g8:List (List AV)) (w8:g8.length≤140737488351232) (h8:∀g∈g8,ShT (.i .u8) g) :
  zad Tryz.prog 3 [.agg [.s l0,.row g1.length g1.flatten,.row g2.length g2.flatten,.row g3.length g3.flatten],.agg [.i .i64 n4,.s l5,.s l6,.i .i64 n7],.row g8.length g8.flatten] [] (fun _ r=>r=.b true):=by
 obtain⟨al,e1,e2,e3⟩:=sl_str h1
 obtain⟨pr,p1,p2⟩:=ziN h2
 obtain⟨lk,k1,k2,k3⟩:=zo0 h3
 obtain⟨l8,b1,b2⟩:=sl_u8 h8
 rw[e1,e2,p1,p2,k1,k2,b1,b2]
 exact zji l0 al pr lk ⟨n4,l5,l6,n7⟩ l8 w0 e3 k3 w5 w6 (b2▸w8)
end
end
end Go.Proofs.YtnnipcgblooemaaGreatDoor
