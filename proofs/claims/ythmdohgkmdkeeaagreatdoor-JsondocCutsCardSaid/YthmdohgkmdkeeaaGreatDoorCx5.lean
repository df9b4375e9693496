/- The texts that the proofs of these statements reach, in their order, as few files. -/
import Derived.Lib.IndexAny
import Derived.Shelf.Strings.IndexAnyAll
import Derived.Lib.OthersKept
import Derived.ProofKit
import Derived.OpenShut
import Derived.ShutString
import Derived.Carry
import Derived.WideKeyArgs
import Derived.SizedLaws
import Derived.Test.YthmdohgkmdkeeaaGreatDoorCx4
set_option linter.unusedVariables false
set_option linter.unusedSimpArgs false
set_option maxRecDepth 100000
namespace Go.Proofs.YthmdohgkmdkeeaaGreatDoor
open Go.RowKit
theorem valN_enc {r:Nat} (h:cpB (r:Int)=true):zem (zdC r)=r:=by
 have hr:=(of_decide_eq_true h).2.1
 unfold zdC
 by_cases h1:r < 128
 ·rw [if_pos h1]
  show (u8b r).toNat=r
  exact zay (by omega)
 rw [if_neg h1]
 by_cases h2:r < 2048
 ·rw [if_pos h2]
  show (u8b (192 + r / 64)).toNat % 32 * 64 + (u8b (128 + r % 64)).toNat % 64=r
  rw [zay (by omega),zay (by omega)]; omega
 rw [if_neg h2]
 by_cases h3:r < 65536
 ·rw [if_pos h3]
  show ((u8b (224 + r / 4096)).toNat % 16 * 64 + (u8b (128 + r / 64 % 64)).toNat % 64) * 64 + (u8b (128 + r % 64)).toNat % 64=r
  rw [zay (by omega),zay (by omega),zay (by omega)]; omega
 ·rw [if_neg h3]
  show (((u8b (240 + r / 262144)).toNat % 8 * 64 + (u8b (128 + r / 4096 % 64)).toNat % 64) * 64 + (u8b (128 + r / 64 % 64)).toNat % 64) * 64 + (u8b (128 + r % 64)).toNat % 64=r
  rw [zay (by omega),zay (by omega),zay (by omega),zay (by omega)]; omega
def ziQ (l:List UInt8):Bool:=decide ((zeK (zem l)).1=0) && ((zeK (zem l)).2 == l)
theorem znL {l:List UInt8} {n:Nat} (hn:n ≤ l.length) (h:ziQ (l.take n)=true):zbw l=some (zem (l.take n),n):=by
 unfold ziQ at h
 rw [Bool.and_eq_true,decide_eq_true_eq,beq_iff_eq] at h
 rcases hc:cpB (zem (l.take n):Int) with _ | _
 ·have:=h.1
  unfold zeK at this
  rw [hc,if_neg Bool.false_ne_true] at this
  exact absurd this (by decide)
 ·have h2:=h.2
  unfold zeK at h2
  rw [hc,if_pos rfl,Int.toNat_natCast] at h2
  exact zfr hc h2 hn
theorem isEnc_no {l:List UInt8} {n r:Nat} (h:zbw l=some (r,n)):ziQ (l.take n)=true:=by
 have hb:=zaY h
 have hv:zem (l.take n)=r:=by rw [← hb.2.1]; exact valN_enc hb.1
 unfold ziQ zeK
 rw [hv,hb.1,if_pos rfl,Int.toNat_natCast,hb.2.1]
 simp
theorem zeq (s:ByteArray) (a:Int) (w:World) (hs:s.size ≤ 140737488351232) :
  Calls Tryz.prog 92 #[.string s,.int .i64 a] w fun e w' => e=.returned (triV (zb3 s.data.toList a)) ∧ Qb w w':=by
 by_cases h:a < 0 ∨ (s.size:Int) ≤ a
 ·rw [zf1 (by rw [zah]; exact h)]
  by_cases h0:a < 0
  ·clear h
   go_enter Tryz.func92,Tryz.ntmps92
   go_wp2_with fail
   go_ret3
   exact ⟨rfl,Qb.refl _⟩
  ·have h1:(s.size:Int) ≤ a:=by omega
   clear h
   go_enter Tryz.func92,Tryz.ntmps92
   go_wp2_with fail
   go_ret3
   exact ⟨rfl,Qb.refl _⟩
 ·obtain ⟨k,rfl⟩:=Int.eq_ofNat_of_zero_le (show 0 ≤ a by omega)
  have hk:k < s.size:=by omega
  clear h
  have hb0:decide ((k:Int) < 0)=false:=decide_eq_false (by omega)
  have hbs:decide (s.size ≤ k)=false:=decide_eq_false (by omega)
  go_enter Tryz.func92,Tryz.ntmps92
  go_wp2_with fail
  go_loopw [7,8,9,10] (fun x _ _ _ wr => ∃ n:Nat,1 ≤ n ∧ n ≤ 5 ∧ x=.int .i64 n ∧ Hid (∀ r m,zbw (s.data.toList.drop k)=some (r,m) → n ≤ m) ∧ Qb w wr) (fun x _ _ _ _ => 5 - (intOf x).toNat)
  case atStart => exact ⟨1,Nat.le_refl _,by omega,rfl,Lib.hid fun r m hd => (zaY hd).2.2.2.1,Qb.refl w⟩
  case round =>
   obtain ⟨n,h1,h5,rfl,HM,hq⟩:=hrel
   by_cases hlt:n ≤ 4 ∧ k + n ≤ s.size
   ·obtain ⟨h4,hle⟩:=hlt
    have hx:Hid ((s.extract k (k + n)).data.toList=(s.data.toList.drop k).take n):=Lib.hid (by rw [Lib.extract_data,Nat.add_sub_cancel_left])
    have hsz:=size_extract s k (k + n) hle
    have hz1:1 ≤ (s.extract k (k + n)).size:=by omega
    have hz4:(s.extract k (k + n)).size ≤ 4:=by omega
    clear hsz
    go_wp2_with fail
    refine (zkO _ hz1 hz4 _).mono ?_
    rintro e w1 ⟨rfl,hq1⟩
    rw [hx.out]
    rcases hi:ziQ ((s.data.toList.drop k).take n) with _ | _
    ·have HN:Hid (∀ r m,zbw (s.data.toList.drop k)=some (r,m) → n + 1 ≤ m):=Lib.hid fun r m hd => by
      have h6:=HM.out r m hd
      have h7:n ≠ m:=by
       rintro rfl
       rw [isEnc_no hd] at hi; cases hi
      omega
     obtain ⟨er,eb,hres,hor⟩:∃ er eb,resV (zeK (zem ((s.data.toList.drop k).take n)))=.tuple #[.string eb,.int .i64 er] ∧ ((er == 0)=false ∨ (eb.toList == (s.extract k (k + n)).toList)=false):=by
      refine ⟨_,_,rfl,?_⟩
      unfold ziQ at hi
      rw [Bool.and_eq_false_iff,decide_eq_false_iff_not,beq_eq_false_iff_ne] at hi
      rcases hi with hi | hi
      ·exact .inl (beq_eq_false_iff_ne.2 hi)
      ·refine .inr (beq_eq_false_iff_ne.2 fun e => hi ?_)
       rw [ByteArray.toList_eq,ByteArray.toList_eq,hx.out] at e
       exact e
     have HR:=Lib.hid hres
     clear hres hi
     generalize zem ((s.data.toList.drop k).take n)=q at *
     go_wp2_with fail
     refine (zep _ _).mono ?_
     rintro e w2 ⟨rfl,hq2⟩
     rw [HR.out]
     rcases hor with ho | ho
     ·go_wp2_with fail
      go_roundw
      case rel => exact ⟨n + 1,by omega,by omega,by go_num,HN,(hq.trans hq1).trans hq2⟩
      case measure => simp [intOf]; omega
     ·by_cases he:er=0
      ·subst he
       go_wp2_with fail
       go_roundw
       case rel => exact ⟨n + 1,by omega,by omega,by go_num,HN,(hq.trans hq1).trans hq2⟩
       case measure => simp [intOf]; omega
      ·have he1:(er == 0)=false:=beq_eq_false_iff_ne.2 he
       clear he
       go_wp2_with fail
       go_roundw
       case rel => exact ⟨n + 1,by omega,by omega,by go_num,HN,(hq.trans hq1).trans hq2⟩
       case measure => simp [intOf]; omega
    ·have HD:=Lib.hid (znL (by rw [List.length_drop,zah]; omega) hi)
     have hres:resV (zeK (zem ((s.data.toList.drop k).take n)))=.tuple #[.string (s.extract k (k + n)),.int .i64 0]:=by
      unfold ziQ at hi
      rw [Bool.and_eq_true,decide_eq_true_eq,beq_iff_eq] at hi
      unfold resV
      rw [hi.1,hi.2,← hx.out]
     have HR:=Lib.hid hres
     clear hres hi
     generalize zem ((s.data.toList.drop k).take n)=q at *
     go_wp2_with fail
     refine (zep _ _).mono ?_
     rintro e w2 ⟨rfl,hq2⟩
     rw [HR.out]
     go_wp2_with fail
     go_ret3
     exact ⟨by rw [zdy (by rw [zah]; exact hk) HD.out]; rfl,(hq.trans hq1).trans hq2⟩
   ·have HN:Hid (zbw (s.data.toList.drop k)=none):=Lib.hid (by
     rcases hd:zbw (s.data.toList.drop k) with _ | ⟨r,m⟩
     ·rfl
     ·have h6:=HM.out r m hd
      have hb:=zaY hd
      have hb1:=hb.2.2.1
      rw [List.length_drop,zah] at hb1
      omega)
    by_cases h4:n ≤ 4
    ·have hgt:s.size < k + n:=by omega
     clear hlt
     go_wp2_with fail
     go_ret3
     exact ⟨by rw [zbk (by rw [zah]; exact hk) HN.out]; rfl,hq⟩
    ·clear hlt
     go_wp2_with fail
     go_ret3
     exact ⟨by rw [zbk (by rw [zah]; exact hk) HN.out]; rfl,hq⟩
end Go.Proofs.YthmdohgkmdkeeaaGreatDoor
namespace Go.Proofs.YthmdohgkmdkeeaaGreatDoor
open Go.RowKit
theorem zkX (s:ByteArray) (w:World) (hs:s.size ≤ 140737488351232) :
  Calls Tryz.prog 93 #[.string s] w fun e w' => e=.returned (.int .i64 (zlc s.data.toList)) ∧ Qb w w':=by
 go_enter Tryz.func93,Tryz.ntmps93
 go_wp2_with fail
 go_loopw [3,4] (fun c a wr => ∃ j m:Nat,j ≤ s.size ∧ m ≤ j ∧ a=.int .i64 j ∧ c=.int .i64 m ∧ Hid (zlc s.data.toList=addC m (zlc (s.data.toList.drop j))) ∧ Qb w wr) (fun _ a _ => s.size - (intOf a).toNat)
 case atStart => exact ⟨0,0,Nat.zero_le _,Nat.le_refl _,rfl,rfl,Lib.hid (zoK _),Qb.refl w⟩
 case round =>
  obtain ⟨j,m,hj,hm,rfl,rfl,HC,hq⟩:=hrel
  by_cases hlt:j < s.size
  ·rcases hd:zbw (s.data.toList.drop j) with _ | ⟨r,n⟩
   ·have HR:=Lib.hid (zbk (l:=s.data.toList) (k:=j) (by rw [zah]; exact hlt) hd)
    have HN:=Lib.hid (zh6 (by intro e; have:=congrArg List.length e; rw [List.length_drop,zah] at this; simp at this; omega) hd)
    clear hd
    go_wp2_with fail
    refine (zeq s j _ hs).mono ?_
    rintro e w1 ⟨rfl,hq1⟩
    rw [HR.out]
    unfold triV
    go_wp2_with fail
    go_ret
    exact ⟨zaW (by rw [HC.out,HN.out]; rfl),hq.trans hq1⟩
   ·have HR:=Lib.hid (zdy (l:=s.data.toList) (k:=j) (by rw [zah]; exact hlt) hd)
    have HN:=Lib.hid (zh5 hd)
    have hb:=zaY hd
    have hb1:=hb.2.2.1
    rw [List.length_drop,zah] at hb1
    have hb2:=hb.2.2.2.1
    clear hd hb
    go_wp2_with fail
    refine (zeq s j _ hs).mono ?_
    rintro e w1 ⟨rfl,hq1⟩
    rw [HR.out]
    unfold triV
    go_wp2_with fail
    go_roundw
    case rel => exact ⟨j + n,m + 1,by omega,by omega,by go_num,by go_num,Lib.hid (by rw [HC.out,HN.out,List.drop_drop,zoL _ _ _ (zot _)]),hq.trans hq1⟩
    case measure => simp [intOf]; omega
  ·have HN:Hid (zlc (s.data.toList.drop j)=0):=Lib.hid (by rw [List.drop_of_length_le (by rw [zah]; omega)]; rfl)
   go_wp2_with fail
   go_ret
   exact ⟨zaW (by rw [HC.out,HN.out]; unfold addC; rw [if_neg (by decide)]; omega),hq⟩
theorem zec (s:ByteArray) (w:World) (hs:s.size ≤ 140737488351232) :
  Calls Tryz.prog 75 #[.string s] w fun e w' => e=.returned (.bool (zbc s.data.toList)) ∧ Qb w w':=by
 go_enter Tryz.func75,Tryz.ntmps75
 go_wp2_with fail
 refine (zkX s _ hs).mono ?_
 rintro e w1 ⟨rfl,hq1⟩
 go_wp2_with fail
 go_ret
 exact ⟨rfl,hq1⟩
end Go.Proofs.YthmdohgkmdkeeaaGreatDoor
namespace Go.Proofs.YthmdohgkmdkeeaaGreatDoor
open Go.RowKit Sx
class Utf (P:Program) [Tabs P]:Prop where
 ut:∀ w:World,Tabs.T (P:=P) w → UTabs w
section
variable [Tabs Tryz.prog] {objs:List OB} {K:List OB → AV → Prop}
theorem zlC [Utf Tryz.prog] (r:Int) (hk:K objs (.tup [.s (zeK r).2,.i .i64 (zeK r).1])):zad Tryz.prog 98 [.i .i64 r] objs K :=
 convT (vs:=[.int .i64 r]) rfl rfl (fun w hT => zlh r w (Utf.ut w hT)) hk
theorem zg4 [Utf Tryz.prog] (s:List UInt8) (a:Int) (hs:s.length ≤ 140737488351232) (hk:K objs (.tup [.i .i64 (zb3 s a).1,.i .i64 (zb3 s a).2.1,.i .i64 (zb3 s a).2.2])):zad Tryz.prog 95 [.s s,.i .i64 a] objs K :=
 convT (vs:=[.string (S s),.int .i64 a]) rfl rfl (fun w hT => zlj (S s) a w (by rw [zci]; exact hs) (Utf.ut w hT)) hk
theorem zhl (s:List UInt8) (hs:s.length ≤ 140737488351232) (hk:K objs (.b (zbc s))):zad Tryz.prog 75 [.s s] objs K :=
 conv (vs:=[.string (S s)]) rfl rfl (fun w => zec (S s) w (by rw [zci]; exact hs)) hk
end
end Go.Proofs.YthmdohgkmdkeeaaGreatDoor
namespace Go.Proofs.YthmdohgkmdkeeaaGreatDoor.Sx
open Go.RowKit
theorem zgT {k:IntKind} {r:Int} {K K':Int → Prop} (hk:∀ v,K v → K' v) (h:arK k r K):arK k r K':=by
 cases k
 all_goals first | exact hk _ h | exact ⟨h.1,hk _ h.2⟩
theorem zoB {op:BinOp} {x y:AV} {K K':AV → Prop} (hk:∀ v,K v → K' v) (h:binK op x y K):binK op x y K':=by
 unfold binK at h ⊢
 split at h
 ·refine ⟨h.1,?_⟩
  replace h:=h.2
  cases op
  all_goals first
   | exact h.elim
   | exact zgT (fun _ g => hk _ g) h
   | exact ⟨h.1,zgT (fun _ g => hk _ g) h.2⟩
   | exact ⟨h.1,hk _ h.2⟩
   | exact hk _ h
 all_goals
  revert h
  cases op
  all_goals first
   | exact fun h => h.elim
   | exact fun h => ⟨h.1,hk _ h.2⟩
   | exact fun h => hk _ h
section
variable {P:Program} [Tabs P] {C:Cx}
theorem zeD {so:SOp} {objs:List OB} {tm:List AV} {K K':List OB → AV → Prop} (hk:∀ o v,K o v → K' o v) (h:wpS P so objs tm K):wpS P so objs tm K':=by
 cases so
 all_goals simp only [wpS] at h ⊢
 all_goals try exact hk _ _ h
 all_goals try exact ⟨h.1,hk _ _ h.2⟩
 all_goals try exact zoB (fun _ g => hk _ _ g) h
 all_goals try exact h.mono hk
 all_goals try exact ⟨h.1,h.2.mono fun _ _ g => ⟨g.1,hk _ _ g.2⟩⟩
 all_goals
  revert h
  repeat' split
  all_goals first
   | exact fun h => h.elim
   | exact fun h => hk _ _ h
   | exact fun h => ⟨h.1,hk _ _ h.2⟩
   | exact fun h => zgT (fun _ g => hk _ _ g) h
   | exact fun h => ⟨fun e => hk _ _ (h.1 e),fun e => hk _ _ (h.2 e)⟩
   | exact fun ⟨v,h1,h2⟩ => ⟨v,h1,hk _ _ h2⟩
   | exact fun ⟨h0,l,h1,h2⟩ => ⟨h0,l,h1,hk _ _ h2⟩
   | exact fun h => ⟨h.1,h.2.mono hk⟩
theorem zbg:∀ {l:List SO} {objs:List OB} {tm:List AV} {K K':List OB → List AV → Prop},(∀ o t,K o t → K' o t) → wpR P l objs tm K → wpR P l objs tm K'
 | [],_,_,_,_,hk,h => hk _ _ h
 | ⟨dst,op,none⟩ :: r,_,_,_,_,hk,h => zeD (fun _ _ g => zbg hk g) h
 | ⟨dst,op,some (t,want)⟩ :: r,objs,tm,K,K',hk,h => by
  simp only [wpR] at h ⊢
  revert h
  split
  ·exact fun h => ⟨fun e => zeD (fun _ _ g => zbg hk g) (h.1 e),fun e => zbg hk (h.2 e)⟩
  ·exact fun h => zbg hk h
  ·exact fun h => h.elim
theorem zcE:∀ {l:List SO} {objs:List OB} {tm:List AV} {K K':List OB → List AV → Prop},(∀ o t,K o t → K' o t) → wpD P l objs tm K → wpD P l objs tm K'
 | [],_,_,_,_,hk,h => hk _ _ h
 | ⟨dst,op,none⟩ :: r,_,_,_,_,hk,h => by
  simp only [wpD] at h ⊢
  revert h
  split
  ·exact fun ⟨v,h1,h2⟩ => ⟨v,h1,zcE hk h2⟩
  ·exact fun h => zeD (fun _ _ g => zcE hk g) h
 | ⟨dst,op,some (t,want)⟩ :: r,objs,tm,K,K',hk,h => by
  simp only [wpD] at h ⊢
  revert h
  split
  ·refine fun h => ⟨fun e => ?_,fun e => zcE hk (h.2 e)⟩
   have h1:=h.1 e
   revert h1
   split
   ·exact fun ⟨v,h1,h2⟩ => ⟨v,h1,zcE hk h2⟩
   ·exact fun h => zeD (fun _ _ g => zcE hk g) h
  ·exact fun h => zcE hk h
  ·exact fun h => h.elim
theorem zkJ {N N':List OB → List AV → Prop} {K K':zaH} (hn:∀ o t,N o t → N' o t) (hk:∀ e o t,K e o t → K' e o t):∀ e o t,zeA N K e o t → zeA N' K' e o t:=by
 intro e o t h
 cases e <;> first | exact hn _ _ h | exact hk _ _ _ h
theorem zoA {id:Nat} {K K':zaH} (hk:∀ e o t,K e o t → K' e o t):∀ e o t,blkK id K e o t → blkK id K' e o t:=by
 intro e o t h
 cases e
 all_goals try exact hk _ _ _ h
 rename_i i
 unfold blkK at h ⊢
 simp only at h ⊢
 split at h
 ·rename_i g; rw [if_pos g]; exact hk _ _ _ h
 ·rename_i g; rw [if_neg g]; exact hk _ _ _ h
theorem zja:∀ (st:List (List SO × SO)) (h:List (List SO × List AV × List AV)) (last:List SO) (o:List OB) (t:List AV) {K K':List OB → List AV → Prop},(∀ o t,K o t → K' o t) → wpT P st h last o t K → wpT P st h last o t K'
 | [],h,last,o,t,K,K',hk,g => zbg hk g
 | (L,c) :: st,h,last,o,t,K,K',hk,g => zbg (fun _ _ g => zbg (fun _ _ g => ⟨g.1,zja st _ last _ _ hk g.2⟩) g) g
theorem zc9:∀ (c:SCode) {K K':zaH} {objs:List OB} {tm:List AV},(∀ e o t,K e o t → K' e o t) → wpC P C c K objs tm → wpC P C c K' objs tm
 | .skip,_,_,_,_,hk,h => hk _ _ _ h
 | .reg l,_,_,_,_,hk,h => zbg (fun _ _ g => hk _ _ _ g) h
 | .drw l k ap,_,_,_,_,hk,h => zcE (fun _ _ g => ⟨g.1,zbg (fun _ _ g => hk _ _ _ g) g.2⟩) h
 | .crg pre cl post,_,_,_,_,hk,h => zbg (fun _ _ g => zbg (fun _ _ g => ⟨g.1,zbg (fun _ _ g => hk _ _ _ g) g.2⟩) g) h
 | .crs st last,_,_,_,_,hk,h => zja st [] last _ _ (fun _ _ g => hk _ _ _ g) h
 | .seq x y,_,_,_,_,hk,h => zc9 x (zkJ (fun _ _ g => zc9 y hk g) hk) h
 | .cond c x y,_,_,_,_,hk,h => by
  simp only [wpC] at h ⊢
  revert h
  split
  ·exact fun h => ⟨fun e => zc9 x hk (h.1 e),fun e => zc9 y hk (h.2 e)⟩
  ·exact fun h => h.elim
 | .blk id c,_,_,_,_,hk,h => zc9 c (zoA hk) h
 | .loop c,_,_,_,_,hk,h => fun c hc => WP.mono (fun e o t g => by cases e <;> first | exact hk _ _ _ g | exact g) (h c hc)
 | .exit id,_,_,_,_,hk,h => hk _ _ _ h
 | .ret,_,_,_,_,hk,h => hk _ _ _ h
 | .dead,_,_,_,_,hk,h => h.elim
def cutF (P:Program) [Tabs P] (C:Cx) (J:List OB → List AV → Prop) (k:List IT) (F:zaH):zaH:=zeA J (zcS P C F k)
variable {F:zaH} {k:List IT} {objs:List OB} {tm:List AV}
theorem zab (J:List OB → List AV → Prop):cutF P C J k F .normal objs tm=J objs tm:=Eq.trans rfl rfl
theorem zbu (J:List OB → List AV → Prop) (id:Nat):cutF P C J k F (.exit id) objs tm=xit P C id k objs tm F:=Eq.trans rfl rfl
theorem zaP {x:SCode} (J:List OB → List AV → Prop) (h:run P C [.code x] objs tm (cutF P C J k F)) (hJ:∀ o t,J o t → run P C k o t F):run P C (.code x :: k) objs tm F :=
 zc9 x (fun e o t g => by
  cases e
  ·exact hJ _ _ g
  all_goals exact g) h
end
end Go.Proofs.YthmdohgkmdkeeaaGreatDoor.Sx
namespace Go.Proofs.YthmdohgkmdkeeaaGreatDoor.Sx
open Go.RowKit
section
variable {P:Program} [Tabs P] {C:Cx} {F:zaH} {k:List IT} {objs:List OB} {tm:List AV}
theorem zaa {x y:SCode} (h:∀ Y,Y=y → run P C (.code x :: .code Y :: k) objs tm F):run P C (.code (.seq x y) :: k) objs tm F:=h y rfl
theorem zdc (J:List AV → Prop) (h:J tm) (hk:∀ t,J t → run P C k objs t F):run P C k objs tm F:=hk tm h
end
end Go.Proofs.YthmdohgkmdkeeaaGreatDoor.Sx
namespace Go.Proofs.YthmdohgkmdkeeaaGreatDoor
open Nat renaming reduceAdd → z6, reduceSub → z7, reduceLeDiff → z8, reduceLT → j5, reduceMul → j6, reduceEqDiff → j7
open Int renaming reduceToNat → j8, reduceAdd → j9, reduceSub → x3, reduceMul → x4, reduceNeg → x5, reduceLT → x6, reduceLE → x7, reduceEq → x8, reduceNe → x9
open Go.RowKit Sx
theorem iv {k:IntKind} {x y:Int} (h:x=y):some (AV.i k x)=some (AV.i k y):=by rw [h]
theorem zl2 (s:List UInt8) (i:Nat) (h:i < s.length):zaM (s.drop i)=if zai s[i]=true then zaM (s.drop (i + 1)) + 1 else 0:=by
 rw [List.drop_eq_getElem_cons h,zaM]
theorem zl1 (s:List UInt8):zaM (s.drop s.length)=0:=by rw [List.drop_length]; rfl
theorem get_some {s:List UInt8} {i:Nat} (h:i < s.length) {c:UInt8}:(s[i]? = some c) ↔ s[i]=c:=by
 rw [List.getElem?_eq_getElem h,Option.some.injEq]
theorem zbh {s:List UInt8} {i:Nat} (h:¬ i < s.length) {c:UInt8}:¬ s[i]? = some c:=by
 rw [List.getElem?_eq_none (by omega)]; simp
theorem zbL {c:UInt8} {k:Nat} (hk:k < 256):(((c.toNat:Nat):Int)=((k:Nat):Int)) ↔ c=UInt8.ofNat k:=by
 constructor
 ·intro h
  have h2:c.toNat=k:=by omega
  rw [← h2]; simp
 ·rintro rfl
  rw [UInt8.toNat_ofNat']; omega
theorem zej {s:List UInt8} {i:Nat} (h:i < s.length) (k:Nat) (hk:k < 256):s[i]? = some (UInt8.ofNat k) ↔ ((s[i].toNat:Nat):Int)=((k:Nat):Int):=by
 rw [get_some h]
 exact (zbL hk).symm
theorem zfn (s:List UInt8) (a i:Nat):(s.drop a)[i]? = s[a + i]?:=List.getElem?_drop
theorem zgK (s:List UInt8) (a i:Nat):(s.drop a).drop i=s.drop (a + i):=List.drop_drop
section
variable [Tabs Tryz.prog] {objs:List OB} {K:List OB → AV → Prop}
theorem zdx (s:List UInt8) (a:Nat) (ha:a ≤ s.length) (hs:s.length ≤ 9000000000000000000) (hk:K objs (.i .i64 ((a + zaM (s.drop a):Nat):Int))):zad Tryz.prog 82 [.s s,.i .i64 (a:Nat)] objs K:=by
 refine za8 is_token_digitsEnd rfl fun C _ => ?_
 simp only [c_token_digitsEnd,sxZ,z6,z7,z8,j5,j6,j7,j8,j9,x3,x4,x5,x6,x7,x8,x9,reduceCtorEq,↓reduceIte]
 refine zaQ (fun n objs tm => ∃ i:Nat,i ≤ s.length ∧ n=s.length - i ∧ objs=[] ∧ a + zaM (s.drop a)=i + zaM (s.drop i) ∧ tm.length=18 ∧ tm[0]? = some (.s s) ∧ tm[1]? = some (.i .i64 i)) (s.length - a) ⟨a,ha,rfl,rfl,rfl,rfl,rfl,rfl⟩ ?_
 rintro n _ tm ⟨i,hi,rfl,rfl,hr,hlen,t0,t1⟩
 by_cases hlt:(i:Int) < s.length
 ·have hlt':i < s.length:=by omega
  have hg:=zaz hlt'
  have hrn:=zl2 s i hlt'
  simp only [sxZ,z6,z7,z8,j5,j6,j7,j8,j9,x3,x4,x5,x6,x7,x8,x9,reduceCtorEq,↓reduceIte,List.getElem?_set,hlen,t0,t1,hlt]
  refine ⟨by omega,?_⟩
  rw [hg]
  generalize s[i]=c at *
  refine zak (zkG c ?_)
  by_cases hd:zai c=true
  ·rw [if_pos hd] at hrn
   simp only [hd,sxZ,z6,z7,z8,j5,j6,j7,j8,j9,x3,x4,x5,x6,x7,x8,x9,reduceCtorEq,↓reduceIte,List.getElem?_set,hlen,t0,t1]
   exact ⟨⟨by omega,by omega⟩,s.length - (i + 1),by omega,i + 1,by omega,rfl,by omega,rfl⟩
  ·rw [if_neg hd] at hrn
   simp only [Bool.not_eq_true] at hd
   simp only [hd,sxZ,z6,z7,z8,j5,j6,j7,j8,j9,x3,x4,x5,x6,x7,x8,x9,reduceCtorEq,↓reduceIte,List.getElem?_set,hlen,t0,t1]
   rw [hr,hrn] at hk
   exact hk
 ·obtain rfl:i=s.length:=by omega
  simp only [sxZ,z6,z7,z8,j5,j6,j7,j8,j9,x3,x4,x5,x6,x7,x8,x9,reduceCtorEq,↓reduceIte,List.getElem?_set,hlen,t0,t1,hlt]
  rw [hr,zl1] at hk
  exact hk
theorem znK (c:UInt8) (hk:K objs (.b (zaS c))):zad Tryz.prog 33 [.i .u8 c.toNat] objs K:=by
 refine za8 is_token_isSpace rfl fun C _ => ?_
 have h32:=zbL (c:=c) (k:=32) (by decide)
 have h9:=zbL (c:=c) (k:=9) (by decide)
 have h10:=zbL (c:=c) (k:=10) (by decide)
 have h13:=zbL (c:=c) (k:=13) (by decide)
 have hw:zaS c=decide (c=32 ∨ c=9 ∨ c=10 ∨ c=13):=by
  have:∀ n:Fin 256,zaS (UInt8.ofNat n.val)=decide (UInt8.ofNat n.val=32 ∨ UInt8.ofNat n.val=9 ∨ UInt8.ofNat n.val=10 ∨ UInt8.ofNat n.val=13):=by decide +kernel
  simpa using this ⟨c.toNat,c.toNat_lt⟩
 rw [hw] at hk
 by_cases c1:((c.toNat:Nat):Int)=32
 ·rw [decide_eq_true (by have:=h32.1 c1; simp [this])] at hk
  simp only [c_token_isSpace,c1,sxZ,z6,z7,z8,j5,j6,j7,j8,j9,x3,x4,x5,x6,x7,x8,x9,reduceCtorEq,↓reduceIte]; exact hk
 by_cases c2:((c.toNat:Nat):Int)=9
 ·rw [decide_eq_true (by have:=h9.1 c2; simp [this])] at hk
  simp only [c_token_isSpace,c1,c2,sxZ,z6,z7,z8,j5,j6,j7,j8,j9,x3,x4,x5,x6,x7,x8,x9,reduceCtorEq,↓reduceIte]; exact hk
 by_cases c3:((c.toNat:Nat):Int)=10
 ·rw [decide_eq_true (by have:=h10.1 c3; simp [this])] at hk
  simp only [c_token_isSpace,c1,c2,c3,sxZ,z6,z7,z8,j5,j6,j7,j8,j9,x3,x4,x5,x6,x7,x8,x9,reduceCtorEq,↓reduceIte]; exact hk
 by_cases c4:((c.toNat:Nat):Int)=13
 ·rw [decide_eq_true (by have:=h13.1 c4; simp [this])] at hk
  simp only [c_token_isSpace,c1,c2,c3,c4,sxZ,z6,z7,z8,j5,j6,j7,j8,j9,x3,x4,x5,x6,x7,x8,x9,reduceCtorEq,↓reduceIte]; exact hk
 rw [decide_eq_false (by
  rintro (h | h | h | h)
  ·exact c1 (h32.2 h)
  ·exact c2 (h9.2 h)
  ·exact c3 (h10.2 h)
  ·exact c4 (h13.2 h))] at hk
 simp only [c_token_isSpace,c1,c2,c3,c4,sxZ,z6,z7,z8,j5,j6,j7,j8,j9,x3,x4,x5,x6,x7,x8,x9,reduceCtorEq,↓reduceIte]; exact hk
end
section
variable [Tabs Tryz.prog] {objs:List OB} {K:List OB → AV → Prop}
set_option maxHeartbeats 4000000 in
theorem zdu (s:List UInt8) (a:Nat) (ha:a ≤ s.length) (hs:s.length ≤ 9000000000000000000) (hk:K objs (.i .i64 ((a + zcC (s.drop a):Nat):Int))):zad Tryz.prog 58 [.s s,.i .i64 (a:Nat)] objs K:=by
 refine za8 is_token_numberEnd rfl fun C _ => ?_
 rw [c_token_numberEnd]
 refine zaa fun Y1 hY1 => ?_
 simp only [sxZ,z6,z7,z8,j5,j6,j7,j8,j9,x3,x4,x5,x6,x7,x8,x9,reduceCtorEq,↓reduceIte]
 subst hY1
 refine zaa fun Y1 hY1 => ?_
 simp only [sxZ,z6,z7,z8,j5,j6,j7,j8,j9,x3,x4,x5,x6,x7,x8,x9,reduceCtorEq,↓reduceIte]
 subst hY1
 refine zaa fun Y1 hY1 => ?_
 refine zaP (fun o t => o=[] ∧ t.length=99 ∧ t[0]? = some (.s s) ∧ t[1]? = some (.i .i64 (a:Nat)) ∧ t[5]? = some (.i .i64 ((a + za0 (s.drop a):Nat):Int))) ?_ ?_
 ·unfold za0
  rw [zfn,Nat.add_zero]
  by_cases c1:(a:Int) < s.length
  ·have c1':a < s.length:=by omega
   have hg:=zaz c1'
   have h45:s[a]? = some 45 ↔ ((s[a].toNat:Nat):Int)=45:=zej c1' 45 (by decide)
   by_cases c2:((s[a].toNat:Nat):Int)=45
   ·rw [if_pos (h45.2 c2)]
    simp only [c1,hg,c2,zab,sxZ,z6,z7,z8,j5,j6,j7,j8,j9,x3,x4,x5,x6,x7,x8,x9,reduceCtorEq,↓reduceIte]
    and_intros <;> first | omega | exact iv (by omega) | rfl | assumption
   ·rw [if_neg (fun h => c2 (h45.1 h))]
    simp only [c1,hg,c2,zab,sxZ,z6,z7,z8,j5,j6,j7,j8,j9,x3,x4,x5,x6,x7,x8,x9,reduceCtorEq,↓reduceIte]
    exact ⟨by omega,rfl⟩
  ·rw [if_neg (zbh (by omega))]
   simp only [c1,zab,sxZ,z6,z7,z8,j5,j6,j7,j8,j9,x3,x4,x5,x6,x7,x8,x9,reduceCtorEq,↓reduceIte]
   rfl
 rintro _ tm ⟨rfl,hlen,t0,t1,t5⟩
 subst hY1
 have hsg:a + za0 (s.drop a) ≤ s.length:=by
  unfold za0
  split
  ·rename_i h
   have:=(List.getElem?_eq_some_iff.1 h).1
   rw [List.length_drop] at this; omega
  ·omega
 refine zaa fun Y1 hY1 => ?_
 simp only [sxZ,z6,z7,z8,j5,j6,j7,j8,j9,x3,x4,x5,x6,x7,x8,x9,reduceCtorEq,↓reduceIte,List.getElem?_set,hlen,t0,t1,t5]
 refine zak (zdx s _ hsg hs ?_)
 simp only [sxZ,z6,z7,z8,j5,j6,j7,j8,j9,x3,x4,x5,x6,x7,x8,x9,reduceCtorEq,↓reduceIte,List.getElem?_set,hlen,t0,t1,t5]
 subst hY1
 refine zaa fun Y1 hY1 => ?_
 unfold zcC at hk
 rw [zgK] at hk
 have hw:zaA (s.drop a)=if s[a + za0 (s.drop a)]? = some 48 then za0 (s.drop a) + 1 else za0 (s.drop a) + zaM (s.drop (a + za0 (s.drop a))):=by unfold zaA; rw [zfn,zgK]
 have hrl:0 < zaM (s.drop (a + za0 (s.drop a))) → a + za0 (s.drop a) + zaM (s.drop (a + za0 (s.drop a))) ≤ s.length:=zaJ s _
 generalize za0 (s.drop a)=g at *
 by_cases c0:zaM (s.drop (a + g))=0
 ·rw [if_pos c0] at hk
  simp only [c0,Nat.add_zero,sxZ,z6,z7,z8,j5,j6,j7,j8,j9,x3,x4,x5,x6,x7,x8,x9,reduceCtorEq,↓reduceIte,List.getElem?_set,hlen,t0,t1,t5]
  exact hk
 rw [if_neg c0] at hk
 have c0':¬ ((a + g + zaM (s.drop (a + g)):Nat):Int)=((a + g:Nat):Int):=by omega
 simp only [c0',sxZ,z6,z7,z8,j5,j6,j7,j8,j9,x3,x4,x5,x6,x7,x8,x9,reduceCtorEq,↓reduceIte,List.getElem?_set,hlen,t0,t1,t5]
 subst hY1
 refine zaa fun Y1 hY1 => ?_
 refine zaP (fun o t => o=[] ∧ t.length=99 ∧ t[0]? = some (.s s) ∧ t[6]? = some (.i .i64 ((a + zaA (s.drop a):Nat):Int))) ?_ ?_
 ·have c1':a + g < s.length:=by have:=hrl (by omega); omega
  have hg:=zaz c1'
  have h48:s[a + g]? = some 48 ↔ ((s[a + g].toNat:Nat):Int)=48:=zej c1' 48 (by decide)
  rw [hw]
  by_cases c2:((s[a + g].toNat:Nat):Int)=48
  ·rw [if_pos (h48.2 c2)]
   simp only [hg,c2,zab,sxZ,z6,z7,z8,j5,j6,j7,j8,j9,x3,x4,x5,x6,x7,x8,x9,reduceCtorEq,↓reduceIte,List.getElem?_set,hlen,t0,t1,t5]
   and_intros <;> first | omega | exact iv (by omega) | rfl | assumption
  ·rw [if_neg (fun h => c2 (h48.1 h))]
   simp only [hg,c2,zab,sxZ,z6,z7,z8,j5,j6,j7,j8,j9,x3,x4,x5,x6,x7,x8,x9,reduceCtorEq,↓reduceIte,List.getElem?_set,hlen,t0,t1,t5]
   and_intros <;> first | omega | exact iv (by omega) | rfl | assumption
 rintro _ tm ⟨rfl,hlen,t0,t6⟩
 subst hY1
 refine zaa fun Y1 hY1 => ?_
 have hwl:a + zaA (s.drop a) ≤ s.length:=by
  rw [hw]
  have:=hrl (by omega)
  split <;> omega
 have hf:zby (s.drop a) (zaA (s.drop a))=if s[a + zaA (s.drop a)]? = some 46 ∧ 0 < zaM (s.drop (a + zaA (s.drop a) + 1)) then zaA (s.drop a) + 1 + zaM (s.drop (a + zaA (s.drop a) + 1)) else zaA (s.drop a):=by unfold zby; rw [zfn,zgK,Nat.add_assoc a]
 generalize zaA (s.drop a)=w at *
 clear hw hrl
 refine zaP (fun o t => o=[] ∧ t.length=99 ∧ t[0]? = some (.s s) ∧ t[6]? = some (.i .i64 ((a + zby (s.drop a) w:Nat):Int))) ?_ ?_
 ·rw [hf]
  by_cases c1:((a + w:Nat):Int) < s.length
  ·have c1':a + w < s.length:=by omega
   have hg:=zaz c1'
   have h46:s[a + w]? = some 46 ↔ ((s[a + w].toNat:Nat):Int)=46:=zej c1' 46 (by decide)
   by_cases c2:((s[a + w].toNat:Nat):Int)=46
   ·simp only [c1,hg,c2,zab,sxZ,z6,z7,z8,j5,j6,j7,j8,j9,x3,x4,x5,x6,x7,x8,x9,reduceCtorEq,↓reduceIte,List.getElem?_set,hlen,t0,t6]
    refine ⟨by omega,⟨by omega,by omega⟩,?_⟩
    refine zak (zdx s (a + w + 1) (by omega) hs ?_)
    have hr:=zaJ s (a + w + 1)
    generalize zaM (s.drop (a + w + 1))=r at *
    by_cases c3:0 < r
    ·rw [if_pos ⟨h46.2 c2,c3⟩]
     have c3':((a + w:Nat):Int) + 1 < ((a + w + 1 + r:Nat):Int):=by omega
     simp only [c3',zab,sxZ,z6,z7,z8,j5,j6,j7,j8,j9,x3,x4,x5,x6,x7,x8,x9,reduceCtorEq,↓reduceIte,List.getElem?_set,hlen,t0,t6]
     and_intros <;> first | omega | exact iv (by omega) | rfl | assumption
    ·rw [if_neg (fun h => c3 h.2)]
     have c3':¬ ((a + w:Nat):Int) + 1 < ((a + w + 1 + r:Nat):Int):=by omega
     simp only [c3',zab,sxZ,z6,z7,z8,j5,j6,j7,j8,j9,x3,x4,x5,x6,x7,x8,x9,reduceCtorEq,↓reduceIte,List.getElem?_set,hlen,t0,t6]
     and_intros <;> first | omega | exact iv (by omega) | rfl | assumption
   ·rw [if_neg (fun h => c2 (h46.1 h.1))]
    simp only [c1,hg,c2,zab,sxZ,z6,z7,z8,j5,j6,j7,j8,j9,x3,x4,x5,x6,x7,x8,x9,reduceCtorEq,↓reduceIte,List.getElem?_set,hlen,t0,t6]
    and_intros <;> first | omega | exact iv (by omega) | rfl | assumption
  ·rw [if_neg (fun h => zbh (by omega) h.1)]
   simp only [c1,zab,sxZ,z6,z7,z8,j5,j6,j7,j8,j9,x3,x4,x5,x6,x7,x8,x9,reduceCtorEq,↓reduceIte,List.getElem?_set,hlen,t0,t6]
 rintro _ tm ⟨rfl,hlen,t0,t6⟩
 subst hY1
 refine zaa fun Y1 hY1 => ?_
 have hfl:a + zby (s.drop a) w ≤ s.length:=by
  rw [hf]
  split
  ·rename_i h
   have:=zaJ s (a + w + 1) h.2
   omega
  ·exact hwl
 generalize zby (s.drop a) w=f at *
 clear hf
 have hx:zaT (s.drop a) f=if s[a + f + 1]? = some 43 ∨ s[a + f + 1]? = some 45 then f + 2 else f + 1:=by unfold zaT; rw [zfn,Nat.add_assoc a]
 have he:ziW (s.drop a) f=if (s[a + f]? = some 101 ∨ s[a + f]? = some 69) ∧ 0 < zaM (s.drop (a + zaT (s.drop a) f)) then zaT (s.drop a) f + zaM (s.drop (a + zaT (s.drop a) f)) else f:=by unfold ziW; rw [zfn,zgK]
 refine zaP (fun o t => o=[] ∧ t.length=99 ∧ t[6]? = some (.i .i64 ((a + ziW (s.drop a) f:Nat):Int))) ?_ ?_
 ·refine zaa fun Y2 hY2 => ?_
  refine zaP (fun o t => o=[] ∧ t.length=99 ∧ t[0]? = some (.s s) ∧ t[6]? = some (.i .i64 ((a + f:Nat):Int)) ∧ t[70]? = some (.b (decide (s[a + f]? = some 101 ∨ s[a + f]? = some 69)))) ?_ ?_
  ·by_cases c1:((a + f:Nat):Int) < s.length
   ·have c1':a + f < s.length:=by omega
    have hg:=zaz c1'
    have h101:s[a + f]? = some 101 ↔ ((s[a + f].toNat:Nat):Int)=101:=zej c1' 101 (by decide)
    have h69:s[a + f]? = some 69 ↔ ((s[a + f].toNat:Nat):Int)=69:=zej c1' 69 (by decide)
    by_cases c2:((s[a + f].toNat:Nat):Int)=101
    ·have hE:s[a + f]? = some 101 ∨ s[a + f]? = some 69:=.inl (h101.2 c2)
     simp only [c1,hg,c2,hE,zab,sxZ,z6,z7,z8,j5,j6,j7,j8,j9,x3,x4,x5,x6,x7,x8,x9,reduceCtorEq,↓reduceIte,List.getElem?_set,hlen,t0,t6]
     and_intros <;> first | omega | exact iv (by omega) | rfl | assumption
    ·by_cases c3:((s[a + f].toNat:Nat):Int)=69
     ·have hE:s[a + f]? = some 101 ∨ s[a + f]? = some 69:=.inr (h69.2 c3)
      simp only [c1,hg,c2,c3,hE,zab,sxZ,z6,z7,z8,j5,j6,j7,j8,j9,x3,x4,x5,x6,x7,x8,x9,reduceCtorEq,↓reduceIte,List.getElem?_set,hlen,t0,t6]
      and_intros <;> first | omega | exact iv (by omega) | rfl | assumption
     ·have hE:¬ (s[a + f]? = some 101 ∨ s[a + f]? = some 69):=fun h => h.elim (fun h => c2 (h101.1 h)) (fun h => c3 (h69.1 h))
      simp only [c1,hg,c2,c3,hE,zab,sxZ,z6,z7,z8,j5,j6,j7,j8,j9,x3,x4,x5,x6,x7,x8,x9,reduceCtorEq,↓reduceIte,List.getElem?_set,hlen,t0,t6]
      and_intros <;> first | omega | exact iv (by omega) | rfl | assumption
   ·have hE:¬ (s[a + f]? = some 101 ∨ s[a + f]? = some 69):=fun h => h.elim (zbh (by omega)) (zbh (by omega))
    simp only [c1,hE,zab,sxZ,z6,z7,z8,j5,j6,j7,j8,j9,x3,x4,x5,x6,x7,x8,x9,reduceCtorEq,↓reduceIte,List.getElem?_set,hlen,t0,t6]
  rintro _ tm ⟨rfl,hlen,t0,t6,t70⟩
  subst hY2
  simp only [sxZ,z6,z7,z8,j5,j6,j7,j8,j9,x3,x4,x5,x6,x7,x8,x9,reduceCtorEq,↓reduceIte,List.getElem?_set,hlen,t70]
  refine kC_split (fun hE => ?_) (fun hE => ?_)
  ·have hE:=of_decide_eq_true hE
   have c1':a + f < s.length:=by
    rcases hE with h | h
    all_goals exact (List.getElem?_eq_some_iff.1 h).1
   refine zaa fun Y3 hY3 => ?_
   simp only [sxZ,z6,z7,z8,j5,j6,j7,j8,j9,x3,x4,x5,x6,x7,x8,x9,reduceCtorEq,↓reduceIte,List.getElem?_set,hlen,t0,t6]
   refine ⟨by omega,?_⟩
   subst hY3
   refine zaa fun Y3 hY3 => ?_
   refine zaP (fun o t => o=[] ∧ t.length=99 ∧ t[0]? = some (.s s) ∧ t[6]? = some (.i .i64 ((a + f:Nat):Int)) ∧ t[8]? = some (.i .i64 ((a + zaT (s.drop a) f:Nat):Int))) ?_ ?_
   ·rw [hx]
    by_cases d1:((a + f:Nat):Int) + 1 < s.length
    ·have d1':a + f + 1 < s.length:=by omega
     have hg:=zaz d1'
     have h43:s[a + f + 1]? = some 43 ↔ ((s[a + f + 1].toNat:Nat):Int)=43:=zej d1' 43 (by decide)
     have h45:s[a + f + 1]? = some 45 ↔ ((s[a + f + 1].toNat:Nat):Int)=45:=zej d1' 45 (by decide)
     have e1:(((a + f:Nat):Int) + 1).toNat=a + f + 1:=by omega
     by_cases c2:((s[a + f + 1].toNat:Nat):Int)=43
     ·rw [if_pos (.inl (h43.2 c2))]
      simp only [d1,e1,hg,c2,zab,sxZ,z6,z7,z8,j5,j6,j7,j8,j9,x3,x4,x5,x6,x7,x8,x9,reduceCtorEq,↓reduceIte,List.getElem?_set,hlen,t0,t6]
      and_intros <;> first | omega | exact iv (by omega) | rfl | assumption
     ·by_cases c3:((s[a + f + 1].toNat:Nat):Int)=45
      ·rw [if_pos (.inr (h45.2 c3))]
       simp only [d1,e1,hg,c2,c3,zab,sxZ,z6,z7,z8,j5,j6,j7,j8,j9,x3,x4,x5,x6,x7,x8,x9,reduceCtorEq,↓reduceIte,List.getElem?_set,hlen,t0,t6]
       and_intros <;> first | omega | exact iv (by omega) | rfl | assumption
      ·rw [if_neg (fun h => h.elim (fun h => c2 (h43.1 h)) (fun h => c3 (h45.1 h)))]
       simp only [d1,e1,hg,c2,c3,zab,sxZ,z6,z7,z8,j5,j6,j7,j8,j9,x3,x4,x5,x6,x7,x8,x9,reduceCtorEq,↓reduceIte,List.getElem?_set,hlen,t0,t6]
       and_intros <;> first | omega | exact iv (by omega) | rfl | assumption
    ·rw [if_neg (fun h => h.elim (zbh (by omega)) (zbh (by omega)))]
     simp only [d1,zab,sxZ,z6,z7,z8,j5,j6,j7,j8,j9,x3,x4,x5,x6,x7,x8,x9,reduceCtorEq,↓reduceIte,List.getElem?_set,hlen,t0,t6]
     and_intros <;> first | omega | exact iv (by omega) | rfl | assumption
   rintro _ tm ⟨rfl,hlen,t0,t6,t8⟩
   subst hY3
   have hxl:a + zaT (s.drop a) f ≤ s.length:=by
    rw [hx]
    split
    ·rename_i h
     rcases h with h | h
     all_goals
      have:=(List.getElem?_eq_some_iff.1 h).1
      omega
    ·omega
   generalize zaT (s.drop a) f=x at *
   simp only [sxZ,z6,z7,z8,j5,j6,j7,j8,j9,x3,x4,x5,x6,x7,x8,x9,reduceCtorEq,↓reduceIte,List.getElem?_set,hlen,t0,t6,t8]
   refine zak (zdx s _ hxl hs ?_)
   generalize zaM (s.drop (a + x))=r at *
   rw [he]
   by_cases c4:0 < r
   ·rw [if_pos ⟨hE,c4⟩]
    have c4':((a + x:Nat):Int) < ((a + x + r:Nat):Int):=by omega
    simp only [c4',zab,sxZ,z6,z7,z8,j5,j6,j7,j8,j9,x3,x4,x5,x6,x7,x8,x9,reduceCtorEq,↓reduceIte,List.getElem?_set,hlen,t0,t6,t8]
    and_intros <;> first | omega | exact iv (by omega) | rfl | assumption
   ·rw [if_neg (fun h => c4 h.2)]
    have c4':¬ ((a + x:Nat):Int) < ((a + x + r:Nat):Int):=by omega
    simp only [c4',zab,sxZ,z6,z7,z8,j5,j6,j7,j8,j9,x3,x4,x5,x6,x7,x8,x9,reduceCtorEq,↓reduceIte,List.getElem?_set,hlen,t0,t6,t8]
  ·have hE:=of_decide_eq_false hE
   rw [he,if_neg (fun h => hE h.1)]
   simp only [zab,sxZ,z6,z7,z8,j5,j6,j7,j8,j9,x3,x4,x5,x6,x7,x8,x9,reduceCtorEq,↓reduceIte,List.getElem?_set,hlen,t0,t6]
 rintro _ tm ⟨rfl,hlen,t6⟩
 subst hY1
 simp only [sxZ,z6,z7,z8,j5,j6,j7,j8,j9,x3,x4,x5,x6,x7,x8,x9,reduceCtorEq,↓reduceIte,List.getElem?_set,hlen,t6]
 exact hk
end
end Go.Proofs.YthmdohgkmdkeeaaGreatDoor
namespace Go.Proofs.YthmdohgkmdkeeaaGreatDoor
open Go.RowKit Sx
theorem zoF:∀ w,(zeroValue 120).run Tryz.prog w=.ok (.agg (Array.replicate 256 (.bool false))) w:=(zero_of_info (n:=256) (by kernel_rfl)).1
set_option maxHeartbeats 8000000 in
set_option maxRecDepth 1000000 in
theorem zhR (s chars:ByteArray) (w:World) (h8:8 < s.size) (hs:s.size ≤ 9000000000000000000) (h2:chars.size=2) (h0:chars.data.toList=[101,69]) :
  Calls Tryz.prog 100 #[.string s,.string chars] w fun e w' => e=.returned (.int .i64 (Lib.indexAny s.data.toList [101,69])) ∧ Qb w w':=by
 have hM:=Tryz.strings_makeASCIISet zoF chars w (by omega) (fun j b hb => by
  have:∀ c ∈ chars.data.toList,c.toNat < 128:=by rw [h0]; decide
  exact this _ (List.mem_of_getElem? hb))
 rw [h0] at hM
 have hemp:chars.toList.isEmpty=false:=by rw [Lib.toList_data,h0]; rfl
 clear h0
 have hn1:((chars.size:Int) == 1)=false:=beq_eq_false_iff_ne.2 (by omega)
 have h8z:decide ((8:Int) < (s.size:Int))=true:=decide_eq_true (by omega)
 have hsc:(storeCells ⟨w.heap.size + 1,0,none⟩ (Lib.setCells [101,69]).toList 0).run Tryz.prog ((w.alloc (.cells (Lib.setCells [101,69]) 120)).alloc (.cells (Array.replicate 256 (.bool false)) 120))=.ok () ((w.alloc (.cells (Lib.setCells [101,69]) 120)).alloc (.cells (Lib.setCells [101,69]) 120)):=by
  have:=run_storeCells_new (P:=Tryz.prog) (w.alloc (.cells (Lib.setCells [101,69]) 120)) 120 (Array.replicate 256 (.bool false)) (Lib.setCells [101,69]) (by rw [Lib.setCells_size]; kernel_rfl) (by rw [Lib.setCells_size,Array.size_replicate]) (Lib.setCells_one _)
  simpa using this
 have hsz:=Lib.setCells_size [101,69]
 have HC:Hid (∀ x:UInt8,((w.alloc (.cells (Lib.setCells [101,69]) 120)).alloc (.cells (Lib.setCells [101,69]) 120)).cell? ⟨w.heap.size + 1,x.toNat,none⟩=some (.bool (([101,69]:List UInt8).contains x))):=Lib.hid (fun x => by
  rw [World.cell?_alloc_at _ _ _ _ (by simp),Lib.setCells_at])
 go_enter Tryz.func100,Tryz.ntmps100
 go_wp2_with fail
 refine (Tryz.strings_shouldUseASCIISet _ _).mono ?_
 rintro e w1 ⟨rfl,rfl⟩
 rw [h8z]
 go_wp2_with fail
 refine hM.mono ?_
 rintro e w2 ⟨rfl,rfl⟩
 go_wp2_with fail
 have hz:Tryz.zeroCells120=Array.replicate 256 (.bool false):=by kernel_rfl
 rw [hz,hsc]
 simp only [Result.andThen]
 rw [Oper.upon_skip]
 clear hM hsc hz
 go_wp2_with fail
 go_loopg [8] s.size (fun g s8 wx => ∃ i:Nat,i + g=s.size ∧ s8=.int .i64 i ∧ wx=((w1.alloc (.cells (Lib.setCells [101,69]) 120)).alloc (.cells (Lib.setCells [101,69]) 120)) ∧ Hid (Lib.NoAny s.data.toList [101,69] i))
 case atStart => exact ⟨0,by omega,rfl,rfl,Lib.hid (Lib.NoAny.zero _ _)⟩
 case round =>
  obtain ⟨i,hig,rfl,rfl,HN⟩:=hrel
  have hq:Qb w1 ((w1.alloc (.cells (Lib.setCells [101,69]) 120)).alloc (.cells (Lib.setCells [101,69]) 120)):=((Qb.refl _).alloc _).alloc _
  cases gk with
  | zero =>
   obtain rfl:i=s.size:=by omega
   have hiz:¬ ((s.size:Int) < (s.size:Int)):=by omega
   go_wp2_with fail
   go_ret
   exact ⟨by rw [Lib.indexAny_none (by rw [← Lib.size_eq]; exact HN.out)]; rfl,hq⟩
  | succ g =>
   have hi:i < s.size:=by omega
   have hiz:(i:Int) < (s.size:Int):=by omega
   obtain ⟨x,hx⟩:∃ x:UInt8,s[i]'hi=x:=⟨_,rfl⟩
   have Hx:Hid (s.data.toList[i]? = some x):=Lib.hid (by rw [← hx]; exact Lib.data_getElem? s i hi)
   have hcx:=HC.out x
   cases hin:([101,69]:List UInt8).contains x <;> rw [hin] at hcx
   ·go_wp2_with fail
    refine (Tryz.asciiSet_contains _ x _ _ hcx).mono ?_
    rintro e w' ⟨rfl,hw⟩
    rw [hw]
    go_wp2_with fail
    go_roundg g
    case measure => omega
    case rel => exact ⟨i + 1,by omega,by first | rfl | simp,rfl,Lib.hid (HN.out.succ Hx.out hin)⟩
   ·go_wp2_with fail
    refine (Tryz.asciiSet_contains _ x _ _ hcx).mono ?_
    rintro e w' ⟨rfl,hw⟩
    rw [hw]
    go_wp2_with fail
    go_ret
    exact ⟨by rw [Lib.indexAny_hit HN.out Hx.out hin]; rfl,hq⟩
theorem zkN [Tabs Tryz.prog] {objs:List OB} {K:List OB → AV → Prop} (s:List UInt8) (hs:s.length ≤ 9000000000000000000) (ha:∀ c ∈ s,c.toNat < 128) (hk:K objs (.i .i64 (Lib.indexAny s [101,69]))):zad Tryz.prog 100 [.s s,.s [101,69]] objs K :=
 conv (vs:=[.string (S s),.string (S [101,69])]) rfl rfl (fun w => by
  by_cases h8:8 < s.length
  ·exact zhR (S s) (S [101,69]) w (by rw [zci]; exact h8) (by rw [zci]; exact hs) (by decide) rfl
  ·refine (Tryz.strings_IndexAny_laid (S s) (S [101,69]) w (by rw [zci]; omega) (by decide) (fun j b hb => ha b (List.mem_of_getElem? hb)) (fun j b hb => ?_)).mono fun e w' ⟨h1,h2⟩ => ⟨h1,h2⟩
   have:∀ c ∈ (S [101,69]).data.toList,c.toNat < 128:=by decide
   exact this _ (List.mem_of_getElem? hb)) hk
end Go.Proofs.YthmdohgkmdkeeaaGreatDoor
namespace Go.Proofs.YthmdohgkmdkeeaaGreatDoor
open Nat renaming reduceAdd → z6, reduceSub → z7, reduceLeDiff → z8, reduceLT → j5, reduceMul → j6, reduceEqDiff → j7
open Int renaming reduceToNat → j8, reduceAdd → j9, reduceSub → x3, reduceMul → x4, reduceNeg → x5, reduceLT → x6, reduceLE → x7, reduceEq → x8, reduceNe → x9
open Go.RowKit Sx
theorem zfW (cs v:List UInt8):∀ u:List UInt8,(∀ c ∈ u,cs.contains c=false) → Lib.indexAny (u ++ v) cs=if Lib.indexAny v cs=-1 then -1 else u.length + Lib.indexAny v cs
 | [],_ => by
  rw [List.nil_append]
  split
  ·rename_i h; exact h
  ·simp
 | c :: u,h => by
  rw [List.cons_append,Lib.indexAny,if_neg (by rw [h c (by simp)]; simp),zfW cs v u (fun x hx => h x (by simp [hx]))]
  by_cases hv:Lib.indexAny v cs=-1
  ·rw [if_pos hv,if_pos hv]; rfl
  ·have:=Lib.indexAny_ge cs v
   rw [if_neg hv,if_neg hv,if_neg (by rw [beq_iff_eq]; omega),List.length_cons]
   omega
theorem zbF {c:UInt8} (h:zai c=true):c.toNat < 128 ∧ ([101,69]:List UInt8).contains c=false ∧ c ≠ 46:=by
 have:=zgM h
 refine ⟨by omega,?_,?_⟩
 ·have h1:c ≠ 101:=fun e => by subst e; exact absurd this (by decide)
  have h2:c ≠ 69:=fun e => by subst e; exact absurd this (by decide)
  simp [h1,h2]
 ·rintro rfl; exact absurd this (by decide)
def NumS.body (p:NumS):List UInt8:=p.int ++ (frT p.fr ++ exT p.ex)
theorem ziV {f:List UInt8} (hf:f.all zai=true):∀ c ∈ frT f,c.toNat < 128 ∧ ([101,69]:List UInt8).contains c=false:=by
 intro c hc
 cases f with
 | nil => cases hc
 | cons a t =>
  have hc:c=46 ∨ c ∈ a :: t:=by simpa [frT] using hc
  rcases hc with rfl | hc
  ·exact ⟨by decide,by decide⟩
  ·have:=zbF (List.all_eq_true.1 hf c hc)
   exact ⟨this.1,this.2.1⟩
theorem zle {p:NumS} (hp:p.Good):∀ c ∈ p.body,c.toNat < 128:=by
 intro c hc
 unfold NumS.body at hc
 rcases List.mem_append.1 hc with h | h
 ·exact (zbF (List.all_eq_true.1 hp.i1 c h)).1
 rcases List.mem_append.1 h with h | h
 ·exact (ziV hp.f1 c h).1
 cases he:p.ex with
 | none => rw [he] at h; cases h
 | some e =>
  obtain ⟨k,s,d⟩:=e
  obtain ⟨h1,h2,h3,h4⟩:=hp.e1 k s d he
  rw [he] at h
  have h:c=k ∨ c ∈ s ∨ c ∈ d:=by simpa [exT] using h
  rcases h with rfl | h | h
  ·rcases h1 with rfl | rfl <;> decide
  ·rcases h2 with rfl | rfl | rfl
   ·cases h
   ·simp only [List.mem_singleton] at h; subst h; decide
   ·simp only [List.mem_singleton] at h; subst h; decide
  ·exact (zbF (List.all_eq_true.1 h4 c h)).1
theorem body_idx {p:NumS} (hp:p.Good):Lib.indexAny p.body [101,69]=match p.ex with | none => -1 | some _ => ((p.int ++ frT p.fr).length:Int):=by
 have hno:∀ c ∈ p.int ++ frT p.fr,([101,69]:List UInt8).contains c=false:=by
  intro c hc
  rcases List.mem_append.1 hc with h | h
  ·exact (zbF (List.all_eq_true.1 hp.i1 c h)).2.1
  ·exact (ziV hp.f1 c h).2
 unfold NumS.body
 rw [← List.append_assoc,zfW _ _ _ hno]
 cases he:p.ex with
 | none => rw [if_pos (by rfl)]
 | some e =>
  obtain ⟨k,s,d⟩:=e
  obtain ⟨h1,_,_,_⟩:=hp.e1 k s d he
  have h0:Lib.indexAny (exT (some (k,s,d))) [101,69]=0:=by
   unfold exT
   rw [Lib.indexAny,if_pos]
   rcases h1 with rfl | rfl <;> decide
  rw [h0,if_neg (by decide)]
  simp
theorem za3 (c x:UInt8) (t:List UInt8):Lib.trimPrefix (x :: t) [c]=(if x=c then t else x :: t) ∧ Lib.hasPrefix (x :: t) [c]=decide (x=c):=by
 have h:Lib.hasPrefix (x :: t) [c]=decide (x=c):=by
  rw [pre_take]
  by_cases h:x=c
  ·subst h; simp
  ·rw [decide_eq_false h]; simp [h]
 refine ⟨?_,h⟩
 unfold Lib.trimPrefix
 rw [h]
 by_cases hx:x=c
 ·subst hx; simp
 ·simp [hx]
theorem zlV {p:NumS} (hp:p.Good) {k:UInt8} {s d:List UInt8} (he:p.ex=some (k,s,d)):Lib.trimPrefix (Lib.trimPrefix (s ++ d) [45]) [43]=d ∧ Lib.hasPrefix (s ++ d) [45]=decide (s=[45]):=by
 obtain ⟨_,h2,h3,h4⟩:=hp.e1 k s d he
 obtain ⟨c,t,e1,e2⟩:=zbD h3 h4
 have n45:c ≠ 45:=zbf e2 rfl
 have n43:c ≠ 43:=zbf e2 rfl
 rcases h2 with rfl | rfl | rfl
 ·rw [List.nil_append,e1,(za3 45 c t).1,if_neg n45,(za3 43 c t).1,if_neg n43,(za3 45 c t).2]
  exact ⟨rfl,by simp [n45]⟩
 ·rw [show [43] ++ d=43 :: d from rfl,(za3 45 43 d).1,if_neg (by decide),(za3 43 43 d).1,if_pos rfl,(za3 45 43 d).2]
  exact ⟨rfl,by decide⟩
 ·rw [show [45] ++ d=45 :: d from rfl,(za3 45 45 d).1,if_pos rfl,(za3 45 45 d).2,e1,(za3 43 c t).1,if_neg n43]
  exact ⟨rfl,by decide⟩
theorem zh4 {p:NumS} (hp:p.Good):zfC 46 (p.int ++ frT p.fr)=(p.int,p.fr,!p.fr.isEmpty):=by
 have key:∀ (u v:List UInt8),(∀ c ∈ u,c ≠ 46) → zfC 46 (u ++ v)=(u ++ (zfC 46 v).1,(zfC 46 v).2.1,(zfC 46 v).2.2):=by
  intro u v
  induction u with
  | nil => intro _; rfl
  | cons c u ih =>
   intro h
   rw [List.cons_append,zft,if_neg (h c (by simp)),ih (fun x hx => h x (by simp [hx]))]
   rfl
 rw [key _ _ (fun c hc => (zbF (List.all_eq_true.1 hp.i1 c hc)).2.2)]
 cases hf:p.fr with
 | nil => simp [frT,zfC]
 | cons a t => simp [frT,zft]
section
variable [Tabs Tryz.prog] {objs:List OB} {K:List OB → AV → Prop}
theorem zgR (p:NumS) (hp:p.Good) (hs:p.body.length ≤ 140737488351232) (hk:K objs (.tup [.s (p.int ++ frT p.fr),.i .i64 (zew 1099511627776 p.ex)])):zad Tryz.prog 85 [.s p.body] objs K:=by
 refine za8 is_token_cutExponent rfl fun C _ => ?_
 simp only [c_token_cutExponent,sxZ,z6,z7,z8,j5,j6,j7,j8,j9,x3,x4,x5,x6,x7,x8,x9,reduceCtorEq,↓reduceIte]
 refine zak (zkN _ (by omega) (zle hp) ?_)
 have hi:=body_idx hp
 cases he:p.ex with
 | none =>
  rw [he] at hi hk
  rw [hi]
  simp only [sxZ,z6,z7,z8,j5,j6,j7,j8,j9,x3,x4,x5,x6,x7,x8,x9,reduceCtorEq,↓reduceIte]
  have:p.body=p.int ++ frT p.fr:=by unfold NumS.body; rw [he]; simp [exT]
  rw [this]
  exact hk
 | some e =>
  obtain ⟨k,s,d⟩:=e
  rw [he] at hi hk
  simp only at hi
  rw [hi]
  obtain ⟨g1,g2,g3,g4⟩:=hp.e1 k s d he
  have hb:p.body=(p.int ++ frT p.fr) ++ k :: (s ++ d):=by unfold NumS.body; rw [he]; simp [exT]
  have hst:=zlV hp he
  rw [hb] at hs ⊢
  generalize p.int ++ frT p.fr=u at *
  have n0:¬ ((u.length:Nat):Int) < 0:=by omega
  have e1:(((u.length:Nat):Int) + 1).toNat=u.length + 1:=by omega
  have e2:(u ++ k :: (s ++ d)).drop (u.length + 1)=s ++ d:=by rw [← List.drop_drop,List.drop_left]; rfl
  have e3:(u ++ k :: (s ++ d)).take u.length=u:=List.take_left
  have e4:(u ++ k :: (s ++ d)).length=u.length + (s.length + d.length + 1):=by simp
  generalize u ++ k :: (s ++ d)=W at *
  simp only [n0,e1,e2,sxZ,z6,z7,z8,j5,j6,j7,j8,j9,x3,x4,x5,x6,x7,x8,x9,reduceCtorEq,↓reduceIte]
  (and_intros <;> try omega)
  refine zak (zeo _ _ ?_)
  simp only [sxZ,z6,z7,z8,j5,j6,j7,j8,j9,x3,x4,x5,x6,x7,x8,x9,reduceCtorEq,↓reduceIte]
  refine zak (zgl _ _ ?_)
  simp only [hst.1,hst.2,sxZ,z6,z7,z8,j5,j6,j7,j8,j9,x3,x4,x5,x6,x7,x8,x9,reduceCtorEq,↓reduceIte]
  refine zak (nParse_k d 1099511627776 (by rw [zbC]; omega) (by decide) ?_)
  have hnum:=zk3 1099511627776 g3 g4
  simp only [zew] at hk
  by_cases c1:zh3 d 0 ≤ 1099511627776
  ·have hw:IntKind.i64.wrap ((zh3 d 0:Nat):Int)=zh3 d 0:=by rw [IntKind.wrap_i64]; omega
   rw [Nat.min_eq_left c1] at hk
   rw [if_pos c1] at hnum
   by_cases c2:s=[45]
   ·rw [if_pos c2] at hk
    simp only [hnum,hw,c2,e3,sxZ,z6,z7,z8,j5,j6,j7,j8,j9,x3,x4,x5,x6,x7,x8,x9,reduceCtorEq,↓reduceIte]
    refine ⟨by omega,by omega,?_⟩
    rw [Int.zero_sub]
    exact hk
   ·rw [if_neg c2] at hk
    simp only [hnum,hw,c2,e3,sxZ,z6,z7,z8,j5,j6,j7,j8,j9,x3,x4,x5,x6,x7,x8,x9,reduceCtorEq,↓reduceIte]
    exact ⟨by omega,hk⟩
  ·rw [Nat.min_eq_right (by omega)] at hk
   rw [if_neg c1] at hnum
   by_cases c2:s=[45]
   ·rw [if_pos c2] at hk
    simp only [hnum,c2,e3,sxZ,z6,z7,z8,j5,j6,j7,j8,j9,x3,x4,x5,x6,x7,x8,x9,reduceCtorEq,↓reduceIte]
    refine ⟨by omega,?_⟩
    exact hk
   ·rw [if_neg c2] at hk
    simp only [hnum,c2,e3,sxZ,z6,z7,z8,j5,j6,j7,j8,j9,x3,x4,x5,x6,x7,x8,x9,reduceCtorEq,↓reduceIte]
    exact ⟨by omega,hk⟩
set_option maxHeartbeats 4000000 in
theorem number_k [Pow Tryz.prog] (s:List UInt8) (hs:s.length ≤ 140737488351232) (h1:(s=[] ∨ zcC s ≠ s.length) → K objs (.tup [.s [],.i .i64 130]))
  (h2:∀ p:NumS,p.Good → s=p.txt → K objs (.tup [.s (zow 1099511627776 p).2,.i .i64 (zow 1099511627776 p).1])):zad Tryz.prog 61 [.s s] objs K:=by
 refine za8 is_token_Number rfl fun C _ => ?_
 have hmx:=zbC
 by_cases c0:s=[]
 ·have h1:=h1 (.inl c0)
  simp only [c0,c_token_Number,sxZ,z6,z7,z8,j5,j6,j7,j8,j9,x3,x4,x5,x6,x7,x8,x9,reduceCtorEq,↓reduceIte]
  exact h1
 rw [c_token_Number]
 refine zaa fun Y1 hY1 => ?_
 simp only [sxZ,z6,z7,z8,j5,j6,j7,j8,j9,x3,x4,x5,x6,x7,x8,x9,reduceCtorEq,↓reduceIte]
 subst hY1
 refine zaa fun Y1 hY1 => ?_
 simp only [c0,sxZ,z6,z7,z8,j5,j6,j7,j8,j9,x3,x4,x5,x6,x7,x8,x9,reduceCtorEq,↓reduceIte]
 refine zak (zdu s 0 (Nat.zero_le _) (by omega) ?_)
 rw [List.drop_zero,Nat.zero_add]
 by_cases c1:zcC s=s.length
 case neg =>
  have c1':¬ ((zcC s:Nat):Int)=s.length:=by omega
  simp only [c1',sxZ,z6,z7,z8,j5,j6,j7,j8,j9,x3,x4,x5,x6,x7,x8,x9,reduceCtorEq,↓reduceIte]
  exact h1 (.inr c1)
 clear h1
 obtain ⟨p,hp,rfl⟩:=zhG c0 c1
 have h2:=h2 p hp rfl
 simp only [c1,sxZ,z6,z7,z8,j5,j6,j7,j8,j9,x3,x4,x5,x6,x7,x8,x9,reduceCtorEq,↓reduceIte]
 subst hY1
 refine zaa fun Y1 hY1 => ?_
 simp only [sxZ,z6,z7,z8,j5,j6,j7,j8,j9,x3,x4,x5,x6,x7,x8,x9,reduceCtorEq,↓reduceIte]
 refine zak (zeo _ _ ?_)
 have hcp:Lib.trimPrefix p.txt [45]=p.body ∧ Lib.hasPrefix p.txt [45]=p.neg:=by
  obtain ⟨c,t,e1,e2⟩:=zbD hp.i0 hp.i1
  have n45:c ≠ 45:=zbf e2 rfl
  unfold NumS.txt NumS.body
  cases p.neg with
  | true =>
   have:=za3 45 45 (p.int ++ (frT p.fr ++ exT p.ex))
   rw [if_pos rfl] at this
   exact ⟨this.1,this.2⟩
  | false =>
   have:=za3 45 c (t ++ (frT p.fr ++ exT p.ex))
   rw [if_neg n45,decide_eq_false n45] at this
   rw [e1]
   exact this
 have hbl:p.body.length ≤ p.txt.length:=by unfold NumS.txt NumS.body; simp
 simp only [hcp.1,hcp.2,sxZ,z6,z7,z8,j5,j6,j7,j8,j9,x3,x4,x5,x6,x7,x8,x9,reduceCtorEq,↓reduceIte]
 subst hY1
 refine zaa fun Y1 hY1 => ?_
 simp only [sxZ,z6,z7,z8,j5,j6,j7,j8,j9,x3,x4,x5,x6,x7,x8,x9,reduceCtorEq,↓reduceIte]
 refine zak (zgR p hp (by omega) ?_)
 simp only [sxZ,z6,z7,z8,j5,j6,j7,j8,j9,x3,x4,x5,x6,x7,x8,x9,reduceCtorEq,↓reduceIte]
 subst hY1
 refine zaa fun Y1 hY1 => ?_
 simp only [sxZ,z6,z7,z8,j5,j6,j7,j8,j9,x3,x4,x5,x6,x7,x8,x9,reduceCtorEq,↓reduceIte]
 have hml:(p.int ++ frT p.fr).length ≤ p.txt.length:=by unfold NumS.txt; simp; omega
 refine zak (sCut_k _ 46 (by omega) ?_)
 rw [zh4 hp]
 simp only [sxZ,z6,z7,z8,j5,j6,j7,j8,j9,x3,x4,x5,x6,x7,x8,x9,reduceCtorEq,↓reduceIte]
 subst hY1
 refine zaa fun Y1 hY1 => ?_
 simp only [sxZ,z6,z7,z8,j5,j6,j7,j8,j9,x3,x4,x5,x6,x7,x8,x9,reduceCtorEq,↓reduceIte]
 have htl:=zip p
 refine ⟨by omega,?_⟩
 refine zak (ziw _ 48 (by decide) ?_)
 have hzl:Lib.trimLeftB (p.int ++ p.fr) 48=zck p:=rfl
 have hml2:=zgz p
 have hzr:=zlm (zck p)
 have hei:=znV 1099511627776 p.ex
 rw [hzl]
 unfold zow at h2
 unfold expX at h2
 simp only [sxZ,z6,z7,z8,j5,j6,j7,j8,j9,x3,x4,x5,x6,x7,x8,x9,reduceCtorEq,↓reduceIte]
 subst hY1
 refine zaa fun Y1 hY1 => ?_
 by_cases c2:zck p=[]
 ·rw [if_pos c2] at h2
  simp only [c2,sxZ,z6,z7,z8,j5,j6,j7,j8,j9,x3,x4,x5,x6,x7,x8,x9,reduceCtorEq,↓reduceIte]
  exact h2
 rw [if_neg c2] at h2
 generalize zew 1099511627776 p.ex=E at *
 simp only [c2,sxZ,z6,z7,z8,j5,j6,j7,j8,j9,x3,x4,x5,x6,x7,x8,x9,reduceCtorEq,↓reduceIte]
 subst hY1
 refine zaa fun Y1 hY1 => ?_
 simp only [sxZ,z6,z7,z8,j5,j6,j7,j8,j9,x3,x4,x5,x6,x7,x8,x9,reduceCtorEq,↓reduceIte]
 refine zak (zhj _ 48 (by decide) (by omega) ?_)
 have hzr2:Lib.trimRightB (zck p) 48=zR (zck p):=rfl
 rw [hzr2]
 simp only [sxZ,z6,z7,z8,j5,j6,j7,j8,j9,x3,x4,x5,x6,x7,x8,x9,reduceCtorEq,↓reduceIte]
 subst hY1
 refine zaa fun Y1 hY1 => ?_
 simp only [sxZ,z6,z7,z8,j5,j6,j7,j8,j9,x3,x4,x5,x6,x7,x8,x9,reduceCtorEq,↓reduceIte]
 (and_intros <;> try omega)
 subst hY1
 refine zaa fun Y1 hY1 => ?_
 generalize E - (p.fr.length:Int) + (((zck p).length:Int) - ((zR (zck p)).length:Int))=x at *
 generalize zR (zck p)=m at *
 by_cases d1:(40:Int) < m.length
 ·rw [if_pos (.inl (by omega))] at h2
  simp only [d1,sxZ,z6,z7,z8,j5,j6,j7,j8,j9,x3,x4,x5,x6,x7,x8,x9,reduceCtorEq,↓reduceIte]
  exact h2
 by_cases d2:x < -400
 ·rw [if_pos (.inr (.inl d2))] at h2
  simp only [d1,d2,sxZ,z6,z7,z8,j5,j6,j7,j8,j9,x3,x4,x5,x6,x7,x8,x9,reduceCtorEq,↓reduceIte]
  exact h2
 by_cases d3:400 < x
 ·rw [if_pos (.inr (.inr d3))] at h2
  simp only [d1,d2,d3,sxZ,z6,z7,z8,j5,j6,j7,j8,j9,x3,x4,x5,x6,x7,x8,x9,reduceCtorEq,↓reduceIte]
  exact h2
 rw [if_neg (by omega)] at h2
 simp only [d1,d2,d3,sxZ,z6,z7,z8,j5,j6,j7,j8,j9,x3,x4,x5,x6,x7,x8,x9,reduceCtorEq,↓reduceIte]
 subst hY1
 refine zaa fun Y1 hY1 => ?_
 have hit:=Lib.itoa_length_le x (by omega) (by omega)
 unfold expS sgT at h2
 cases hn:p.neg with
 | true =>
  rw [hn] at h2
  simp only [sxZ,z6,z7,z8,j5,j6,j7,j8,j9,x3,x4,x5,x6,x7,x8,x9,reduceCtorEq,↓reduceIte]
  (and_intros <;> try omega)
  subst hY1
  by_cases d4:x=0
  ·subst d4
   simp only [sxZ,z6,z7,z8,j5,j6,j7,j8,j9,x3,x4,x5,x6,x7,x8,x9,reduceCtorEq,↓reduceIte]
   simpa using h2
  ·rw [if_neg d4] at h2
   simp only [d4,sxZ,z6,z7,z8,j5,j6,j7,j8,j9,x3,x4,x5,x6,x7,x8,x9,reduceCtorEq,↓reduceIte]
   refine zak (zfk x (by omega) (by omega) ?_)
   simp only [sxZ,z6,z7,z8,j5,j6,j7,j8,j9,x3,x4,x5,x6,x7,x8,x9,reduceCtorEq,↓reduceIte]
   (and_intros <;> try omega)
   simpa using h2
 | false =>
  rw [hn] at h2
  simp only [sxZ,z6,z7,z8,j5,j6,j7,j8,j9,x3,x4,x5,x6,x7,x8,x9,reduceCtorEq,↓reduceIte]
  subst hY1
  by_cases d4:x=0
  ·subst d4
   simp only [sxZ,z6,z7,z8,j5,j6,j7,j8,j9,x3,x4,x5,x6,x7,x8,x9,reduceCtorEq,↓reduceIte]
   simpa using h2
  ·rw [if_neg d4] at h2
   simp only [d4,sxZ,z6,z7,z8,j5,j6,j7,j8,j9,x3,x4,x5,x6,x7,x8,x9,reduceCtorEq,↓reduceIte]
   refine zak (zfk x (by omega) (by omega) ?_)
   simp only [sxZ,z6,z7,z8,j5,j6,j7,j8,j9,x3,x4,x5,x6,x7,x8,x9,reduceCtorEq,↓reduceIte]
   (and_intros <;> try omega)
   simpa using h2
end
end Go.Proofs.YthmdohgkmdkeeaaGreatDoor
namespace Go.Proofs.YthmdohgkmdkeeaaGreatDoor
open Go.RowKit
theorem zmA {c:UInt8} (h:128 ≤ c.toNat):zbK c=[c]:=by
 have n:∀ k:UInt8,k.toNat < 128 → c ≠ k:=fun k hk e => by subst e; omega
 unfold zbK
 rw [if_neg (by rintro (e | e); exact n 34 (by decide) e; exact n 92 (by decide) e),if_neg (n 8 (by decide)),if_neg (n 12 (by decide)),if_neg (n 10 (by decide)),if_neg (n 13 (by decide)),if_neg (n 9 (by decide)),if_neg (by omega)]
theorem zol {c:UInt8} {t:List UInt8} {r n:Nat} (h:zbw (c :: t)=some (r,n)) (hc:128 ≤ c.toNat):∀ x ∈ (c :: t).take n,128 ≤ x.toNat:=by
 have hb:∀ k,(u8b (128 + k % 64)).toNat=128 + k % 64:=fun k => zay (by omega)
 obtain ⟨h1,h2,h3,_⟩:=zaY h
 have hr:(r:Int) ≤ 1114111:=(of_decide_eq_true h1).2.1
 rw [← h2]
 have h0:¬ r < 128:=by
  intro hlt
  have:(zdC r).head? = some c:=by rw [h2]; cases n with | zero => omega | succ n => rfl
  unfold zdC at this
  rw [if_pos hlt] at this
  simp only [List.head?_cons,Option.some.injEq] at this
  rw [← this,zay (by omega)] at hc
  omega
 unfold zdC
 rw [if_neg h0]
 intro x hx
 split at hx
 ·simp only [List.mem_cons,List.not_mem_nil,or_false] at hx
  rcases hx with rfl | rfl
  ·rw [zay (by omega)]; omega
  ·rw [hb]; omega
 split at hx
 ·simp only [List.mem_cons,List.not_mem_nil,or_false] at hx
  rcases hx with rfl | rfl | rfl
  ·rw [zay (by omega)]; omega
  ·rw [hb]; omega
  ·rw [hb]; omega
 ·simp only [List.mem_cons,List.not_mem_nil,or_false] at hx
  rcases hx with rfl | rfl | rfl | rfl
  ·rw [zay (by omega)]; omega
  ·rw [hb]; omega
  ·rw [hb]; omega
  ·rw [hb]; omega
theorem zjD:∀ l:List UInt8,(∀ x ∈ l,128 ≤ x.toNat) → l.flatMap zbK=l
 | [],_ => rfl
 | c :: t,h => by
  rw [List.flatMap_cons,zmA (h c (by simp)),zjD t (fun x hx => h x (by simp [hx]))]; rfl
theorem quo_step (n:Nat) {c:UInt8} (hc:c.toNat < 128) (r out:List UInt8) (k:Nat):zbY (n + 1) (zbK c ++ r) out k=zbY n r (out ++ [c]) (k + (zbK c).length):=by
 have key:∀ m:Fin 128,zbK (UInt8.ofNat m.val)=[UInt8.ofNat m.val] ∧ UInt8.ofNat m.val ≠ 34 ∧ UInt8.ofNat m.val ≠ 92 ∧ 32 ≤ (UInt8.ofNat m.val).toNat ∨
   (∃ d,zbK (UInt8.ofNat m.val)=[92,d] ∧ zcN d=some (UInt8.ofNat m.val)) ∨
   (zbK (UInt8.ofNat m.val)=[92,117,48,48,zdB (m.val / 16),zdB (m.val % 16)] ∧ zbx zbe 16 65535 [48,48,zdB (m.val / 16),zdB (m.val % 16)]=(0,m.val) ∧ zdC m.val=[UInt8.ofNat m.val] ∧ m.val < 32):=by
  intro m
  by_cases h:zbK (UInt8.ofNat m.val)=[UInt8.ofNat m.val]
  ·refine .inl ⟨h,?_⟩
   revert h; revert m; decide +kernel
  ·by_cases h2:m.val=34 ∨ m.val=92 ∨ m.val=8 ∨ m.val=12 ∨ m.val=10 ∨ m.val=13 ∨ m.val=9
   ·refine .inr (.inl ?_)
    obtain ⟨v,hv⟩:=m
    simp only at h2 ⊢
    rcases h2 with rfl | rfl | rfl | rfl | rfl | rfl | rfl
    ·exact ⟨34,by decide,by decide⟩
    ·exact ⟨92,by decide,by decide⟩
    ·exact ⟨98,by decide,by decide⟩
    ·exact ⟨102,by decide,by decide⟩
    ·exact ⟨110,by decide,by decide⟩
    ·exact ⟨114,by decide,by decide⟩
    ·exact ⟨116,by decide,by decide⟩
   ·refine .inr (.inr ?_)
    revert h h2; revert m; decide +kernel
 have hk:=key ⟨c.toNat,hc⟩
 simp only [UInt8.ofNat_toNat] at hk
 rcases hk with ⟨h1,h2,h3,h4⟩ | ⟨d,h1,h2⟩ | ⟨h1,h2,h3,h4⟩
 ·rw [h1]
  show zbY (n + 1) (c :: r) out k=_
  have hd:zbw (c :: r)=some (c.toNat,1):=by rw [zbw,if_pos hc]
  rw [zbY,if_neg h2,if_neg h3,if_neg (by omega),hd]
  rfl
 ·rw [h1]
  show zbY (n + 1) (92 :: d :: r) out k=_
  have he:zc3 (92 :: d :: r)=(0,[c],2):=by
   unfold zc3
   simp only [List.getElem?_cons_succ,List.getElem?_cons_zero,Option.bind_some,h2]
  rw [zbY,if_neg (by decide),if_pos rfl,he]
  rfl
 ·rw [h1]
  show zbY (n + 1) (92 :: 117 :: 48 :: 48 :: zdB (c.toNat / 16) :: zdB (c.toNat % 16) :: r) out k=_
  have hu:zbP (92 :: 117 :: 48 :: 48 :: zdB (c.toNat / 16) :: zdB (c.toNat % 16) :: r)=some c.toNat:=by
   unfold zbP
   rw [if_neg (by simp)]
   show (if (zbx zbe 16 65535 [48,48,zdB (c.toNat / 16),zdB (c.toNat % 16)]).1=0 then some (zbx zbe 16 65535 [48,48,zdB (c.toNat / 16),zdB (c.toNat % 16)]).2 else none)=_
   rw [h2,if_pos rfl]
  have he:zc3 (92 :: 117 :: 48 :: 48 :: zdB (c.toNat / 16) :: zdB (c.toNat % 16) :: r)=(0,[c],6):=by
   unfold zc3
   have hs:zcN 117=none:=by decide
   simp only [List.getElem?_cons_succ,List.getElem?_cons_zero,Option.bind_some,hs,hu]
   rw [if_pos (by omega),h3]
  rw [zbY,if_neg (by decide),if_pos rfl,he]
  rfl
theorem quo_len (c:UInt8):1 ≤ (zbK c).length:=by
 unfold zbK
 repeat' split
 all_goals simp
theorem quo_back (r:List UInt8):∀ (m:Nat) (l out:List UInt8) (n k:Nat),l.length ≤ m → 0 ≤ zlc l → l.length < n → zbY n (l.flatMap zbK ++ 34 :: r) out k=(0,out ++ l,k + (l.flatMap zbK).length + 1):=by
 intro m
 induction m with
 | zero =>
  intro l out n k hl _ hn
  have e:l=[]:=List.length_eq_zero_iff.1 (by omega)
  subst e
  cases n with
  | zero => omega
  | succ n => show zbY (n + 1) (34 :: r) out k=_; rw [zbY,if_pos rfl]; simp
 | succ m ih =>
  intro l out n k hl hv hn
  cases l with
  | nil =>
   cases n with
   | zero => omega
   | succ n => show zbY (n + 1) (34 :: r) out k=_; rw [zbY,if_pos rfl]; simp
  | cons c t =>
   cases n with
   | zero => omega
   | succ n =>
    simp only [List.length_cons] at hl hn
    cases hd:zbw (c :: t) with
    | none => rw [zh6 (by simp) hd] at hv; omega
    | some p =>
     obtain ⟨u,j⟩:=p
     rw [zh5 hd] at hv
     obtain ⟨g1,g2,g3,g4,g5⟩:=zaY hd
     have hv2:0 ≤ zlc ((c :: t).drop j):=by
      have:=zot ((c :: t).drop j)
      unfold addC at hv
      split at hv
      ·omega
      ·omega
     by_cases hc:c.toNat < 128
     ·have hj:j=1:=by rw [zbw,if_pos hc] at hd; injection hd with hd; injection hd with _ hd; exact hd.symm
      subst hj
      rw [List.flatMap_cons,List.append_assoc,quo_step n hc,ih t _ n _ (by omega) hv2 (by omega)]
      simp only [List.append_assoc,List.cons_append,List.nil_append,List.length_append,Prod.mk.injEq,true_and]
      omega
     ·have hh:=zol hd (by omega)
      have hsp:(c :: t).flatMap zbK=(c :: t).take j ++ ((c :: t).drop j).flatMap zbK:=by
       conv => lhs; rw [← List.take_append_drop j (c :: t)]
       rw [List.flatMap_append,zjD _ hh]
      have hl2:((c :: t).drop j).length ≤ m:=by rw [List.length_drop,List.length_cons]; omega
      have hn2:((c :: t).drop j).length < n:=by rw [List.length_drop,List.length_cons]; omega
      have hD:zbw ((c :: t).take j ++ (((c :: t).drop j).flatMap zbK ++ 34 :: r))=some (u,j):=by
       rw [← g2]
       have:=zfs g1 (((c :: t).drop j).flatMap zbK ++ 34 :: r)
       rw [this,g2,List.length_take,Nat.min_eq_left g3]
      have hjl:((c :: t).take j).length=j:=by rw [List.length_take,Nat.min_eq_left g3]
      rw [hsp,List.append_assoc]
      obtain ⟨q,hq⟩:∃ q,(c :: t).take j=c :: q:=by
       cases j with
       | zero => omega
       | succ j => exact ⟨_,rfl⟩
      have h34:¬ c=34:=fun e => by subst e; exact absurd hc (by decide)
      have h92:¬ c=92:=fun e => by subst e; exact absurd hc (by decide)
      rw [hq] at hD hjl ⊢
      show zbY (n + 1) (c :: (q ++ (((c :: t).drop j).flatMap zbK ++ 34 :: r))) out k=_
      have hD2:zbw (c :: (q ++ (((c :: t).drop j).flatMap zbK ++ 34 :: r)))=some (u,j):=hD
      rw [zbY,if_neg h34,if_neg h92,if_neg (by omega),hD2]
      simp only
      have e1:(c :: (q ++ (((c :: t).drop j).flatMap zbK ++ 34 :: r))).drop j=((c :: t).drop j).flatMap zbK ++ 34 :: r:=by
       show ((c :: q) ++ (((c :: t).drop j).flatMap zbK ++ 34 :: r)).drop j=_
       rw [List.drop_left' hjl]
      have e2:(c :: (q ++ (((c :: t).drop j).flatMap zbK ++ 34 :: r))).take j=c :: q:=by
       show ((c :: q) ++ (((c :: t).drop j).flatMap zbK ++ 34 :: r)).take j=_
       rw [List.take_left' hjl]
      rw [e1,e2,ih _ _ n _ hl2 hv2 hn2]
      have e3:out ++ (c :: q) ++ (c :: t).drop j=out ++ c :: t:=by
       rw [List.append_assoc,← hq,List.take_append_drop]
      rw [e3,List.length_append,hjl]
      simp only [Prod.mk.injEq,true_and]
      omega
end Go.Proofs.YthmdohgkmdkeeaaGreatDoor
namespace Go.Proofs.YthmdohgkmdkeeaaGreatDoor
open Nat renaming reduceAdd → z6, reduceSub → z7, reduceLeDiff → z8, reduceLT → j5, reduceMul → j6, reduceEqDiff → j7
open Int renaming reduceToNat → j8, reduceAdd → j9, reduceSub → x3, reduceMul → x4, reduceNeg → x5, reduceLT → x6, reduceLE → x7, reduceEq → x8, reduceNe → x9
open Go.RowKit Sx
theorem zgS (a b:List UInt8):byA (a ++ b)=byA a ++ byA b:=by simp [byA]
theorem hexS_at:∀ k:Fin 16,([48,49,50,51,52,53,54,55,56,57,97,98,99,100,101,102]:List UInt8).getD k.val 0=zdB k.val:=by decide +kernel
theorem quoB_hex {c:UInt8} (h1:c ≠ 34) (h2:c ≠ 92) (h3:c ≠ 8) (h4:c ≠ 12) (h5:c ≠ 10) (h6:c ≠ 13) (h7:c ≠ 9):zbK c=if c.toNat < 32 then [92,117,48,48,zdB (c.toNat / 16),zdB (c.toNat % 16)] else [c]:=by
 unfold zbK
 rw [if_neg (by rintro (h | h); exact h1 h; exact h2 h),if_neg h3,if_neg h4,if_neg h5,if_neg h6,if_neg h7]
theorem quoL_len (l:List UInt8):(l.flatMap zbK).length ≤ 6 * l.length:=by
 induction l with
 | nil => simp
 | cons c t ih =>
  have:(zbK c).length ≤ 6:=by
   unfold zbK
   repeat' split
   all_goals simp
  rw [List.flatMap_cons,List.length_append,List.length_cons]; omega
def quoP (s:List UInt8) (i:Nat):List UInt8:=34 :: (s.take i).flatMap zbK
theorem zmz (s:List UInt8) (i:Nat) (h:i < s.length):quoP s i ++ zbK s[i]=quoP s (i + 1):=by
 unfold quoP
 rw [List.take_add_one,List.getElem?_eq_getElem h,List.flatMap_append]
 simp
theorem quoP_end (s:List UInt8):byA (quoP s s.length) ++ [.i .u8 34]=byA (zed s):=by
 unfold quoP zed
 rw [List.take_length,← List.cons_append,zgS]; rfl
def zd0 (s:List UInt8):Int × List UInt8:=if 1048576 < s.length then (5,[]) else if zbc s=false then (7,[]) else (0,zed s)
theorem zcU {l:List UInt8} {n:Nat} (h:zbP l=some n):6 ≤ l.length ∧ n ≤ 65535:=by
 unfold zbP at h
 split at h
 ·cases h
 ·rename_i g
  split at h
  ·injection h with h
   have:=zjN zbe 16 65535 ((l.drop 2).take 4)
   constructor
   ·apply Classical.byContradiction
    intro h1
    exact g (.inl (by omega))
   ·omega
  ·cases h
theorem zlX {c d:UInt8} (h:zcN c=some d):d ≠ 0:=by
 have:∀ n:Fin 256,zcN (UInt8.ofNat n.val) ≠ some 0:=by decide +kernel
 have h2:=this ⟨c.toNat,c.toNat_lt⟩
 simp only [UInt8.ofNat_toNat] at h2
 rintro rfl
 exact h2 h
section
variable [Tabs Tryz.prog] {objs:List OB} {K:List OB → AV → Prop}
theorem zji (l:List UInt8) (hl:l.length ≤ maxLen) (hk:match zbP l with | some n => K objs (.tup [.i .i64 (n:Nat),.b true]) | none => ∀ x,K objs (.tup [.i .i64 x,.b false])):zad Tryz.prog 97 [.s l] objs K:=by
 refine za8 is_token_unitAt rfl fun C _ => ?_
 have hw:∀ n:Nat,n ≤ 65535 → IntKind.i64.wrap ((n:Nat):Int)=n:=by
  intro n h
  rw [IntKind.wrap_i64]; omega
 have hb:=zjN zbe 16 65535 ((l.drop 2).take 4)
 unfold zbP at hk
 by_cases c0:(l.length:Int) < 6
 ·rw [if_pos (.inl (by omega))] at hk
  simp only [c0,c_token_unitAt,sxZ,z6,z7,z8,j5,j6,j7,j8,j9,x3,x4,x5,x6,x7,x8,x9,reduceCtorEq,↓reduceIte]
  exact hk 0
 have l0:0 < l.length:=by omega
 have l1:1 < l.length:=by omega
 have g0:=zaz l0
 have g1:=zaz l1
 have e0:l[0]? = some 92 ↔ ((l[0].toNat:Nat):Int)=92:=zej l0 92 (by decide)
 have e1:l[1]? = some 117 ↔ ((l[1].toNat:Nat):Int)=117:=zej l1 117 (by decide)
 by_cases c1:((l[0].toNat:Nat):Int)=92
 ·by_cases c2:((l[1].toNat:Nat):Int)=117
  ·rw [if_neg (by rintro (h | h | h); exact absurd h (by omega); exact h (e0.2 c1); exact h (e1.2 c2))] at hk
   simp only [c0,c1,c2,g0,g1,c_token_unitAt,sxZ,z6,z7,z8,j5,j6,j7,j8,j9,x3,x4,x5,x6,x7,x8,x9,reduceCtorEq,↓reduceIte]
   refine ⟨by omega,by omega,by omega,?_⟩
   rw [show (l.take 6).drop 2=(l.drop 2).take 4 by rw [List.drop_take]]
   refine zak (nHex_k _ 65535 (by rw [List.length_take,List.length_drop,zbC]; omega) (by decide) ?_)
   simp only [sxZ,z6,z7,z8,j5,j6,j7,j8,j9,x3,x4,x5,x6,x7,x8,x9,reduceCtorEq,↓reduceIte]
   generalize zbx zbe 16 65535 ((l.drop 2).take 4)=q at *
   obtain ⟨e,n⟩:=q
   simp only at hk hb ⊢
   rw [hw n hb]
   by_cases c3:e=0
   ·rw [if_pos c3] at hk
    rw [decide_eq_true c3]
    exact hk
   ·rw [if_neg c3] at hk
    rw [decide_eq_false c3]
    exact hk _
  ·rw [if_pos (.inr (.inr (fun h => c2 (e1.1 h))))] at hk
   simp only [c0,c1,c2,g0,g1,c_token_unitAt,sxZ,z6,z7,z8,j5,j6,j7,j8,j9,x3,x4,x5,x6,x7,x8,x9,reduceCtorEq,↓reduceIte]
   refine ⟨by omega,by omega,hk 0⟩
 ·rw [if_pos (.inr (.inl (fun h => c1 (e0.1 h))))] at hk
  simp only [c0,c1,g0,g1,c_token_unitAt,sxZ,z6,z7,z8,j5,j6,j7,j8,j9,x3,x4,x5,x6,x7,x8,x9,reduceCtorEq,↓reduceIte]
  refine ⟨by omega,hk 0⟩
theorem zgk (l:List UInt8) (hk:K objs (.i .u8 ((((l[1]?).bind zcN).getD 0).toNat:Nat))):zad Tryz.prog 96 [.s l] objs K:=by
 refine za8 is_token_shortEscape rfl fun C _ => ?_
 by_cases c0:(l.length:Int) < 2
 ·rw [List.getElem?_eq_none (by omega)] at hk
  simp only [c0,c_token_shortEscape,sxZ,z6,z7,z8,j5,j6,j7,j8,j9,x3,x4,x5,x6,x7,x8,x9,reduceCtorEq,↓reduceIte]
  exact hk
 have l1:1 < l.length:=by omega
 have g1:=zaz l1
 rw [List.getElem?_eq_getElem l1,Option.bind_some] at hk
 generalize l[1]=c at *
 have e:=fun k (hk:k < 256) => zbL (c:=c) (k:=k) hk
 by_cases c1:((c.toNat:Nat):Int)=34
 ·rw [(e 34 (by decide)).1 c1] at hk
  simp only [c0,g1,c1,c_token_shortEscape,sxZ,z6,z7,z8,j5,j6,j7,j8,j9,x3,x4,x5,x6,x7,x8,x9,reduceCtorEq,↓reduceIte]
  exact ⟨by omega,by omega,hk⟩
 by_cases c2:((c.toNat:Nat):Int)=92
 ·rw [(e 92 (by decide)).1 c2] at hk
  simp only [c0,g1,c2,c_token_shortEscape,sxZ,z6,z7,z8,j5,j6,j7,j8,j9,x3,x4,x5,x6,x7,x8,x9,reduceCtorEq,↓reduceIte]
  exact ⟨by omega,by omega,hk⟩
 by_cases c3:((c.toNat:Nat):Int)=47
 ·rw [(e 47 (by decide)).1 c3] at hk
  simp only [c0,g1,c3,c_token_shortEscape,sxZ,z6,z7,z8,j5,j6,j7,j8,j9,x3,x4,x5,x6,x7,x8,x9,reduceCtorEq,↓reduceIte]
  exact ⟨by omega,by omega,hk⟩
 by_cases c4:((c.toNat:Nat):Int)=98
 ·rw [(e 98 (by decide)).1 c4] at hk
  simp only [c0,g1,c4,c_token_shortEscape,sxZ,z6,z7,z8,j5,j6,j7,j8,j9,x3,x4,x5,x6,x7,x8,x9,reduceCtorEq,↓reduceIte]
  exact ⟨by omega,hk⟩
 by_cases c5:((c.toNat:Nat):Int)=102
 ·rw [(e 102 (by decide)).1 c5] at hk
  simp only [c0,g1,c5,c_token_shortEscape,sxZ,z6,z7,z8,j5,j6,j7,j8,j9,x3,x4,x5,x6,x7,x8,x9,reduceCtorEq,↓reduceIte]
  exact ⟨by omega,hk⟩
 by_cases c6:((c.toNat:Nat):Int)=110
 ·rw [(e 110 (by decide)).1 c6] at hk
  simp only [c0,g1,c6,c_token_shortEscape,sxZ,z6,z7,z8,j5,j6,j7,j8,j9,x3,x4,x5,x6,x7,x8,x9,reduceCtorEq,↓reduceIte]
  exact ⟨by omega,hk⟩
 by_cases c7:((c.toNat:Nat):Int)=114
 ·rw [(e 114 (by decide)).1 c7] at hk
  simp only [c0,g1,c7,c_token_shortEscape,sxZ,z6,z7,z8,j5,j6,j7,j8,j9,x3,x4,x5,x6,x7,x8,x9,reduceCtorEq,↓reduceIte]
  exact ⟨by omega,hk⟩
 by_cases c8:((c.toNat:Nat):Int)=116
 ·rw [(e 116 (by decide)).1 c8] at hk
  simp only [c0,g1,c8,c_token_shortEscape,sxZ,z6,z7,z8,j5,j6,j7,j8,j9,x3,x4,x5,x6,x7,x8,x9,reduceCtorEq,↓reduceIte]
  exact ⟨by omega,hk⟩
 have hn:zcN c=none:=by
  unfold zcN
  rw [if_neg (by rintro (h | h | h); exact c1 ((e 34 (by decide)).2 h); exact c2 ((e 92 (by decide)).2 h); exact c3 ((e 47 (by decide)).2 h)),if_neg (show ¬ c=98 from fun h => c4 ((e 98 (by decide)).2 h)),if_neg (show ¬ c=102 from fun h => c5 ((e 102 (by decide)).2 h)),if_neg (show ¬ c=110 from fun h => c6 ((e 110 (by decide)).2 h)),if_neg (show ¬ c=114 from fun h => c7 ((e 114 (by decide)).2 h)),if_neg (show ¬ c=116 from fun h => c8 ((e 116 (by decide)).2 h))]
 rw [hn] at hk
 simp only [c0,g1,c1,c2,c3,c4,c5,c6,c7,c8,c_token_shortEscape,sxZ,z6,z7,z8,j5,j6,j7,j8,j9,x3,x4,x5,x6,x7,x8,x9,reduceCtorEq,↓reduceIte]
 exact ⟨by omega,hk⟩
end
def RdSt (s:List UInt8) (i:Nat) (out:List UInt8) (objs:List OB):Prop :=
 (out=[] ∧ objs=[.box 100 [.s s,.i .i64 (i:Nat),.nil]]) ∨ ∃ g,objs=[.box 100 [.s s,.i .i64 (i:Nat),.orow 1 g],.orow 5 1 g out.length (byA out)]
theorem zom {s:List UInt8} {i:Nat} (h:i < s.length):zb3 s i=match zbw (s.drop i) with | none => (0,0,7) | some (r,n) => ((r:Int),((i + n:Nat):Int),0):=by
 unfold zb3
 rw [if_neg (by omega),Int.toNat_natCast]
 cases zbw (s.drop i) <;> simp
theorem zd3 (s:List UInt8) (i m:Nat):(s.take (i + m)).drop i=(s.drop i).take m:=by
 rw [List.drop_take,show i + m - i=m by omega]
def zfm (n:Nat) (r:List UInt8):Nat × Nat :=
 if 55296 ≤ n ∧ n < 56320 then (match zbP r with
  | some m => if 56320 ≤ m ∧ m ≤ 57343 then (65536 + (n - 55296) * 1024 + (m - 56320),12) else (n,6)
  | none => (n,6)) else (n,6)
theorem esc_of {l:List UInt8} {n:Nat} (h0:(l[1]?).bind zcN=none) (h:zbP l=some n):zc3 l=if cpB ((zfm n (l.drop 6)).1:Int)=true then (0,zdC (zfm n (l.drop 6)).1,(zfm n (l.drop 6)).2) else (7,[],0):=by
 have hn:=(zcU h).2
 have hcp:∀ k:Nat,cpB (k:Int)=decide (k ≤ 1114111 ∧ (k < 55296 ∨ 57343 < k)):=by
  intro k
  unfold cpB
  by_cases h1:k ≤ 1114111 ∧ (k < 55296 ∨ 57343 < k)
  ·rw [decide_eq_true (by omega),decide_eq_true h1]
  ·rw [decide_eq_false (by omega),decide_eq_false h1]
 have hE:zc3 l=(if n < 55296 ∨ 57343 < n then ((0:Int),zdC n,6)
   else if 56319 < n then (7,[],0)
   else match zbP (l.drop 6) with
    | none => (7,[],0)
    | some m => if m < 56320 ∨ 57343 < m then (7,[],0) else (0,zdC (65536 + (n - 55296) * 1024 + (m - 56320)),12)):=by
  unfold zc3
  rw [h0,h]
  rfl
 rw [hE]
 by_cases c1:n < 55296 ∨ 57343 < n
 ·have hU:zfm n (l.drop 6)=(n,6):=by unfold zfm; rw [if_neg (show ¬ (55296 ≤ n ∧ n < 56320) by omega)]
  rw [if_pos c1,hU,hcp,if_pos (decide_eq_true (by omega))]
 ·by_cases c2:56319 < n
  ·have hU:zfm n (l.drop 6)=(n,6):=by unfold zfm; rw [if_neg (show ¬ (55296 ≤ n ∧ n < 56320) by omega)]
   rw [if_neg c1,if_pos c2,hU,hcp,if_neg (by rw [decide_eq_true_eq]; omega)]
  ·rw [if_neg c1,if_neg c2]
   cases hu:zbP (l.drop 6) with
   | none =>
    have hU:zfm n (l.drop 6)=(n,6):=by unfold zfm; rw [if_pos (show 55296 ≤ n ∧ n < 56320 by omega),hu]
    rw [hU,hcp,if_neg (by rw [decide_eq_true_eq]; omega)]
   | some m =>
    by_cases c3:m < 56320 ∨ 57343 < m
    ·have hU:zfm n (l.drop 6)=(n,6):=by
      unfold zfm; rw [if_pos (show 55296 ≤ n ∧ n < 56320 by omega),hu]
      simp only
      rw [if_neg (show ¬ (56320 ≤ m ∧ m ≤ 57343) by omega)]
     simp only
     rw [if_pos c3,hU,hcp,if_neg (by rw [decide_eq_true_eq]; omega)]
    ·have hU:zfm n (l.drop 6)=(65536 + (n - 55296) * 1024 + (m - 56320),12):=by
      unfold zfm; rw [if_pos (show 55296 ≤ n ∧ n < 56320 by omega),hu]
      simp only
      rw [if_pos (show 56320 ≤ m ∧ m ≤ 57343 by omega)]
     simp only
     rw [if_neg c3,hU,hcp,if_pos (decide_eq_true (by omega))]
theorem escU_ge (n:Nat) (r:List UInt8):6 ≤ (zfm n r).2:=by
 unfold zfm
 repeat' split
 all_goals first | exact Nat.le_refl _ | (show 6 ≤ 12; omega)
theorem zkf {l:List UInt8} {n:Nat} (h:zbP l=some n):(zfm n (l.drop 6)).2 ≤ l.length ∧ (zfm n (l.drop 6)).1 ≤ 1114111:=by
 have h1:=zcU h
 unfold zfm
 split
 ·cases hu:zbP (l.drop 6) with
  | none => simp only; omega
  | some m =>
   have h2:=zcU hu
   rw [List.length_drop] at h2
   simp only
   split
   ·simp only; omega
   ·simp only; omega
 ·simp only; omega
theorem zgI {l x:List UInt8} {n:Nat} (h:zc3 l=(0,x,n)):x.length ≤ n ∧ 1 ≤ n ∧ n ≤ l.length:=by
 cases hse:(l[1]?).bind zcN with
 | some d =>
  have he:zc3 l=(0,[d],2):=by unfold zc3; rw [hse]
  rw [he] at h
  injection h with _ h; injection h with h1 h2
  subst h1 h2
  obtain ⟨c,h2,_⟩:=Option.bind_eq_some_iff.1 hse
  have:=(List.getElem?_eq_some_iff.1 h2).1
  exact ⟨by simp,by omega,by omega⟩
 | none =>
  cases hu:zbP l with
  | none =>
   have he:zc3 l=(130,[],0):=by unfold zc3; rw [hse,hu]
   rw [he] at h
   injection h with h _; cases h
  | some k =>
   have he:=esc_of hse hu
   have h3:=zkf hu
   have h4:=escU_ge k (l.drop 6)
   have h5:=zkh (r:=(zfm k (l.drop 6)).1)
   rw [h] at he
   split at he
   ·injection he with _ he; injection he with h1 h2
    subst h1 h2
    omega
   ·injection he with he _; cases he
section
variable [Tabs Tryz.prog] [Utf Tryz.prog] {objs:List OB} {K:List OB → AV → Prop}
set_option maxHeartbeats 4000000 in
theorem plain_k (s out:List UInt8) (i:Nat) (h:RdSt s i out objs) (hs:s.length ≤ 140737488351232) (ho:out.length ≤ i) (hi:i < s.length) (h1:s[i].toNat < 32 → K objs (.i .i64 130)) (h2:32 ≤ s[i].toNat → zbw (s.drop i)=none → K objs (.i .i64 7))
  (h3:32 ≤ s[i].toNat → ∀ r m,zbw (s.drop i)=some (r,m) → ∀ o,RdSt s (i + m) (out ++ (s.drop i).take m) o → K o (.i .i64 0)):zad Tryz.prog 80 [.p 0 0] objs K:=by
 refine zcP is_token_stringReader_plain fun C _ => ?_
 have hg:=zaz hi
 have hd:=zom hi
 rcases h with ⟨rfl,rfl⟩ | ⟨g,rfl⟩
 ·by_cases c1:((s[i].toNat:Nat):Int) < 32
  ·simp only [hg,c1,c_token_stringReader_plain,sxZ,z6,z7,z8,j5,j6,j7,j8,j9,x3,x4,x5,x6,x7,x8,x9,reduceCtorEq,↓reduceIte]
   exact ⟨by omega,h1 (by omega)⟩
  simp only [hg,c1,c_token_stringReader_plain,sxZ,z6,z7,z8,j5,j6,j7,j8,j9,x3,x4,x5,x6,x7,x8,x9,reduceCtorEq,↓reduceIte]
  refine ⟨by omega,?_⟩
  refine zfe (zg4 s i hs ⟨rfl,rfl⟩) ?_
  cases hdu:zbw (s.drop i) with
  | none =>
   rw [hdu] at hd
   rw [hd]
   simp only [sxZ,z6,z7,z8,j5,j6,j7,j8,j9,x3,x4,x5,x6,x7,x8,x9,reduceCtorEq,↓reduceIte]
   exact h2 (by omega) hdu
  | some q =>
   obtain ⟨r,m⟩:=q
   rw [hdu] at hd
   rw [hd]
   obtain ⟨g1,g2,g3,g4,g5⟩:=zaY hdu
   rw [List.length_drop] at g3
   simp only [sxZ,z6,z7,z8,j5,j6,j7,j8,j9,x3,x4,x5,x6,x7,x8,x9,reduceCtorEq,↓reduceIte]
   rw [zd3 s i m]
   refine ⟨by omega,?_,h3 (by omega) r m hdu _ (.inr ⟨0,rfl⟩)⟩
   rw [List.length_take,List.length_drop]; omega
 ·by_cases c1:((s[i].toNat:Nat):Int) < 32
  ·simp only [hg,c1,c_token_stringReader_plain,sxZ,z6,z7,z8,j5,j6,j7,j8,j9,x3,x4,x5,x6,x7,x8,x9,reduceCtorEq,↓reduceIte]
   exact ⟨by omega,h1 (by omega)⟩
  simp only [hg,c1,c_token_stringReader_plain,sxZ,z6,z7,z8,j5,j6,j7,j8,j9,x3,x4,x5,x6,x7,x8,x9,reduceCtorEq,↓reduceIte]
  refine ⟨by omega,?_⟩
  refine zfe (zg4 s i hs ⟨rfl,rfl⟩) ?_
  cases hdu:zbw (s.drop i) with
  | none =>
   rw [hdu] at hd
   rw [hd]
   simp only [sxZ,z6,z7,z8,j5,j6,j7,j8,j9,x3,x4,x5,x6,x7,x8,x9,reduceCtorEq,↓reduceIte]
   exact h2 (by omega) hdu
  | some q =>
   obtain ⟨r,m⟩:=q
   rw [hdu] at hd
   rw [hd]
   obtain ⟨g1,g2,g3,g4,g5⟩:=zaY hdu
   rw [List.length_drop] at g3
   simp only [sxZ,z6,z7,z8,j5,j6,j7,j8,j9,x3,x4,x5,x6,x7,x8,x9,reduceCtorEq,↓reduceIte]
   rw [zd3 s i m]
   have hl:((s.drop i).take m).length ≤ 4:=by rw [List.length_take]; omega
   refine ⟨by omega,by omega,h3 (by omega) r m hdu _ (.inr ⟨g + 1,?_⟩)⟩
   rw [zgS,List.length_append]
set_option maxHeartbeats 4000000 in
theorem escape_k (s out:List UInt8) (i:Nat) (h:RdSt s i out objs) (hs:s.length ≤ 140737488351232) (ho:out.length ≤ i) (hi:i ≤ s.length) (h1:(zc3 (s.drop i)).1 ≠ 0 → K objs (.i .i64 (zc3 (s.drop i)).1))
  (h3:(zc3 (s.drop i)).1=0 → ∀ o,RdSt s (i + (zc3 (s.drop i)).2.2) (out ++ (zc3 (s.drop i)).2.1) o → K o (.i .i64 0)):zad Tryz.prog 81 [.p 0 0] objs K:=by
 refine zcP is_token_stringReader_escape fun C _ => ?_
 have hmx:=zbC
 have hld:(s.drop i).length=s.length - i:=List.length_drop
 obtain ⟨X,T,rfl,hX⟩:∃ X T,objs=.box 100 [.s s,.i .i64 (i:Nat),X] :: T ∧ ((out=[] ∧ X=.nil ∧ T=[]) ∨ ∃ g,X=.orow 1 g ∧ T=[.orow 5 1 g out.length (byA out)]):=by
  rcases h with ⟨h1,h2⟩ | ⟨g,h2⟩
  ·exact ⟨_,_,h2,.inl ⟨h1,rfl,rfl⟩⟩
  ·exact ⟨_,_,h2,.inr ⟨g,rfl,rfl⟩⟩
 have push:∀ (x:List UInt8) (m:Nat),zc3 (s.drop i)=(0,x,m) → ∀ o,RdSt s (i + m) (out ++ x) o → K o (.i .i64 0):=by
  intro x m e o ho
  rw [e] at h3
  exact h3 rfl o ho
 have fail:∀ e:Int,e ≠ 0 → zc3 (s.drop i)=(e,[],0) → K (.box 100 [.s s,.i .i64 (i:Nat),X] :: T) (.i .i64 e):=by
  intro e he h
  rw [h] at h1
  exact h1 he
 clear h h1 h3
 rw [c_token_stringReader_escape]
 refine zaa fun Y1 hY1 => ?_
 simp only [sxZ,z6,z7,z8,j5,j6,j7,j8,j9,x3,x4,x5,x6,x7,x8,x9,reduceCtorEq,↓reduceIte]
 subst hY1
 refine zaa fun Y1 hY1 => ?_
 simp only [sxZ,z6,z7,z8,j5,j6,j7,j8,j9,x3,x4,x5,x6,x7,x8,x9,reduceCtorEq,↓reduceIte]
 refine ⟨by omega,?_⟩
 subst hY1
 refine zaa fun Y1 hY1 => ?_
 simp only [sxZ,z6,z7,z8,j5,j6,j7,j8,j9,x3,x4,x5,x6,x7,x8,x9,reduceCtorEq,↓reduceIte]
 refine zak (zgk (s.drop i) ?_)
 cases hse:((s.drop i)[1]?).bind zcN with
 | some d =>
  have hne:d ≠ 0:=by
   obtain ⟨c,_,h2⟩:=Option.bind_eq_some_iff.1 hse
   exact zlX h2
  have hd0:¬ ((d.toNat:Nat):Int)=0:=by
   intro h
   apply hne
   have h2:d.toNat=0:=by omega
   exact UInt8.toNat_inj.1 h2
  have he:zc3 (s.drop i)=(0,[d],2):=by unfold zc3; rw [hse]
  rcases hX with ⟨rfl,rfl,rfl⟩ | ⟨g,rfl,rfl⟩
  ·simp only [hd0,sxZ,z6,z7,z8,j5,j6,j7,j8,j9,x3,x4,x5,x6,x7,x8,x9,reduceCtorEq,↓reduceIte]
   exact ⟨by omega,push _ _ he _ (.inr ⟨0,rfl⟩)⟩
  ·simp only [hd0,sxZ,z6,z7,z8,j5,j6,j7,j8,j9,x3,x4,x5,x6,x7,x8,x9,reduceCtorEq,↓reduceIte]
   refine ⟨by omega,by omega,push _ _ he _ (.inr ⟨g + 1,?_⟩)⟩
   rw [zgS,List.length_append]; rfl
 | none =>
  have e0:(((Option.getD (none:Option UInt8) 0).toNat:Nat):Int)=0:=rfl
  rw [e0]
  simp only [sxZ,z6,z7,z8,j5,j6,j7,j8,j9,x3,x4,x5,x6,x7,x8,x9,reduceCtorEq,↓reduceIte]
  subst hY1
  refine zaa fun Y1 hY1 => ?_
  simp only [sxZ,z6,z7,z8,j5,j6,j7,j8,j9,x3,x4,x5,x6,x7,x8,x9,reduceCtorEq,↓reduceIte]
  refine zak (zji (s.drop i) (by omega) ?_)
  cases hu:zbP (s.drop i) with
  | none =>
   intro x
   have he:zc3 (s.drop i)=(130,[],0):=by unfold zc3; rw [hse,hu]
   simp only [sxZ,z6,z7,z8,j5,j6,j7,j8,j9,x3,x4,x5,x6,x7,x8,x9,reduceCtorEq,↓reduceIte]
   subst hY1
   simp only [sxZ,z6,z7,z8,j5,j6,j7,j8,j9,x3,x4,x5,x6,x7,x8,x9,reduceCtorEq,↓reduceIte]
   exact fail 130 (by decide) he
  | some n =>
   have hul:=zcU hu
   have hel:=zkf hu
   have heo:=esc_of hse hu
   simp only [sxZ,z6,z7,z8,j5,j6,j7,j8,j9,x3,x4,x5,x6,x7,x8,x9,reduceCtorEq,↓reduceIte]
   subst hY1
   refine zaa fun Y1 hY1 => ?_
   simp only [sxZ,z6,z7,z8,j5,j6,j7,j8,j9,x3,x4,x5,x6,x7,x8,x9,reduceCtorEq,↓reduceIte]
   subst hY1
   refine zaa fun Y1 hY1 => ?_
   simp only [sxZ,z6,z7,z8,j5,j6,j7,j8,j9,x3,x4,x5,x6,x7,x8,x9,reduceCtorEq,↓reduceIte]
   subst hY1
   refine zaa fun Y1 hY1 => ?_
   refine zaP (fun o t => o=.box 100 [.s s,.i .i64 (i:Nat),X] :: T ∧ t.length=103 ∧ t[0]? = some (.p 0 0) ∧ t[5]? = some (.i .i64 ((zfm n ((s.drop i).drop 6)).1:Nat)) ∧ t[7]? = some (.i .i64 ((zfm n ((s.drop i).drop 6)).2:Nat))) ?_ ?_
   ·unfold zfm
    by_cases c1:(55296:Int) ≤ n
    ·by_cases c2:(n:Int) < 56320
     ·rw [if_pos (by omega)]
      simp only [c1,c2,sxZ,z6,z7,z8,j5,j6,j7,j8,j9,x3,x4,x5,x6,x7,x8,x9,reduceCtorEq,↓reduceIte]
      refine ⟨by omega,?_⟩
      refine zak (zji _ (by rw [List.length_drop]; omega) ?_)
      cases hu2:zbP ((s.drop i).drop 6) with
      | none =>
       intro x
       simp only [zab,sxZ,z6,z7,z8,j5,j6,j7,j8,j9,x3,x4,x5,x6,x7,x8,x9,reduceCtorEq,↓reduceIte]
       and_intros <;> first | omega | exact iv (by omega) | rfl | assumption
      | some m =>
       have hm:=(zcU hu2).2
       by_cases c3:(56320:Int) ≤ m
       ·by_cases c4:(m:Int) ≤ 57343
        ·simp only
         rw [if_pos (show 56320 ≤ m ∧ m ≤ 57343 by omega)]
         simp only [c3,c4,zab,sxZ,z6,z7,z8,j5,j6,j7,j8,j9,x3,x4,x5,x6,x7,x8,x9,reduceCtorEq,↓reduceIte]
         and_intros <;> first | omega | exact iv (by omega) | rfl | assumption
        ·simp only
         rw [if_neg (show ¬ (56320 ≤ m ∧ m ≤ 57343) by omega)]
         simp only [c3,c4,zab,sxZ,z6,z7,z8,j5,j6,j7,j8,j9,x3,x4,x5,x6,x7,x8,x9,reduceCtorEq,↓reduceIte]
         and_intros <;> first | omega | exact iv (by omega) | rfl | assumption
       ·simp only
        rw [if_neg (show ¬ (56320 ≤ m ∧ m ≤ 57343) by omega)]
        simp only [c3,zab,sxZ,z6,z7,z8,j5,j6,j7,j8,j9,x3,x4,x5,x6,x7,x8,x9,reduceCtorEq,↓reduceIte]
        and_intros <;> first | omega | exact iv (by omega) | rfl | assumption
     ·rw [if_neg (by omega)]
      simp only [c1,c2,zab,sxZ,z6,z7,z8,j5,j6,j7,j8,j9,x3,x4,x5,x6,x7,x8,x9,reduceCtorEq,↓reduceIte]
      and_intros <;> first | omega | exact iv (by omega) | rfl | assumption
    ·rw [if_neg (by omega)]
     simp only [c1,zab,sxZ,z6,z7,z8,j5,j6,j7,j8,j9,x3,x4,x5,x6,x7,x8,x9,reduceCtorEq,↓reduceIte]
     and_intros <;> first | omega | exact iv (by omega) | rfl | assumption
   rintro _ tm ⟨rfl,hlen,t0,t5,t7⟩
   subst hY1
   generalize zfm n ((s.drop i).drop 6)=q at *
   obtain ⟨U,Z⟩:=q
   simp only at hel heo t5 t7
   simp only [sxZ,z6,z7,z8,j5,j6,j7,j8,j9,x3,x4,x5,x6,x7,x8,x9,reduceCtorEq,↓reduceIte,List.getElem?_set,hlen,t0,t5,t7]
   refine zak (zlC _ ?_)
   unfold zeK
   by_cases c5:cpB ((U:Nat):Int)=true
   ·rw [if_pos c5] at heo ⊢
    have hxl:=(zkh (r:=U))
    rw [Int.toNat_natCast]
    rcases hX with ⟨rfl,rfl,rfl⟩ | ⟨g,rfl,rfl⟩
    ·simp only [sxZ,z6,z7,z8,j5,j6,j7,j8,j9,x3,x4,x5,x6,x7,x8,x9,reduceCtorEq,↓reduceIte,List.getElem?_set,hlen,t0,t5,t7]
     refine ⟨by omega,by omega,?_⟩
     have:=push _ _ heo (.box 100 [.s s,.i .i64 ((i + Z:Nat):Int),.orow 1 0] :: [.orow 5 1 0 (zdC U).length (byA (zdC U))]) (.inr ⟨0,rfl⟩)
     exact this
    ·simp only [sxZ,z6,z7,z8,j5,j6,j7,j8,j9,x3,x4,x5,x6,x7,x8,x9,reduceCtorEq,↓reduceIte,List.getElem?_set,hlen,t0,t5,t7]
     refine ⟨by omega,by omega,?_⟩
     refine push _ _ heo _ (.inr ⟨g + 1,?_⟩)
     rw [zgS,List.length_append]; rfl
   ·rw [if_neg c5] at heo ⊢
    simp only [sxZ,z6,z7,z8,j5,j6,j7,j8,j9,x3,x4,x5,x6,x7,x8,x9,reduceCtorEq,↓reduceIte,List.getElem?_set,hlen,t0,t5,t7]
    exact fail 7 (by decide) heo
omit [Tabs Tryz.prog] [Utf Tryz.prog] in
theorem zk1:IsFn Tryz.prog 80:=⟨_,Tryz.func80,by kernel_rfl,of_decide_eq_true (by kernel_rfl)⟩
omit [Tabs Tryz.prog] [Utf Tryz.prog] in
theorem ziY:IsFn Tryz.prog 81:=⟨_,Tryz.func81,by kernel_rfl,of_decide_eq_true (by kernel_rfl)⟩
set_option maxHeartbeats 4000000 in
theorem zht (s:List UInt8) (a:Nat) (hs:s.length ≤ 140737488351232) (ha:a < s.length) (R:Int × List UInt8 × Nat) (hR:zbY ((s.drop (a + 1)).length + 1) (s.drop (a + 1)) [] 0=R)
  (h1:R.1 ≠ 0 → K objs (.tup [.s [],.i .i64 0,.i .i64 R.1])) (h0:R.1=0 → K objs (.tup [.s R.2.1,.i .i64 ((a + 1 + R.2.2:Nat):Int),.i .i64 0])):zad Tryz.prog 56 [.s s,.i .i64 (a:Nat)] objs K:=by
 refine za8 is_token_readString rfl fun C _ => ?_
 simp only [c_token_readString,sxZ,z6,z7,z8,j5,j6,j7,j8,j9,x3,x4,x5,x6,x7,x8,x9,reduceCtorEq,↓reduceIte]
 refine ⟨by omega,?_⟩
 refine zaQ (fun n o tm => ∃ (i:Nat) (out:List UInt8) (m:Nat),i ≤ s.length ∧ a + 1 ≤ i ∧ n=s.length - i ∧ RdSt s i out o ∧ out.length ≤ i ∧ s.length - i < m ∧ zbY m (s.drop i) out (i - (a + 1))=R ∧ tm.length=53 ∧ tm[0]? = some (.s s) ∧ tm[7]? = some (.p 0 0) ∧ tm[8]? = some (.fn 80 [.p 0 0] []) ∧ tm[9]? = some (.fn 81 [.p 0 0] [])) (s.length - (a + 1))
  ⟨a + 1,[],(s.drop (a + 1)).length + 1,ha,Nat.le_refl _,rfl,.inl ⟨rfl,rfl⟩,Nat.zero_le _,by rw [List.length_drop]; omega,by rw [Nat.sub_self]; exact hR,rfl,rfl,rfl,rfl,rfl⟩ ?_
 rintro n o tm ⟨i,out,m,hi,hai,rfl,hst,ho,hm,hT,hlen,t0,t7,t8,t9⟩
 have hst2:=hst
 obtain ⟨X,T,rfl,hX⟩:∃ X T,o=.box 100 [.s s,.i .i64 (i:Nat),X] :: T ∧ ((out=[] ∧ X=.nil ∧ T=[]) ∨ ∃ g,X=.orow 1 g ∧ T=[.orow 5 1 g out.length (byA out)]):=by
  rcases hst with ⟨h1,h2⟩ | ⟨g,h2⟩
  ·exact ⟨_,_,h2,.inl ⟨h1,rfl,rfl⟩⟩
  ·exact ⟨_,_,h2,.inr ⟨g,rfl,rfl⟩⟩
 clear hst
 obtain ⟨m,rfl⟩:∃ m',m=m' + 1:=⟨m - 1,by omega⟩
 by_cases hlt:(i:Int) < s.length
 ·have hlt':i < s.length:=by omega
  have hne:¬ (i:Int)=s.length:=by omega
  have hg:=zaz hlt'
  have hdc:=List.drop_eq_getElem_cons hlt'
  by_cases c1:((s[i].toNat:Nat):Int)=34
  ·have hc:s[i]=34:=(zbL (by decide)).1 c1
   rw [hdc,zbY,if_pos hc] at hT
   subst hT
   have h0:=h0 rfl
   rcases hX with ⟨rfl,rfl,rfl⟩ | ⟨g,rfl,rfl⟩
   ·simp only [hlt,hne,hg,c1,sxZ,z6,z7,z8,j5,j6,j7,j8,j9,x3,x4,x5,x6,x7,x8,x9,reduceCtorEq,↓reduceIte,List.getElem?_set,hlen,t0,t7,t8,t9]
    refine ⟨by omega,by omega,?_⟩
    rw [show a + 1 + (i - (a + 1) + 1)=i + 1 by omega] at h0
    exact h0
   ·simp only [hlt,hne,hg,c1,sxZ,z6,z7,z8,j5,j6,j7,j8,j9,x3,x4,x5,x6,x7,x8,x9,reduceCtorEq,↓reduceIte,List.getElem?_set,hlen,t0,t7,t8,t9]
    refine ⟨by omega,⟨rfl,rfl⟩,out,rfl,?_⟩
    simp only [hlt,hne,hg,c1,sxZ,z6,z7,z8,j5,j6,j7,j8,j9,x3,x4,x5,x6,x7,x8,x9,reduceCtorEq,↓reduceIte,List.getElem?_set,hlen,t0,t7,t8,t9]
    refine ⟨by omega,?_⟩
    rw [show a + 1 + (i - (a + 1) + 1)=i + 1 by omega] at h0
    exact h0
  ·have hc:¬ s[i]=34:=fun h => c1 ((zbL (by decide)).2 h)
   by_cases c2:((s[i].toNat:Nat):Int)=92
   ·have hc2:s[i]=92:=(zbL (by decide)).1 c2
    rw [hdc,zbY,if_neg hc,if_pos hc2,← hdc] at hT
    simp only [hlt,hg,c1,c2,sxZ,z6,z7,z8,j5,j6,j7,j8,j9,x3,x4,x5,x6,x7,x8,x9,reduceCtorEq,↓reduceIte,List.getElem?_set,hlen,t0,t7,t8,t9]
    refine ⟨by omega,by omega,?_⟩
    refine kcallv ziY (escape_k s out i hst2 hs ho hi (fun he => ?_) (fun he o' ho' => ?_))
    ·rw [if_pos he] at hT
     subst hT
     simp only [he,sxZ,z6,z7,z8,j5,j6,j7,j8,j9,x3,x4,x5,x6,x7,x8,x9,reduceCtorEq,↓reduceIte,List.getElem?_set,hlen,t0,t7,t8,t9]
     exact h1 he
    ·rw [if_neg (by rw [he]; simp)] at hT
     generalize hq:zc3 (s.drop i)=q at *
     obtain ⟨e,x,m'⟩:=q
     simp only at he hT ho'
     subst he
     have hl:=zgI hq
     rw [List.length_drop] at hl
     simp only [sxZ,z6,z7,z8,j5,j6,j7,j8,j9,x3,x4,x5,x6,x7,x8,x9,reduceCtorEq,↓reduceIte,List.getElem?_set,hlen,t0,t7,t8,t9]
     exact ⟨s.length - (i + m'),by omega,i + m',out ++ x,m,by omega,by omega,rfl,ho',by rw [List.length_append]; omega,by omega,by rw [← List.drop_drop,show i + m' - (a + 1)=i - (a + 1) + m' by omega]; exact hT⟩
   ·have hc2:¬ s[i]=92:=fun h => c2 ((zbL (by decide)).2 h)
    rw [hdc,zbY,if_neg hc,if_neg hc2,← hdc] at hT
    simp only [hlt,hg,c1,c2,sxZ,z6,z7,z8,j5,j6,j7,j8,j9,x3,x4,x5,x6,x7,x8,x9,reduceCtorEq,↓reduceIte,List.getElem?_set,hlen,t0,t7,t8,t9]
    refine ⟨by omega,by omega,?_⟩
    refine kcallv zk1 (plain_k s out i hst2 hs ho hlt' (fun he => ?_) (fun he hd => ?_) (fun he r m' hd o' ho' => ?_))
    ·rw [if_pos he] at hT
     subst hT
     simp only [sxZ,z6,z7,z8,j5,j6,j7,j8,j9,x3,x4,x5,x6,x7,x8,x9,reduceCtorEq,↓reduceIte,List.getElem?_set,hlen,t0,t7,t8,t9]
     exact h1 (by decide)
    ·rw [if_neg (by omega),hd] at hT
     simp only at hT
     subst hT
     simp only [sxZ,z6,z7,z8,j5,j6,j7,j8,j9,x3,x4,x5,x6,x7,x8,x9,reduceCtorEq,↓reduceIte,List.getElem?_set,hlen,t0,t7,t8,t9]
     exact h1 (by decide)
    ·rw [if_neg (by omega),hd] at hT
     simp only at hT
     have gg:m' ≤ (s.drop i).length ∧ 1 ≤ m':=⟨(zaY hd).2.2.1,(zaY hd).2.2.2.1⟩
     have hxl:((s.drop i).take m').length ≤ m':=by rw [List.length_take]; omega
     rw [List.length_drop] at gg
     simp only [sxZ,z6,z7,z8,j5,j6,j7,j8,j9,x3,x4,x5,x6,x7,x8,x9,reduceCtorEq,↓reduceIte,List.getElem?_set,hlen,t0,t7,t8,t9]
     exact ⟨s.length - (i + m'),by omega,i + m',out ++ (s.drop i).take m',m,by omega,by omega,rfl,ho',by rw [List.length_append]; omega,by omega,by rw [← List.drop_drop,show i + m' - (a + 1)=i - (a + 1) + m' by omega]; exact hT⟩
 ·obtain rfl:i=s.length:=by omega
  rw [List.drop_length,zbY] at hT
  subst hT
  simp only [sxZ,z6,z7,z8,j5,j6,j7,j8,j9,x3,x4,x5,x6,x7,x8,x9,reduceCtorEq,↓reduceIte,List.getElem?_set,hlen,t0,t7,hlt]
  exact h1 (by decide)
end
def zat (s:List UInt8) (a:Int):(Int × List UInt8 × Int) × Int × Int :=
 if a < 0 ∨ (s.length:Int) < a then ((0,[],0),0,4)
 else if (zaD (s.drop (a.toNat + zaF (s.drop a.toNat)))).1 ≠ 0 then ((0,[],0),0,(zaD (s.drop (a.toNat + zaF (s.drop a.toNat)))).1)
 else (((zaD (s.drop (a.toNat + zaF (s.drop a.toNat)))).2.1,(zaD (s.drop (a.toNat + zaF (s.drop a.toNat)))).2.2.1,((a.toNat + zaF (s.drop a.toNat):Nat):Int)),((a.toNat + zaF (s.drop a.toNat) + (zaD (s.drop (a.toNat + zaF (s.drop a.toNat)))).2.2.2:Nat):Int),0)
def zm1 (r:(Int × List UInt8 × Int) × Int × Int):AV:=.tup [.agg [.i .i64 r.1.1,.s r.1.2.1,.i .i64 r.1.2.2],.i .i64 r.2.1,.i .i64 r.2.2]
theorem word_at (s:List UInt8) (i:Nat) (h:i < s.length):zaO (s.drop i)=if zc0 s[i]=true then zaO (s.drop (i + 1)) + 1 else 0:=by
 rw [List.drop_eq_getElem_cons h,zaO]
theorem white_at (s:List UInt8) (i:Nat) (h:i < s.length):zaF (s.drop i)=if zaS s[i]=true then zaF (s.drop (i + 1)) + 1 else 0:=by
 rw [List.drop_eq_getElem_cons h,zaF]
theorem zgb:∀ l:List UInt8,zaO l ≤ l.length
 | [] => Nat.le_refl _
 | c :: t => by
  have:=zgb t
  unfold zaO
  split <;> simp only [List.length_cons] <;> omega
theorem zdD:∀ l:List UInt8,zaF l ≤ l.length
 | [] => Nat.le_refl _
 | c :: t => by
  have:=zdD t
  unfold zaF
  split <;> simp only [List.length_cons] <;> omega
section
variable [Tabs Tryz.prog] [Utf Tryz.prog] {objs:List OB} {K:List OB → AV → Prop}
set_option maxHeartbeats 4000000 in
theorem read_k (s:List UInt8) (a:Nat) (hs:s.length ≤ 140737488351232) (ha:a ≤ s.length)
  (h1:(zaD (s.drop a)).1 ≠ 0 → ∀ (kd:Int) (t:List UInt8) (b:Int),K objs (.tup [.i .i64 kd,.s t,.i .i64 b,.i .i64 (zaD (s.drop a)).1]))
  (h0:(zaD (s.drop a)).1=0 → K objs (.tup [.i .i64 (zaD (s.drop a)).2.1,.s (zaD (s.drop a)).2.2.1,.i .i64 ((a + (zaD (s.drop a)).2.2.2:Nat):Int),.i .i64 0])):zad Tryz.prog 34 [.s s,.i .i64 (a:Nat)] objs K:=by
 refine za8 is_token_read rfl fun C _ => ?_
 by_cases c0:(a:Int)=s.length
 ·obtain rfl:a=s.length:=by omega
  have he:zaD (s.drop s.length)=(0,1,[],0):=by rw [List.drop_length]; rfl
  rw [he] at h0
  simp only [c_token_read,sxZ,z6,z7,z8,j5,j6,j7,j8,j9,x3,x4,x5,x6,x7,x8,x9,reduceCtorEq,↓reduceIte]
  exact h0 rfl
 have hlt:a < s.length:=by omega
 have hg:=zaz hlt
 have hdc:=List.drop_eq_getElem_cons hlt
 rw [c_token_read]
 refine zaa fun Y1 hY1 => ?_
 simp only [sxZ,z6,z7,z8,j5,j6,j7,j8,j9,x3,x4,x5,x6,x7,x8,x9,reduceCtorEq,↓reduceIte]
 subst hY1
 refine zaa fun Y1 hY1 => ?_
 simp only [c0,sxZ,z6,z7,z8,j5,j6,j7,j8,j9,x3,x4,x5,x6,x7,x8,x9,reduceCtorEq,↓reduceIte]
 subst hY1
 refine zaa fun Y1 hY1 => ?_
 simp only [hg,sxZ,z6,z7,z8,j5,j6,j7,j8,j9,x3,x4,x5,x6,x7,x8,x9,reduceCtorEq,↓reduceIte]
 refine ⟨by omega,?_⟩
 refine zak (zhk _ s[a] ?_)
 by_cases c1:zbE s[a] [123,125,91,93,58,44]=true
 ·have he:zaD (s.drop a)=(0,2,[s[a]],1):=by rw [hdc,zaD,if_pos c1]
  rw [he] at h0
  have hi:=znN [123,125,91,93,58,44] s[a]
  rw [c1] at hi
  have hi:=of_decide_eq_true hi
  have hx:(s.take (a + 1)).drop a=[s[a]]:=by rw [zd3,hdc]; rfl
  have e1:((a:Int) + 1).toNat=a + 1:=by omega
  simp only [hi,c0,hg,e1,hx,sxZ,z6,z7,z8,j5,j6,j7,j8,j9,x3,x4,x5,x6,x7,x8,x9,reduceCtorEq,↓reduceIte]
  (and_intros <;> try omega)
  exact h0 rfl
 have hi:¬ (0:Int) ≤ Lib.indexByte [123,125,91,93,58,44] s[a]:=by
  intro h
  have hi:=znN [123,125,91,93,58,44] s[a]
  rw [decide_eq_true h] at hi
  exact c1 hi.symm
 by_cases c2:((s[a].toNat:Nat):Int)=34
 ·have hc:s[a]=34:=(zbL (by decide)).1 c2
  simp only [hi,c2,sxZ,z6,z7,z8,j5,j6,j7,j8,j9,x3,x4,x5,x6,x7,x8,x9,reduceCtorEq,↓reduceIte]
  have he:zaD (s.drop a)=if (zbY ((s.drop (a + 1)).length + 1) (s.drop (a + 1)) [] 0).1 ≠ 0 then ((zbY ((s.drop (a + 1)).length + 1) (s.drop (a + 1)) [] 0).1,0,[],0) else (0,3,(zbY ((s.drop (a + 1)).length + 1) (s.drop (a + 1)) [] 0).2.1,(zbY ((s.drop (a + 1)).length + 1) (s.drop (a + 1)) [] 0).2.2 + 1):=by
   rw [hdc,zaD,if_neg c1,if_pos hc]
  refine zak (zht s a hs hlt _ rfl (fun hR => ?_) (fun hR => ?_))
  ·rw [if_pos hR] at he
   rw [he] at h1
   simp only [sxZ,z6,z7,z8,j5,j6,j7,j8,j9,x3,x4,x5,x6,x7,x8,x9,reduceCtorEq,↓reduceIte]
   exact h1 hR _ _ _
  ·rw [if_neg (by rw [hR]; simp)] at he
   rw [he] at h0
   simp only [sxZ,z6,z7,z8,j5,j6,j7,j8,j9,x3,x4,x5,x6,x7,x8,x9,reduceCtorEq,↓reduceIte]
   have:=h0 rfl
   rw [show a + ((zbY ((s.drop (a + 1)).length + 1) (s.drop (a + 1)) [] 0).2.2 + 1)=a + 1 + (zbY ((s.drop (a + 1)).length + 1) (s.drop (a + 1)) [] 0).2.2 by omega] at this
   exact this
 have hc:¬ s[a]=34:=fun h => c2 ((zbL (by decide)).2 h)
 have num:(s[a]=45 ∨ zai s[a]=true) → ∀ (e:Int) (x:List UInt8) (n:Nat),zcC (s.drop a)=n → zaD (s.drop a)=if n=0 then (130,0,[],0) else (0,4,(s.drop a).take n,n):=by
  rintro h e x n rfl
  conv => lhs; rw [hdc]
  rw [zaD,if_neg c1,if_neg hc,if_pos h,← hdc]
 have hnl:=zgw (s.drop a)
 rw [List.length_drop] at hnl
 by_cases c3:((s[a].toNat:Nat):Int)=45
 ·have he:=num (.inl ((zbL (by decide)).1 c3)) 0 [] _ rfl
  simp only [hi,c3,sxZ,z6,z7,z8,j5,j6,j7,j8,j9,x3,x4,x5,x6,x7,x8,x9,reduceCtorEq,↓reduceIte]
  refine zak (zdu s a ha (by omega) ?_)
  generalize zcC (s.drop a)=n at *
  by_cases c4:n=0
  ·subst c4
   rw [if_pos rfl] at he
   rw [he] at h1
   simp only [Nat.add_zero,sxZ,z6,z7,z8,j5,j6,j7,j8,j9,x3,x4,x5,x6,x7,x8,x9,reduceCtorEq,↓reduceIte]
   exact h1 (by decide) _ _ _
  ·have c4':¬ ((a + n:Nat):Int)=a:=by omega
   rw [if_neg c4] at he
   rw [he] at h0
   simp only [c4',sxZ,z6,z7,z8,j5,j6,j7,j8,j9,x3,x4,x5,x6,x7,x8,x9,reduceCtorEq,↓reduceIte]
   rw [zd3]
   refine ⟨by omega,h0 rfl⟩
 have hc3:¬ s[a]=45:=fun h => c3 ((zbL (by decide)).2 h)
 simp only [hi,c2,c3,sxZ,z6,z7,z8,j5,j6,j7,j8,j9,x3,x4,x5,x6,x7,x8,x9,reduceCtorEq,↓reduceIte]
 refine zak (zkG s[a] ?_)
 by_cases c5:zai s[a]=true
 ·have he:=num (.inr c5) 0 [] _ rfl
  simp only [c5,sxZ,z6,z7,z8,j5,j6,j7,j8,j9,x3,x4,x5,x6,x7,x8,x9,reduceCtorEq,↓reduceIte]
  refine zak (zdu s a ha (by omega) ?_)
  generalize zcC (s.drop a)=n at *
  by_cases c4:n=0
  ·subst c4
   rw [if_pos rfl] at he
   rw [he] at h1
   simp only [Nat.add_zero,sxZ,z6,z7,z8,j5,j6,j7,j8,j9,x3,x4,x5,x6,x7,x8,x9,reduceCtorEq,↓reduceIte]
   exact h1 (by decide) _ _ _
  ·have c4':¬ ((a + n:Nat):Int)=a:=by omega
   rw [if_neg c4] at he
   rw [he] at h0
   simp only [c4',sxZ,z6,z7,z8,j5,j6,j7,j8,j9,x3,x4,x5,x6,x7,x8,x9,reduceCtorEq,↓reduceIte]
   rw [zd3]
   refine ⟨by omega,h0 rfl⟩
 have he:zaD (s.drop a)=if (s.drop a).take (zaO (s.drop a))=[116,114,117,101] ∨ (s.drop a).take (zaO (s.drop a))=[102,97,108,115,101] ∨ (s.drop a).take (zaO (s.drop a))=[110,117,108,108] then (0,5,(s.drop a).take (zaO (s.drop a)),zaO (s.drop a)) else (130,0,[],0):=by
  conv => lhs; rw [hdc]
  rw [zaD,if_neg c1,if_neg hc,if_neg (fun h => h.elim hc3 c5),← hdc]
 simp only [c5,sxZ,z6,z7,z8,j5,j6,j7,j8,j9,x3,x4,x5,x6,x7,x8,x9,reduceCtorEq,↓reduceIte]
 subst hY1
 refine zaa fun Y1 hY1 => ?_
 simp only [sxZ,z6,z7,z8,j5,j6,j7,j8,j9,x3,x4,x5,x6,x7,x8,x9,reduceCtorEq,↓reduceIte]
 subst hY1
 refine zaa fun Y1 hY1 => ?_
 refine zaP (fun o t => ∃ i:Nat,i ≤ s.length ∧ a ≤ i ∧ o=[] ∧ a + zaO (s.drop a)=i ∧ t.length=89 ∧ t[0]? = some (.s s) ∧ t[1]? = some (.i .i64 a) ∧ t[13]? = some (.i .i64 i)) ?_ ?_
 ·simp only [sxZ,z6,z7,z8,j5,j6,j7,j8,j9,x3,x4,x5,x6,x7,x8,x9,reduceCtorEq,↓reduceIte]
  refine zaQ (fun n objs tm => ∃ i:Nat,i ≤ s.length ∧ a ≤ i ∧ n=s.length - i ∧ objs=[] ∧ a + zaO (s.drop a)=i + zaO (s.drop i) ∧ tm.length=89 ∧ tm[0]? = some (.s s) ∧ tm[1]? = some (.i .i64 a) ∧ tm[13]? = some (.i .i64 i)) (s.length - a) ⟨a,ha,Nat.le_refl _,rfl,rfl,rfl,rfl,rfl,rfl,rfl⟩ ?_
  rintro n _ tm ⟨i,hil,hai,rfl,rfl,hr,hlen,t0,t1,t13⟩
  by_cases hlt2:(i:Int) < s.length
  ·have hlt':i < s.length:=by omega
   have hg2:=zaz hlt'
   have hrn:=word_at s i hlt'
   simp only [sxZ,z6,z7,z8,j5,j6,j7,j8,j9,x3,x4,x5,x6,x7,x8,x9,reduceCtorEq,↓reduceIte,List.getElem?_set,hlen,t0,t1,t13,hlt2]
   refine ⟨by omega,?_⟩
   rw [hg2]
   refine zak (aAlpha_k s[i] ?_)
   by_cases hd:zc0 s[i]=true
   ·rw [if_pos hd] at hrn
    simp only [hd,sxZ,z6,z7,z8,j5,j6,j7,j8,j9,x3,x4,x5,x6,x7,x8,x9,reduceCtorEq,↓reduceIte,List.getElem?_set,hlen,t0,t1,t13]
    exact ⟨⟨by omega,by omega⟩,s.length - (i + 1),by omega,i + 1,by omega,by omega,rfl,by omega,rfl⟩
   ·rw [if_neg hd] at hrn
    simp only [Bool.not_eq_true] at hd
    simp only [hd,zbu,zab,sxZ,z6,z7,z8,j5,j6,j7,j8,j9,x3,x4,x5,x6,x7,x8,x9,reduceCtorEq,↓reduceIte,List.getElem?_set,hlen,t0,t1,t13]
    exact ⟨i,hil,hai,by omega,rfl⟩
  ·obtain rfl:i=s.length:=by omega
   have hw:zaO (s.drop s.length)=0:=by rw [List.drop_length]; rfl
   simp only [hlt2,zbu,zab,sxZ,z6,z7,z8,j5,j6,j7,j8,j9,x3,x4,x5,x6,x7,x8,x9,reduceCtorEq,↓reduceIte,List.getElem?_set,hlen,t0,t1,t13]
   exact ⟨s.length,hil,hai,by omega,rfl⟩
 rintro _ tm ⟨i,hil,hai,rfl,hw,hlen,t0,t1,t13⟩
 subst hY1
 have hx:(s.take i).drop a=(s.drop a).take (zaO (s.drop a)):=by
  have:=zd3 s a (zaO (s.drop a))
  rw [hw] at this
  exact this
 rw [← hx] at he
 simp only [sxZ,z6,z7,z8,j5,j6,j7,j8,j9,x3,x4,x5,x6,x7,x8,x9,reduceCtorEq,↓reduceIte,List.getElem?_set,hlen,t0,t1,t13]
 refine ⟨by omega,?_⟩
 generalize (s.take i).drop a=x at *
 rw [hw.symm] at *
 by_cases d1:x=[116,114,117,101]
 ·rw [if_pos (.inl d1)] at he
  rw [he] at h0
  simp only [d1,sxZ,z6,z7,z8,j5,j6,j7,j8,j9,x3,x4,x5,x6,x7,x8,x9,reduceCtorEq,↓reduceIte,List.getElem?_set,hlen,t0,t1,t13]
  rw [d1] at h0
  exact h0 rfl
 by_cases d2:x=[102,97,108,115,101]
 ·rw [if_pos (.inr (.inl d2))] at he
  rw [he] at h0
  have n1:¬ ([102,97,108,115,101]:List UInt8)=[116,114,117,101]:=by decide
  simp only [d2,n1,sxZ,z6,z7,z8,j5,j6,j7,j8,j9,x3,x4,x5,x6,x7,x8,x9,reduceCtorEq,↓reduceIte,List.getElem?_set,hlen,t0,t1,t13]
  rw [d2] at h0
  exact h0 rfl
 by_cases d3:x=[110,117,108,108]
 ·rw [if_pos (.inr (.inr d3))] at he
  rw [he] at h0
  have n1:¬ ([110,117,108,108]:List UInt8)=[116,114,117,101]:=by decide
  have n2:¬ ([110,117,108,108]:List UInt8)=[102,97,108,115,101]:=by decide
  simp only [d3,n1,n2,sxZ,z6,z7,z8,j5,j6,j7,j8,j9,x3,x4,x5,x6,x7,x8,x9,reduceCtorEq,↓reduceIte,List.getElem?_set,hlen,t0,t1,t13]
  rw [d3] at h0
  exact h0 rfl
 rw [if_neg (by rintro (h | h | h); exact d1 h; exact d2 h; exact d3 h)] at he
 rw [he] at h1
 simp only [d1,d2,d3,sxZ,z6,z7,z8,j5,j6,j7,j8,j9,x3,x4,x5,x6,x7,x8,x9,reduceCtorEq,↓reduceIte,List.getElem?_set,hlen,t0,t1,t13]
 exact h1 (by decide) _ _ _
theorem zlI (s:List UInt8) (a:Int) (hs:s.length ≤ 140737488351232) (hk:K objs (zm1 (zat s a))):zad Tryz.prog 21 [.s s,.i .i64 a] objs K:=by
 refine za8 is_token_Next rfl fun C _ => ?_
 unfold zat zm1 at hk
 by_cases c0:a < 0
 ·rw [if_pos (.inl c0)] at hk
  simp only [c0,c_token_Next,sxZ,z6,z7,z8,j5,j6,j7,j8,j9,x3,x4,x5,x6,x7,x8,x9,reduceCtorEq,↓reduceIte]
  exact hk
 by_cases c1:(s.length:Int) < a
 ·rw [if_pos (.inr c1)] at hk
  simp only [c0,c1,c_token_Next,sxZ,z6,z7,z8,j5,j6,j7,j8,j9,x3,x4,x5,x6,x7,x8,x9,reduceCtorEq,↓reduceIte]
  exact hk
 rw [if_neg (by omega)] at hk
 obtain ⟨a,rfl⟩:∃ n:Nat,a=n:=⟨a.toNat,by omega⟩
 rw [Int.toNat_natCast] at hk
 rw [c_token_Next]
 refine zaa fun Y1 hY1 => ?_
 simp only [sxZ,z6,z7,z8,j5,j6,j7,j8,j9,x3,x4,x5,x6,x7,x8,x9,reduceCtorEq,↓reduceIte]
 subst hY1
 refine zaa fun Y1 hY1 => ?_
 simp only [c0,c1,sxZ,z6,z7,z8,j5,j6,j7,j8,j9,x3,x4,x5,x6,x7,x8,x9,reduceCtorEq,↓reduceIte]
 subst hY1
 refine zaa fun Y1 hY1 => ?_
 have hwl:=zdD (s.drop a)
 rw [List.length_drop] at hwl
 refine zaP (fun o t => o=[.box 51 [.i .i64 0,.s [],.i .i64 0]] ∧ t.length=49 ∧ t[0]? = some (.s s) ∧ t[1]? = some (.i .i64 ((a + zaF (s.drop a):Nat):Int)) ∧ t[4]? = some (.p 0 0)) ?_ ?_
 ·simp only [sxZ,z6,z7,z8,j5,j6,j7,j8,j9,x3,x4,x5,x6,x7,x8,x9,reduceCtorEq,↓reduceIte]
  refine zaQ (fun n objs tm => ∃ i:Nat,i ≤ s.length ∧ n=s.length - i ∧ objs=[.box 51 [.i .i64 0,.s [],.i .i64 0]] ∧ a + zaF (s.drop a)=i + zaF (s.drop i) ∧ tm.length=49 ∧ tm[0]? = some (.s s) ∧ tm[1]? = some (.i .i64 i) ∧ tm[4]? = some (.p 0 0)) (s.length - a) ⟨a,by omega,rfl,rfl,rfl,rfl,rfl,rfl,rfl⟩ ?_
  rintro n _ tm ⟨i,hil,rfl,rfl,hr,hlen,t0,t1,t4⟩
  by_cases hlt2:(i:Int) < s.length
  ·have hlt':i < s.length:=by omega
   have hg2:=zaz hlt'
   have hrn:=white_at s i hlt'
   simp only [sxZ,z6,z7,z8,j5,j6,j7,j8,j9,x3,x4,x5,x6,x7,x8,x9,reduceCtorEq,↓reduceIte,List.getElem?_set,hlen,t0,t1,t4,hlt2]
   refine ⟨by omega,?_⟩
   rw [hg2]
   refine zak (znK s[i] ?_)
   by_cases hd:zaS s[i]=true
   ·rw [if_pos hd] at hrn
    simp only [hd,sxZ,z6,z7,z8,j5,j6,j7,j8,j9,x3,x4,x5,x6,x7,x8,x9,reduceCtorEq,↓reduceIte,List.getElem?_set,hlen,t0,t1,t4]
    exact ⟨⟨by omega,by omega⟩,s.length - (i + 1),by omega,i + 1,by omega,rfl,by omega,rfl⟩
   ·rw [if_neg hd] at hrn
    simp only [Bool.not_eq_true] at hd
    simp only [hd,zbu,zab,sxZ,z6,z7,z8,j5,j6,j7,j8,j9,x3,x4,x5,x6,x7,x8,x9,reduceCtorEq,↓reduceIte,List.getElem?_set,hlen,t0,t1,t4]
    rw [hr,hrn]; rfl
  ·obtain rfl:i=s.length:=by omega
   have hw:zaF (s.drop s.length)=0:=by rw [List.drop_length]; rfl
   simp only [hlt2,zbu,zab,sxZ,z6,z7,z8,j5,j6,j7,j8,j9,x3,x4,x5,x6,x7,x8,x9,reduceCtorEq,↓reduceIte,List.getElem?_set,hlen,t0,t1,t4]
   rw [hr,hw]; rfl
 rintro _ tm ⟨rfl,hlen,t0,t1,t4⟩
 subst hY1
 have hwl:a + zaF (s.drop a) ≤ s.length:=by omega
 generalize a + zaF (s.drop a)=i at *
 simp only [sxZ,z6,z7,z8,j5,j6,j7,j8,j9,x3,x4,x5,x6,x7,x8,x9,reduceCtorEq,↓reduceIte,List.getElem?_set,hlen,t0,t1,t4]
 refine zak (read_k s i hs hwl (fun hR kd t b => ?_) (fun hR => ?_))
 ·rw [if_pos hR] at hk
  simp only [hR,sxZ,z6,z7,z8,j5,j6,j7,j8,j9,x3,x4,x5,x6,x7,x8,x9,reduceCtorEq,↓reduceIte,List.getElem?_set,hlen,t0,t1,t4]
  exact hk
 ·rw [if_neg (by rw [hR]; simp)] at hk
  simp only [sxZ,z6,z7,z8,j5,j6,j7,j8,j9,x3,x4,x5,x6,x7,x8,x9,reduceCtorEq,↓reduceIte,List.getElem?_set,hlen,t0,t1,t4]
  exact hk
end
theorem rn_condH {P:Program} [Tabs P] {C:Cx} {F:zaH} {k:List IT} {objs:List OB} {tm:List AV} {c:SV} {x y:SCode} (h:∀ X,X=x → run P C (.code (.cond c X y) :: k) objs tm F):run P C (.code (.cond c x y) :: k) objs tm F:=h x rfl
section
variable [Tabs Tryz.prog] {objs:List OB} {K:List OB → AV → Prop}
theorem zix (s:List UInt8) (a:Nat) (hk:K objs (.s (s.drop a))):zad Tryz.prog 68 [.s s,.i .i64 (a:Nat)] objs K:=by
 refine za8 is_ref13_tail rfl fun C _ => ?_
 by_cases c0:(s.length:Int) ≤ a
 ·rw [List.drop_of_length_le (by omega)] at hk
  simp only [c0,c_ref13_tail,sxZ,z6,z7,z8,j5,j6,j7,j8,j9,x3,x4,x5,x6,x7,x8,x9,reduceCtorEq,↓reduceIte]
  exact hk
 ·simp only [c0,c_ref13_tail,sxZ,z6,z7,z8,j5,j6,j7,j8,j9,x3,x4,x5,x6,x7,x8,x9,reduceCtorEq,↓reduceIte]
  exact ⟨by omega,hk⟩
theorem zl5 (s:List UInt8) (hs:s.length ≤ 9000000000000000000) (hk:K objs (.i .i64 (zaM s:Nat))):zad Tryz.prog 90 [.s s] objs K:=by
 refine za8 is_ref13_run rfl fun C _ => ?_
 simp only [c_ref13_run,sxZ,z6,z7,z8,j5,j6,j7,j8,j9,x3,x4,x5,x6,x7,x8,x9,reduceCtorEq,↓reduceIte]
 refine zaQ (fun n objs tm => ∃ i:Nat,i ≤ s.length ∧ n=s.length - i ∧ objs=[] ∧ zaM s=i + zaM (s.drop i) ∧ tm.length=17 ∧ tm[0]? = some (.s s) ∧ tm[3]? = some (.i .i64 i)) s.length ⟨0,Nat.zero_le _,rfl,rfl,by simp,rfl,rfl,rfl⟩ ?_
 rintro n _ tm ⟨i,hi,rfl,rfl,hr,hlen,t0,t3⟩
 by_cases hlt:(i:Int) < s.length
 ·have hlt':i < s.length:=by omega
  have hg:=zaz hlt'
  have hrn:=zl2 s i hlt'
  simp only [sxZ,z6,z7,z8,j5,j6,j7,j8,j9,x3,x4,x5,x6,x7,x8,x9,reduceCtorEq,↓reduceIte,List.getElem?_set,hlen,t0,t3,hlt]
  refine ⟨by omega,?_⟩
  rw [hg]
  refine zak (zhx s[i] ?_)
  by_cases hd:zai s[i]=true
  ·rw [if_pos hd] at hrn
   simp only [hd,sxZ,z6,z7,z8,j5,j6,j7,j8,j9,x3,x4,x5,x6,x7,x8,x9,reduceCtorEq,↓reduceIte,List.getElem?_set,hlen,t0,t3]
   exact ⟨⟨by omega,by omega⟩,s.length - (i + 1),by omega,i + 1,by omega,rfl,by omega,rfl⟩
  ·rw [if_neg hd] at hrn
   simp only [Bool.not_eq_true] at hd
   simp only [hd,sxZ,z6,z7,z8,j5,j6,j7,j8,j9,x3,x4,x5,x6,x7,x8,x9,reduceCtorEq,↓reduceIte,List.getElem?_set,hlen,t0,t3]
   rw [hr,hrn] at hk
   exact hk
 ·obtain rfl:i=s.length:=by omega
  simp only [sxZ,z6,z7,z8,j5,j6,j7,j8,j9,x3,x4,x5,x6,x7,x8,x9,reduceCtorEq,↓reduceIte,List.getElem?_set,hlen,t0,t3,hlt]
  rw [hr,zl1] at hk
  exact hk
set_option maxHeartbeats 4000000 in
theorem zkS (s:List UInt8) (hs:s.length ≤ 140737488351232) (hk:K objs (.i .i64 (zcC s:Nat))):zad Tryz.prog 65 [.s s] objs K:=by
 refine za8 is_ref13_numeral rfl fun C _ => ?_
 have hmx:=zbC
 rw [c_ref13_numeral]
 refine zaa fun Y1 hY1 => ?_
 simp only [sxZ,z6,z7,z8,j5,j6,j7,j8,j9,x3,x4,x5,x6,x7,x8,x9,reduceCtorEq,↓reduceIte]
 subst hY1
 refine zaa fun Y1 hY1 => ?_
 simp only [sxZ,z6,z7,z8,j5,j6,j7,j8,j9,x3,x4,x5,x6,x7,x8,x9,reduceCtorEq,↓reduceIte]
 subst hY1
 refine zaa fun Y1 hY1 => ?_
 refine zaP (fun o t => o=[] ∧ t.length=99 ∧ t[0]? = some (.s s) ∧ t[3]? = some (.i .i64 (za0 s:Nat))) ?_ ?_
 ·unfold za0
  by_cases c1:(0:Int) < s.length
  ·have c1':0 < s.length:=by omega
   have hg:=zaz c1'
   have h45:s[0]? = some 45 ↔ ((s[0].toNat:Nat):Int)=45:=zej c1' 45 (by decide)
   by_cases c2:((s[0].toNat:Nat):Int)=45
   ·rw [if_pos (h45.2 c2)]
    simp only [c1,hg,c2,zab,sxZ,z6,z7,z8,j5,j6,j7,j8,j9,x3,x4,x5,x6,x7,x8,x9,reduceCtorEq,↓reduceIte]
    rfl
   ·rw [if_neg (fun h => c2 (h45.1 h))]
    simp only [c1,hg,c2,zab,sxZ,z6,z7,z8,j5,j6,j7,j8,j9,x3,x4,x5,x6,x7,x8,x9,reduceCtorEq,↓reduceIte]
    rfl
  ·rw [if_neg (zbh (by omega))]
   simp only [c1,zab,sxZ,z6,z7,z8,j5,j6,j7,j8,j9,x3,x4,x5,x6,x7,x8,x9,reduceCtorEq,↓reduceIte]
   rfl
 rintro _ tm ⟨rfl,hlen,t0,t3⟩
 subst hY1
 have hsg:za0 s ≤ s.length:=by
  unfold za0
  split
  ·rename_i h
   have:=(List.getElem?_eq_some_iff.1 h).1
   omega
  ·omega
 refine zaa fun Y1 hY1 => ?_
 unfold zcC at hk
 have hw:zaA s=if s[za0 s]? = some 48 then za0 s + 1 else za0 s + zaM (s.drop (za0 s)):=rfl
 have hrl:0 < zaM (s.drop (za0 s)) → za0 s + zaM (s.drop (za0 s)) ≤ s.length:=zaJ s _
 generalize za0 s=g at *
 by_cases c0:(g:Int)=s.length
 ·have hr0:zaM (s.drop g)=0:=by rw [List.drop_of_length_le (by omega)]; rfl
  rw [if_pos hr0] at hk
  simp only [c0,sxZ,z6,z7,z8,j5,j6,j7,j8,j9,x3,x4,x5,x6,x7,x8,x9,reduceCtorEq,↓reduceIte,List.getElem?_set,hlen,t0,t3]
  exact hk
 have c1':g < s.length:=by omega
 have hg:=zaz c1'
 have hrun:=zl2 s g c1'
 simp only [c0,hg,sxZ,z6,z7,z8,j5,j6,j7,j8,j9,x3,x4,x5,x6,x7,x8,x9,reduceCtorEq,↓reduceIte,List.getElem?_set,hlen,t0,t3]
 refine ⟨by omega,?_⟩
 refine zak (zhx s[g] ?_)
 by_cases c2:zai s[g]=true
 case neg =>
  rw [if_neg c2] at hrun
  rw [if_pos hrun] at hk
  simp only [Bool.not_eq_true] at c2
  simp only [c2,sxZ,z6,z7,z8,j5,j6,j7,j8,j9,x3,x4,x5,x6,x7,x8,x9,reduceCtorEq,↓reduceIte,List.getElem?_set,hlen,t0,t3]
  exact hk
 rw [if_pos c2] at hrun
 rw [if_neg (by omega)] at hk
 simp only [c2,sxZ,z6,z7,z8,j5,j6,j7,j8,j9,x3,x4,x5,x6,x7,x8,x9,reduceCtorEq,↓reduceIte,List.getElem?_set,hlen,t0,t3]
 subst hY1
 refine zaa fun Y1 hY1 => ?_
 refine zaP (fun o t => o=[] ∧ t.length=99 ∧ t[0]? = some (.s s) ∧ t[3]? = some (.i .i64 (zaA s:Nat))) ?_ ?_
 ·have h48:s[g]? = some 48 ↔ ((s[g].toNat:Nat):Int)=48:=zej c1' 48 (by decide)
  rw [hw]
  by_cases c3:((s[g].toNat:Nat):Int)=48
  ·rw [if_pos (h48.2 c3)]
   simp only [hg,c3,zab,sxZ,z6,z7,z8,j5,j6,j7,j8,j9,x3,x4,x5,x6,x7,x8,x9,reduceCtorEq,↓reduceIte,List.getElem?_set,hlen,t0,t3]
   and_intros <;> first | omega | exact iv (by omega) | rfl | assumption
  ·rw [if_neg (fun h => c3 (h48.1 h))]
   simp only [hg,c3,zab,sxZ,z6,z7,z8,j5,j6,j7,j8,j9,x3,x4,x5,x6,x7,x8,x9,reduceCtorEq,↓reduceIte,List.getElem?_set,hlen,t0,t3]
   refine ⟨by omega,by omega,?_⟩
   refine zak (zl5 _ (by rw [List.length_drop]; omega) ?_)
   have:=hrl (by omega)
   simp only [zab,sxZ,z6,z7,z8,j5,j6,j7,j8,j9,x3,x4,x5,x6,x7,x8,x9,reduceCtorEq,↓reduceIte,List.getElem?_set,hlen,t0,t3]
   and_intros <;> first | omega | exact iv (by omega) | rfl | assumption
 rintro _ tm ⟨rfl,hlen,t0,t3⟩
 subst hY1
 refine zaa fun Y1 hY1 => ?_
 have hwl:zaA s ≤ s.length:=by
  rw [hw]
  have:=hrl (by omega)
  split <;> omega
 have hf:zby s (zaA s)=if s[zaA s]? = some 46 ∧ 0 < zaM (s.drop (zaA s + 1)) then zaA s + 1 + zaM (s.drop (zaA s + 1)) else zaA s:=rfl
 generalize zaA s=w at *
 clear hw hrl hrun hg c2 c0 c1'
 refine zaP (fun o t => o=[] ∧ t.length=99 ∧ t[0]? = some (.s s) ∧ t[3]? = some (.i .i64 (zby s w:Nat))) ?_ ?_
 ·rw [hf]
  simp only [sxZ,z6,z7,z8,j5,j6,j7,j8,j9,x3,x4,x5,x6,x7,x8,x9,reduceCtorEq,↓reduceIte,List.getElem?_set,hlen,t0,t3]
  refine ⟨by omega,?_⟩
  refine zak (zix s (w + 1) ?_)
  simp only [sxZ,z6,z7,z8,j5,j6,j7,j8,j9,x3,x4,x5,x6,x7,x8,x9,reduceCtorEq,↓reduceIte,List.getElem?_set,hlen,t0,t3]
  refine zak (zl5 _ (by rw [List.length_drop]; omega) ?_)
  have hr:=zaJ s (w + 1)
  generalize zaM (s.drop (w + 1))=r at *
  by_cases c1:(w:Int) < s.length
  ·have c1':w < s.length:=by omega
   have hg:=zaz c1'
   have h46:s[w]? = some 46 ↔ ((s[w].toNat:Nat):Int)=46:=zej c1' 46 (by decide)
   by_cases c2:((s[w].toNat:Nat):Int)=46
   ·by_cases c3:0 < r
    ·rw [if_pos ⟨h46.2 c2,c3⟩]
     have c3':(0:Int) < r:=by omega
     simp only [c1,hg,c2,c3',zab,sxZ,z6,z7,z8,j5,j6,j7,j8,j9,x3,x4,x5,x6,x7,x8,x9,reduceCtorEq,↓reduceIte,List.getElem?_set,hlen,t0,t3]
     and_intros <;> first | omega | exact iv (by omega) | rfl | assumption
    ·rw [if_neg (fun h => c3 h.2)]
     have c3':¬ (0:Int) < r:=by omega
     simp only [c1,hg,c2,c3',zab,sxZ,z6,z7,z8,j5,j6,j7,j8,j9,x3,x4,x5,x6,x7,x8,x9,reduceCtorEq,↓reduceIte,List.getElem?_set,hlen,t0,t3]
     and_intros <;> first | omega | exact iv (by omega) | rfl | assumption
   ·rw [if_neg (fun h => c2 (h46.1 h.1))]
    simp only [c1,hg,c2,zab,sxZ,z6,z7,z8,j5,j6,j7,j8,j9,x3,x4,x5,x6,x7,x8,x9,reduceCtorEq,↓reduceIte,List.getElem?_set,hlen,t0,t3]
    and_intros <;> first | omega | exact iv (by omega) | rfl | assumption
  ·rw [if_neg (fun h => zbh (by omega) h.1)]
   simp only [c1,zab,sxZ,z6,z7,z8,j5,j6,j7,j8,j9,x3,x4,x5,x6,x7,x8,x9,reduceCtorEq,↓reduceIte,List.getElem?_set,hlen,t0,t3]
 rintro _ tm ⟨rfl,hlen,t0,t3⟩
 subst hY1
 refine zaa fun Y1 hY1 => ?_
 have hfl:zby s w ≤ s.length:=by
  rw [hf]
  split
  ·rename_i h
   have:=zaJ s (w + 1) h.2
   omega
  ·exact hwl
 generalize zby s w=f at *
 clear hf
 have hx:zaT s f=if s[f + 1]? = some 43 ∨ s[f + 1]? = some 45 then f + 2 else f + 1:=rfl
 have he:ziW s f=if (s[f]? = some 101 ∨ s[f]? = some 69) ∧ 0 < zaM (s.drop (zaT s f)) then zaT s f + zaM (s.drop (zaT s f)) else f:=rfl
 have in2:∀ (i:Nat) (hi:i < s.length) (x y:UInt8),zbE s[i] [x,y]=decide (s[i]? = some x ∨ s[i]? = some y):=by
  intro i hi x y
  rw [List.getElem?_eq_getElem hi]
  simp [zbE,eq_comm]
 refine zaP (fun o t => o=[] ∧ t.length=99 ∧ t[3]? = some (.i .i64 (ziW s f:Nat))) ?_ ?_
 ·refine zaa fun Y2 hY2 => ?_
  refine zaP (fun o t => o=[] ∧ t.length=99 ∧ t[0]? = some (.s s) ∧ t[3]? = some (.i .i64 (f:Nat)) ∧ t[74]? = some (.b (decide (s[f]? = some 101 ∨ s[f]? = some 69)))) ?_ ?_
  ·by_cases c1:(f:Int) < s.length
   ·have c1':f < s.length:=by omega
    have hg:=zaz c1'
    simp only [c1,hg,sxZ,z6,z7,z8,j5,j6,j7,j8,j9,x3,x4,x5,x6,x7,x8,x9,reduceCtorEq,↓reduceIte,List.getElem?_set,hlen,t0,t3]
    refine ⟨by omega,?_⟩
    refine zak (zmx _ _ (by decide) ?_)
    rw [in2 f c1']
    generalize decide (s[f]? = some 101 ∨ s[f]? = some 69)=E
    simp only [zab,sxZ,z6,z7,z8,j5,j6,j7,j8,j9,x3,x4,x5,x6,x7,x8,x9,reduceCtorEq,↓reduceIte,List.getElem?_set,hlen,t0,t3]
   ·have hE:¬ (s[f]? = some 101 ∨ s[f]? = some 69):=fun h => h.elim (zbh (by omega)) (zbh (by omega))
    simp only [c1,hE,zab,sxZ,z6,z7,z8,j5,j6,j7,j8,j9,x3,x4,x5,x6,x7,x8,x9,reduceCtorEq,↓reduceIte,List.getElem?_set,hlen,t0,t3]
  rintro _ tm ⟨rfl,hlen,t0,t3,t74⟩
  subst hY2
  refine rn_condH fun X hX => ?_
  by_cases hE:s[f]? = some 101 ∨ s[f]? = some 69
  case neg =>
   rw [he,if_neg (fun h => hE h.1)]
   simp only [hE,zab,sxZ,z6,z7,z8,j5,j6,j7,j8,j9,x3,x4,x5,x6,x7,x8,x9,reduceCtorEq,↓reduceIte,List.getElem?_set,hlen,t0,t3,t74]
  have c1':f < s.length:=by
   rcases hE with h | h
   all_goals exact (List.getElem?_eq_some_iff.1 h).1
  simp only [hE,sxZ,z6,z7,z8,j5,j6,j7,j8,j9,x3,x4,x5,x6,x7,x8,x9,reduceCtorEq,↓reduceIte,List.getElem?_set,hlen,t0,t3,t74]
  subst hX
  refine zaa fun Y2 hY2 => ?_
  refine zaP (fun o t => o=[] ∧ t.length=99 ∧ t[0]? = some (.s s) ∧ t[3]? = some (.i .i64 (f:Nat)) ∧ t[5]? = some (.i .i64 ((f:Int) + 1))) ?_ ?_
  ·simp only [zab,sxZ,z6,z7,z8,j5,j6,j7,j8,j9,x3,x4,x5,x6,x7,x8,x9,reduceCtorEq,↓reduceIte,List.getElem?_set,hlen,t0,t3]
   and_intros <;> first | omega | exact iv (by omega) | rfl | assumption
  rintro _ tm ⟨rfl,hlen,t0,t3,t5⟩
  subst hY2
  refine zaa fun Y2 hY2 => ?_
  refine zaP (fun o t => o=[] ∧ t.length=99 ∧ t[0]? = some (.s s) ∧ t[3]? = some (.i .i64 (f:Nat)) ∧ t[5]? = some (.i .i64 (zaT s f:Nat))) ?_ ?_
  ·rw [hx]
   by_cases d1:(f:Int) + 1 < s.length
   ·have d1':f + 1 < s.length:=by omega
    have hg2:=zaz d1'
    have e1:((f:Int) + 1).toNat=f + 1:=by omega
    simp only [d1,e1,hg2,sxZ,z6,z7,z8,j5,j6,j7,j8,j9,x3,x4,x5,x6,x7,x8,x9,reduceCtorEq,↓reduceIte,List.getElem?_set,hlen,t0,t3,t5]
    refine ⟨by omega,?_⟩
    refine zak (zmx _ _ (by decide) ?_)
    rw [in2 (f + 1) d1']
    by_cases c4:s[f + 1]? = some 43 ∨ s[f + 1]? = some 45
    ·rw [if_pos c4]
     simp only [c4,zab,sxZ,z6,z7,z8,j5,j6,j7,j8,j9,x3,x4,x5,x6,x7,x8,x9,reduceCtorEq,↓reduceIte,List.getElem?_set,hlen,t0,t3,t5]
     and_intros <;> first | omega | exact iv (by omega) | rfl | assumption
    ·rw [if_neg c4]
     simp only [c4,zab,sxZ,z6,z7,z8,j5,j6,j7,j8,j9,x3,x4,x5,x6,x7,x8,x9,reduceCtorEq,↓reduceIte,List.getElem?_set,hlen,t0,t3,t5]
     and_intros <;> first | omega | exact iv (by omega) | rfl | assumption
   ·rw [if_neg (fun h => h.elim (zbh (by omega)) (zbh (by omega)))]
    simp only [d1,zab,sxZ,z6,z7,z8,j5,j6,j7,j8,j9,x3,x4,x5,x6,x7,x8,x9,reduceCtorEq,↓reduceIte,List.getElem?_set,hlen,t0,t3,t5]
    and_intros <;> first | omega | exact iv (by omega) | rfl | assumption
  rintro _ tm ⟨rfl,hlen,t0,t3,t5⟩
  subst hY2
  have hxl:zaT s f ≤ s.length:=by
   rw [hx]
   split
   ·rename_i h
    rcases h with h | h
    all_goals
     have:=(List.getElem?_eq_some_iff.1 h).1
     omega
   ·omega
  have hrl:=zaJ s (zaT s f)
  generalize zaT s f=x at *
  simp only [sxZ,z6,z7,z8,j5,j6,j7,j8,j9,x3,x4,x5,x6,x7,x8,x9,reduceCtorEq,↓reduceIte,List.getElem?_set,hlen,t0,t3,t5]
  refine zak (zix s x ?_)
  simp only [sxZ,z6,z7,z8,j5,j6,j7,j8,j9,x3,x4,x5,x6,x7,x8,x9,reduceCtorEq,↓reduceIte,List.getElem?_set,hlen,t0,t3,t5]
  refine zak (zl5 _ (by rw [List.length_drop]; omega) ?_)
  generalize zaM (s.drop x)=r at *
  rw [he]
  by_cases c4:0 < r
  ·rw [if_pos ⟨hE,c4⟩]
   have c4':(0:Int) < r:=by omega
   simp only [c4',zab,sxZ,z6,z7,z8,j5,j6,j7,j8,j9,x3,x4,x5,x6,x7,x8,x9,reduceCtorEq,↓reduceIte,List.getElem?_set,hlen,t0,t3,t5]
   and_intros <;> first | omega | exact iv (by omega) | rfl | assumption
  ·rw [if_neg (fun h => c4 h.2)]
   have c4':¬ (0:Int) < r:=by omega
   simp only [c4',zab,sxZ,z6,z7,z8,j5,j6,j7,j8,j9,x3,x4,x5,x6,x7,x8,x9,reduceCtorEq,↓reduceIte,List.getElem?_set,hlen,t0,t3,t5]
 rintro _ tm ⟨rfl,hlen,t3⟩
 subst hY1
 simp only [sxZ,z6,z7,z8,j5,j6,j7,j8,j9,x3,x4,x5,x6,x7,x8,x9,reduceCtorEq,↓reduceIte,List.getElem?_set,hlen,t3]
 exact hk
end
end Go.Proofs.YthmdohgkmdkeeaaGreatDoor
namespace Go.Proofs.YthmdohgkmdkeeaaGreatDoor
open Go.RowKit
theorem read_quo {l:List UInt8} {e:Int} {x:List UInt8} {n:Nat} (h:zbY (l.length + 1) l [] 0=(e,x,n)):zaD (34 :: l)=if e ≠ 0 then (e,0,[],0) else (0,3,x,n + 1):=by
 rw [zaD,if_neg (by decide),if_pos rfl,h]
end Go.Proofs.YthmdohgkmdkeeaaGreatDoor
namespace Go.Proofs.YthmdohgkmdkeeaaGreatDoor
open Go.RowKit Sx
theorem zlD {p:NumS} (hp:p.Good):p.neg=decide (p.txt[0]? = some 45):=by
 obtain ⟨c,t,e1,e2⟩:=zbD hp.i0 hp.i1
 unfold NumS.txt
 cases p.neg with
 | true => rfl
 | false =>
  rw [e1]
  have:c ≠ 45:=zbf e2 rfl
  simp [sgT,this]
theorem num_uniq {p q:NumS} (hp:p.Good) (hq:q.Good) (h:p.txt=q.txt):p=q:=by
 have hn:p.neg=q.neg:=by rw [zlD hp,zlD hq,h]
 unfold NumS.txt at h
 rw [hn] at h
 have h:=List.append_cancel_left h
 have r1:=zca p.int _ hp.i1 (ze6 hp)
 have r2:=zca q.int _ hq.i1 (ze6 hq)
 rw [h,r2] at r1
 obtain ⟨hi,hR⟩:=List.append_inj h r1.symm
 have hx:p.fr=q.fr ∧ exT p.ex=exT q.ex:=by
  cases h1:p.fr with
  | nil =>
   cases h2:q.fr with
   | nil => rw [h1,h2] at hR; exact ⟨rfl,hR⟩
   | cons b u =>
    rw [h1,h2] at hR
    exfalso
    rcases zdU hp 46 (by rw [show exT p.ex=frT (b :: u) ++ exT q.ex from hR]; rfl) with h3 | h3 <;> cases h3
  | cons a t =>
   cases h2:q.fr with
   | nil =>
    rw [h1,h2] at hR
    exfalso
    rcases zdU hq 46 (by rw [show exT q.ex=frT (a :: t) ++ exT p.ex from hR.symm]; rfl) with h3 | h3 <;> cases h3
   | cons b u =>
    rw [h1,h2] at hR
    have hR:(46:UInt8) :: ((a :: t) ++ exT p.ex)=46 :: ((b :: u) ++ exT q.ex):=hR
    injection hR with _ hR
    have hd:∀ {r:NumS},r.Good → ∀ c,(exT r.ex)[0]? = some c → zai c=false:=fun hr c h => by
     rcases zdU hr c h with rfl | rfl <;> rfl
    have k1:=zca (a :: t) _ (by rw [← h1]; exact hp.f1) (hd hp)
    have k2:=zca (b :: u) _ (by rw [← h2]; exact hq.f1) (hd hq)
    rw [hR,k2] at k1
    exact List.append_inj hR k1.symm
 have he:p.ex=q.ex:=by
  have h3:=hx.2
  cases h1:p.ex with
  | none =>
   cases h2:q.ex with
   | none => rfl
   | some e => obtain ⟨c,s,d⟩:=e; rw [h1,h2] at h3; cases h3
  | some e =>
   obtain ⟨c,s,d⟩:=e
   cases h2:q.ex with
   | none => rw [h1,h2] at h3; cases h3
   | some e' =>
    obtain ⟨c',s',d'⟩:=e'
    have k1:=(ziX 0 hp h1).2
    have k2:=(ziX 0 hq h2).2
    rw [h1,h2] at h3
    have h3:c :: (s ++ d)=c' :: (s' ++ d'):=h3
    injection h3 with e1 e2
    rw [e2,k2] at k1
    subst k1
    rw [e1,List.append_cancel_right e2]
 obtain ⟨pn,pi,pf,pe⟩:=p
 obtain ⟨qn,qi,qf,qe⟩:=q
 simp only at hn hi hx he
 rw [hn,hi,hx.1,he]
section
variable [Tabs Tryz.prog] {objs:List OB} {K:List OB → AV → Prop}
end
end Go.Proofs.YthmdohgkmdkeeaaGreatDoor
namespace Go.Proofs.YthmdohgkmdkeeaaGreatDoor
open Nat renaming reduceAdd → z6, reduceSub → z7, reduceLeDiff → z8, reduceLT → j5, reduceMul → j6, reduceEqDiff → j7
open Int renaming reduceToNat → j8, reduceAdd → j9, reduceSub → x3, reduceMul → x4, reduceNeg → x5, reduceLT → x6, reduceLE → x7, reduceEq → x8, reduceNe → x9
open Go.RowKit Sx
theorem minV_at (c:Nat) (l:List UInt8) (i n:Nat) (h:i < l.length):ziL c (l.drop i) n=ziL c (l.drop (i + 1)) (min (n * 10 + (l[i].toNat - 48)) c):=by
 rw [List.drop_eq_getElem_cons h,ziL]
theorem zoz {p:NumS} (hp:p.Good):zk8 p.body [101,69]=(p.int ++ frT p.fr).length:=by
 have hno:(p.int ++ frT p.fr).findIdx (fun c => zbE c [101,69])=(p.int ++ frT p.fr).length:=by
  rw [List.findIdx_eq_length]
  intro c hc
  rcases List.mem_append.1 hc with h | h
  ·exact (zbF (List.all_eq_true.1 hp.i1 c h)).2.1
  ·exact (ziV hp.f1 c h).2
 unfold zk8 NumS.body
 rw [← List.append_assoc,List.findIdx_append,hno,if_neg (by omega)]
 cases he:p.ex with
 | none => simp [exT]
 | some e =>
  obtain ⟨k,s,d⟩:=e
  have:(exT (some (k,s,d))).findIdx (fun c => zbE c [101,69])=0:=by
   unfold exT
   rw [List.findIdx_cons]
   rcases (hp.e1 k s d he).1 with rfl | rfl <;> rfl
  rw [this,Nat.zero_add]
theorem zh8 (p:NumS):p.body.take (p.int ++ frT p.fr).length=p.int ++ frT p.fr:=by
 unfold NumS.body
 rw [← List.append_assoc,List.take_left]
theorem body_exp {p:NumS} (hp:p.Good) (c:Nat):expC c (p.body.drop ((p.int ++ frT p.fr).length + 1))=zew c p.ex ∧ (zd6 (p.body.drop ((p.int ++ frT p.fr).length + 1))).all zai=true:=by
 have hd:p.body.drop ((p.int ++ frT p.fr).length + 1)=(exT p.ex).drop 1:=by
  unfold NumS.body
  rw [← List.append_assoc,← List.drop_drop,List.drop_left]
 rw [hd]
 cases he:p.ex with
 | none => exact ⟨rfl,rfl⟩
 | some e =>
  obtain ⟨k,s,d⟩:=e
  have h:=ziX c hp he
  have h4:=(hp.e1 k s d he).2.2.2
  rw [he] at h
  show expC c (s ++ d)=_ ∧ (zd6 (s ++ d)).all zai=true
  rw [h.2]
  exact ⟨h.1,h4⟩
theorem zR_last {l:List UInt8} (h:l ≠ []) (h2:l.getLast h ≠ 48):zR l=l:=by
 unfold zR
 rw [zL_id,List.reverse_reverse]
 intro c hc
 rw [← List.head?_eq_getElem?,List.head?_reverse,List.getLast?_eq_some_getLast h] at hc
 injection hc with hc
 rw [← hc]; exact h2
section
variable [Tabs Tryz.prog] {objs:List OB} {K:List OB → AV → Prop}
set_option maxHeartbeats 2000000 in
theorem ziy (l:List UInt8) (hl:l.length ≤ 140737488351232) (hd:(zd6 l).all zai=true) (hk:K objs (.i .i64 (expC 1073741824 l))):zad Tryz.prog 67 [.s l] objs K:=by
 refine za8 is_ref13_exponent rfl fun C _ => ?_
 rw [c_ref13_exponent]
 refine zaa fun Y1 hY1 => ?_
 simp only [sxZ,z6,z7,z8,j5,j6,j7,j8,j9,x3,x4,x5,x6,x7,x8,x9,reduceCtorEq,↓reduceIte]
 subst hY1
 refine zaa fun Y1 hY1 => ?_
 refine zaP (fun o t => o=[] ∧ t.length=41 ∧ t[0]? = some (.s l) ∧ t[3]? = some (.b (negE l))) ?_ ?_
 ·unfold negE
  by_cases c0:l=[]
  ·subst c0
   simp [zab,sxZ,z6,z7,z8,j5,j6,j7,j8,j9,x3,x4,x5,x6,x7,x8,x9,reduceCtorEq,↓reduceIte]
  ·have l0:0 < l.length:=List.length_pos_iff.2 c0
   have g0:=zaz l0
   have h45:l[0]? = some 45 ↔ ((l[0].toNat:Nat):Int)=45:=zej l0 45 (by decide)
   simp only [c0,g0,zab,sxZ,z6,z7,z8,j5,j6,j7,j8,j9,x3,x4,x5,x6,x7,x8,x9,reduceCtorEq,↓reduceIte]
   refine ⟨by omega,?_⟩
   by_cases c1:((l[0].toNat:Nat):Int)=45
   ·rw [decide_eq_true c1,decide_eq_true (h45.2 c1)]
   ·rw [decide_eq_false c1,decide_eq_false (fun h => c1 (h45.1 h))]
 rintro _ tm ⟨rfl,hlen,t0,t3⟩
 subst hY1
 refine zaa fun Y1 hY1 => ?_
 refine zaP (fun o t => o=[] ∧ t.length=41 ∧ t[0]? = some (.s (zd6 l)) ∧ t[3]? = some (.b (negE l))) ?_ ?_
 ·unfold zd6
  by_cases c0:l=[]
  ·subst c0
   simp only [zab,sxZ,z6,z7,z8,j5,j6,j7,j8,j9,x3,x4,x5,x6,x7,x8,x9,reduceCtorEq,↓reduceIte,List.getElem?_set,hlen,t0,t3]
   rfl
  ·have l0:0 < l.length:=List.length_pos_iff.2 c0
   have g0:=zaz l0
   simp only [c0,g0,sxZ,z6,z7,z8,j5,j6,j7,j8,j9,x3,x4,x5,x6,x7,x8,x9,reduceCtorEq,↓reduceIte,List.getElem?_set,hlen,t0,t3]
   refine ⟨by omega,?_⟩
   refine zak (zmx _ _ (by decide) ?_)
   have hin:zbE l[0] [43,45]=decide (l[0]? = some 43 ∨ l[0]? = some 45):=by
    rw [List.getElem?_eq_getElem l0]
    simp [zbE,eq_comm]
   rw [hin]
   by_cases c1:l[0]? = some 43 ∨ l[0]? = some 45
   ·rw [if_pos c1]
    simp only [c1,zab,sxZ,z6,z7,z8,j5,j6,j7,j8,j9,x3,x4,x5,x6,x7,x8,x9,reduceCtorEq,↓reduceIte,List.getElem?_set,hlen,t0,t3]
    and_intros <;> first | omega | exact iv (by omega) | rfl | assumption
   ·rw [if_neg c1]
    simp only [c1,zab,sxZ,z6,z7,z8,j5,j6,j7,j8,j9,x3,x4,x5,x6,x7,x8,x9,reduceCtorEq,↓reduceIte,List.getElem?_set,hlen,t0,t3]
 rintro _ tm ⟨rfl,hlen,t0,t3⟩
 subst hY1
 have hsl:(zd6 l).length ≤ l.length:=by unfold zd6; split <;> simp
 unfold expC at hk
 generalize negE l=ng at *
 generalize zd6 l=d at *
 refine zaa fun Y1 hY1 => ?_
 simp only [sxZ,z6,z7,z8,j5,j6,j7,j8,j9,x3,x4,x5,x6,x7,x8,x9,reduceCtorEq,↓reduceIte,List.getElem?_set,hlen,t0,t3]
 subst hY1
 refine zaa fun Y1 hY1 => ?_
 refine zaP (fun o t => o=[] ∧ t.length=41 ∧ t[3]? = some (.b ng) ∧ t[4]? = some (.i .i64 (ziL 1073741824 d 0:Nat))) ?_ ?_
 ·simp only [sxZ,z6,z7,z8,j5,j6,j7,j8,j9,x3,x4,x5,x6,x7,x8,x9,reduceCtorEq,↓reduceIte,List.getElem?_set,hlen,t0,t3]
  refine zaQ (fun k objs tm => ∃ (i n:Nat),i ≤ d.length ∧ k=d.length - i ∧ objs=[] ∧ n ≤ 1073741824 ∧ ziL 1073741824 d 0=ziL 1073741824 (d.drop i) n ∧ tm.length=41 ∧ tm[0]? = some (.s d) ∧ tm[3]? = some (.b ng) ∧ tm[4]? = some (.i .i64 (n:Nat)) ∧ tm[5]? = some (.i .i64 (i:Nat))) d.length
   ⟨0,0,Nat.zero_le _,rfl,rfl,by omega,rfl,by simp [hlen],by simp [t0],by simp [t3],by simp [hlen],by simp [hlen]⟩ ?_
  rintro k _ tm ⟨i,n,hi,rfl,rfl,hn,hm,hlen,t0,t3,t4,t5⟩
  by_cases hlt:(i:Int) < d.length
  ·have hlt':i < d.length:=by omega
   have hg:=zaz hlt'
   have hdi:=zgM (List.all_eq_true.1 hd _ (List.getElem_mem hlt'))
   have hmv:=minV_at 1073741824 d i n hlt'
   have hw:IntKind.u8.wrap (((d[i].toNat:Nat):Int) - 48)=((d[i].toNat - 48:Nat):Int):=by
    simp [IntKind.wrap,IntKind.bits,IntKind.signed]; omega
   have hw2:IntKind.i64.wrap ((d[i].toNat - 48:Nat):Int)=((d[i].toNat - 48:Nat):Int):=by rw [IntKind.wrap_i64]; omega
   simp only [hlt,hg,hw,hw2,sxZ,z6,z7,z8,j5,j6,j7,j8,j9,x3,x4,x5,x6,x7,x8,x9,reduceCtorEq,↓reduceIte,List.getElem?_set,hlen,t0,t3,t4,t5]
   have hv:d[i].toNat - 48 ≤ 9:=by omega
   generalize d[i].toNat - 48=v at *
   exact ⟨by omega,by omega,by omega,by omega,d.length - (i + 1),by omega,i + 1,min (n * 10 + v) 1073741824,by omega,rfl,by omega,by rw [hm,hmv],iv (by split <;> omega),iv (by omega)⟩
  ·obtain rfl:i=d.length:=by omega
   rw [List.drop_length,ziL] at hm
   simp only [hlt,zbu,zab,sxZ,z6,z7,z8,j5,j6,j7,j8,j9,x3,x4,x5,x6,x7,x8,x9,reduceCtorEq,↓reduceIte,List.getElem?_set,hlen,t0,t3,t4,t5]
   rw [hm]
 rintro _ tm ⟨rfl,hlen,t3,t4⟩
 subst hY1
 have hml:=minV_le 1073741824 d 0 (by omega)
 generalize ziL 1073741824 d 0=n at *
 cases ng with
 | true =>
  simp only [sxZ,z6,z7,z8,j5,j6,j7,j8,j9,x3,x4,x5,x6,x7,x8,x9,reduceCtorEq,↓reduceIte,List.getElem?_set,hlen,t3,t4]
  rw [if_pos rfl] at hk
  refine ⟨by omega,?_⟩
  rw [Int.zero_sub]
  exact hk
 | false =>
  simp only [sxZ,z6,z7,z8,j5,j6,j7,j8,j9,x3,x4,x5,x6,x7,x8,x9,reduceCtorEq,↓reduceIte,List.getElem?_set,hlen,t3,t4]
  rw [if_neg (by simp)] at hk
  exact hk
set_option maxHeartbeats 4000000 in
theorem zl8 (s:List UInt8) (hs:s.length ≤ 140737488351232) (h1:(s=[] ∨ zcC s ≠ s.length) → K objs (.tup [.s [],.i .i64 130]))
  (h2:∀ p:NumS,p.Good → s=p.txt → K objs (.tup [.s (zow 1073741824 p).2,.i .i64 (zow 1073741824 p).1])):zad Tryz.prog 42 [.s s] objs K:=by
 refine za8 is_ref13_Number rfl fun C _ => ?_
 have hmx:=zbC
 by_cases c0:s=[]
 ·have h1:=h1 (.inl c0)
  simp only [c0,c_ref13_Number,sxZ,z6,z7,z8,j5,j6,j7,j8,j9,x3,x4,x5,x6,x7,x8,x9,reduceCtorEq,↓reduceIte]
  exact h1
 rw [c_ref13_Number]
 refine zaa fun Y1 hY1 => ?_
 simp only [sxZ,z6,z7,z8,j5,j6,j7,j8,j9,x3,x4,x5,x6,x7,x8,x9,reduceCtorEq,↓reduceIte]
 subst hY1
 refine zaa fun Y1 hY1 => ?_
 simp only [c0,sxZ,z6,z7,z8,j5,j6,j7,j8,j9,x3,x4,x5,x6,x7,x8,x9,reduceCtorEq,↓reduceIte]
 refine zak (zkS s hs ?_)
 by_cases c1:zcC s=s.length
 case neg =>
  have c1':¬ ((zcC s:Nat):Int)=s.length:=by omega
  simp only [c1',sxZ,z6,z7,z8,j5,j6,j7,j8,j9,x3,x4,x5,x6,x7,x8,x9,reduceCtorEq,↓reduceIte]
  exact h1 (.inr c1)
 clear h1
 obtain ⟨p,hp,rfl⟩:=zhG c0 c1
 have h2:=h2 p hp rfl
 simp only [c1,sxZ,z6,z7,z8,j5,j6,j7,j8,j9,x3,x4,x5,x6,x7,x8,x9,reduceCtorEq,↓reduceIte]
 subst hY1
 refine zaa fun Y1 hY1 => ?_
 simp only [sxZ,z6,z7,z8,j5,j6,j7,j8,j9,x3,x4,x5,x6,x7,x8,x9,reduceCtorEq,↓reduceIte]
 subst hY1
 refine zaa fun Y1 hY1 => ?_
 have hbl:p.body.length ≤ p.txt.length:=by unfold NumS.txt NumS.body; simp
 have htl:=zip p
 have hml:(p.int ++ frT p.fr).length ≤ p.txt.length:=by unfold NumS.txt; simp; omega
 refine zaP (fun o t => o=[] ∧ t.length=117 ∧ t[0]? = some (.s p.body) ∧ t[4]? = some (.s (sgT p.neg))) ?_ ?_
 ·obtain ⟨c,t,e1,e2⟩:=zbD hp.i0 hp.i1
  have n45:¬ ((c.toNat:Nat):Int)=45:=by have:=zgM e2; omega
  have hb:p.txt=sgT p.neg ++ p.body:=rfl
  have hpos:0 < p.txt.length:=List.length_pos_iff.2 c0
  cases hn:p.neg with
  | true =>
   have g1:(((p.txt.getD 0 0).toNat:Nat):Int)=45:=by rw [hb,hn]; rfl
   have g2:p.txt.drop 1=p.body:=by rw [hb,hn]; rfl
   generalize p.txt=W at *
   simp only [sgT,g1,g2,zab,sxZ,z6,z7,z8,j5,j6,j7,j8,j9,x3,x4,x5,x6,x7,x8,x9,reduceCtorEq,↓reduceIte]
   and_intros <;> first | omega | exact iv (by omega) | rfl | assumption
  | false =>
   have g1:(p.txt.getD 0 0)=c:=by rw [hb,hn]; unfold NumS.body; rw [e1]; rfl
   have g2:p.txt=p.body:=by rw [hb,hn]; rfl
   rw [g2] at g1 hpos ⊢
   generalize p.body=W at *
   simp only [sgT,g1,n45,zab,sxZ,z6,z7,z8,j5,j6,j7,j8,j9,x3,x4,x5,x6,x7,x8,x9,reduceCtorEq,↓reduceIte]
   and_intros <;> first | omega | exact iv (by omega) | rfl | assumption
 rintro _ tm ⟨rfl,hlen,t0,t4⟩
 subst hY1
 clear c0 c1
 have hbe:=body_exp hp 1073741824
 have hbt:=zh8 p
 have hil:(p.int ++ frT p.fr).length ≤ p.body.length:=by
  have h:=congrArg List.length (zh8 p)
  rw [List.length_take] at h; omega
 have hbi:=zoz hp
 generalize hG:p.int ++ frT p.fr=G at *
 refine zaa fun Y1 hY1 => ?_
 simp only [sxZ,z6,z7,z8,j5,j6,j7,j8,j9,x3,x4,x5,x6,x7,x8,x9,reduceCtorEq,↓reduceIte,List.getElem?_set,hlen,t0,t4]
 refine zak (zjC _ _ (by omega) (by decide) ?_)
 rw [hbi]
 simp only [sxZ,z6,z7,z8,j5,j6,j7,j8,j9,x3,x4,x5,x6,x7,x8,x9,reduceCtorEq,↓reduceIte,List.getElem?_set,hlen,t0,t4]
 subst hY1
 refine zaa fun Y1 hY1 => ?_
 refine zaP (fun o t => o=[] ∧ t.length=117 ∧ t[4]? = some (.s (sgT p.neg)) ∧ t[6]? = some (.i .i64 (zew 1073741824 p.ex)) ∧ t[7]? = some (.s G)) ?_ ?_
 ·simp only [sxZ,z6,z7,z8,j5,j6,j7,j8,j9,x3,x4,x5,x6,x7,x8,x9,reduceCtorEq,↓reduceIte,List.getElem?_set,hlen,t0,t4]
  refine ⟨by omega,?_⟩
  refine zfe (zix p.body (G.length + 1) ⟨rfl,rfl⟩) ?_
  simp only [sxZ,z6,z7,z8,j5,j6,j7,j8,j9,x3,x4,x5,x6,x7,x8,x9,reduceCtorEq,↓reduceIte,List.getElem?_set,hlen,t0,t4]
  refine zfe (ziy _ (by rw [List.length_drop]; omega) hbe.2 ⟨rfl,rfl⟩) ?_
  simp only [hbe.1,hbt,zab,sxZ,z6,z7,z8,j5,j6,j7,j8,j9,x3,x4,x5,x6,x7,x8,x9,reduceCtorEq,↓reduceIte,List.getElem?_set,hlen,t0,t4]
  and_intros <;> first | omega | exact iv (by omega) | rfl | assumption
 rintro _ tm ⟨rfl,hlen,t4,t6,t7⟩
 subst hY1
 refine zaa fun Y1 hY1 => ?_
 have hei:=znV 1073741824 p.ex
 have hcp:=zh4 hp
 rw [hG] at hcp
 have hi1:zk8 G [46]=p.int.length:=by rw [zka,hcp]
 have hGt:G.take p.int.length=p.int:=by rw [← hG,List.take_left]
 have hGd:G.drop (p.int.length + 1)=p.fr:=by
  rw [← hG,← List.drop_drop,List.drop_left]
  cases p.fr <;> rfl
 have hGl:G.length=p.int.length + (frT p.fr).length:=by rw [← hG,List.length_append]
 refine zaP (fun o t => o=[] ∧ t.length=117 ∧ t[4]? = some (.s (sgT p.neg)) ∧ t[6]? = some (.i .i64 (zew 1073741824 p.ex - (p.fr.length:Int))) ∧ t[7]? = some (.s (p.int ++ p.fr))) ?_ ?_
 ·simp only [sxZ,z6,z7,z8,j5,j6,j7,j8,j9,x3,x4,x5,x6,x7,x8,x9,reduceCtorEq,↓reduceIte,List.getElem?_set,hlen,t4,t6,t7]
  refine zak (zjC _ _ (by omega) (by decide) ?_)
  rw [hi1]
  cases hf:p.fr with
  | nil =>
   have c2:¬ ((p.int.length:Nat):Int) < G.length:=by rw [hf] at hGl; simp [frT] at hGl; omega
   have hG2:G=p.int:=by rw [← hG,hf]; simp [frT]
   simp only [c2,zab,sxZ,z6,z7,z8,j5,j6,j7,j8,j9,x3,x4,x5,x6,x7,x8,x9,reduceCtorEq,↓reduceIte,List.getElem?_set,hlen,t4,t6,t7]
   rw [hG2]
   and_intros <;> first | omega | exact iv (by omega) | rfl | assumption
  | cons a u =>
   rw [hf] at hGd
   have c2:((p.int.length:Nat):Int) < G.length:=by rw [hf] at hGl; simp [frT] at hGl; omega
   have hfl:G.length=p.int.length + (u.length + 1) + 1:=by rw [hf] at hGl; simp [frT] at hGl; omega
   have e1:(((p.int.length:Nat):Int) + 1).toNat=p.int.length + 1:=by omega
   simp only [c2,e1,hGt,hGd,zab,sxZ,z6,z7,z8,j5,j6,j7,j8,j9,x3,x4,x5,x6,x7,x8,x9,reduceCtorEq,↓reduceIte,List.getElem?_set,hlen,t4,t6,t7]
   and_intros <;> first | omega | exact iv (by omega) | rfl | assumption
 rintro _ tm ⟨rfl,hlen,t4,t6,t7⟩
 subst hY1
 clear hbe hbt hil hcp hbi hi1 hGt hGd hGl hG hml
 refine zaa fun Y1 hY1 => ?_
 have hzl:=zL_len (p.int ++ p.fr)
 rw [List.length_append] at hzl
 refine zaP (fun o t => o=[] ∧ t.length=117 ∧ t[4]? = some (.s (sgT p.neg)) ∧ t[6]? = some (.i .i64 (zew 1073741824 p.ex - (p.fr.length:Int))) ∧ t[7]? = some (.s (zck p))) ?_ ?_
 ·simp only [sxZ,z6,z7,z8,j5,j6,j7,j8,j9,x3,x4,x5,x6,x7,x8,x9,reduceCtorEq,↓reduceIte]
  refine zaQ (fun k o t => ∃ l:List UInt8,k=l.length ∧ o=[] ∧ zL l=zck p ∧ t.length=117 ∧ t[4]? = some (.s (sgT p.neg)) ∧ t[6]? = some (.i .i64 (zew 1073741824 p.ex - (p.fr.length:Int))) ∧ t[7]? = some (.s l)) (p.int ++ p.fr).length ⟨p.int ++ p.fr,rfl,rfl,rfl,hlen,t4,t6,t7⟩ ?_
  rintro k _ tm ⟨l,rfl,rfl,hz,hlen,t4,t6,t7⟩
  cases l with
  | nil =>
   have z:¬ (0:Int) < ((0:Nat):Int):=by decide
   simp only [z,zbu,zab,sxZ,z6,z7,z8,j5,j6,j7,j8,j9,x3,x4,x5,x6,x7,x8,x9,reduceCtorEq,↓reduceIte,List.getElem?_set,hlen,t4,t6,t7]
   rw [← hz]; rfl
  | cons c u =>
   have hp1:(0:Int) < ((u.length + 1:Nat):Int):=by omega
   have hp2:(c :: u).getD 0 0=c:=rfl
   rw [zf7] at hz
   by_cases c1:((c.toNat:Nat):Int)=48
   ·have hc:c=48:=(zbL (by decide)).1 c1
    rw [if_pos hc] at hz
    simp only [hp1,hp2,c1,zbu,zab,sxZ,z6,z7,z8,j5,j6,j7,j8,j9,x3,x4,x5,x6,x7,x8,x9,reduceCtorEq,↓reduceIte,List.getElem?_set,hlen,t4,t6,t7]
    exact ⟨by omega,u.length,by omega,u,rfl,hz,rfl⟩
   ·have hc:¬ c=48:=fun h => c1 ((zbL (by decide)).2 h)
    rw [if_neg hc] at hz
    simp only [hp1,hp2,c1,zbu,zab,sxZ,z6,z7,z8,j5,j6,j7,j8,j9,x3,x4,x5,x6,x7,x8,x9,reduceCtorEq,↓reduceIte,List.getElem?_set,hlen,t4,t6,t7]
    rw [hz]
 rintro _ tm ⟨rfl,hlen,t4,t6,t7⟩
 subst hY1
 refine zaa fun Y1 hY1 => ?_
 have hmh:=zm4 p
 unfold zow at h2
 unfold expX at h2
 by_cases c2:zck p=[]
 ·rw [if_pos c2] at h2
  simp only [c2,sxZ,z6,z7,z8,j5,j6,j7,j8,j9,x3,x4,x5,x6,x7,x8,x9,reduceCtorEq,↓reduceIte,List.getElem?_set,hlen,t4,t6,t7]
  exact h2
 rw [if_neg c2] at h2
 have hml2:=zgz p
 simp only [c2,sxZ,z6,z7,z8,j5,j6,j7,j8,j9,x3,x4,x5,x6,x7,x8,x9,reduceCtorEq,↓reduceIte,List.getElem?_set,hlen,t4,t6,t7]
 subst hY1
 have hX:-(300000000000000:Int) ≤ zew 1073741824 p.ex - (p.fr.length:Int) ∧ zew 1073741824 p.ex - (p.fr.length:Int) ≤ 300000000000000:=by omega
 generalize zew 1073741824 p.ex - (p.fr.length:Int)=X at *
 generalize zck p=M at *
 refine zaa fun Y1 hY1 => ?_
 refine zaP (fun o t => o=[] ∧ t.length=117 ∧ t[4]? = some (.s (sgT p.neg)) ∧ t[6]? = some (.i .i64 (X + ((M.length:Int) - (zR M).length))) ∧ t[7]? = some (.s (zR M))) ?_ ?_
 ·simp only [sxZ,z6,z7,z8,j5,j6,j7,j8,j9,x3,x4,x5,x6,x7,x8,x9,reduceCtorEq,↓reduceIte]
  refine zaQ (fun k o t => ∃ (l:List UInt8) (j:Nat),k=l.length ∧ o=[] ∧ l ≠ [] ∧ M=l ++ List.replicate j 48 ∧ t.length=117 ∧ t[4]? = some (.s (sgT p.neg)) ∧ t[6]? = some (.i .i64 (X + (j:Nat))) ∧ t[7]? = some (.s l)) M.length ⟨M,0,rfl,rfl,c2,by simp,by simp [hlen],by simp [t4],by simp [t6],by simp [t7]⟩ ?_
  rintro k _ tm ⟨l,j,rfl,rfl,hl0,hM,hlen,t4,t6,t7⟩
  have hl1:0 < l.length:=List.length_pos_iff.2 hl0
  have hi:l.length - 1 < l.length:=by omega
  have hg:=zaz hi
  have e1:(((l.length:Nat):Int) - 1).toNat=l.length - 1:=by omega
  have hll:l.getLast hl0=l[l.length - 1]:=List.getLast_eq_getElem hl0
  have hMl:M.length=l.length + j:=by rw [hM]; simp
  by_cases c3:((l[l.length - 1].toNat:Nat):Int)=48
  ·have hc:l[l.length - 1]=48:=(zbL (by decide)).1 c3
   have hsp:l=l.take (l.length - 1) ++ [48]:=by
    have h:=List.dropLast_concat_getLast hl0
    rw [hll,hc,List.dropLast_eq_take] at h
    exact h.symm
   have hM2:M=l.take (l.length - 1) ++ List.replicate (j + 1) 48:=by
    conv => lhs; rw [hM,hsp]
    rw [List.append_assoc,List.replicate_succ]; rfl
   have hne:¬ l.take (l.length - 1)=[]:=by
    intro h
    rw [h,List.nil_append,List.replicate_succ] at hM2
    exact hmh 48 (by rw [hM2]; rfl) rfl
   have htk:(l.take (l.length - 1)).length=l.length - 1:=by rw [List.length_take]; omega
   simp only [e1,hg,c3,sxZ,z6,z7,z8,j5,j6,j7,j8,j9,x3,x4,x5,x6,x7,x8,x9,reduceCtorEq,↓reduceIte,List.getElem?_set,hlen,t4,t6,t7]
   exact ⟨by omega,by omega,by omega,by omega,by omega,(l.take (l.length - 1)).length,by omega,l.take (l.length - 1),j + 1,rfl,hne,hM2,iv (by omega),rfl⟩
  ·have hc:¬ l[l.length - 1]=48:=fun h => c3 ((zbL (by decide)).2 h)
   have hz:zR M=l:=by rw [hM,zR_rep,zR_last hl0 (by rw [hll]; exact hc)]
   simp only [e1,hg,c3,zbu,zab,sxZ,z6,z7,z8,j5,j6,j7,j8,j9,x3,x4,x5,x6,x7,x8,x9,reduceCtorEq,↓reduceIte,List.getElem?_set,hlen,t4,t6,t7]
   rw [hz]
   exact ⟨by omega,by omega,iv (by omega),rfl⟩
 rintro _ tm ⟨rfl,hlen,t4,t6,t7⟩
 subst hY1
 have hzr:=zlm M
 generalize X + ((M.length:Int) - ((zR M).length:Int))=x at *
 generalize zR M=m at *
 by_cases d1:(40:Int) < m.length
 ·rw [if_pos (.inl (by omega))] at h2
  simp only [d1,sxZ,z6,z7,z8,j5,j6,j7,j8,j9,x3,x4,x5,x6,x7,x8,x9,reduceCtorEq,↓reduceIte,List.getElem?_set,hlen,t4,t6,t7]
  exact h2
 by_cases d3:400 < x
 ·rw [if_pos (.inr (.inr d3))] at h2
  simp only [d1,d3,sxZ,z6,z7,z8,j5,j6,j7,j8,j9,x3,x4,x5,x6,x7,x8,x9,reduceCtorEq,↓reduceIte,List.getElem?_set,hlen,t4,t6,t7]
  exact h2
 by_cases d2:x < -400
 ·rw [if_pos (.inr (.inl d2))] at h2
  simp only [d1,d2,d3,sxZ,z6,z7,z8,j5,j6,j7,j8,j9,x3,x4,x5,x6,x7,x8,x9,reduceCtorEq,↓reduceIte,List.getElem?_set,hlen,t4,t6,t7]
  exact h2
 rw [if_neg (by omega)] at h2
 have hsg:(sgT p.neg).length ≤ 1:=by unfold sgT; split <;> simp
 unfold expS at h2
 generalize sgT p.neg=sg at *
 have hdl:(Lib.decDigits x.natAbs).length ≤ 20:=by rw [Lib.decDigits_length]; exact Lib.nDigits_le20 _ (by omega)
 by_cases d4:x < 0
 ·rw [if_neg (show ¬ x=0 by omega)] at h2
  have hw:IntKind.u64.wrap (0 - x)=((x.natAbs:Nat):Int):=by rw [zi9 _ (by omega) (by omega)]; omega
  have hit:=Lib.itoa_neg x.natAbs (by omega)
  rw [show -((x.natAbs:Nat):Int)=x by omega] at hit
  rw [hit] at h2
  simp only [d1,d2,d3,d4,hw,sxZ,z6,z7,z8,j5,j6,j7,j8,j9,x3,x4,x5,x6,x7,x8,x9,reduceCtorEq,↓reduceIte,List.getElem?_set,hlen,t4,t6,t7]
  (and_intros <;> try omega)
  refine zak (zfP _ (by omega) ?_)
  simp only [sxZ,z6,z7,z8,j5,j6,j7,j8,j9,x3,x4,x5,x6,x7,x8,x9,reduceCtorEq,↓reduceIte,List.getElem?_set,hlen,t4,t6,t7]
  (and_intros <;> try omega)
  simpa using h2
 by_cases d5:0 < x
 ·rw [if_neg (show ¬ x=0 by omega)] at h2
  have hw:IntKind.u64.wrap x=((x.natAbs:Nat):Int):=by rw [zi9 _ (by omega) (by omega)]; omega
  have hit:=Lib.itoa_nonneg x.natAbs
  rw [show ((x.natAbs:Nat):Int)=x by omega] at hit
  rw [hit] at h2
  simp only [d1,d2,d3,d4,d5,hw,sxZ,z6,z7,z8,j5,j6,j7,j8,j9,x3,x4,x5,x6,x7,x8,x9,reduceCtorEq,↓reduceIte,List.getElem?_set,hlen,t4,t6,t7]
  (and_intros <;> try omega)
  refine zak (zfP _ (by omega) ?_)
  simp only [sxZ,z6,z7,z8,j5,j6,j7,j8,j9,x3,x4,x5,x6,x7,x8,x9,reduceCtorEq,↓reduceIte,List.getElem?_set,hlen,t4,t6,t7]
  (and_intros <;> try omega)
  simpa using h2
 ·rw [if_pos (show x=0 by omega)] at h2
  simp only [d1,d2,d3,d4,d5,sxZ,z6,z7,z8,j5,j6,j7,j8,j9,x3,x4,x5,x6,x7,x8,x9,reduceCtorEq,↓reduceIte,List.getElem?_set,hlen,t4,t6,t7]
  (and_intros <;> try omega)
  simpa using h2
end
end Go.Proofs.YthmdohgkmdkeeaaGreatDoor
namespace Go.Proofs.YthmdohgkmdkeeaaGreatDoor
open Go.RowKit Sx
section
variable [Tabs Tryz.prog] {objs:List OB} {K:List OB → AV → Prop}
end
end Go.Proofs.YthmdohgkmdkeeaaGreatDoor
namespace Go.Proofs.YthmdohgkmdkeeaaGreatDoor
open Go.RowKit Sx
end Go.Proofs.YthmdohgkmdkeeaaGreatDoor
namespace Go.Proofs.YthmdohgkmdkeeaaGreatDoor
open Go.RowKit Sx
section
variable [Tabs Tryz.prog] {objs:List OB} {K:List OB → AV → Prop}
end
end Go.Proofs.YthmdohgkmdkeeaaGreatDoor
namespace Go.Proofs.YthmdohgkmdkeeaaGreatDoor
open Go.RowKit Sx
section
variable [Tabs Tryz.prog] {objs:List OB} {K:List OB → AV → Prop}
end
end Go.Proofs.YthmdohgkmdkeeaaGreatDoor
namespace Go.Proofs.YthmdohgkmdkeeaaGreatDoor
open Go.RowKit Sx
section
attribute [local irreducible] run
def intN (l:List UInt8):List UInt8:=if l[za0 l]? = some 48 then [48] else (l.drop (za0 l)).take (zaM (l.drop (za0 l)))
def frN (l:List UInt8) (t:Nat):List UInt8:=if l[t]? = some 46 ∧ 0 < zaM (l.drop (t + 1)) then (l.drop (t + 1)).take (zaM (l.drop (t + 1))) else []
def sgnX (l:List UInt8) (f:Nat):List UInt8:=if l[f + 1]? = some 43 then [43] else if l[f + 1]? = some 45 then [45] else []
def exN (l:List UInt8) (f:Nat):Option (UInt8 × List UInt8 × List UInt8) :=
 if (l[f]? = some 101 ∨ l[f]? = some 69) ∧ 0 < zaM (l.drop (zaT l f)) then some (if l[f]? = some 101 then 101 else 69,sgnX l f,l.drop (zaT l f)) else none
def zjG (l:List UInt8):NumS:=⟨decide (l[0]? = some 45),intN l,frN l (zaA l),exN l (zby l (zaA l))⟩
theorem zmJ {l:List UInt8} (h0:l ≠ []) (h:zcC l=l.length):(zjG l).Good ∧ l=(zjG l).txt:=by
 have hl:0 < l.length:=List.length_pos_iff.2 h0
 unfold zcC at h
 by_cases hr:zaM (l.drop (za0 l))=0
 ·rw [if_pos hr] at h; omega
 rw [if_neg hr] at h
 have hsg:l=sgT (decide (l[0]? = some 45)) ++ l.drop (za0 l):=by
  unfold za0 sgT
  by_cases hc:l[0]? = some 45
  ·rw [if_pos hc,if_pos (by rw [hc]; rfl)]
   conv => lhs; rw [← List.drop_zero (l:=l),zbi hc]
   rfl
  ·rw [if_neg hc,if_neg (by rw [decide_eq_false hc]; exact Bool.false_ne_true)]; simp
 have hrl:=zaJ l (za0 l) (by omega)
 obtain ⟨I,hIe,hI0,hI1,hI2,hIl,hI⟩:∃ I:List UInt8,I=intN l ∧ I ≠ [] ∧ I.all zai=true ∧ (I[0]? = some 48 → I=[48]) ∧ zaA l ≤ l.length ∧ l.drop (za0 l)=I ++ l.drop (zaA l):=by
  have hd:=zd9 (l.drop (za0 l)) 0 (by omega)
  obtain ⟨c,hc1,hc2⟩:=hd
  rw [List.getElem?_drop,Nat.add_zero] at hc1
  have hdc:=zbi hc1
  unfold zaA
  by_cases hz:l[za0 l]? = some 48
  ·rw [if_pos hz]
   refine ⟨[48],by unfold intN; rw [if_pos hz],by simp,rfl,fun _ => rfl,?_,?_⟩
   ·have:=(List.getElem?_eq_some_iff.1 hz).1; omega
   ·exact zbi hz
  ·rw [if_neg hz]
   refine ⟨(l.drop (za0 l)).take (zaM (l.drop (za0 l))),by unfold intN; rw [if_neg hz],zgh (by omega) (zds _),zb1 _,?_,hrl,?_⟩
   ·intro h1
    exfalso
    rw [List.getElem?_take,if_pos (by omega),List.getElem?_drop,Nat.add_zero] at h1
    exact hz h1
   ·have:=zeL l (show za0 l ≤ za0 l + zaM (l.drop (za0 l)) by omega)
    rw [show za0 l + zaM (l.drop (za0 l)) - za0 l=zaM (l.drop (za0 l)) by omega] at this
    exact this
 unfold zjG
 rw [← hIe]
 clear hIe
 generalize zaA l=t at *
 obtain ⟨F,hFe,hF1,hFl,hF⟩:∃ F:List UInt8,F=frN l t ∧ F.all zai=true ∧ zby l t ≤ l.length ∧ l.drop t=frT F ++ l.drop (zby l t):=by
  unfold zby
  by_cases hc:l[t]? = some 46 ∧ 0 < zaM (l.drop (t + 1))
  ·rw [if_pos hc]
   have hb:=zaJ l (t + 1) hc.2
   refine ⟨(l.drop (t + 1)).take (zaM (l.drop (t + 1))),by unfold frN; rw [if_pos hc],zb1 _,hb,?_⟩
   have h1:=zeL l (show t + 1 ≤ t + 1 + zaM (l.drop (t + 1)) by omega)
   rw [show t + 1 + zaM (l.drop (t + 1)) - (t + 1)=zaM (l.drop (t + 1)) by omega] at h1
   have hne:=zgh hc.2 (zds (l.drop (t + 1)))
   rw [zbi hc.1]
   generalize (l.drop (t + 1)).take (zaM (l.drop (t + 1)))=F at *
   cases F with
   | nil => exact absurd rfl hne
   | cons a F =>
    show 46 :: l.drop (t + 1)=46 :: (a :: F ++ _)
    rw [← h1]
  ·rw [if_neg hc]
   exact ⟨[],by unfold frN; rw [if_neg hc],rfl,hIl,rfl⟩
 rw [← hFe]
 clear hFe
 generalize zby l t=f at *
 obtain ⟨E,hEe,hE1,hE⟩:∃ E:Option (UInt8 × List UInt8 × List UInt8),E=exN l f ∧ (∀ c s d,E=some (c,s,d) → (c=101 ∨ c=69) ∧ (s=[] ∨ s=[43] ∨ s=[45]) ∧ d ≠ [] ∧ d.all zai=true) ∧ l.drop f=exT E:=by
  unfold ziW at h
  by_cases hc:(l[f]? = some 101 ∨ l[f]? = some 69) ∧ 0 < zaM (l.drop (zaT l f))
  ·rw [if_pos hc] at h
   have hex:exN l f=some (if l[f]? = some 101 then 101 else 69,sgnX l f,l.drop (zaT l f)):=by unfold exN; rw [if_pos hc]
   obtain ⟨c,hc1,hc2,hc3⟩:∃ c,l[f]? = some c ∧ (c=101 ∨ c=69) ∧ (if l[f]? = some 101 then 101 else 69)=c:=by
    rcases hc.1 with h1 | h1
    ·exact ⟨_,h1,.inl rfl,by rw [if_pos h1]⟩
    ·exact ⟨_,h1,.inr rfl,by rw [h1]; rfl⟩
   rw [hc3] at hex
   have hdig:l.drop (zaT l f) ≠ [] ∧ (l.drop (zaT l f)).all zai=true:=by
    have h1:=zb1 (l.drop (zaT l f))
    have h2:zaM (l.drop (zaT l f))=(l.drop (zaT l f)).length:=by rw [List.length_drop]; omega
    rw [h2,List.take_length] at h1
    refine ⟨fun e => ?_,h1⟩
    rw [e] at hc
    exact absurd hc.2 (by simp [zaM])
   rw [zbi hc1]
   unfold zaT at hdig hc hex
   by_cases hs:l[f + 1]? = some 43 ∨ l[f + 1]? = some 45
   ·rw [if_pos hs] at hdig hex
    obtain ⟨s,hs1,hs2,hs3⟩:∃ s,l[f + 1]? = some s ∧ (s=43 ∨ s=45) ∧ sgnX l f=[s]:=by
     unfold sgnX
     rcases hs with h1 | h1
     ·exact ⟨_,h1,.inl rfl,by rw [if_pos h1]⟩
     ·exact ⟨_,h1,.inr rfl,by rw [h1]; rfl⟩
    refine ⟨some (c,[s],l.drop (f + 2)),by rw [hex,hs3],?_,?_⟩
    ·intro c' s' d' e
     injection e with e; injection e with e1 e2; injection e2 with e2 e3
     subst e1 e2 e3
     exact ⟨hc2,by rcases hs2 with rfl | rfl <;> simp,hdig.1,hdig.2⟩
    ·rw [zbi hs1]; rfl
   ·rw [if_neg hs] at hdig hex
    have hs3:sgnX l f=[]:=by
     unfold sgnX
     rw [if_neg (fun h => hs (.inl h)),if_neg (fun h => hs (.inr h))]
    refine ⟨some (c,[],l.drop (f + 1)),by rw [hex,hs3],?_,rfl⟩
    intro c' s' d' e
    injection e with e; injection e with e1 e2; injection e2 with e2 e3
    subst e1 e2 e3
    exact ⟨hc2,.inl rfl,hdig.1,hdig.2⟩
  ·rw [if_neg hc] at h
   subst h
   exact ⟨none,by unfold exN; rw [if_neg hc],fun _ _ _ e => (by cases e),by simp [exT]⟩
 rw [← hEe]
 refine ⟨⟨hI0,hI1,hI2,hF1,hE1⟩,?_⟩
 show l=sgT _ ++ (I ++ (frT F ++ exT E))
 rw [← hE,← hF,← hI,← hsg]
def zcI (l:List UInt8):Int × List UInt8:=if l=[] ∨ ¬ zcC l=l.length then (130,[]) else zow 1099511627776 (zjG l)
theorem zm0 {p:NumS} (hp:p.Good):zcI p.txt=zow 1099511627776 p:=by
 obtain ⟨h1,h2⟩:=num_txt hp
 unfold zcI
 rw [if_neg (fun h => h.elim h2 (fun h => h h1))]
 obtain ⟨q1,q2⟩:=zmJ h2 h1
 exact congrArg _ (num_uniq hp q1 q2).symm
theorem can_cut2 (p:NumS) (h:p.txt.length ≤ 100000):zow 1099511627776 p=zow 1073741824 p:=by
 have h1:=zip p
 have h2:=zgz p
 have h3:=zlm (zck p)
 unfold zow
 by_cases hm:zck p=[]
 ·rw [if_pos hm,if_pos hm]
 rw [if_neg hm,if_neg hm]
 by_cases he:zew 1099511627776 p.ex=zew 1073741824 p.ex
 ·have:expX 1099511627776 p=expX 1073741824 p:=by unfold expX; rw [he]
  rw [this]
 ·have key:(zew 1099511627776 p.ex < -1000000 ∧ zew 1073741824 p.ex < -1000000) ∨ (1000000 < zew 1099511627776 p.ex ∧ 1000000 < zew 1073741824 p.ex):=by
   cases hx:p.ex with
   | none => rw [hx] at he; exact absurd rfl he
   | some e =>
    obtain ⟨c,s,d⟩:=e
    rw [hx] at he
    simp only [zew] at he ⊢
    by_cases hs:s=[45]
    ·rw [if_pos hs,if_pos hs] at he ⊢; left; omega
    ·rw [if_neg hs,if_neg hs] at he ⊢; right; omega
  rw [if_pos,if_pos]
  ·unfold expX; omega
  ·unfold expX; omega
theorem zgg:∀ (n:Nat) (l out x:List UInt8) (k m:Nat),zbY n l out k=(0,x,m) → k < m ∧ m ≤ k + l.length ∧ x.length ≤ out.length + (m - k)
 | 0,l,out,x,k,m,h => by rw [zbY] at h; cases h
 | n + 1,[],out,x,k,m,h => by rw [zbY] at h; cases h
 | n + 1,c :: t,out,x,k,m,h => by
  rw [zbY] at h
  have hl:(c :: t).length=t.length + 1:=rfl
  split at h
  ·cases h; exact ⟨by omega,by omega,by omega⟩
  ·split at h
   ·split at h
    ·rename_i g; injection h with h _; exact absurd h g
    ·rename_i g
     have g:(zc3 (c :: t)).1=0:=by simpa using g
     obtain ⟨⟨e,y,j⟩,hE⟩:∃ r,zc3 (c :: t)=r:=⟨_,rfl⟩
     rw [hE] at h g
     simp only at g h
     subst g
     have hl2:=zgI hE
     have:=zgg n _ _ _ _ _ h
     rw [List.length_drop,List.length_append] at this
     omega
   ·split at h
    ·cases h
    ·split at h
     ·cases h
     ·rename_i r j hd
      have hd':=zaY hd
      have:=zgg n _ _ _ _ _ h
      rw [List.length_drop,List.length_append,List.length_take] at this
      omega
theorem ze8 {l:List UInt8} (h:(zaD l).1=0):(zaD l).2.2.2 ≤ l.length ∧ (¬ (zaD l).2.1=1 → 1 ≤ (zaD l).2.2.2) ∧ ((zaD l).2.1=1 → l=[]) ∧ (zaD l).2.2.1.length ≤ l.length ∧ 1 ≤ (zaD l).2.1 ∧ (zaD l).2.1 ≤ 5:=by
 cases l with
 | nil => exact ⟨by simp [zaD],fun h => absurd rfl h,fun _ => rfl,by simp [zaD],by decide,by decide⟩
 | cons c t =>
  have hl:(c :: t).length=t.length + 1:=rfl
  rw [zaD] at h ⊢
  by_cases c1:zbE c [123,125,91,93,58,44]=true
  ·simp only [if_pos c1]
   exact ⟨by simp,fun _ => by simp,fun h => by simp at h,by simp,by decide,by decide⟩
  simp only [if_neg c1] at h ⊢
  by_cases c2:c=34
  ·simp only [if_pos c2] at h ⊢
   by_cases c3:(zbY (t.length + 1) t [] 0).1 ≠ 0
   ·simp only [if_pos c3] at h; exact absurd h c3
   ·simp only [if_neg c3] at h ⊢
    obtain ⟨⟨e,x,m⟩,hE⟩:∃ r,zbY (t.length + 1) t [] 0=r:=⟨_,rfl⟩
    have c3:e=0:=by rw [hE] at c3; simpa using c3
    subst c3
    have:=zgg _ _ _ _ _ _ hE
    rw [List.length_nil] at this
    rw [hE]
    exact ⟨by show m + 1 ≤ _; omega,fun _ => by show 1 ≤ m + 1; omega,fun h => by simp at h,by show x.length ≤ _; omega,by decide,by decide⟩
  simp only [if_neg c2] at h ⊢
  by_cases c3:c=45 ∨ zai c=true
  ·simp only [if_pos c3] at h ⊢
   by_cases c4:zcC (c :: t)=0
   ·simp only [if_pos c4] at h; cases h
   ·simp only [if_neg c4] at h ⊢
    have:=zgw (c :: t)
    exact ⟨by show zcC (c :: t) ≤ _; omega,fun _ => by show 1 ≤ zcC (c :: t); omega,fun h => by simp at h,by show (List.take _ _).length ≤ _; rw [List.length_take]; omega,by decide,by decide⟩
  simp only [if_neg c3] at h ⊢
  split at h
  ·rename_i c4
   rw [if_pos c4]
   have hw:=zgb (c :: t)
   refine ⟨hw,fun _ => ?_,fun h => by simp at h,by show (List.take _ _).length ≤ _; rw [List.length_take]; omega,by show (1:Int) ≤ 5; decide,by show (5:Int) ≤ 5; decide⟩
   show 1 ≤ zaO (c :: t)
   rcases Nat.eq_zero_or_pos (zaO (c :: t)) with h0 | h0
   ·rw [h0] at c4; simp at c4
   ·exact h0
  ·cases h
theorem zjO {s:List UInt8} {a:Int} (h0:0 ≤ a) (h:(zat s a).2.2=0) :
  (a ≤ (zat s a).2.1 ∧ (zat s a).2.1 ≤ s.length ∧ ((zat s a).1.1 ≠ 1 → a < (zat s a).2.1) ∧ ((zat s a).1.1=1 → (zat s a).2.1=s.length)) ∧ (zat s a).1.2.1.length ≤ s.length ∧ 1 ≤ (zat s a).1.1 ∧ (zat s a).1.1 ≤ 5 ∧ 0 ≤ (zat s a).1.2.2 ∧ (zat s a).1.2.2 ≤ s.length:=by
 unfold zat at h ⊢
 by_cases c1:a < 0 ∨ (s.length:Int) < a
 ·simp only [if_pos c1] at h; cases h
 simp only [if_neg c1] at h ⊢
 obtain ⟨x,hx⟩:=Int.eq_ofNat_of_zero_le h0
 subst hx
 simp only [Int.toNat_natCast] at h ⊢
 have hw:=zdD (s.drop x)
 rw [List.length_drop] at hw
 generalize hA:x + zaF (s.drop x)=A at *
 by_cases c2:(zaD (s.drop A)).1 ≠ 0
 ·simp only [if_pos c2] at h; exact absurd h c2
 simp only [if_neg c2]
 have c2:(zaD (s.drop A)).1=0:=by simpa using c2
 obtain ⟨r1,r2,r3,r4,r5,r6⟩:=ze8 c2
 rw [List.length_drop] at r1 r4
 refine ⟨⟨?_,?_,?_,?_⟩,?_,r5,r6,?_,?_⟩
 ·show (x:Int) ≤ ((A + _:Nat):Int); omega
 ·show ((A + _:Nat):Int) ≤ _; omega
 ·intro h; have:=r2 h; show (x:Int) < ((A + _:Nat):Int); omega
 ·intro h
  have h1:=r3 h
  have h2:=congrArg List.length h1
  rw [List.length_drop,List.length_nil] at h2
  show ((A + _:Nat):Int)=_; omega
 ·show (zaD (s.drop A)).2.2.1.length ≤ _; omega
 ·show (0:Int) ≤ ((A:Nat):Int); omega
 ·show ((A:Nat):Int) ≤ _; omega
theorem ziJ {s:List UInt8} {a:Int} (h0:0 ≤ a) (h:(zat s a).2.2=0):a ≤ (zat s a).2.1 ∧ (zat s a).2.1 ≤ s.length ∧ ((zat s a).1.1 ≠ 1 → a < (zat s a).2.1) ∧ ((zat s a).1.1=1 → (zat s a).2.1=s.length):=(zjO h0 h).1
section
variable [Tabs Tryz.prog] [Pow Tryz.prog] {objs:List OB} {K:List OB → AV → Prop}
theorem number_e (s:List UInt8) (hs:s.length ≤ 140737488351232) (hk:K objs (.tup [.s (zcI s).2,.i .i64 (zcI s).1])):zad Tryz.prog 61 [.s s] objs K :=
 number_k s hs (fun h => by unfold zcI at hk; rw [if_pos (by simpa using h)] at hk; exact hk) (fun p hp e => by subst e; rw [zm0 hp] at hk; exact hk)
omit [Pow Tryz.prog] in
theorem zl9 (s:List UInt8) (hs:s.length ≤ 100000) (hk:K objs (.tup [.s (zcI s).2,.i .i64 (zcI s).1])):zad Tryz.prog 42 [.s s] objs K :=
 zl8 s (by omega) (fun h => by unfold zcI at hk; rw [if_pos (by simpa using h)] at hk; exact hk) (fun p hp e => by subst e; rw [zm0 hp,can_cut2 p hs] at hk; exact hk)
end
end
end Go.Proofs.YthmdohgkmdkeeaaGreatDoor
namespace Go.Proofs.YthmdohgkmdkeeaaGreatDoor
open Go.RowKit Sx
section
attribute [local irreducible] run
inductive JV where
 | mk (k:Int) (t:List UInt8) (ks:List (List UInt8)) (its:List JV)
def jvZ:JV:=.mk 0 [] [] []
abbrev Tk:=Int × List UInt8 × Int
def tkZ:Tk:=(0,[],0)
def isP (t:Tk) (c:UInt8):Bool:=decide (t.1=2) && decide (t.2.1=[c])
def zd2:List UInt8:=[116,114,117,101]
def zcz:List UInt8:=[102,97,108,115,101]
def zgd (l:List UInt8):Int:=if l=zd2 then 3 else if l=zcz then 2 else 1
def vkE (t:Tk):Int :=
 if t.1=3 then 5 else if t.1=4 then 4 else if isP t 91=true then 6 else if isP t 123=true then 7 else if ¬ t.1=5 then 0 else zgd t.2.1
structure Fr where
 obj:Bool
 ks:List (List UInt8)
 its:List JV
structure Ms where
 st:Int
 stk:List Fr
 nodes:Nat
 root:JV
def ms0:Ms:=⟨0,[],0,jvZ⟩
def zcn (σ:Ms) (v:JV):Ms:=match σ.stk with
 | [] => ⟨6,[],σ.nodes,v⟩
 | f :: r => ⟨5,⟨f.obj,f.ks,f.its ++ [v]⟩ :: r,σ.nodes,σ.root⟩
def Fr.val (f:Fr):JV:=.mk (if f.obj=true then 7 else 6) [] f.ks f.its
def zb4 (σ:Ms):Ms:=match σ.stk with
 | [] => σ
 | f :: r => zcn ⟨σ.st,r,σ.nodes,σ.root⟩ f.val
def zbb (σ:Ms) (o:Bool):Ms:=⟨if o=true then 3 else 1,⟨o,[],[]⟩ :: σ.stk,σ.nodes + 1,σ.root⟩
def zfE (t:Tk):Int × List UInt8:=if vkE t=4 then zcI t.2.1 else (0,if vkE t=5 then t.2.1 else [])
def zaB (σ:Ms) (t:Tk):Int × Ms :=
 if vkE t=0 then (140,σ)
 else if vkE t=6 ∨ vkE t=7 then
  (if 64 ≤ σ.stk.length then (141,σ) else if 20000 ≤ σ.nodes then (142,σ) else (0,zbb σ (decide (vkE t=7))))
 else if ¬ (zfE t).1=0 then ((zfE t).1,σ)
 else if 20000 ≤ σ.nodes then (142,σ)
 else (0,zcn ⟨σ.st,σ.stk,σ.nodes + 1,σ.root⟩ (.mk (vkE t) (zfE t).2 [] []))
def zcR (σ:Ms) (t:Tk):Bool:=match σ.stk with
 | [] => false
 | f :: _ => isP t (if f.obj=true then 125 else 93)
def zgA (σ:Ms) (t:Tk):Int × Ms:=match σ.stk with
 | [] => (140,σ)
 | f :: r => if ¬ t.1=3 then (140,σ) else if t.2.1 ∈ f.ks then (143,σ) else (0,⟨4,⟨f.obj,f.ks ++ [t.2.1],f.its⟩ :: r,σ.nodes,σ.root⟩)
def onM (σ:Ms) (t:Tk):Int × Ms:=match σ.stk with
 | [] => (140,σ)
 | f :: r => if zcR σ t=true then (0,zb4 σ) else if isP t 44=false then (140,σ) else (0,⟨if f.obj=true then 2 else 0,σ.stk,σ.nodes,σ.root⟩)
def zao (σ:Ms) (t:Tk):Int × Ms :=
 if σ.st=0 then zaB σ t
 else if σ.st=1 then (if zcR σ t=true then (0,zb4 σ) else zaB σ t)
 else if σ.st=3 then (if zcR σ t=true then (0,zb4 σ) else zgA σ t)
 else if σ.st=2 then zgA σ t
 else if σ.st=4 then (if isP t 58=true then (0,⟨0,σ.stk,σ.nodes,σ.root⟩) else (140,σ))
 else if σ.st=5 then onM σ t
 else if σ.st=6 then (if t.1=1 then (0,⟨7,σ.stk,σ.nodes,σ.root⟩) else (140,σ))
 else (140,σ)
inductive MRes (s:List UInt8):Int → Ms → JV × Int × Int → Prop
 | fin {a:Int} {σ:Ms}:σ.st=7 → MRes s a σ (σ.root,a,0)
 | tok {a:Int} {σ:Ms}:¬ σ.st=7 → ¬ (zat s a).2.2=0 → MRes s a σ (jvZ,a,(zat s a).2.2)
 | bad {a:Int} {σ:Ms}:¬ σ.st=7 → (zat s a).2.2=0 → ¬ (zao σ (zat s a).1).1=0 → MRes s a σ (jvZ,(zat s a).1.2.2,(zao σ (zat s a).1).1)
 | step {a:Int} {σ:Ms} {R:JV × Int × Int}:¬ σ.st=7 → (zat s a).2.2=0 → (zao σ (zat s a).1).1=0 → MRes s (zat s a).2.1 (zao σ (zat s a).1).2 R → MRes s a σ R
structure Rs where
 pos:Int
 nodes:Nat
 fail:Int
 wh:Int
def zbr (ρ:Rs) (a e:Int):Rs:=if ρ.fail=0 then ⟨ρ.pos,ρ.nodes,e,a⟩ else ρ
def zaC (s:List UInt8) (ρ:Rs):Tk × Rs :=
 if ¬ ρ.fail=0 then (tkZ,ρ)
 else if ¬ (zat s ρ.pos).2.2=0 then (tkZ,zbr ρ ρ.pos (zat s ρ.pos).2.2)
 else ((zat s ρ.pos).1,⟨(zat s ρ.pos).2.1,ρ.nodes,ρ.fail,ρ.wh⟩)
def zdj (ρ:Rs) (t:Tk) (c:UInt8):Rs:=if ρ.fail=0 ∧ isP t c=false then zbr ρ t.2.2 140 else ρ
def zeb (s:List UInt8) (val:Rs → Tk → JV × Rs):Nat → Rs → Tk → List JV → List JV × Rs
 | 0,ρ,_,acc => (acc,ρ)
 | n + 1,ρ,t,acc =>
  if ¬ ρ.fail=0 then (acc,ρ) else
  let a:=val ρ t
  let b:=zaC s a.2
  if isP b.1 93=true then (acc ++ [a.1],b.2) else
  let c:=zaC s (zdj b.2 b.1 44)
  zeb s val n c.2 c.1 (acc ++ [a.1])
def rkey (ρ:Rs) (t:Tk) (ks:List (List UInt8)):Rs :=
 let ρ:=if ¬ t.1=3 then zbr ρ t.2.2 140 else ρ
 if t.2.1 ∈ ks then zbr ρ t.2.2 143 else ρ
def zdI (s:List UInt8) (val:Rs → Tk → JV × Rs):Nat → Rs → Tk → List (List UInt8) → List JV → (List (List UInt8) × List JV) × Rs
 | 0,ρ,_,ks,its => ((ks,its),ρ)
 | n + 1,ρ,t,ks,its =>
  if ¬ ρ.fail=0 then ((ks,its),ρ) else
  let a:=zaC s (rkey ρ t ks)
  let b:=zaC s (zdj a.2 a.1 58)
  let v:=val b.2 b.1
  let c:=zaC s v.2
  if isP c.1 125=true then ((ks ++ [t.2.1],its ++ [v.1]),c.2) else
  let d:=zaC s (zdj c.2 c.1 44)
  zdI s val n d.2 d.1 (ks ++ [t.2.1]) (its ++ [v.1])
def zmw (s:List UInt8) (val:Rs → Tk → JV × Rs) (ρ:Rs):JV × Rs :=
 let a:=zaC s ρ
 if isP a.1 93=true then (.mk 6 [] [] [],a.2) else
 let b:=zeb s val (s.length + 2) a.2 a.1 []
 (.mk 6 [] [] b.1,b.2)
def zl7 (s:List UInt8) (val:Rs → Tk → JV × Rs) (ρ:Rs):JV × Rs :=
 let a:=zaC s ρ
 if isP a.1 125=true then (.mk 7 [] [] [],a.2) else
 let b:=zdI s val (s.length + 2) a.2 a.1 [] []
 (.mk 7 [] b.1.1 b.1.2,b.2)
def zbN (ρ:Rs) (t:Tk):Rs :=
 let ρ:=if t.1=4 ∧ ¬ (zcI t.2.1).1=0 then zbr ρ t.2.2 (zcI t.2.1).1 else ρ
 if 20000 < ρ.nodes + 1 then zbr ⟨ρ.pos,ρ.nodes + 1,ρ.fail,ρ.wh⟩ t.2.2 142 else ⟨ρ.pos,ρ.nodes + 1,ρ.fail,ρ.wh⟩
def zdH (s:List UInt8):Nat → Rs → Tk → Nat → JV × Rs
 | 0,ρ,_,_ => (jvZ,ρ)
 | f + 1,ρ,t,d =>
  if ¬ ρ.fail=0 then (jvZ,ρ)
  else if vkE t=0 then (jvZ,zbr ρ t.2.2 140)
  else if t.1=2 ∧ d=64 then (jvZ,zbr ρ t.2.2 141)
  else if t.1=5 then (.mk (zgd t.2.1) [] [] [],zbN ρ t)
  else if isP t 91=true then zmw s (fun ρ t => zdH s f ρ t (d + 1)) (zbN ρ t)
  else if isP t 123=true then zl7 s (fun ρ t => zdH s f ρ t (d + 1)) (zbN ρ t)
  else if t.1=4 then (.mk 4 (zcI t.2.1).2 [] [],zbN ρ t)
  else (.mk 5 t.2.1 [] [],zbN ρ t)
def rs0:Rs:=⟨0,0,0,0⟩
def zaV (s:List UInt8):JV × Int × Int :=
 if 1048576 < s.length then (jvZ,0,142) else
 let a:=zaC s rs0
 let v:=zdH s 65 a.2 a.1 0
 let b:=zaC s v.2
 let ρ:=if b.2.fail=0 ∧ ¬ b.1.1=1 then zbr b.2 b.1.2.2 140 else b.2
 if ¬ ρ.fail=0 then (jvZ,ρ.wh,ρ.fail) else (v.1,s.length,0)
def zid (ρ ρ':Rs):Prop:=¬ ρ.fail=0 → ρ'.fail=ρ.fail ∧ ρ'.wh=ρ.wh
theorem zid.refl (ρ:Rs):zid ρ ρ:=fun _ => ⟨rfl,rfl⟩
theorem zid.trans {a b c:Rs} (h:zid a b) (k:zid b c):zid a c:=fun ha => by
 obtain ⟨h1,h2⟩:=h ha
 obtain ⟨k1,k2⟩:=k (by rw [h1]; exact ha)
 exact ⟨k1.trans h1,k2.trans h2⟩
theorem zkP (ρ:Rs) (a e:Int):zid ρ (zbr ρ a e):=fun h => by unfold zbr; rw [if_neg h]; exact ⟨rfl,rfl⟩
theorem zau (s:List UInt8) (ρ:Rs):zid ρ (zaC s ρ).2:=fun h => by unfold zaC; rw [if_pos h]; exact ⟨rfl,rfl⟩
theorem zbB (ρ:Rs) (t:Tk) (c:UInt8):zid ρ (zdj ρ t c):=by
 unfold zdj; split
 ·exact zkP _ _ _
 ·exact zid.refl _
theorem ze3 (s:List UInt8) (f:Nat) (ρ:Rs) (t:Tk) (d:Nat):zid ρ (zdH s f ρ t d).2:=fun h => by
 cases f with
 | zero => exact ⟨rfl,rfl⟩
 | succ f => rw [zdH,if_pos h]; exact ⟨rfl,rfl⟩
theorem zbT (s:List UInt8) (val:Rs → Tk → JV × Rs) (n:Nat) (ρ:Rs) (t:Tk) (acc:List JV):zid ρ (zeb s val n ρ t acc).2:=fun h => by
 cases n with
 | zero => exact ⟨rfl,rfl⟩
 | succ f => rw [zeb,if_pos h]; exact ⟨rfl,rfl⟩
theorem zbS (s:List UInt8) (val:Rs → Tk → JV × Rs) (n:Nat) (ρ:Rs) (t:Tk) (ks:List (List UInt8)) (its:List JV):zid ρ (zdI s val n ρ t ks its).2:=fun h => by
 cases n with
 | zero => exact ⟨rfl,rfl⟩
 | succ f => rw [zdI,if_pos h]; exact ⟨rfl,rfl⟩
def AT (s:List UInt8) (t:Tk) (to:Int) (σ:Ms) (R:JV × Int × Int):Prop :=
 (¬ (zao σ t).1=0 ∧ R=(jvZ,t.2.2,(zao σ t).1)) ∨ ((zao σ t).1=0 ∧ MRes s to (zao σ t).2 R)
theorem mres_inv {s:List UInt8} {a:Int} {σ:Ms} {R:JV × Int × Int} (h:MRes s a σ R) (h7:¬ σ.st=7) :
  (¬ (zat s a).2.2=0 ∧ R=(jvZ,a,(zat s a).2.2)) ∨ ((zat s a).2.2=0 ∧ AT s (zat s a).1 (zat s a).2.1 σ R):=by
 cases h with
 | fin h => exact absurd h h7
 | tok _ h => exact .inl ⟨h,rfl⟩
 | bad _ h1 h2 => exact .inr ⟨h1,.inl ⟨h2,rfl⟩⟩
 | step _ h1 h2 h3 => exact .inr ⟨h1,.inr ⟨h2,h3⟩⟩
def Bad (ρ:Rs) (R:JV × Int × Int):Prop:=¬ ρ.fail=0 ∧ R=(jvZ,ρ.wh,ρ.fail)
theorem Bad.froz {ρ ρ':Rs} {R:JV × Int × Int} (h:Bad ρ R) (k:zid ρ ρ'):Bad ρ' R:=by
 obtain ⟨k1,k2⟩:=k h.1
 exact ⟨by rw [k1]; exact h.1,by rw [k1,k2]; exact h.2⟩
theorem zbG {s:List UInt8} {ρ:Rs} {σ:Ms} {R:JV × Int × Int} (h:MRes s ρ.pos σ R) (h7:¬ σ.st=7) (hf:ρ.fail=0) (h0:0 ≤ ρ.pos) :
  (Bad (zaC s ρ).2 R) ∨ ((zaC s ρ).2.fail=0 ∧ (zaC s ρ).2.nodes=ρ.nodes ∧ AT s (zaC s ρ).1 (zaC s ρ).2.pos σ R ∧ ρ.pos ≤ (zaC s ρ).2.pos ∧ (zaC s ρ).2.pos ≤ s.length ∧ ((zaC s ρ).1.1 ≠ 1 → ρ.pos < (zaC s ρ).2.pos) ∧ ((zaC s ρ).1.1=1 → (zaC s ρ).2.pos=s.length)):=by
 have e1:¬ ¬ ρ.fail=0:=fun h => h hf
 unfold zaC
 rw [if_neg e1]
 rcases mres_inv h h7 with ⟨h1,h2⟩ | ⟨h1,h2⟩
 ·rw [if_pos h1]
  left
  unfold zbr
  rw [if_pos hf]
  exact ⟨h1,h2⟩
 ·rw [if_neg (fun h => h h1)]
  have:=ziJ h0 h1
  exact .inr ⟨hf,rfl,h2,this⟩
theorem zfz {s:List UInt8} {t:Tk} {to:Int} {σ σ':Ms} {R:JV × Int × Int} (h:AT s t to σ R) (e:zao σ t=(0,σ')):MRes s to σ' R:=by
 unfold AT at h; rw [e] at h
 rcases h with ⟨h,_⟩ | ⟨_,h⟩
 ·exact absurd rfl h
 ·exact h
theorem zc7 {s:List UInt8} {t:Tk} {to e:Int} {σ σ':Ms} {R:JV × Int × Int} (h:AT s t to σ R) (h1:zao σ t=(e,σ')) (he:¬ e=0):R=(jvZ,t.2.2,e):=by
 unfold AT at h; rw [h1] at h
 rcases h with ⟨_,h⟩ | ⟨h,_⟩
 ·exact h
 ·exact absurd h he
theorem vk_val (t:Tk):vkE t=0 ∨ vkE t=1 ∨ vkE t=2 ∨ vkE t=3 ∨ vkE t=4 ∨ vkE t=5 ∨ vkE t=6 ∨ vkE t=7:=by
 unfold vkE zgd
 repeat' split
 all_goals simp
theorem zlw {t:Tk}:(vkE t=5 ↔ t.1=3) ∧ (vkE t=4 ↔ t.1=4) ∧ ((vkE t=1 ∨ vkE t=2 ∨ vkE t=3) ↔ t.1=5) ∧ (vkE t=6 ↔ isP t 91=true) ∧ (vkE t=7 ↔ isP t 123=true) ∧ (t.1=5 → vkE t=zgd t.2.1):=by
 have e1:∀ c,isP t c=true ↔ t.1=2 ∧ t.2.1=[c]:=fun c => by simp [isP]
 have hw:zgd t.2.1=1 ∨ zgd t.2.1=2 ∨ zgd t.2.1=3:=by
  unfold zgd
  by_cases a1:t.2.1=zd2
  ·rw [if_pos a1]; exact .inr (.inr rfl)
  ·rw [if_neg a1]
   by_cases a2:t.2.1=zcz
   ·rw [if_pos a2]; exact .inr (.inl rfl)
   ·rw [if_neg a2]; exact .inl rfl
 unfold vkE
 simp only [e1]
 by_cases h3:t.1=3
 ·simp [h3]
 by_cases h4:t.1=4
 ·simp [h4]
 by_cases h6:t.1=2 ∧ t.2.1=[91]
 ·simp [h6]
 by_cases h7:t.1=2 ∧ t.2.1=[123]
 ·simp [h7]
 by_cases h5:t.1=5
 ·simp only [h5]
  rcases hw with h | h | h <;> simp [h]
 ·simp only [h3,h4,h6,h7,h5]
  simp
theorem zbH (x y:Int) (S:List Fr) (n:Nat) (r:JV) (v:JV):zcn ⟨x,S,n,r⟩ v=zcn ⟨y,S,n,r⟩ v:=by unfold zcn; cases S <;> rfl
theorem zhu {ρ:Rs} {t:Tk} (hf:ρ.fail=0):(Bad (zbN ρ t) (jvZ,t.2.2,if t.1=4 ∧ ¬ (zcI t.2.1).1=0 then (zcI t.2.1).1 else 142) ∧ (t.1=4 ∧ ¬ (zcI t.2.1).1=0 ∨ 20000 ≤ ρ.nodes)) ∨ (zbN ρ t=⟨ρ.pos,ρ.nodes + 1,0,ρ.wh⟩ ∧ ¬ (t.1=4 ∧ ¬ (zcI t.2.1).1=0) ∧ ¬ 20000 ≤ ρ.nodes):=by
 unfold zbN
 by_cases h1:t.1=4 ∧ ¬ (zcI t.2.1).1=0
 ·left
  refine ⟨?_,.inl h1⟩
  simp only [if_pos h1]
  unfold zbr Bad
  simp only [if_pos hf]
  by_cases h2:20000 < ρ.nodes + 1
  ·simp only [if_pos h2,if_neg h1.2]
   exact ⟨h1.2,trivial⟩
  ·simp only [if_neg h2]
   exact ⟨h1.2,trivial⟩
 ·simp only [if_neg h1]
  by_cases h2:20000 < ρ.nodes + 1
  ·left
   simp only [if_pos h2]
   unfold zbr Bad
   simp only [if_pos hf]
   exact ⟨⟨by decide,trivial⟩,.inr (by omega)⟩
  ·right
   simp only [if_neg h2]
   exact ⟨by rw [hf],h1,by omega⟩
def zib (s:List UInt8) (val:Rs → Tk → JV × Rs) (d:Nat):Prop :=
 ∀ (ρ:Rs) (t:Tk) (σ:Ms) (R:JV × Int × Int),ρ.fail=0 → 0 ≤ ρ.pos → ρ.pos ≤ s.length → σ.stk.length=d → σ.nodes=ρ.nodes → zao σ t=zaB σ t → AT s t ρ.pos σ R →
  Bad (val ρ t).2 R ∨ ((val ρ t).2.fail=0 ∧ ρ.pos ≤ (val ρ t).2.pos ∧ (val ρ t).2.pos ≤ s.length ∧ MRes s (val ρ t).2.pos (zcn ⟨σ.st,σ.stk,(val ρ t).2.nodes,σ.root⟩ (val ρ t).1) R)
def zfA (val:Rs → Tk → JV × Rs):Prop:=∀ ρ t,zid ρ (val ρ t).2
theorem ze2 {ρ:Rs} {t:Tk} {c:UInt8} (hf:ρ.fail=0):(isP t c=true ∧ zdj ρ t c=ρ) ∨ (isP t c=false ∧ (zdj ρ t c).fail=140 ∧ (zdj ρ t c).wh=t.2.2):=by
 unfold zdj
 cases h:isP t c
 ·right
  refine ⟨rfl,?_⟩
  rw [if_pos ⟨hf,rfl⟩]
  unfold zbr
  rw [if_pos hf]
  exact ⟨rfl,rfl⟩
 ·left
  refine ⟨rfl,?_⟩
  rw [if_neg (fun h => by cases h.2)]
theorem za2 {t:Tk} {c:UInt8} (h:isP t c=true):t.1=2 ∧ t.2.1=[c]:=by
 simpa [isP] using h
theorem zhw {s:List UInt8} {val:Rs → Tk → JV × Rs} {d:Nat} (hv:zib s val (d + 1)) (hz:zfA val):∀ (n:Nat) (ρ:Rs) (t:Tk) (acc:List JV) (σ:Ms) (S:List Fr) (R:JV × Int × Int),
  ρ.fail=0 → 0 ≤ ρ.pos → ρ.pos ≤ s.length → s.length + 1 < n + ρ.pos → S.length=d → σ.stk=⟨false,[],acc⟩ :: S → σ.nodes=ρ.nodes → zao σ t=zaB σ t → AT s t ρ.pos σ R →
  Bad (zeb s val n ρ t acc).2 R ∨ ((zeb s val n ρ t acc).2.fail=0 ∧ ρ.pos ≤ (zeb s val n ρ t acc).2.pos ∧ (zeb s val n ρ t acc).2.pos ≤ s.length ∧ MRes s (zeb s val n ρ t acc).2.pos (zcn ⟨σ.st,S,(zeb s val n ρ t acc).2.nodes,σ.root⟩ (.mk 6 [] [] (zeb s val n ρ t acc).1)) R)
 | 0,ρ,t,acc,σ,S,R,hf,h0,hl,hn,hS,hσ,hc,hb,hA => by omega
 | n + 1,ρ,t,acc,σ,S,R,hf,h0,hl,hn,hS,hσ,hc,hb,hA => by
  rw [zeb,if_neg (fun h => h hf)]
  dsimp only
  have frz:∀ (p:JV × Rs),Bad p.2 R → Bad (if isP (zaC s p.2).1 93=true then (acc ++ [p.1],(zaC s p.2).2) else zeb s val n (zaC s (zdj (zaC s p.2).2 (zaC s p.2).1 44)).2 (zaC s (zdj (zaC s p.2).2 (zaC s p.2).1 44)).1 (acc ++ [p.1])).2 R:=by
   intro p hp
   split
   ·exact hp.froz (zau _ _)
   ·exact hp.froz ((zau _ _).trans ((zbB _ _ _).trans ((zau _ _).trans (zbT _ _ _ _ _ _))))
  have h1:=hv ρ t σ R hf h0 hl (by rw [hσ,List.length_cons,hS]) hc hb hA
  generalize val ρ t=a at h1 ⊢
  rcases h1 with h1 | ⟨f1,p1,q1,m1⟩
  ·exact .inl (frz a h1)
  simp only [hσ,zcn] at m1
  have h2:=zbG m1 (by simp) f1 (by omega)
  generalize zaC s a.2=b at h2 ⊢
  rcases h2 with h2 | ⟨f2,c2,a2,p2,q2,r2,_⟩
  ·left
   split
   ·exact h2
   ·exact h2.froz ((zbB _ _ _).trans ((zau _ _).trans (zbT _ _ _ _ _ _)))
  by_cases hcl:isP b.1 93=true
  ·rw [if_pos hcl]
   right
   have e:zao ⟨5,⟨false,[],acc ++ [a.1]⟩ :: S,a.2.nodes,σ.root⟩ b.1=(0,zcn ⟨5,S,a.2.nodes,σ.root⟩ (.mk 6 [] [] (acc ++ [a.1]))):=by
    simp [zao,onM,zcR,hcl,zb4,Fr.val]
   have m2:=zfz a2 e
   refine ⟨f2,by show ρ.pos ≤ b.2.pos; omega,q2,?_⟩
   show MRes s b.2.pos (zcn ⟨σ.st,S,b.2.nodes,σ.root⟩ _) R
   rw [c2,show zcn ⟨σ.st,S,a.2.nodes,σ.root⟩ (.mk 6 [] [] (acc ++ [a.1]))=zcn ⟨5,S,a.2.nodes,σ.root⟩ (.mk 6 [] [] (acc ++ [a.1])) from zbH _ _ _ _ _ _]
   exact m2
  ·rw [if_neg hcl]
   rcases ze2 (t:=b.1) (c:=44) f2 with ⟨h3,h4⟩ | ⟨h3,h4,h5⟩
   ·have e:zao ⟨5,⟨false,[],acc ++ [a.1]⟩ :: S,a.2.nodes,σ.root⟩ b.1=(0,⟨0,⟨false,[],acc ++ [a.1]⟩ :: S,a.2.nodes,σ.root⟩):=by
     simp [zao,onM,zcR,hcl,h3]
    have m2:=zfz a2 e
    simp only [h4]
    have h6:=zbG m2 (by simp) f2 (by omega)
    generalize zaC s b.2=c at h6 ⊢
    rcases h6 with h6 | ⟨f3,c3,a3,p3,q3,r3,_⟩
    ·exact .inl (h6.froz (zbT _ _ _ _ _ _))
    have r2:=r2 (by rw [(za2 h3).1]; decide)
    have ih:=zhw hv hz n c.2 c.1 (acc ++ [a.1]) _ S R f3 (by omega) q3 (by omega) hS rfl (c2.symm.trans c3.symm) rfl a3
    rcases ih with ih | ⟨g1,g2,g3,g4⟩
    ·exact .inl ih
    ·right
     refine ⟨g1,by omega,g3,?_⟩
     rw [zbH σ.st 0]
     exact g4
   ·have e:zao ⟨5,⟨false,[],acc ++ [a.1]⟩ :: S,a.2.nodes,σ.root⟩ b.1=(140,⟨5,⟨false,[],acc ++ [a.1]⟩ :: S,a.2.nodes,σ.root⟩):=by
     simp [zao,onM,zcR,hcl,h3]
    have hR:=zc7 a2 e (by decide)
    left
    refine Bad.froz (ρ:=zdj b.2 b.1 44) ⟨by rw [h4]; decide,by rw [h4,h5]; exact hR⟩ ((zau _ _).trans (zbT _ _ _ _ _ _))
theorem rkey_sim {ρ:Rs} {t:Tk} {ks:List (List UInt8)} (hf:ρ.fail=0):(t.1=3 ∧ t.2.1 ∉ ks ∧ rkey ρ t ks=ρ) ∨ (¬ t.1=3 ∧ (rkey ρ t ks).fail=140 ∧ (rkey ρ t ks).wh=t.2.2) ∨ (t.1=3 ∧ t.2.1 ∈ ks ∧ (rkey ρ t ks).fail=143 ∧ (rkey ρ t ks).wh=t.2.2):=by
 unfold rkey
 by_cases h1:t.1=3
 ·have e:¬ ¬ t.1=3:=fun h => h h1
  simp only [if_neg e]
  by_cases h2:t.2.1 ∈ ks
  ·right; right
   simp only [if_pos h2]
   unfold zbr
   simp only [if_pos hf]
   exact ⟨h1,h2,trivial,trivial⟩
  ·left
   simp only [if_neg h2]
   exact ⟨h1,h2,trivial⟩
 ·right; left
  simp only [if_pos h1]
  have e2:zbr ρ t.2.2 140=⟨ρ.pos,ρ.nodes,140,t.2.2⟩:=by unfold zbr; rw [if_pos hf]
  rw [e2]
  by_cases h2:t.2.1 ∈ ks
  ·simp only [if_pos h2]
   unfold zbr
   exact ⟨h1,rfl,rfl⟩
  ·simp only [if_neg h2]
   exact ⟨h1,trivial,trivial⟩
theorem zhn {s:List UInt8} {val:Rs → Tk → JV × Rs} {d:Nat} (hv:zib s val (d + 1)) (hz:zfA val):∀ (n:Nat) (ρ:Rs) (t:Tk) (ks:List (List UInt8)) (its:List JV) (σ:Ms) (S:List Fr) (R:JV × Int × Int),
  ρ.fail=0 → 0 ≤ ρ.pos → ρ.pos ≤ s.length → s.length + 1 < n + ρ.pos → S.length=d → σ.stk=⟨true,ks,its⟩ :: S → σ.nodes=ρ.nodes → zao σ t=zgA σ t → AT s t ρ.pos σ R →
  Bad (zdI s val n ρ t ks its).2 R ∨ ((zdI s val n ρ t ks its).2.fail=0 ∧ ρ.pos ≤ (zdI s val n ρ t ks its).2.pos ∧ (zdI s val n ρ t ks its).2.pos ≤ s.length ∧ MRes s (zdI s val n ρ t ks its).2.pos (zcn ⟨σ.st,S,(zdI s val n ρ t ks its).2.nodes,σ.root⟩ (.mk 7 [] (zdI s val n ρ t ks its).1.1 (zdI s val n ρ t ks its).1.2)) R)
 | 0,ρ,t,ks,its,σ,S,R,hf,h0,hl,hn,hS,hσ,hc,hb,hA => by omega
 | n + 1,ρ,t,ks,its,σ,S,R,hf,h0,hl,hn,hS,hσ,hc,hb,hA => by
  rw [zdI,if_neg (fun h => h hf)]
  dsimp only
  have key:zao σ t=if ¬ t.1=3 then (140,σ) else if t.2.1 ∈ ks then (143,σ) else (0,⟨4,⟨true,ks ++ [t.2.1],its⟩ :: S,σ.nodes,σ.root⟩):=by
   rw [hb]; unfold zgA; rw [hσ]
  have last:∀ (v:JV × Rs),Bad v.2 R → Bad (if isP (zaC s v.2).1 125=true then ((ks ++ [t.2.1],its ++ [v.1]),(zaC s v.2).2) else zdI s val n (zaC s (zdj (zaC s v.2).2 (zaC s v.2).1 44)).2 (zaC s (zdj (zaC s v.2).2 (zaC s v.2).1 44)).1 (ks ++ [t.2.1]) (its ++ [v.1])).2 R:=by
   intro p hp
   split
   ·exact hp.froz (zau _ _)
   ·exact hp.froz ((zau _ _).trans ((zbB _ _ _).trans ((zau _ _).trans (zbS _ _ _ _ _ _ _))))
  rcases rkey_sim (t:=t) (ks:=ks) hf with ⟨k1,k2,k3⟩ | ⟨k1,k2,k3⟩ | ⟨k1,k2,k3,k4⟩
  rotate_left
  ·rw [if_pos k1] at key
   have hR:=zc7 hA key (by decide)
   left
   refine last _ (Bad.froz (ρ:=rkey ρ t ks) ⟨by rw [k2]; decide,by rw [k2,k3]; exact hR⟩ ?_)
   exact (zau _ _).trans ((zbB _ _ _).trans ((zau _ _).trans (hz _ _)))
  ·rw [if_neg (fun h => h k1),if_pos k2] at key
   have hR:=zc7 hA key (by decide)
   left
   refine last _ (Bad.froz (ρ:=rkey ρ t ks) ⟨by rw [k3]; decide,by rw [k3,k4]; exact hR⟩ ?_)
   exact (zau _ _).trans ((zbB _ _ _).trans ((zau _ _).trans (hz _ _)))
  rw [if_neg (fun h => h k1),if_neg k2] at key
  have m0:=zfz hA key
  rw [k3]
  have h1:=zbG m0 (by simp) hf h0
  generalize zaC s ρ=a at h1 ⊢
  rcases h1 with h1 | ⟨f1,c1,a1,p1,q1,r1,_⟩
  ·exact .inl (last _ (h1.froz ((zbB _ _ _).trans ((zau _ _).trans (hz _ _)))))
  rcases ze2 (t:=a.1) (c:=58) f1 with ⟨h3,h4⟩ | ⟨h3,h4,h5⟩
  rotate_left
  ·have e:zao ⟨4,⟨true,ks ++ [t.2.1],its⟩ :: S,σ.nodes,σ.root⟩ a.1=(140,⟨4,⟨true,ks ++ [t.2.1],its⟩ :: S,σ.nodes,σ.root⟩):=by
    simp [zao,h3]
   have hR:=zc7 a1 e (by decide)
   left
   exact last _ (Bad.froz (ρ:=zdj a.2 a.1 58) ⟨by rw [h4]; decide,by rw [h4,h5]; exact hR⟩ ((zau _ _).trans (hz _ _)))
  have e:zao ⟨4,⟨true,ks ++ [t.2.1],its⟩ :: S,σ.nodes,σ.root⟩ a.1=(0,⟨0,⟨true,ks ++ [t.2.1],its⟩ :: S,σ.nodes,σ.root⟩):=by
   simp [zao,h3]
  have m1:=zfz a1 e
  rw [h4]
  have h2:=zbG m1 (by simp) f1 (by omega)
  generalize zaC s a.2=b at h2 ⊢
  rcases h2 with h2 | ⟨f2,c2,a2,p2,q2,_,_⟩
  ·exact .inl (last _ (h2.froz (hz _ _)))
  have hV:=hv b.2 b.1 _ R f2 (by omega) q2 (by simp [hS]) (by show σ.nodes=_; omega) rfl a2
  generalize val b.2 b.1=v at hV ⊢
  rcases hV with hV | ⟨f3,p3,q3,m3⟩
  ·exact .inl (last v hV)
  simp only [zcn] at m3
  have h6:=zbG m3 (by simp) f3 (by omega)
  generalize zaC s v.2=c at h6 ⊢
  rcases h6 with h6 | ⟨f4,c4,a4,p4,q4,r4,_⟩
  ·left
   split
   ·exact h6
   ·exact h6.froz ((zbB _ _ _).trans ((zau _ _).trans (zbS _ _ _ _ _ _ _)))
  by_cases hcl:isP c.1 125=true
  ·rw [if_pos hcl]
   right
   have e:zao ⟨5,⟨true,ks ++ [t.2.1],its ++ [v.1]⟩ :: S,v.2.nodes,σ.root⟩ c.1=(0,zcn ⟨5,S,v.2.nodes,σ.root⟩ (.mk 7 [] (ks ++ [t.2.1]) (its ++ [v.1]))):=by
    simp [zao,onM,zcR,hcl,zb4,Fr.val]
   have m2:=zfz a4 e
   refine ⟨f4,by show ρ.pos ≤ c.2.pos; omega,q4,?_⟩
   show MRes s c.2.pos (zcn ⟨σ.st,S,c.2.nodes,σ.root⟩ _) R
   rw [c4,zbH σ.st 5]
   exact m2
  ·rw [if_neg hcl]
   rcases ze2 (t:=c.1) (c:=44) f4 with ⟨g3,g4⟩ | ⟨g3,g4,g5⟩
   ·have e:zao ⟨5,⟨true,ks ++ [t.2.1],its ++ [v.1]⟩ :: S,v.2.nodes,σ.root⟩ c.1=(0,⟨2,⟨true,ks ++ [t.2.1],its ++ [v.1]⟩ :: S,v.2.nodes,σ.root⟩):=by
     simp [zao,onM,zcR,hcl,g3]
    have m2:=zfz a4 e
    simp only [g4]
    have h6:=zbG m2 (by simp) f4 (by omega)
    generalize zaC s c.2=x at h6 ⊢
    rcases h6 with h6 | ⟨f5,c5,a5,p5,q5,_,_⟩
    ·exact .inl (h6.froz (zbS _ _ _ _ _ _ _))
    have r4:=r4 (by rw [(za2 g3).1]; decide)
    have ih:=zhn hv hz n x.2 x.1 (ks ++ [t.2.1]) (its ++ [v.1]) _ S R f5 (by omega) q5 (by omega) hS rfl (c4.symm.trans c5.symm) rfl a5
    rcases ih with ih | ⟨i1,i2,i3,i4⟩
    ·exact .inl ih
    ·right
     refine ⟨i1,by omega,i3,?_⟩
     rw [zbH σ.st 2]
     exact i4
   ·have e:zao ⟨5,⟨true,ks ++ [t.2.1],its ++ [v.1]⟩ :: S,v.2.nodes,σ.root⟩ c.1=(140,⟨5,⟨true,ks ++ [t.2.1],its ++ [v.1]⟩ :: S,v.2.nodes,σ.root⟩):=by
     simp [zao,onM,zcR,hcl,g3]
    have hR:=zc7 a4 e (by decide)
    left
    exact Bad.froz (ρ:=zdj c.2 c.1 44) ⟨by rw [g4]; decide,by rw [g4,g5]; exact hR⟩ ((zau _ _).trans (zbS _ _ _ _ _ _ _))
theorem rarr_sim {s:List UInt8} {val:Rs → Tk → JV × Rs} {d:Nat} (hv:zib s val (d + 1)) (hz:zfA val) (ρ:Rs) (σ:Ms) (R:JV × Int × Int) (hf:ρ.fail=0) (h0:0 ≤ ρ.pos) (hl:ρ.pos ≤ s.length) (hS:σ.stk.length=d)
  (hc:σ.nodes + 1=ρ.nodes) (hm:MRes s ρ.pos (zbb σ false) R) :
  Bad (zmw s val ρ).2 R ∨ ((zmw s val ρ).2.fail=0 ∧ ρ.pos ≤ (zmw s val ρ).2.pos ∧ (zmw s val ρ).2.pos ≤ s.length ∧ MRes s (zmw s val ρ).2.pos (zcn ⟨σ.st,σ.stk,(zmw s val ρ).2.nodes,σ.root⟩ (zmw s val ρ).1) R):=by
 unfold zmw
 dsimp only
 have h1:=zbG hm (by simp [zbb]) hf h0
 generalize zaC s ρ=a at h1 ⊢
 rcases h1 with h1 | ⟨f1,c1,a1,p1,q1,r1,_⟩
 ·left
  split
  ·exact h1
  ·exact h1.froz (zbT _ _ _ _ _ _)
 by_cases hcl:isP a.1 93=true
 ·rw [if_pos hcl]
  right
  have e:zao (zbb σ false) a.1=(0,zcn ⟨1,σ.stk,σ.nodes + 1,σ.root⟩ (.mk 6 [] [] [])):=by
   simp [zao,zbb,zcR,hcl,zb4,Fr.val]
  have m2:=zfz a1 e
  refine ⟨f1,p1,q1,?_⟩
  show MRes s a.2.pos (zcn ⟨σ.st,σ.stk,a.2.nodes,σ.root⟩ _) R
  rw [c1,← hc,zbH σ.st 1]
  exact m2
 ·rw [if_neg hcl]
  have e:zao (zbb σ false) a.1=zaB (zbb σ false) a.1:=by
   simp [zao,zbb,zcR,hcl]
  have hL:=zhw hv hz (s.length + 2) a.2 a.1 [] (zbb σ false) σ.stk R f1 (by omega) q1 (by omega) hS rfl (by rw [c1,← hc]; rfl) e a1
  rcases hL with hL | ⟨g1,g2,g3,g4⟩
  ·exact .inl hL
  ·right
   refine ⟨g1,Int.le_trans p1 g2,g3,?_⟩
   show MRes s _ (zcn ⟨σ.st,σ.stk,_,σ.root⟩ _) R
   rw [zbH σ.st (zbb σ false).st]
   exact g4
theorem robj_sim {s:List UInt8} {val:Rs → Tk → JV × Rs} {d:Nat} (hv:zib s val (d + 1)) (hz:zfA val) (ρ:Rs) (σ:Ms) (R:JV × Int × Int) (hf:ρ.fail=0) (h0:0 ≤ ρ.pos) (hl:ρ.pos ≤ s.length) (hS:σ.stk.length=d)
  (hc:σ.nodes + 1=ρ.nodes) (hm:MRes s ρ.pos (zbb σ true) R) :
  Bad (zl7 s val ρ).2 R ∨ ((zl7 s val ρ).2.fail=0 ∧ ρ.pos ≤ (zl7 s val ρ).2.pos ∧ (zl7 s val ρ).2.pos ≤ s.length ∧ MRes s (zl7 s val ρ).2.pos (zcn ⟨σ.st,σ.stk,(zl7 s val ρ).2.nodes,σ.root⟩ (zl7 s val ρ).1) R):=by
 unfold zl7
 dsimp only
 have h1:=zbG hm (by simp [zbb]) hf h0
 generalize zaC s ρ=a at h1 ⊢
 rcases h1 with h1 | ⟨f1,c1,a1,p1,q1,r1,_⟩
 ·left
  split
  ·exact h1
  ·exact h1.froz (zbS _ _ _ _ _ _ _)
 by_cases hcl:isP a.1 125=true
 ·rw [if_pos hcl]
  right
  have e:zao (zbb σ true) a.1=(0,zcn ⟨3,σ.stk,σ.nodes + 1,σ.root⟩ (.mk 7 [] [] [])):=by
   simp [zao,zbb,zcR,hcl,zb4,Fr.val]
  have m2:=zfz a1 e
  refine ⟨f1,p1,q1,?_⟩
  show MRes s a.2.pos (zcn ⟨σ.st,σ.stk,a.2.nodes,σ.root⟩ _) R
  rw [c1,← hc,zbH σ.st 3]
  exact m2
 ·rw [if_neg hcl]
  have e:zao (zbb σ true) a.1=zgA (zbb σ true) a.1:=by
   simp [zao,zbb,zcR,hcl]
  have hL:=zhn hv hz (s.length + 2) a.2 a.1 [] [] (zbb σ true) σ.stk R f1 (by omega) q1 (by omega) hS rfl (by rw [c1,← hc]; rfl) e a1
  rcases hL with hL | ⟨g1,g2,g3,g4⟩
  ·exact .inl hL
  ·right
   refine ⟨g1,Int.le_trans p1 g2,g3,?_⟩
   show MRes s _ (zcn ⟨σ.st,σ.stk,_,σ.root⟩ _) R
   rw [zbH σ.st (zbb σ true).st]
   exact g4
theorem zmv (s:List UInt8) (val:Rs → Tk → JV × Rs) (ρ:Rs):zid ρ (zmw s val ρ).2:=by
 unfold zmw
 dsimp only
 split
 ·exact zau _ _
 ·exact (zau _ _).trans (zbT _ _ _ _ _ _)
theorem zl6 (s:List UInt8) (val:Rs → Tk → JV × Rs) (ρ:Rs):zid ρ (zl7 s val ρ).2:=by
 unfold zl7
 dsimp only
 split
 ·exact zau _ _
 ·exact (zau _ _).trans (zbS _ _ _ _ _ _ _)
theorem zd7 (s:List UInt8):∀ (f d:Nat),f + d=65 → d ≤ 64 → zib s (fun ρ t => zdH s f ρ t d) d
 | 0,d,hd,hd2 => by omega
 | f + 1,d,hd,hd2 => by
  intro ρ t σ R hf h0 hl hS hc hb hA
  obtain ⟨k5,k4,kw,k6,k7,kw2⟩:=zlw (t:=t)
  have hz:zfA (fun ρ t => zdH s f ρ t (d + 1)):=fun ρ t => ze3 s f ρ t (d + 1)
  dsimp only
  rw [zdH,if_neg (fun h => h hf)]
  by_cases c0:vkE t=0
  ·rw [if_pos c0]
   have e:zao σ t=(140,σ):=by rw [hb]; unfold zaB; rw [if_pos c0]
   have hR:=zc7 hA e (by decide)
   left
   unfold zbr; rw [if_pos hf]
   exact ⟨by simp,hR⟩
  rw [if_neg c0]
  have hv:=vk_val t
  by_cases c1:t.1=2 ∧ d=64
  ·rw [if_pos c1]
   have hk:vkE t=6 ∨ vkE t=7:=by
    have n3:¬ vkE t=5:=fun h => by have:=k5.1 h; omega
    have n4:¬ vkE t=4:=fun h => by have:=k4.1 h; omega
    have nw:¬ (vkE t=1 ∨ vkE t=2 ∨ vkE t=3):=fun h => by have:=kw.1 h; omega
    omega
   have e:zao σ t=(141,σ):=by rw [hb]; unfold zaB; rw [if_neg c0,if_pos hk,if_pos (by omega)]
   have hR:=zc7 hA e (by decide)
   left
   unfold zbr; rw [if_pos hf]
   exact ⟨by simp,hR⟩
  rw [if_neg c1]
  have leaf:∀ (k:Int) (x:List UInt8),vkE t=k → ¬ (k=6 ∨ k=7) → zfE t=((if t.1=4 then (zcI t.2.1).1 else 0),x) →
    Bad (zbN ρ t) R ∨ ((zbN ρ t).fail=0 ∧ ρ.pos ≤ (zbN ρ t).pos ∧ (zbN ρ t).pos ≤ s.length ∧ MRes s (zbN ρ t).pos (zcn ⟨σ.st,σ.stk,(zbN ρ t).nodes,σ.root⟩ (.mk k x [] [])) R):=by
   intro k x hk hn hx
   have hb':=hb
   unfold zaB at hb'
   rw [if_neg c0,if_neg (by rw [hk]; exact hn),hx] at hb'
   simp only at hb'
   rcases zhu (t:=t) hf with ⟨q1,q2⟩ | ⟨q1,q2,q3⟩
   ·left
    have q3:R=(jvZ,t.2.2,if t.1=4 ∧ ¬ (zcI t.2.1).1=0 then (zcI t.2.1).1 else 142):=by
     by_cases c4:t.1=4 ∧ ¬ (zcI t.2.1).1=0
     ·rw [if_pos c4]
      rw [if_pos c4.1,if_pos c4.2] at hb'
      exact zc7 hA hb' c4.2
     ·rw [if_neg c4]
      have:¬ ¬ (if t.1=4 then (zcI t.2.1).1 else 0)=0:=by
       intro h
       by_cases c5:t.1=4
       ·rw [if_pos c5] at h; exact c4 ⟨c5,h⟩
       ·rw [if_neg c5] at h; exact h rfl
      rcases q2 with q2 | q2
      ·exact absurd q2 c4
      ·rw [if_neg this,if_pos (by omega)] at hb'
       exact zc7 hA hb' (by decide)
    rw [q3]
    exact q1
   ·right
    have:¬ ¬ (if t.1=4 then (zcI t.2.1).1 else 0)=0:=by
     intro h
     by_cases c5:t.1=4
     ·rw [if_pos c5] at h; exact q2 ⟨c5,h⟩
     ·rw [if_neg c5] at h; exact h rfl
    rw [if_neg this,if_neg (by omega)] at hb'
    have m:=zfz hA hb'
    rw [q1]
    refine ⟨rfl,Int.le_refl _,hl,?_⟩
    rw [← hc,← hk]
    exact m
  have open_:∀ (b:Bool),vkE t=(if b=true then 7 else 6) → Bad (zbN ρ t) R ∨ (zbN ρ t=⟨ρ.pos,ρ.nodes + 1,0,ρ.wh⟩ ∧ MRes s ρ.pos (zbb σ b) R):=by
   intro b hk
   have hk':vkE t=6 ∨ vkE t=7:=by cases b <;> simp at hk <;> simp [hk]
   have n4:¬ t.1=4:=fun h => by have:=k4.2 h; omega
   have h2:t.1=2:=by
    rcases hk' with h | h
    ·exact (za2 (k6.1 h)).1
    ·exact (za2 (k7.1 h)).1
   have hb':=hb
   unfold zaB at hb'
   rw [if_neg c0,if_pos hk',if_neg (by omega)] at hb'
   rcases zhu (t:=t) hf with ⟨q1,q2⟩ | ⟨q1,q2,q3⟩
   ·left
    rcases q2 with q2 | q2
    ·exact absurd q2.1 n4
    rw [if_pos (by omega)] at hb'
    rw [if_neg (fun h => n4 h.1)] at q1
    rw [zc7 hA hb' (by decide)]
    exact q1
   ·right
    rw [if_neg (by omega)] at hb'
    refine ⟨q1,?_⟩
    have m:=zfz hA hb'
    have:decide (vkE t=7)=b:=by cases b <;> simp at hk <;> simp [hk]
    rw [this] at m
    exact m
  by_cases c5:t.1=5
  ·rw [if_pos c5]
   have hk:=kw.2 c5
   exact leaf _ _ (kw2 c5) (by rw [← kw2 c5]; omega) (by unfold zfE; rw [if_neg (by omega),if_neg (by omega),if_neg (by omega)])
  rw [if_neg c5]
  by_cases c6:isP t 91=true
  ·rw [if_pos c6]
   have hk:=k6.2 c6
   have h2:=(za2 c6).1
   rcases open_ false hk with h | ⟨h1,h3⟩
   ·exact .inl (h.froz (zmv _ _ _))
   ·rw [h1]
    exact rarr_sim (zd7 s f (d + 1) (by omega) (by omega)) hz ⟨ρ.pos,ρ.nodes + 1,0,ρ.wh⟩ σ R rfl h0 hl hS (by show σ.nodes + 1=ρ.nodes + 1; omega) h3
  rw [if_neg c6]
  by_cases c7:isP t 123=true
  ·rw [if_pos c7]
   have hk:=k7.2 c7
   have h2:=(za2 c7).1
   rcases open_ true hk with h | ⟨h1,h3⟩
   ·exact .inl (h.froz (zl6 _ _ _))
   ·rw [h1]
    exact robj_sim (zd7 s f (d + 1) (by omega) (by omega)) hz ⟨ρ.pos,ρ.nodes + 1,0,ρ.wh⟩ σ R rfl h0 hl hS (by show σ.nodes + 1=ρ.nodes + 1; omega) h3
  rw [if_neg c7]
  by_cases c4:t.1=4
  ·rw [if_pos c4]
   have hk:=k4.2 c4
   exact leaf 4 _ hk (by omega) (by unfold zfE; rw [if_pos hk,if_pos c4])
  ·rw [if_neg c4]
   have hk:vkE t=5:=by
    have n4:¬ vkE t=4:=fun h => c4 (k4.1 h)
    have nw:¬ (vkE t=1 ∨ vkE t=2 ∨ vkE t=3):=fun h => c5 (kw.1 h)
    have n6:¬ vkE t=6:=fun h => c6 (k6.1 h)
    have n7:¬ vkE t=7:=fun h => c7 (k7.1 h)
    omega
   exact leaf 5 _ hk (by omega) (by unfold zfE; rw [if_neg (by omega),if_pos hk,if_neg c4])
theorem zdN {s:List UInt8} {R:JV × Int × Int} (hs:s.length ≤ 1048576) (h:MRes s 0 ms0 R):R=zaV s:=by
 unfold zaV
 rw [if_neg (by omega)]
 dsimp only
 have h1:=zbG (ρ:=rs0) h (by decide) rfl (by decide)
 generalize zaC s rs0=a at h1 ⊢
 have bad:∀ (ρ:Rs) (p:JV × Rs) (b:Tk × Rs),b=zaC s p.2 → Bad p.2 R → R=if ¬ (if b.2.fail=0 ∧ ¬ b.1.1=1 then zbr b.2 b.1.2.2 140 else b.2).fail=0 then (jvZ,(if b.2.fail=0 ∧ ¬ b.1.1=1 then zbr b.2 b.1.2.2 140 else b.2).wh,(if b.2.fail=0 ∧ ¬ b.1.1=1 then zbr b.2 b.1.2.2 140 else b.2).fail) else (p.1,(s.length:Int),0):=by
  intro ρ p b hb hp
  subst hb
  have h2:=hp.froz (zau s p.2)
  have e:(if (zaC s p.2).2.fail=0 ∧ ¬ (zaC s p.2).1.1=1 then zbr (zaC s p.2).2 (zaC s p.2).1.2.2 140 else (zaC s p.2).2)=(zaC s p.2).2:=if_neg (fun h => h2.1 h.1)
  rw [e,if_pos h2.1]
  exact h2.2
 rcases h1 with h1 | ⟨f1,c1,a1,p1,q1,_,_⟩
 ·exact bad a.2 _ _ rfl (h1.froz (ze3 _ _ _ _ _))
 have h0:(0:Int) ≤ a.2.pos:=p1
 have h2:=zd7 s 65 0 rfl (by omega) a.2 a.1 ms0 R f1 h0 q1 rfl (by rw [c1]; rfl) rfl a1
 dsimp only at h2
 generalize zdH s 65 a.2 a.1 0=v at h2 ⊢
 rcases h2 with h2 | ⟨f2,p2,q2,m2⟩
 ·exact bad a.2 v _ rfl h2
 simp only [ms0,zcn] at m2
 have h3:=zbG m2 (by simp) f2 (by omega)
 have hb:=bad a.2 v (zaC s v.2) rfl
 generalize zaC s v.2=b at h3 hb ⊢
 rcases h3 with h3 | ⟨f3,c3,a3,p3,q3,r3,e3⟩
 ·have e:(if b.2.fail=0 ∧ ¬ b.1.1=1 then zbr b.2 b.1.2.2 140 else b.2)=b.2:=if_neg (fun h => h3.1 h.1)
  rw [e,if_pos h3.1]
  exact h3.2
 by_cases c1:b.1.1=1
 ·have e:zao ⟨6,[],v.2.nodes,v.1⟩ b.1=(0,⟨7,[],v.2.nodes,v.1⟩):=by simp [zao,c1]
  have m3:=zfz a3 e
  have e2:(if b.2.fail=0 ∧ ¬ b.1.1=1 then zbr b.2 b.1.2.2 140 else b.2)=b.2:=if_neg (fun h => h.2 c1)
  rw [e2,if_neg (fun h => h f3),← e3 c1]
  cases m3 with
  | fin _ => rfl
  | tok g _ => exact absurd rfl g
  | bad g _ _ => exact absurd rfl g
  | step g _ _ _ => exact absurd rfl g
 ·have e:zao ⟨6,[],v.2.nodes,v.1⟩ b.1=(140,⟨6,[],v.2.nodes,v.1⟩):=by simp [zao,c1]
  have hR:=zc7 a3 e (by decide)
  have e2:(if b.2.fail=0 ∧ ¬ b.1.1=1 then zbr b.2 b.1.2.2 140 else b.2)=⟨b.2.pos,b.2.nodes,140,b.1.2.2⟩:=by
   rw [if_pos ⟨f3,c1⟩]; unfold zbr; rw [if_pos f3]
  rw [e2,if_pos (by simp)]
  exact hR
end
end Go.Proofs.YthmdohgkmdkeeaaGreatDoor
namespace Go.Proofs.YthmdohgkmdkeeaaGreatDoor.Sx
open Go.RowKit
def zcj (b gen n:Nat) (xs:List AV):AV → AV
 | .orow b' g' => if b'=b ∧ g'=gen then .row n xs else .orow b' g'
 | x => x
def zha (b gen n:Nat) (xs:List AV):OB → OB
 | .box T cs => .box T (cs.map (zcj b gen n xs))
 | x => x
def pubO (objs:List OB) (b gen n:Nat) (xs:List AV):List OB:=(objs.map (zha b gen n xs)).set b .dead
def zhz (G:Gh) (b gen:Nat):Gh:=⟨G.blk,fun x => if x=b then some (gen + 1,.slice none 0 0) else G.cur x⟩
theorem ziE {G:Gh} {b gen:Nat} {v:Value} (h:G.cur b=some (gen,v)):G.le (zhz G b gen) where
 blk:=fun _ _ h => h
 cur:=fun x n w hx => by
  by_cases hb:x=b
  ·subst hb
   rw [h] at hx; injection hx with hx; injection hx with h1 h2
   exact ⟨gen + 1,.slice none 0 0,by simp [zhz],.inr (by omega)⟩
  ·exact ⟨n,w,by simp [zhz,hb,hx],.inl ⟨rfl,rfl⟩⟩
theorem zdL {G:Gh} {b gen:Nat} (hb:G.blk b=none) {x g:Nat} (h:(zhz G b gen).own x=some g):x ≠ b ∧ G.own x=some g:=by
 by_cases hx:x=b
 ·subst hx
  exfalso
  unfold Gh.own zhz at h
  simp only [hb] at h
  simp [Value.ownBlock] at h
 ·refine ⟨hx,?_⟩
  unfold Gh.own zhz at h
  simp only [if_neg hx] at h
  exact h
def zlk (I:Imm) (G:Gh) (b:Nat) (w:World):Imm:=fun g o v => I g o v ∨ (w.cell? ⟨g,o,none⟩=some v ∧ G.own b=some g)
theorem zoh {G:Gh} {I:Imm} {objs:List OB} {w:World} (hm:MemOk G I objs w) {b E sz gen n:Nat} {xs:List AV} (hb:objs[b]? = some (.orow E sz gen n xs)) (x:AV) (y:Value) (h:Den G I x y):Den (zhz G b gen) (zlk I G b w) (zcj b gen n xs x) y:=by
 obtain ⟨v',vs,m1,m2,m3,m4,m5⟩:=hm.row b E sz gen n xs hb
 have hG:=ziE m1
 have hI:Imm.le I (zlk I G b w):=fun _ _ _ h => .inl h
 have other:zcj b gen n xs x=x → Den (zhz G b gen) (zlk I G b w) (zcj b gen n xs x) y:=fun e => by rw [e]; exact Den.mono hG hI x y h
 cases x with
 | orow b' g' =>
  by_cases hh:b'=b ∧ g'=gen
  ·obtain ⟨rfl,rfl⟩:=hh
   have e:zcj b' g' n xs (.orow b' g')=.row n xs:=by simp [zcj]
   rw [e]
   simp only [Den] at h ⊢
   obtain ⟨g0,v,k1,k2,k3,_⟩:=h
   rw [k1] at m1; injection m1 with m1; injection m1 with m1 m6
   have hv:=k3 m1.symm
   subst m1 m6 hv
   have hown:=zbm m5 k1
   have q1:=zag.mono hG hI xs vs m3
   rcases m2.2 with ⟨rfl,rfl⟩ | ⟨g,cap,cur,rfl,hx1,hx2,hx3,hx4⟩
   ·have hvs:vs=[]:=List.eq_nil_of_length_eq_zero (by simpa using m2.1)
    subst hvs
    exact ⟨none,0,[],rfl,⟨Nat.le_refl _,by intro _ e; cases e⟩,q1,by simp,by simp⟩
   ·refine ⟨some ⟨g,0,none⟩,cap,vs,rfl,⟨hx3,by rintro _ ⟨⟩ _; rfl⟩,q1,m4,fun j u hj => ⟨g,0,rfl,.inr ⟨?_,hown⟩⟩⟩
    have:=m2.cells (g:=g) rfl j u hj
    rwa [zaw] at this
  ·exact other (by simp only [zcj,if_neg hh])
 | _ => exact other rfl
theorem zgN {G:Gh} {I:Imm} {objs:List OB} {w:World} (hm:MemOk G I objs w) {b E sz gen n:Nat} {xs:List AV} (hb:objs[b]? = some (.orow E sz gen n xs)):∀ (l:List AV) (ys:List Value),zag G I l ys → zag (zhz G b gen) (zlk I G b w) (l.map (zcj b gen n xs)) ys
 | [],ys,h => by simpa [zag] using h
 | x :: l,ys,h => by
  simp only [zag] at h
  obtain ⟨y,ys',rfl,h1,h2⟩:=h
  exact zag.cons (zoh hm hb x y h1) (zgN hm hb l ys' h2)
theorem mem_pub {P:Program} [Tabs P] {C:Cx} {G:Gh} {I:Imm} {w:World} {objs:List OB} {b E sz gen n:Nat} {xs:List AV} (hb:objs[b]? = some (.orow E sz gen n xs)) (hin:In C G I w) (hm:MemOk G I objs w) :
  In C (zhz G b gen) (zlk I G b w) w ∧ MemOk (zhz G b gen) (zlk I G b w) (pubO objs b gen n xs) w:=by
 obtain ⟨v',vs,m1,m2,m3,m4,m5⟩:=hm.row b E sz gen n xs hb
 have hlt:b < objs.length:=by
  by_cases h:b < objs.length
  ·exact h
  ·rw [List.getElem?_eq_none (by omega)] at hb; cases hb
 have hG:=ziE m1
 have hI:Imm.le I (zlk I G b w):=fun _ _ _ h => .inl h
 have hin':In C (zhz G b gen) (zlk I G b w) w:={
  os:=hin.os,tape:=hin.tape,output:=hin.output,size:=hin.size,block:=hin.block
  imm:=fun g o v h => .inl (hin.imm g o v h)
  news:=fun g o v h => by
   rcases h with h | ⟨_,h⟩
   ·exact hin.news g o v h
   ·exact .inr (hin.blk b g h)
  blk:=fun x g h => hin.blk x g (zdL m5 h).2
  gh:=hin.gh.trans hG }
 have hat:∀ x o,(pubO objs b gen n xs)[x]? = some o → o=.dead ∨ (x ≠ b ∧ ∃ o',objs[x]? = some o' ∧ zha b gen n xs o'=o):=by
  intro x o h
  unfold pubO at h
  by_cases hx:x=b
  ·subst hx
   rw [List.getElem?_set_self (by simpa using hlt)] at h
   injection h with h; exact .inl h.symm
  ·rw [List.getElem?_set_ne (Ne.symm hx),List.getElem?_map] at h
   obtain ⟨o',h1,h2⟩:=Option.map_eq_some_iff.1 h
   exact .inr ⟨hx,o',h1,h2⟩
 have hm':MemOk (zhz G b gen) (zlk I G b w) (pubO objs b gen n xs) w:={
  imm:=fun g o v h => by
   rcases h with h | ⟨h,_⟩
   ·exact hm.imm g o v h
   ·exact h
  box:=fun x T cs h => by
   rcases hat x _ h with h | ⟨hx,o',h1,h2⟩
   ·cases h
   ·cases o' with
    | box T' cs' =>
     injection h2 with e1 e2
     subst e1 e2
     obtain ⟨g,ys,k1,k2,k3,k4⟩:=hm.box x _ _ h1
     exact ⟨g,ys,k1,k2,zgN hm hb _ _ k3,k4⟩
    | orow => cases h2
    | mp => cases h2
    | dead => cases h2
  row:=fun x E' sz' gen' n' xs' h => by
   rcases hat x _ h with h | ⟨hx,o',h1,h2⟩
   ·cases h
   ·cases o' with
    | box T' cs' => cases h2
    | orow =>
     injection h2 with e1 e2 e3 e4 e5
     subst e1 e2 e3 e4 e5
     obtain ⟨v,ys,k1,k2,k3,k4,k5⟩:=hm.row x _ _ _ _ _ h1
     exact ⟨v,ys,by simp [zhz,hx,k1],k2,zag.mono hG hI _ _ k3,k4,k5⟩
    | mp => cases h2
    | dead => cases h2
  map:=fun x es h => by
   rcases hat x _ h with h | ⟨hx,o',h1,h2⟩
   ·cases h
   ·cases o' with
    | box T' cs' => cases h2
    | orow => cases h2
    | mp =>
     injection h2 with e1
     subst e1
     obtain ⟨g,en,ck,k1,k2,k3⟩:=hm.map x _ h1
     exact ⟨g,en,ck,k1,k2,k3.mono hG hI⟩
    | dead => cases h2
  inj:=fun x x' g h h' => hm.inj x x' g (zdL m5 h).2 (zdL m5 h').2
  lt:=fun x g h => hm.lt x g (zdL m5 h).2
  apart:=fun x g o v h h' => by
   obtain ⟨hx,h1⟩:=zdL m5 h
   rcases h' with h' | ⟨_,h'⟩
   ·exact hm.apart x g o v h1 h'
   ·exact hx (hm.inj x b g h1 h')
  fresh:=fun x hx => by
   have hx':objs.length ≤ x:=by simpa [pubO] using hx
   obtain ⟨k1,k2⟩:=hm.fresh x hx'
   exact ⟨k1,by simp [zhz,k2]; omega⟩ }
 exact ⟨hin',hm'⟩
end Go.Proofs.YthmdohgkmdkeeaaGreatDoor.Sx
namespace Go.Proofs.YthmdohgkmdkeeaaGreatDoor.Sx
open Go.RowKit
section
variable {P:Program} [Tabs P] {C:Cx} [On P C] {F:zaH} {objs:List OB} {tm:List AV}
end
section
variable {P:Program} [Tabs P]
end
end Go.Proofs.YthmdohgkmdkeeaaGreatDoor.Sx
namespace Go.Proofs.YthmdohgkmdkeeaaGreatDoor
open Go.RowKit Sx
section
variable [Tabs Tryz.prog] {objs:List OB} {K:List OB → AV → Prop}
end
end Go.Proofs.YthmdohgkmdkeeaaGreatDoor
namespace Go.Proofs.YthmdohgkmdkeeaaGreatDoor
open Go.RowKit Sx
section
attribute [local irreducible] run
mutual
/-- a JSON value, cell for cell -/
def zam:JV → List AV
 | .mk k t ks its => [.i .i64 k,.s t,.row ks.length (ks.map .s),.row its.length (zac its)]
def zac:List JV → List AV
 | [] => []
 | v :: l => zam v ++ zac l
end
def JV.kind:JV → Int | .mk k _ _ _ => k
def JV.text:JV → List UInt8 | .mk _ t _ _ => t
def JV.keys:JV → List (List UInt8) | .mk _ _ ks _ => ks
def JV.items:JV → List JV | .mk _ _ _ its => its
theorem zar (v:JV):zam v=[.i .i64 v.kind,.s v.text,.row v.keys.length (v.keys.map .s),.row v.items.length (zac v.items)]:=by cases v; rw [zam]; rfl
theorem zax:zac []=[]:=by rw [zac]
theorem zaE (v:JV) (l:List JV):zac (v :: l)=zam v ++ zac l:=by rw [zac]
theorem zeg (v:JV):(zam v).length=4:=by rw [zar]; rfl
theorem zaR (l:List JV):(zac l).length=l.length * 4:=by
 induction l with
 | nil => rw [zax]; rfl
 | cons v l ih => rw [zaE,List.length_append,zeg,ih,List.length_cons]; omega
theorem zdv (a b:List JV):zac (a ++ b)=zac a ++ zac b:=by
 induction a with
 | nil => rw [zax]; rfl
 | cons v l ih => rw [List.cons_append,zaE,zaE,ih,List.append_assoc]
theorem zhQ:∀ {l:List JV} {i:Nat} (hi:i < l.length),((zac l).drop (i * 4)).take 4=zam l[i]
 | a :: l,0,hi => by
  rw [zaE,Nat.zero_mul,List.drop_zero]
  exact List.take_left' (zeg a)
 | a :: l,i + 1,hi => by
  rw [zaE,show (i + 1) * 4=4 + i * 4 by omega,← List.drop_drop,List.drop_left' (zeg a)]
  simpa using zhQ (l:=l) (i:=i) (by simpa using hi)
theorem zaK (l:List (List UInt8)):zap (l.map AV.s)=true:=by
 induction l with
 | nil => rfl
 | cons a l ih => simp [zap,AV.plain,ih]
theorem ziO (a b:List AV):zap (a ++ b)=(zap a && zap b):=by
 induction a with
 | nil => simp [zap]
 | cons x a ih => simp [zap,ih,Bool.and_assoc]
mutual
theorem zaX:∀ v:JV,zap (zam v)=true
 | .mk k t ks its => by
  rw [zam]
  simp only [zap,AV.plain,zaK,zcZ its,Bool.and_self]
theorem zcZ:∀ l:List JV,zap (zac l)=true
 | [] => by rw [zac]; rfl
 | v :: l => by rw [zac,ziO,zaX v,zcZ l]; rfl
end
mutual
/-- how many values there are in a value -/
def JV.size:JV → Nat
 | .mk _ _ _ its => JV.sizes its + 1
def JV.sizes:List JV → Nat
 | [] => 0
 | v :: l => JV.size v + JV.sizes l
end
theorem zlU:∀ {l:List JV} {i:Nat} (hi:i < l.length),JV.size l[i] ≤ JV.sizes l
 | a :: l,0,hi => by rw [JV.sizes]; simp
 | a :: l,i + 1,hi => by
  rw [JV.sizes]
  have:=zlU (l:=l) (i:=i) (by simpa using hi)
  simp only [List.getElem_cons_succ]
  omega
theorem zb0 {v:JV} {i:Nat} (hi:i < v.items.length):JV.size v.items[i] < JV.size v:=by
 cases v with
 | mk k t ks its =>
  have:=zlU (l:=its) (i:=i) hi
  rw [JV.size.eq_def (.mk k t ks its)]
  show JV.size its[i] < _
  simp only
  omega
def zaN {α:Type} (L:List (Nat × α)) (o:List α):Prop:=(L.map (·.1)).Nodup ∧ ∀ x ∈ L,o[x.1]? = some x.2
theorem zaN.get {α:Type} {L:List (Nat × α)} {o:List α} (h:zaN L o) {i:Nat} {x:α} (hx:(i,x) ∈ L):o[i]? = some x:=h.2 _ hx
theorem zaN.perm {α:Type} {L L':List (Nat × α)} {o:List α} (h:zaN L o) (p:L.Perm L'):zaN L' o :=
 ⟨(p.map _).nodup_iff.1 h.1,fun x hx => h.2 x (p.mem_iff.2 hx)⟩
theorem zaN.sub {α:Type} {L L':List (Nat × α)} {o:List α} (h:zaN L o) (p:L'.Sublist L):zaN L' o :=
 ⟨(p.map _).nodup h.1,fun x hx => h.2 x (p.subset hx)⟩
theorem zaN.set {α:Type} {A B:List (Nat × α)} {o:List α} {i:Nat} {x:α} (y:α) (h:zaN (A ++ (i,x) :: B) o):zaN (A ++ (i,y) :: B) (o.set i y):=by
 obtain ⟨h1,h2⟩:=h
 simp only [List.map_append,List.map_cons] at h1
 have hi:o[i]? = some x:=h2 (i,x) (by simp)
 have hlt:=(List.getElem?_eq_some_iff.1 hi).1
 have hne:∀ z ∈ A ++ B,z.1 ≠ i:=by
  intro z hz e
  rw [List.nodup_append] at h1
  obtain ⟨n1,n2,n3⟩:=h1
  rcases List.mem_append.1 hz with hz | hz
  ·exact n3 z.1 (List.mem_map_of_mem hz) i (by simp) e
  ·rw [List.nodup_cons] at n2
   exact n2.1 (e ▸ List.mem_map_of_mem hz)
 refine ⟨by simpa only [List.map_append,List.map_cons] using h1,fun z hz => ?_⟩
 rcases List.mem_append.1 hz with hz | hz
 ·rw [List.getElem?_set_ne (hne z (List.mem_append_left _ hz)).symm]
  exact h2 z (List.mem_append_left _ hz)
 ·rcases List.mem_cons.1 hz with rfl | hz
  ·exact List.getElem?_set_self hlt
  ·rw [List.getElem?_set_ne (hne z (List.mem_append_right _ hz)).symm]
   exact h2 z (List.mem_append_right _ (List.mem_cons_of_mem _ hz))
theorem zaN.lt {α:Type} {L:List (Nat × α)} {o:List α} (h:zaN L o) {i:Nat} {x:α} (hx:(i,x) ∈ L):i < o.length:=(List.getElem?_eq_some_iff.1 (h.get hx)).1
theorem zaN.app {α:Type} {L:List (Nat × α)} {o:List α} (h:zaN L o) (more:List α):zaN L (o ++ more) :=
 ⟨h.1,fun x hx => by rw [List.getElem?_append_left (h.lt (i:=x.1) (x:=x.2) hx)]; exact h.2 x hx⟩
theorem zaN.new {α:Type} {L:List (Nat × α)} {o:List α} (h:zaN L o) (x:α):zaN ((o.length,x) :: L) (o ++ [x]):=by
 refine ⟨?_,fun z hz => ?_⟩
 ·rw [List.map_cons,List.nodup_cons]
  refine ⟨fun hm => ?_,h.1⟩
  obtain ⟨z,hz,e⟩:=List.mem_map.1 hm
  have:=h.lt (i:=z.1) (x:=z.2) hz
  simp only at e
  omega
 ·rcases List.mem_cons.1 hz with rfl | hz
  ·simp
  ·exact (h.app [x]).2 z hz
theorem zaN.mapset {α:Type} {L:List (Nat × α)} {o:List α} {b:Nat} {x d:α} (f:α → α) (h:zaN ((b,x) :: L) o) (hf:∀ z ∈ L,f z.2=z.2):zaN L ((o.map f).set b d):=by
 obtain ⟨h1,h2⟩:=h
 rw [List.map_cons,List.nodup_cons] at h1
 refine ⟨h1.2,fun z hz => ?_⟩
 have hne:¬ b=z.1:=fun e => h1.1 (by show b ∈ _; rw [e]; exact List.mem_map_of_mem hz)
 rw [List.getElem?_set_ne hne,List.getElem?_map,h2 z (List.mem_cons_of_mem _ hz),Option.map_some,hf z hz]
theorem jweak {P:Program} [Tabs P] {f:FuncId} {args args':List AV} {objs:List OB} {K:List OB → AV → Prop} (h:∀ G I ys,zag G I args ys → zag G I args' ys) (hc:zad P f args' objs K):zad P f args objs K :=
 fun C _ G I w hin hm ys hd => hc C G I w hin hm ys (h G I ys hd)
theorem zdR {G:Gh} {I:Imm} {y:Value} (h:Den G I .nil y):Den G I (.row 0 []) y:=by
 simp only [Den] at h ⊢
 exact ⟨none,0,[],h,⟨Nat.le_refl _,fun ad h => by cases h⟩,zag.nil,by simp,by simp⟩
def subD (b gen n:Nat) (xs:List AV):AV → AV
 | .agg cs => .agg (cs.map (zcj b gen n xs))
 | x => zcj b gen n xs x
theorem den_subD {G:Gh} {I:Imm} {objs:List OB} {w:World} (hm:MemOk G I objs w) {b E sz gen n:Nat} {xs:List AV} (hb:objs[b]? = some (.orow E sz gen n xs)) (x:AV) (y:Value) (h:Den G I x y):Den (zhz G b gen) (zlk I G b w) (subD b gen n xs x) y:=by
 cases x with
 | agg cs =>
  simp only [Den,subD] at h ⊢
  obtain ⟨ys,h1,h2,h3⟩:=h
  exact ⟨ys,h1,zgN hm hb _ _ h2,h3⟩
 | _ => exact zoh hm hb _ _ h
theorem zh1 {G:Gh} {I:Imm} {objs:List OB} {w:World} (hm:MemOk G I objs w) {b E sz gen n:Nat} {xs:List AV} (hb:objs[b]? = some (.orow E sz gen n xs)):∀ (l:List AV) (ys:List Value),zag G I l ys → zag (zhz G b gen) (zlk I G b w) (l.map (subD b gen n xs)) ys
 | [],ys,h => by simpa [zag] using h
 | x :: l,ys,h => by
  simp only [zag] at h
  obtain ⟨y,ys',rfl,h1,h2⟩:=h
  exact zag.cons (den_subD hm hb x y h1) (zh1 hm hb l ys' h2)
theorem zfw {P:Program} [Tabs P] {f:FuncId} {args:List AV} {objs:List OB} {K:List OB → AV → Prop} {b E sz gen n:Nat} {xs:List AV} (hb:objs[b]? = some (.orow E sz gen n xs)) (hc:zad P f (args.map (subD b gen n xs)) (pubO objs b gen n xs) K):zad P f args objs K:=by
 intro C _ G I w hin hm ys hd
 obtain ⟨v',vs,m1,m2,m3,m4,m5⟩:=hm.row b E sz gen n xs hb
 have hG:=ziE m1
 have hI:Imm.le I (zlk I G b w):=fun _ _ _ h => .inl h
 obtain ⟨hin',hm'⟩:=mem_pub (P:=P) hb hin hm
 refine (hc C _ _ w hin' hm' ys (zh1 hm hb _ _ hd)).mono ?_
 rintro e w' ⟨y,objs',r,G',I',he,hk,h1,h2,h3,h4,hy⟩
 exact ⟨y,objs',r,G',I',he,hk,hG.trans h1,fun g o v h => h2 g o v (hI g o v h),h3,h4,hy⟩
theorem zcV {b gen n:Nat} {xs:List AV} {x:AV} (h:x.plain=true):zcj b gen n xs x=x:=by
 cases x <;> first | rfl | (simp [AV.plain] at h)
end
end Go.Proofs.YthmdohgkmdkeeaaGreatDoor
namespace Go.Proofs.YthmdohgkmdkeeaaGreatDoor.Sx
open Go.RowKit Go.WideShapes Go.ChangeShapes Go.ChangeAt
inductive TT where
 | s
 | b
 | i (k:IntKind)
 | st (ts:List TT)
 | sl (t:TT)
 | rv
inductive RV where
 | mk (k:Int) (t:List UInt8) (ks:List (List UInt8)) (its:List RV)
mutual
def zdm:RV → List AV
 | .mk k t ks its => [.i .i64 k,.s t,.row ks.length (ks.map .s),.row its.length (zcY its)]
def zcY:List RV → List AV
 | [] => []
 | v :: l => zdm v ++ zcY l
end
mutual
def RVok:RV → Prop
 | .mk k t ks its => (Lit.int .i64 k).wf=true ∧ t.length ≤ 140737488351232 ∧ ks.length ≤ 140737488351232 ∧ (∀ k ∈ ks,k.length ≤ 140737488351232) ∧ its.length ≤ 140737488351232 ∧ zi4 its
def zi4:List RV → Prop
 | [] => True
 | v :: l => RVok v ∧ zi4 l
end
mutual
def ShT:TT → List AV → Prop
 | .s,xs => ∃ l:List UInt8,xs=[.s l] ∧ l.length ≤ 140737488351232
 | .b,xs => ∃ b,xs=[.b b]
 | .i k,xs => ∃ n,xs=[.i k n] ∧ (Lit.int k n).wf=true
 | .st ts,xs => ShTs ts xs
 | .sl t,xs => ∃ gs:List (List AV),xs=[.row gs.length gs.flatten] ∧ gs.length ≤ 140737488351232 ∧ ∀ g ∈ gs,ShT t g
 | .rv,xs => ∃ r:RV,xs=zdm r ∧ RVok r
def ShTs:List TT → List AV → Prop
 | [],xs => xs=[]
 | t :: ts,xs => ∃ a b,xs=a ++ b ∧ ShT t a ∧ ShTs ts b
end
def ShA:TT → AV → Prop
 | .st ts,x => ∃ cs,x=.agg cs ∧ ShTs ts cs
 | .rv,x => ∃ r:RV,x=.agg (zdm r) ∧ RVok r
 | t,x => ShT t [x]
def ShAs:List TT → List AV → Prop
 | [],xs => xs=[]
 | t :: ts,xs => ∃ x ys,xs=x :: ys ∧ ShA t x ∧ ShAs ts ys
def trTs (P:Program) (rc:TypeId → Option TT):Nat → List Field → Option (List TT)
 | o,[] => some []
 | o,f :: fs => match rc f.type,trTs P rc (o + P.cellsOf f.type) fs with
  | some t,some ts => if f.offset=o then some (t :: ts) else none
  | _,_ => none
def zfv (P:Program):List Field → Nat
 | [] => 0
 | f :: fs => P.cellsOf f.type + zfv P fs
def isRV (P:Program) (t:TypeId):List Field → Bool
 | [a,b,c,d] => (a.offset == 0 && b.offset == 1 && c.offset == 2 && d.offset == 3) && (P.cellsOf t == 4 && P.cellsOf a.type == 1 && P.cellsOf b.type == 1 && P.cellsOf c.type == 1 && P.cellsOf d.type == 1) && decide (0 < P.bytesOf t) && (match P.underlying a.type,P.underlying b.type,P.underlying c.type,P.underlying d.type with
  | some (.int .i64),some .string,some (.slice e),some (.slice f) => f == t && P.cellsOf e == 1 && decide (0 < P.bytesOf e) && (match P.underlying e with | some .string => true | _ => false)
  | _,_,_,_ => false)
 | _ => false
def trT (P:Program):Nat → TypeId → Option TT
 | 0,_ => none
 | d + 1,t => match P.underlying t with
  | some .string => some .s
  | some .bool => some .b
  | some (.int k) => some (.i k)
  | some (.struct fs) => if isRV P t fs.toList=true then some .rv else if P.cellsOf t=zfv P fs.toList then (trTs P (trT P d) 0 fs.toList).map .st else none
  | some (.slice e) => if 0 < P.cellsOf e ∧ 0 < P.bytesOf e then (trT P d e).map .sl else none
  | _ => none
theorem zcT {H:Type} {P:Program} {e:TypeId}:∀ {ds:List (DataW H)} {d:DataW H},d ∈ ds → ∀ n ∈ d.weights P e,n ∈ DataW.weightsAll P e ds
 | [],d,hd,n,hn => by cases hd
 | d0 :: ds,d,hd,n,hn => by
  simp only [DataW.weightsAll,List.mem_append]
  rcases List.mem_cons.1 hd with rfl | hd
  ·exact .inl hn
  ·exact .inr (zcT hd n hn)
theorem zjp {w:World} {G:Gh} {I:Imm} {t:TT} (a:Addr) (c:Nat) (hI:∀ g o v,w.cell? ⟨g,o,none⟩=some v → I g o v):∀ k:Nat,
  (∀ i,i < k → ∃ (g:List AV) (ys:List Value),ys.length=c ∧ (∀ j,j < c → w.cell? ((a.add (i * c)).add j)=ys[j]?) ∧ zag G I g ys ∧ ShT t g ∧ ∀ u ∈ ys,u.oneCell'=true) →
  ∃ (gs:List (List AV)) (ys:List Value),gs.length=k ∧ ys.length=k * c ∧ zag G I gs.flatten ys ∧ (∀ g ∈ gs,ShT t g) ∧ (∀ u ∈ ys,u.oneCell'=true) ∧ ∀ j,j < k * c → w.cell? (a.add j)=ys[j]?
 | 0,_ => ⟨[],[],rfl,by simp,zag.nil,by simp,by simp,fun j hj => by simp at hj⟩
 | k + 1,h => by
  obtain ⟨gs,ys,h1,h2,h3,h4,h5,h6⟩:=zjp a c hI k (fun i hi => h i (by omega))
  obtain ⟨g,zs,k1,k2,k3,k4,k5⟩:=h k (by omega)
  have hm:(k + 1) * c=k * c + c:=Nat.succ_mul k c
  refine ⟨gs ++ [g],ys ++ zs,by simp [h1],by rw [List.length_append,h2,k1,hm],?_,?_,?_,?_⟩
  ·rw [List.flatten_append,List.flatten_cons,List.flatten_nil,List.append_nil]
   exact zag.append h3 k3
  ·intro x hx
   rcases List.mem_append.1 hx with hx | hx
   ·exact h4 x hx
   ·rw [List.mem_singleton] at hx; subst hx; exact k4
  ·intro u hu
   rcases List.mem_append.1 hu with hu | hu
   ·exact h5 u hu
   ·exact k5 u hu
  ·intro j hj
   by_cases hjk:j < k * c
   ·rw [h6 j hjk,List.getElem?_append_left (by omega)]
   ·have:=k2 (j - k * c) (by omega)
    rw [Addr.add_add,show k * c + (j - k * c)=j by omega] at this
    rw [this,List.getElem?_append_right (by omega),h2]
theorem add_flat {a:Addr} {j:Nat} (ha:a.spot=none):a.add j=⟨a.block,a.off + j,none⟩:=by
 cases a
 simp only at ha
 subst ha
 unfold Addr.add
 split
 ·rename_i h; subst h; rfl
 ·rfl
section
variable {H:Type} {enc:TypeId × Value → H} {P:Program} {w:World} {base:Nat} {spare:Nat → Bool} {held:Bool} {G:Gh} {I:Imm}
theorem zfR (d:Nat) (ih:∀ (t:TypeId) (tt:TT) (fuel:Nat) (cs:List Value) (x:DataW H × List MemPlace),trT P d t=some tt → DataW.trod enc P w base spare held fuel t cs=some x → (∀ n ∈ x.1.weights P t,n ≤ reachBytes) → ∃ xs,zag G I xs cs ∧ ShT tt xs ∧ ∀ u ∈ cs,u.oneCell'=true) (n:Nat) :
  ∀ (fs:List Field) (ts:List TT) (o:Nat) (cs:List Value),trTs P (trT P d) o fs=some ts → cs.length=o + zfv P fs → (∀ f ∈ fs,∃ x,DataW.trod enc P w base spare held n f.type ((cs.drop f.offset).take (P.cellsOf f.type))=some x ∧ ∀ m ∈ x.1.weights P f.type,m ≤ reachBytes) →
   ∃ xs,zag G I xs (cs.drop o) ∧ ShTs ts xs ∧ ∀ u ∈ cs.drop o,u.oneCell'=true
 | [],ts,o,cs,ht,hl,hf => by
  simp only [trTs,Option.some.injEq] at ht; subst ht
  have:cs.drop o=[]:=List.drop_eq_nil_of_le (by simp [zfv] at hl; omega)
  rw [this]
  exact ⟨[],zag.nil,rfl,by simp⟩
 | f :: fs,ts,o,cs,ht,hl,hf => by
  simp only [trTs] at ht
  split at ht
  ·rename_i t ts' h1 h2
   split at ht
   ·rename_i ho
    injection ht with ht; subst ht
    obtain ⟨x,hx,hxw⟩:=hf f (List.mem_cons_self ..)
    rw [ho] at hx
    obtain ⟨xs,k1,k2,k3⟩:=ih _ _ _ _ _ h1 hx hxw
    simp only [zfv] at hl
    obtain ⟨ys,m1,m2,m3⟩:=zfR d ih n fs ts' (o + P.cellsOf f.type) cs h2 (by omega) (fun f' hf' => hf f' (List.mem_cons_of_mem _ hf'))
    have e:cs.drop o=(cs.drop o).take (P.cellsOf f.type) ++ cs.drop (o + P.cellsOf f.type):=by
     rw [← List.drop_drop,List.take_append_drop]
    refine ⟨xs ++ ys,?_,?_,?_⟩
    ·rw [e]; exact zag.append k1 m1
    ·exact ⟨xs,ys,rfl,k2,m2⟩
    ·rw [e]; intro u hu
     rcases List.mem_append.1 hu with hu | hu
     ·exact k3 u hu
     ·exact m3 u hu
   ·cases ht
  ·cases ht
theorem zee (hI:∀ g o v,w.cell? ⟨g,o,none⟩=some v → I g o v) (hspa:∀ b,spare b=true) {t e:TypeId} {te:TT} {fuel:Nat} {cs:List Value} {x:DataW H × List MemPlace} (hu:P.underlying t=some (.slice e)) (hc:0 < P.cellsOf e ∧ 0 < P.bytesOf e)
  (ih:∀ (n:Nat) (ys:List Value) (x:DataW H × List MemPlace),n < fuel → DataW.trod enc P w base spare held n e ys=some x → (∀ n ∈ x.1.weights P e,n ≤ reachBytes) → ∃ g,zag G I g ys ∧ ShT te g ∧ ∀ u ∈ ys,u.oneCell'=true)
  (h:DataW.trod enc P w base spare held fuel t cs=some x) (hwt:∀ n ∈ x.1.weights P t,n ≤ reachBytes):∃ xs,zag G I xs cs ∧ ShT (.sl te) xs ∧ ∀ u ∈ cs,u.oneCell'=true:=by
 rcases DataW.trod_slice hu h with ⟨rfl,rfl⟩ | ⟨a,len,cap,elems,rest,n,hfu,rfl,rfl,hb,hl,hm,hlen,hel,hsr,_⟩
 ·exact ⟨[.row 0 []],zag.cons (by simp only [Den]; exact ⟨none,0,[],rfl,⟨Nat.le_refl _,fun ad h => by cases h⟩,zag.nil,by simp,by simp⟩) zag.nil,⟨[],rfl,by simp,by simp⟩,by simp; rfl⟩
 ·have hw2:(elems.length + rest.length) * P.bytesOf e ≤ reachBytes:=by
   have:=hwt ((elems.map (·.1)).length + (rest.map (·.1)).length |> (· * P.bytesOf e)) (by simp [DataW.weights,hu])
   simpa using this
  have hel2:elems.length ≤ 140737488351232:=by
   have h1:elems.length * 1 ≤ (elems.length + rest.length) * P.bytesOf e:=Nat.mul_le_mul (by omega) hc.2
   have:reachBytes=140737488351232:=rfl
   omega
  have hel3:∀ i,i < len → ∃ (g:List AV) (ys:List Value),ys.length=P.cellsOf e ∧ (∀ j,j < P.cellsOf e → w.cell? ((a.add (i * P.cellsOf e)).add j)=ys[j]?) ∧ zag G I g ys ∧ ShT te g ∧ ∀ u ∈ ys,u.oneCell'=true:=by
   intro i hi
   have h1:=hel i hi
   have hil:i < elems.length:=by omega
   rw [List.getElem?_eq_getElem hil,Option.bind_eq_some_iff] at h1
   obtain ⟨ys,y1,y2⟩:=h1
   obtain ⟨_,z1,z2⟩:=World.cells?_some y1
   obtain ⟨g,g1,g2,g3⟩:=ih n ys _ (by omega) y2 (fun m hm => hwt m (by
    simp only [DataW.weights,hu,List.mem_cons,List.mem_append]
    exact .inr (.inl (zcT (List.mem_map.2 ⟨_,List.getElem_mem hil,rfl⟩) m hm))))
   exact ⟨g,ys,z1,z2,g1,g2,g3⟩
  obtain ⟨gs,ys,k1,k2,k3,k4,k5,k6⟩:=zjp (G:=G) a (P.cellsOf e) hI len hel3
  have hsp0:cap ≠ 0 → a.spot=none:=by
   intro hcap
   by_cases hl0:0 < len
   ·have hp:0 < len * P.cellsOf e:=Nat.mul_pos hl0 hc.1
    have h2:=k6 0 hp
    rw [List.getElem?_eq_getElem (by omega)] at h2
    have:=World.cell?_spot h2
    simpa [Addr.add] using this
   ·have hr:=(hsr (hspa _)).2 0 (by omega)
    have hrl:=(hsr (hspa _)).1
    rw [List.getElem?_eq_getElem (by omega),Option.bind_eq_some_iff] at hr
    obtain ⟨zs,y1,_⟩:=hr
    obtain ⟨_,z1,z2⟩:=World.cells?_some y1
    have h2:=z2 0 hc.1
    rw [List.getElem?_eq_getElem (by omega)] at h2
    have:=World.cell?_spot h2
    have hl1:len=0:=by omega
    subst hl1
    simpa [Addr.add] using this
  refine ⟨[.row gs.length gs.flatten],zag.cons ?_ zag.nil,⟨gs,rfl,by omega,k4⟩,by simp; rfl⟩
  simp only [Den]
  refine ⟨some a,cap,ys,by rw [k1],⟨by omega,fun ad h hc0 => by injection h with h; subst h; exact hsp0 hc0⟩,k3,k5,fun j u hj => ?_⟩
  have hjl:=(List.getElem?_eq_some_iff.1 hj).1
  have hlp:len ≠ 0:=by rintro rfl; rw [k2,Nat.zero_mul] at hjl; omega
  have hs:=hsp0 (by omega)
  refine ⟨a.block,a.off,by cases a; simp only at hs; subst hs; rfl,hI _ _ _ ?_⟩
  have h2:=k6 j (k2 ▸ hjl)
  rw [add_flat hs] at h2
  rw [h2,hj]
theorem isRV_of {t:TypeId} {fs:List Field} (h:isRV P t fs=true):∃ a b c d e,fs=[a,b,c,d] ∧ (a.offset=0 ∧ b.offset=1 ∧ c.offset=2 ∧ d.offset=3) ∧ (P.cellsOf t=4 ∧ P.cellsOf a.type=1 ∧ P.cellsOf b.type=1 ∧ P.cellsOf c.type=1 ∧ P.cellsOf d.type=1) ∧ 0 < P.bytesOf t ∧
  P.underlying a.type=some (.int .i64) ∧ P.underlying b.type=some .string ∧ P.underlying c.type=some (.slice e) ∧ P.underlying d.type=some (.slice t) ∧ P.cellsOf e=1 ∧ 0 < P.bytesOf e ∧ P.underlying e=some .string:=by
 unfold isRV at h
 split at h
 ·rename_i a b c d
  simp only [Bool.and_eq_true,beq_iff_eq,decide_eq_true_eq] at h
  obtain ⟨⟨⟨h1,h2⟩,h3⟩,h4⟩:=h
  split at h4
  ·rename_i e f u1 u2 u3 u4
   simp only [Bool.and_eq_true,beq_iff_eq,decide_eq_true_eq] at h4
   obtain ⟨⟨⟨k1,k2⟩,k3⟩,k4⟩:=h4
   subst k1
   split at k4
   ·rename_i u5
    exact ⟨a,b,c,d,e,rfl,⟨h1.1.1.1,h1.1.1.2,h1.1.2,h1.2⟩,⟨h2.1.1.1.1,h2.1.1.1.2,h2.1.1.2,h2.1.2,h2.2⟩,h3,u1,u2,u3,u4,k2,k3,u5⟩
   ·cases k4
  ·cases h4
 ·cases h
theorem zlY:∀ gs:List (List AV),(∀ g ∈ gs,ShT .s g) → ∃ ks:List (List UInt8),gs.flatten=ks.map .s ∧ ks.length=gs.length ∧ ∀ k ∈ ks,k.length ≤ 140737488351232
 | [],_ => ⟨[],rfl,rfl,by simp⟩
 | g :: gs,h => by
  obtain ⟨ks,h1,h2,h3⟩:=zlY gs (fun g hg => h g (List.mem_cons_of_mem _ hg))
  obtain ⟨l,hl,hl2⟩:=h g (List.mem_cons_self ..)
  refine ⟨l :: ks,by rw [List.flatten_cons,hl,h1]; rfl,by simp [h2],fun k hk => ?_⟩
  rcases List.mem_cons.1 hk with rfl | hk
  ·exact hl2
  ·exact h3 k hk
theorem zjo:∀ gs:List (List AV),(∀ g ∈ gs,ShT .rv g) → ∃ rs:List RV,gs.flatten=zcY rs ∧ rs.length=gs.length ∧ zi4 rs
 | [],_ => ⟨[],by rw [zcY]; rfl,rfl,by rw [zi4]; trivial⟩
 | g :: gs,h => by
  obtain ⟨rs,h1,h2,h3⟩:=zjo gs (fun g hg => h g (List.mem_cons_of_mem _ hg))
  obtain ⟨r,hr,hr2⟩:=h g (List.mem_cons_self ..)
  exact ⟨r :: rs,by rw [List.flatten_cons,hr,h1,zcY],by simp [h2],by rw [zi4]; exact ⟨hr2,h3⟩⟩
theorem open_rv (hI:∀ g o v,w.cell? ⟨g,o,none⟩=some v → I g o v) (hspa:∀ b,spare b=true) {t:TypeId} {fs:Array Field} (hu:P.underlying t=some (.struct fs)) (hrv:isRV P t fs.toList=true):∀ (m fuel:Nat) (cs:List Value) (x:DataW H × List MemPlace),fuel < m → DataW.trod enc P w base spare held fuel t cs=some x → (∀ n ∈ x.1.weights P t,n ≤ reachBytes) → ∃ xs,zag G I xs cs ∧ ShT .rv xs ∧ ∀ u ∈ cs,u.oneCell'=true:=by
 intro m
 induction m with
 | zero => intro fuel cs x hm; omega
 | succ m ih =>
  intro fuel cs x hm h hwt
  obtain ⟨a,b,c,d,e,hfs,⟨o1,o2,o3,o4⟩,⟨c0,c1,c2,c3,c4⟩,hb,u1,u2,u3,u4,e1,e2,e3⟩:=isRV_of hrv
  obtain ⟨xs,n,hfu,rfl,hlen,hxl,hf⟩:=DataW.trod_struct hu h
  have hsz:fs.size=4:=by rw [← Array.length_toList,hfs]; rfl
  have gf:∀ j,fs[j]? = [a,b,c,d][j]?:=fun j => by rw [← hfs,Array.getElem?_toList]
  have hall:∀ (j:Nat) (f:Field),[a,b,c,d][j]? = some f → ∃ x,DataW.trod enc P w base spare held n f.type ((cs.drop f.offset).take (P.cellsOf f.type))=some x ∧ ∀ m ∈ x.1.weights P f.type,m ≤ reachBytes:=by
   intro j f hj
   have h1:=hf j f (by rw [gf]; exact hj)
   have hjl:j < xs.length:=by
    rw [hxl,hsz]
    exact (List.getElem?_eq_some_iff.1 hj).1
   rw [List.getElem?_eq_getElem hjl] at h1
   refine ⟨_,h1,fun m hm => hwt m ?_⟩
   have hj2:(fs.toList.map (·.type))[j]? = some f.type:=by rw [List.getElem?_map,hfs,hj]; rfl
   have:=DataW.weights_mem_each hj2 (show (xs.map (·.1))[j]? = some xs[j].1 by rw [List.getElem?_map,List.getElem?_eq_getElem hjl]; rfl) m hm
   simpa [DataW.weights,hu] using this
  obtain ⟨xa,ha,wa⟩:=hall 0 a rfl
  obtain ⟨xb,hb',wb⟩:=hall 1 b rfl
  obtain ⟨xc,hc',wc⟩:=hall 2 c rfl
  obtain ⟨xd,hd',wd⟩:=hall 3 d rfl
  rw [o1,c1] at ha
  rw [o2,c2] at hb'
  rw [o3,c3] at hc'
  rw [o4,c4] at hd'
  rw [c0] at hlen
  obtain ⟨v0,v1,v2,v3,rfl⟩:∃ v0 v1 v2 v3,cs=[v0,v1,v2,v3]:=by
   match cs,hlen with
   | [v0,v1,v2,v3],_ => exact ⟨v0,v1,v2,v3,rfl⟩
  simp only [List.drop_zero,List.drop_succ_cons,List.take_succ_cons,List.take_zero] at ha hb' hc' hd'
  obtain ⟨i0,r0,_,w0⟩:=DataW.trod_int u1 ha
  injection r0 with r0 _
  obtain ⟨s0,r1,rx1,_⟩:=DataW.trod_string u2 hb'
  injection r1 with r1 _
  subst r0 r1
  obtain ⟨ys2,d2,⟨g2,q2,l2,m2⟩,oc2⟩:=zee (te:=.s) (G:=G) (I:=I) hI hspa u3 ⟨by omega,e2⟩ (fun n' ys y hn' hy hyw => by
   obtain ⟨s,rfl,rfl,hs⟩:=DataW.trod_string e3 hy
   exact ⟨[.s s.data.toList],zag.cons (by simp [Den]) zag.nil,⟨_,rfl,hyw _ (by simp [DataW.weights])⟩,by simp; rfl⟩) hc' wc
  obtain ⟨ys3,d3,⟨g3,q3,l3,m3⟩,oc3⟩:=zee (te:=.rv) (G:=G) (I:=I) hI hspa u4 ⟨by omega,hb⟩ (fun n' ys y hn' hy hyw => ih n' ys y (by omega) hy hyw) hd' wd
  subst q2 q3
  obtain ⟨ks,k1,k2,k3⟩:=zlY g2 m2
  obtain ⟨rs,j1,j2,j3⟩:=zjo g3 m3
  refine ⟨zdm (.mk i0 s0.data.toList ks rs),?_,⟨_,rfl,?_⟩,?_⟩
  ·rw [zdm,k2,j2,← k1,← j1]
   exact zag.cons (by simp [Den]) (zag.cons (by simp [Den]) (zag.append d2 d3))
  ·rw [RVok]
   refine ⟨w0,?_,by omega,k3,by omega,j3⟩
   subst rx1
   exact wb _ (by simp [DataW.weights])
  ·intro u hu'
   simp only [List.mem_cons,List.not_mem_nil,or_false] at hu'
   rcases hu' with rfl | rfl | rfl | rfl
   ·rfl
   ·rfl
   ·exact oc2 _ (by simp)
   ·exact oc3 _ (by simp)
theorem zmQ (hI:∀ g o v,w.cell? ⟨g,o,none⟩=some v → I g o v) (hspa:∀ b,spare b=true):∀ (d:Nat) (t:TypeId) (tt:TT) (fuel:Nat) (cs:List Value) (x:DataW H × List MemPlace),trT P d t=some tt → DataW.trod enc P w base spare held fuel t cs=some x → (∀ n ∈ x.1.weights P t,n ≤ reachBytes) → ∃ xs,zag G I xs cs ∧ ShT tt xs ∧ ∀ u ∈ cs,u.oneCell'=true:=by
 intro d
 induction d with
 | zero => intro t tt fuel cs x ht; simp [trT] at ht
 | succ d ih =>
  intro t tt fuel cs x ht h hwt
  simp only [trT] at ht
  split at ht
  ·rename_i hu
   injection ht with ht; subst ht
   obtain ⟨s,rfl,rfl,hs⟩:=DataW.trod_string hu h
   refine ⟨[.s s.data.toList],zag.cons (by simp [Den]) zag.nil,⟨_,rfl,?_⟩,by simp; rfl⟩
   exact hwt _ (by simp [DataW.weights])
  ·rename_i hu
   injection ht with ht; subst ht
   obtain ⟨b,rfl,_⟩:=DataW.trod_bool hu h
   exact ⟨[.b b],zag.cons (by simp [Den]) zag.nil,⟨_,rfl⟩,by simp; rfl⟩
  ·rename_i k hu
   injection ht with ht; subst ht
   obtain ⟨n,rfl,_,hw⟩:=DataW.trod_int hu h
   exact ⟨[.i k n],zag.cons (by simp [Den]) zag.nil,⟨_,rfl,hw⟩,by simp; rfl⟩
  ·rename_i fs hu
   split at ht
   ·rename_i hrv
    injection ht with ht; subst ht
    exact open_rv hI hspa hu hrv (fuel + 1) fuel cs x (by omega) h hwt
   split at ht
   ·rename_i hc
    cases hts:trTs P (trT P d) 0 fs.toList with
    | none => rw [hts] at ht; cases ht
    | some ts =>
     rw [hts] at ht; injection ht with ht; subst ht
     obtain ⟨xs,n,_,rfl,hlen,hxl,hf⟩:=DataW.trod_struct hu h
     have hall:∀ f ∈ fs.toList,∃ x,DataW.trod enc P w base spare held n f.type ((cs.drop f.offset).take (P.cellsOf f.type))=some x ∧ ∀ m ∈ x.1.weights P f.type,m ≤ reachBytes:=by
      intro f hfm
      obtain ⟨j,hj⟩:=List.mem_iff_getElem?.1 hfm
      have h1:=hf j f (by simpa using hj)
      have hjl:j < xs.length:=by
       rw [hxl]
       have:=(List.getElem?_eq_some_iff.1 hj).1
       simpa using this
      rw [List.getElem?_eq_getElem hjl] at h1
      refine ⟨_,h1,fun m hm => hwt m ?_⟩
      have hj2:(fs.toList.map (·.type))[j]? = some f.type:=by rw [List.getElem?_map,hj]; rfl
      have:=DataW.weights_mem_each hj2 (show (xs.map (·.1))[j]? = some xs[j].1 by rw [List.getElem?_map,List.getElem?_eq_getElem hjl]; rfl) m hm
      simpa [DataW.weights,hu] using this
     obtain ⟨ys,k1,k2,k3⟩:=zfR d ih n fs.toList ts 0 cs hts (by rw [hlen,hc]; omega) hall
     exact ⟨ys,by simpa using k1,k2,by simpa using k3⟩
   ·cases ht
  ·rename_i e hu
   split at ht
   ·rename_i hc
    cases hte:trT P d e with
    | none => rw [hte] at ht; cases ht
    | some te =>
     rw [hte] at ht; injection ht with ht; subst ht
     exact zee hI hspa hu hc (fun n ys y _ hy hyw => ih e te n ys y hte hy hyw) h hwt
   ·cases ht
  ·cases ht
theorem open_arg (hI:∀ g o v,w.cell? ⟨g,o,none⟩=some v → I g o v) (hspa:∀ b,spare b=true) {r:Reach} {b0:Nat} {t:TypeId} {tt:TT} {v:Value} {dd:DataW H} {ps:List MemPlace} (ht:trT P 20 t=some tt) (hv:Value.okWide P w r b0 t v) (h:DataW.Trod enc P w base spare held t v dd ps) (hwt:∀ n ∈ dd.weights P t,n ≤ reachBytes):∃ x,Den G I x v ∧ ShA tt x:=by
 obtain ⟨fuel,hf⟩:=h
 obtain ⟨xs,h1,h2,h3⟩:=zmQ hI hspa 20 t tt fuel _ _ ht hf hwt
 have ht':=ht
 unfold trT at ht
 cases tt with
 | st ts =>
  split at ht <;> first | (injection ht with ht; cases ht; done) | skip
  ·rename_i fs hu
   obtain ⟨cs,rfl,_⟩:=okWide_struct hu hv
   refine ⟨.agg xs,?_,⟨xs,rfl,h2⟩⟩
   simp only [Den]
   exact ⟨cs.toList,by simp,h1,h3⟩
  ·split at ht
   ·cases hq:trT P 19 _ with
    | none => rw [hq] at ht; cases ht
    | some q => rw [hq] at ht; injection ht with ht; cases ht
   ·cases ht
  ·cases ht
 | rv =>
  split at ht <;> first | (injection ht with ht; cases ht; done) | skip
  ·rename_i fs hu
   obtain ⟨cs,rfl,_⟩:=okWide_struct hu hv
   obtain ⟨r,rfl,hr⟩:=h2
   refine ⟨.agg (zdm r),?_,⟨r,rfl,hr⟩⟩
   simp only [Den]
   exact ⟨cs.toList,by simp,h1,h3⟩
  ·split at ht
   ·cases hq:trT P 19 _ with
    | none => rw [hq] at ht; cases ht
    | some q => rw [hq] at ht; injection ht with ht; cases ht
   ·cases ht
  ·cases ht
 | sl t =>
  split at ht <;> first | (injection ht with ht; cases ht; done) | skip
  ·split at ht
   ·injection ht with ht; cases ht
   split at ht
   ·cases hq:trTs P (trT P 19) 0 _ with
    | none => rw [hq] at ht; cases ht
    | some q => rw [hq] at ht; injection ht with ht; cases ht
   ·cases ht
  ·rename_i e hu
   obtain ⟨a,len,cap,rfl⟩:=okWide_slice hu hv
   obtain ⟨gs,rfl,hl,hg⟩:=h2
   simp only [zag] at h1
   obtain ⟨y,ys,e1,k1,k2⟩:=h1
   subst k2
   have e2:[Value.slice a len cap]=[y]:=e1
   injection e2 with e2 _
   subst e2
   exact ⟨.row gs.length gs.flatten,k1,⟨gs,rfl,hl,hg⟩⟩
  ·cases ht
 | s =>
  split at ht <;> first | (injection ht with ht; cases ht; done) | skip
  ·rename_i hu
   obtain ⟨s,rfl⟩:=okWide_string hu hv
   obtain ⟨l,rfl,hl⟩:=h2
   simp only [zag] at h1
   obtain ⟨y,ys,e,k1,k2⟩:=h1
   subst k2
   have e2:[Value.string s]=[y]:=e
   injection e2 with e2 _
   subst e2
   exact ⟨.s l,k1,⟨l,rfl,hl⟩⟩
  ·split at ht
   ·injection ht with ht; cases ht
   split at ht
   ·cases hq:trTs P (trT P 19) 0 _ with
    | none => rw [hq] at ht; cases ht
    | some q => rw [hq] at ht; injection ht with ht; cases ht
   ·cases ht
  ·split at ht
   ·cases hq:trT P 19 _ with
    | none => rw [hq] at ht; cases ht
    | some q => rw [hq] at ht; injection ht with ht; cases ht
   ·cases ht
  ·cases ht
 | b =>
  split at ht <;> first | (injection ht with ht; cases ht; done) | skip
  ·rename_i hu
   obtain ⟨s,rfl⟩:=okWide_bool hu hv
   obtain ⟨l,rfl⟩:=h2
   simp only [zag] at h1
   obtain ⟨y,ys,e,k1,k2⟩:=h1
   subst k2
   have e2:[Value.bool s]=[y]:=e
   injection e2 with e2 _
   subst e2
   exact ⟨.b l,k1,⟨l,rfl⟩⟩
  ·split at ht
   ·injection ht with ht; cases ht
   split at ht
   ·cases hq:trTs P (trT P 19) 0 _ with
    | none => rw [hq] at ht; cases ht
    | some q => rw [hq] at ht; injection ht with ht; cases ht
   ·cases ht
  ·split at ht
   ·cases hq:trT P 19 _ with
    | none => rw [hq] at ht; cases ht
    | some q => rw [hq] at ht; injection ht with ht; cases ht
   ·cases ht
  ·cases ht
 | i k =>
  split at ht <;> first | (injection ht with ht; cases ht; done) | skip
  ·rename_i k' hu
   injection ht with ht; injection ht with ht; subst ht
   obtain ⟨s,rfl⟩:=okWide_int hu hv
   obtain ⟨l,rfl,hl⟩:=h2
   simp only [zag] at h1
   obtain ⟨y,ys,e,k1,k2⟩:=h1
   subst k2
   have e2:[Value.int _ s]=[y]:=e
   injection e2 with e2 _
   subst e2
   exact ⟨.i _ l,k1,⟨l,rfl,hl⟩⟩
  ·split at ht
   ·injection ht with ht; cases ht
   split at ht
   ·cases hq:trTs P (trT P 19) 0 _ with
    | none => rw [hq] at ht; cases ht
    | some q => rw [hq] at ht; injection ht with ht; cases ht
   ·cases ht
  ·split at ht
   ·cases hq:trT P 19 _ with
    | none => rw [hq] at ht; cases ht
    | some q => rw [hq] at ht; injection ht with ht; cases ht
   ·cases ht
  ·cases ht
theorem open_args (hI:∀ g o v,w.cell? ⟨g,o,none⟩=some v → I g o v) (hspa:∀ b,spare b=true) {r:Reach} {b0:Nat}:∀ (ts:List TypeId) (tts:List TT) (vs:List Value) (ds:List (DataW H)) (ps:List MemPlace),ts.mapM (trT P 20)=some tts → (∀ (j:Nat) t v,ts[j]? = some t → vs[j]? = some v → Value.okWide P w r b0 t v) → DataW.TrodAll enc P w base spare held ts vs ds ps → (∀ n ∈ DataW.weightsEach P ts ds,n ≤ reachBytes) → ∃ xs,zag G I xs vs ∧ ShAs tts xs
 | [],tts,vs,ds,ps,ht,hv,h,hwt => by
  simp at ht; subst ht
  obtain ⟨rfl,_,_⟩:=trodAll_nil h
  exact ⟨[],zag.nil,rfl⟩
 | t :: ts,tts,vs,ds,ps,ht,hv,h,hwt => by
  simp only [List.mapM_cons,Option.bind_eq_bind,Option.pure_def] at ht
  cases h1:trT P 20 t with
  | none => simp [h1] at ht
  | some tt =>
   cases h2:ts.mapM (trT P 20) with
   | none => simp [h1,h2] at ht
   | some tts' =>
    simp [h1,h2] at ht
    subst ht
    obtain ⟨v,vs',d,ds',p,q,rfl,rfl,rfl,k1,k2⟩:=trodAll_cons h
    obtain ⟨x,x1,x2⟩:=open_arg (G:=G) (I:=I) hI hspa h1 (hv 0 t v rfl rfl) k1 (fun n hn => hwt n (by simp only [DataW.weightsEach,List.mem_append]; exact .inl hn))
    obtain ⟨xs,y1,y2⟩:=open_args hI hspa ts tts' vs' ds' q h2 (fun j t v hj hv' => hv (j + 1) t v (by simpa using hj) (by simpa using hv')) k2 (fun n hn => hwt n (by simp only [DataW.weightsEach,List.mem_append]; exact .inr hn))
    exact ⟨x :: xs,zag.cons x1 y1,⟨x,xs,rfl,x2,y2⟩⟩
theorem zdE (hl:laidOutB P=true) {W W':World} {sp':Nat → Bool}:∀ (ts:List TypeId) (vs:List Value) (ds:List (DataW H)) (ps:List MemPlace),(∀ t ∈ ts,P.readableRec t=true ∧ t < P.types.size) → DataW.TrodAll enc P W 0 (fun _ => true) true ts vs ds ps → Below W.heap.size W W' → (∀ p ∈ ps,p.block < W.heap.size) → (∀ p ∈ ps,sp' p.block=true) → DataW.TrodAll enc P W' 0 sp' true ts vs ds ps
 | [],vs,ds,ps,hr,h,hb,hlt,hs => by
  obtain ⟨rfl,rfl,rfl⟩:=trodAll_nil h
  exact trodAll_mk0
 | t :: ts,vs,ds,ps,hr,h,hb,hlt,hs => by
  obtain ⟨v,vs',d,ds',p,q,rfl,rfl,rfl,k1,k2⟩:=trodAll_cons h
  have h1:=hr t (List.mem_cons_self ..)
  exact trodAll_cons_mk (WideElems.Trod_stays hl h1.1 h1.2 k1 (fun x hx => hb.same (hlt x (List.mem_append_left _ hx))) (fun x hx => hs x (List.mem_append_left _ hx)))
   (zdE hl ts vs' ds' q (fun t ht => hr t (List.mem_cons_of_mem _ ht)) k2 hb (fun x hx => hlt x (List.mem_append_right _ hx)) (fun x hx => hs x (List.mem_append_right _ hx)))
end
theorem post_true {H:Type} {enc:TypeId × Value → H} {P:Program} {f:Func} {s:ChangeSpec} {apart fresh handsOn again:Bool} {W W':World} {args:Array Value} {ds gs:List (DataW H)} {before:List MemPlace}
  (hl:laidOutB P=true) (hts:∀ t ∈ f.params.toList,P.readableRec t=true ∧ t < P.types.size) {tb:TypeId} (hrt:f.resultTypes=#[tb]) (hub:P.underlying tb=some .bool) (hsv:s.vars=[])
  (hW:DataW.Whole enc P f.params.toList s.vars apart W args.toList ds gs before) (hfn:s.fn H (ds ++ gs)={ results:=[.lit (.bool true)],args:=ds }) (hb:Below W.heap.size W W'):s.post enc P f apart fresh handsOn again W args (.bool true) W':=by
 have hlt:∀ p ∈ before,p.block < W.heap.size:=fun p hp => hW.lt p hp
 have hold:∀ p ∈ before,(fun b => decide (b < W.heap.size)) p.block=true:=fun p hp => by simpa using hlt p hp
 have hW':=hW
 obtain ⟨p,q,hA,hV,rfl,hz,hn⟩:=hW'
 rw [hsv] at hV
 have hvars:gs=[] ∧ q=[]:=by
  cases gs with
  | nil => exact ⟨rfl,hV⟩
  | cons g gs => exact hV.elim
 obtain ⟨rfl,rfl⟩:=hvars
 simp only [List.append_nil] at *
 have hres:∀ (b:Nat) (sp:Nat → Bool) (hd:Bool),DataW.TrodAll enc P W' b sp hd f.resultTypes.toList ((Value.bool true).resultList f.resultTypes.size) (s.fn H ds).results []:=by
  intro b sp hd
  rw [hfn,hrt]
  exact trodAll_cons_mk (shut_bool hub _) trodAll_mk0
 have hargs:∀ sp:Nat → Bool,(∀ x ∈ p,sp x.block=true) → DataW.TrodAll enc P W' 0 sp true f.params.toList args.toList (s.fn H ds).args p:=by
  intro sp hsp
  rw [hfn]
  exact zdE hl _ _ _ _ hts hA hb hlt hsp
 have hvs:∀ sp:Nat → Bool,DataW.TrodVars enc P W' sp s.vars (s.fn H ds).vars []:=by
  intro sp
  rw [hsv,hfn]; rfl
 refine ⟨ds,[],p,[],p,[],hW,by simpa using hres _ _ _,by simpa using hargs _ hold,by simpa using hvs _,World.keptBut_mono (fun x hx => ⟨hx,?_⟩) (hb.frame (· ∈ p)),fun _ => ?_⟩
 ·exact Or.inr (Or.inl hx)
 ·refine ⟨?_,_,_,([] ++ p) ++ [],⟨[] ++ p,[],trodAll_append (by simpa using hargs _ (fun _ _ => rfl)) (by simpa using hres _ _ _),by simpa using hvs _,rfl,?_,?_⟩,?_⟩
  ·intro j t r hj hr
   rw [hrt] at hj hr
   cases j with
   | zero =>
    simp at hj; subst hj
    have:r=.bool true:=by simpa [Value.resultList] using hr.symm
    subst this
    exact okWide_bool_mk hub _
   | succ j => simp at hj
  ·intro b off hp
   have hin:MemPlace.cell b off ∈ p:=by simpa using hp
   rw [hb.frozen (hlt _ hin)]
   exact hz b off hin
  ·intro ha
   simpa using hn ha
  ·intro x hx _
   simpa using hx
section
variable {H:Type} {enc:TypeId × Value → H}
end
end Go.Proofs.YthmdohgkmdkeeaaGreatDoor.Sx
namespace Go.Proofs.YthmdohgkmdkeeaaGreatDoor
open Nat renaming reduceAdd → z6, reduceSub → z7, reduceLeDiff → z8, reduceLT → j5, reduceMul → j6, reduceEqDiff → j7
open Int renaming reduceToNat → j8, reduceAdd → j9, reduceSub → x3, reduceMul → x4, reduceNeg → x5, reduceLT → x6, reduceLE → x7, reduceEq → x8, reduceNe → x9
open Go.RowKit Sx
section
attribute [local irreducible] run
mutual
def rvJ:RV → JV
 | .mk k t ks its => .mk k t ks (zlZ its)
def zlZ:List RV → List JV
 | [] => []
 | v :: l => rvJ v :: zlZ l
end
theorem zgm:∀ l:List RV,(zlZ l).length=l.length
 | [] => by rw [zlZ]; rfl
 | v :: l => by rw [zlZ,List.length_cons,zgm l,List.length_cons]
mutual
theorem zgp:∀ r:RV,zdm r=zam (rvJ r)
 | .mk k t ks its => by rw [zdm,rvJ,zam,zhv its,zgm]
theorem zhv:∀ l:List RV,zcY l=zac (zlZ l)
 | [] => by rw [zcY,zlZ,zac]
 | v :: l => by rw [zcY,zlZ,zac,zgp v,zhv l]
end
mutual
def JOk:JV → Prop
 | .mk k t ks its => (Lit.int .i64 k).wf=true ∧ t.length ≤ 140737488351232 ∧ ks.length ≤ 140737488351232 ∧ (∀ k ∈ ks,k.length ≤ 140737488351232) ∧ its.length ≤ 140737488351232 ∧ zlg its
def zlg:List JV → Prop
 | [] => True
 | v :: l => JOk v ∧ zlg l
end
mutual
theorem rv_ok:∀ r:RV,RVok r → JOk (rvJ r)
 | .mk k t ks its,h => by
  rw [RVok] at h
  rw [rvJ,JOk]
  exact ⟨h.1,h.2.1,h.2.2.1,h.2.2.2.1,by rw [zgm]; exact h.2.2.2.2.1,rvs_ok its h.2.2.2.2.2⟩
theorem rvs_ok:∀ l:List RV,zi4 l → zlg (zlZ l)
 | [],_ => by rw [zlZ,zlg]; trivial
 | v :: l,h => by
  rw [zi4] at h
  rw [zlZ,zlg]
  exact ⟨rv_ok v h.1,rvs_ok l h.2⟩
end
theorem znD:∀ {l:List JV} (h:zlg l) {i:Nat} (hi:i < l.length),JOk l[i]
 | a :: l,h,0,hi => by rw [zlg] at h; exact h.1
 | a :: l,h,i + 1,hi => by rw [zlg] at h; exact znD h.2 (by simpa using hi)
theorem JOk.its {v:JV} (h:JOk v) {i:Nat} (hi:i < v.items.length):JOk v.items[i]:=by
 cases v with
 | mk k t ks its => rw [JOk] at h; exact znD h.2.2.2.2.2 hi
theorem JOk.lens {v:JV} (h:JOk v):v.keys.length ≤ 140737488351232 ∧ v.items.length ≤ 140737488351232 ∧ v.text.length ≤ 140737488351232 ∧ ∀ k ∈ v.keys,k.length ≤ 140737488351232:=by
 cases v with
 | mk k t ks its => rw [JOk] at h; exact ⟨h.2.2.1,h.2.2.2.2.1,h.2.1,h.2.2.2.1⟩
mutual
/-- not too many keys and items, wherever -/
def JBd:JV → Prop
 | .mk k t ks its => ks.length ≤ 1099511627780 ∧ its.length ≤ 1099511627776 ∧ zii its
def zii:List JV → Prop
 | [] => True
 | v :: l => JBd v ∧ zii l
end
theorem znI:∀ {l:List JV},(∀ (i:Nat) (h:i < l.length),JBd l[i]) → zii l
 | [],_ => by rw [zii]; trivial
 | v :: l,h => by
  rw [zii]
  exact ⟨h 0 (by simp),znI fun i hi => by have:=h (i + 1) (by simpa using hi); simpa only [List.getElem_cons_succ] using this⟩
theorem znJ:∀ {l:List JV} (h:zii l) {i:Nat} (hi:i < l.length),JBd l[i]
 | a :: l,h,0,hi => by rw [zii] at h; exact h.1
 | a :: l,h,i + 1,hi => by rw [zii] at h; exact znJ h.2 (by simpa using hi)
theorem JBd.lens {v:JV} (h:JBd v):v.keys.length ≤ 1099511627780 ∧ v.items.length ≤ 1099511627776:=by
 cases v; rw [JBd] at h; exact ⟨h.1,h.2.1⟩
theorem JBd.its {v:JV} (h:JBd v) {i:Nat} (hi:i < v.items.length):JBd v.items[i]:=by
 cases v with
 | mk k t ks its => rw [JBd] at h; exact znJ h.2.2 hi
theorem JBd.of {v:JV} (h1:v.keys.length ≤ 1099511627780) (h2:v.items.length ≤ 1099511627776) (h3:∀ (i:Nat) (h:i < v.items.length),JBd v.items[i]):JBd v:=by
 cases v; rw [JBd]; exact ⟨h1,h2,znI h3⟩
theorem size_eq (v:JV):v.size=JV.sizes v.items + 1:=by cases v; rw [JV.size]; rfl
theorem zfN:∀ {l:List JV} {i:Nat} (hi:i < l.length),JV.sizes (l.take (i + 1))=JV.sizes (l.take i) + l[i].size
 | a :: l,0,hi => by rw [List.take_succ_cons,List.take_zero,List.take_zero,JV.sizes,JV.sizes,JV.sizes]; simp
 | a :: l,i + 1,hi => by
  rw [List.take_succ_cons,List.take_succ_cons,JV.sizes,JV.sizes,zfN (l:=l) (i:=i) (by simpa using hi)]
  simp only [List.getElem_cons_succ]
  omega
mutual
/-- short texts, not too many keys and items, wherever -/
def JKp:JV → Prop
 | .mk k t ks its => ks.length ≤ 1099511627780 ∧ its.length ≤ 1099511627776 ∧ t.length ≤ 300 ∧ (∀ k ∈ ks,k.length ≤ 300) ∧ zez its
def zez:List JV → Prop
 | [] => True
 | v :: l => JKp v ∧ zez l
end
theorem znF:∀ {l:List JV},(∀ (i:Nat) (h:i < l.length),JKp l[i]) → zez l
 | [],_ => by rw [zez]; trivial
 | v :: l,h => by
  rw [zez]
  exact ⟨h 0 (by simp),znF fun i hi => by have:=h (i + 1) (by simpa using hi); simpa only [List.getElem_cons_succ] using this⟩
theorem znG:∀ {l:List JV} (h:zez l) {i:Nat} (hi:i < l.length),JKp l[i]
 | a :: l,h,0,hi => by rw [zez] at h; exact h.1
 | a :: l,h,i + 1,hi => by rw [zez] at h; exact znG h.2 (by simpa using hi)
theorem JKp.lens {v:JV} (h:JKp v):v.keys.length ≤ 1099511627780 ∧ v.items.length ≤ 1099511627776 ∧ v.text.length ≤ 300 ∧ ∀ k ∈ v.keys,k.length ≤ 300:=by
 cases v; rw [JKp] at h; exact ⟨h.1,h.2.1,h.2.2.1,h.2.2.2.1⟩
theorem JKp.its {v:JV} (h:JKp v) {i:Nat} (hi:i < v.items.length):JKp v.items[i]:=by
 cases v with
 | mk k t ks its => rw [JKp] at h; exact znG h.2.2.2.2 hi
theorem JKp.of {v:JV} (h1:v.keys.length ≤ 1099511627780) (h2:v.items.length ≤ 1099511627776) (h3:v.text.length ≤ 300) (h4:∀ k ∈ v.keys,k.length ≤ 300) (h5:∀ (i:Nat) (h:i < v.items.length),JKp v.items[i]):JKp v:=by
 cases v; rw [JKp]; exact ⟨h1,h2,h3,h4,znF h5⟩
mutual
theorem JKp.bd:∀ {v:JV},JKp v → JBd v
 | .mk k t ks its,h => by rw [JKp] at h; rw [JBd]; exact ⟨h.1,h.2.1,zez.bd h.2.2.2.2⟩
theorem zez.bd:∀ {l:List JV},zez l → zii l
 | [],_ => by rw [zii]; trivial
 | v :: l,h => by rw [zez] at h; rw [zii]; exact ⟨JKp.bd h.1,zez.bd h.2⟩
end
mutual
/-- no slice too long, wherever -/
def JLn:JV → Prop
 | .mk k t ks its => ks.length ≤ 140737488351232 ∧ its.length ≤ 140737488351232 ∧ zoO its
def zoO:List JV → Prop
 | [] => True
 | v :: l => JLn v ∧ zoO l
end
mutual
theorem JOk.ln:∀ {v:JV},JOk v → JLn v
 | .mk k t ks its,h => by rw [JOk] at h; rw [JLn]; exact ⟨h.2.2.1,h.2.2.2.2.1,zlg.ln h.2.2.2.2.2⟩
theorem zlg.ln:∀ {l:List JV},zlg l → zoO l
 | [],_ => by rw [zoO]; trivial
 | v :: l,h => by rw [zlg] at h; rw [zoO]; exact ⟨JOk.ln h.1,zlg.ln h.2⟩
end
mutual
theorem JBd.ln:∀ {v:JV},JBd v → JLn v
 | .mk k t ks its,h => by rw [JBd] at h; rw [JLn]; exact ⟨by omega,by omega,zii.ln h.2.2⟩
theorem zii.ln:∀ {l:List JV},zii l → zoO l
 | [],_ => by rw [zoO]; trivial
 | v :: l,h => by rw [zii] at h; rw [zoO]; exact ⟨JBd.ln h.1,zii.ln h.2⟩
end
theorem znE:∀ {l:List JV} (h:zoO l) {i:Nat} (hi:i < l.length),JLn l[i]
 | a :: l,h,0,hi => by rw [zoO] at h; exact h.1
 | a :: l,h,i + 1,hi => by rw [zoO] at h; exact znE h.2 (by simpa using hi)
theorem JLn.its {v:JV} (h:JLn v) {i:Nat} (hi:i < v.items.length):JLn v.items[i]:=by
 cases v with
 | mk k t ks its => rw [JLn] at h; exact znE h.2.2 hi
theorem JLn.lens {v:JV} (h:JLn v):v.keys.length ≤ 140737488351232 ∧ v.items.length ≤ 140737488351232:=by
 cases v with
 | mk k t ks its => rw [JLn] at h; exact ⟨h.1,h.2.1⟩
section
variable [Tabs Tryz.prog]
theorem ziM:∀ (m:Nat) (v:JV) (a d:Int),v.size < m → JOk v → 0 ≤ a → a ≤ 1099511627776 → 0 ≤ d → d ≤ 1099511627776 → ∀ {objs:List OB} {K:List OB → AV → Prop},(∀ n:Int,-1 ≤ n → n ≤ 1099511627776 → (0 ≤ n → JKp v ∧ n + (v.size:Int)=a) → K objs (.i .i64 n)) → zad Tryz.prog 26 [.agg (zam v),.i .i64 a,.i .i64 d] objs K:=by
 intro m
 induction m with
 | zero => intro v a d h; omega
 | succ m ih =>
  intro v a d hm hv ha ha2 hd hd2 objs K hk
  obtain ⟨l1,l2,l3,l4⟩:=hv.lens
  refine za8 is_keep_size (by simp only [zap,AV.plain,zaX,Bool.and_self]) fun C _ => ?_
  rw [c_keep_size]
  refine zaa fun Y hY => ?_
  simp only [sxZ,z6,z7,z8,j5,j6,j7,j8,j9,x3,x4,x5,x6,x7,x8,x9,reduceCtorEq,↓reduceIte]
  have e0:OB.box 26 (zam v)=OB.box 26 [.i .i64 v.kind,.s v.text,.row v.keys.length (v.keys.map .s),.row v.items.length (zac v.items)]:=by rw [zar]
  rw [e0]
  subst hY
  refine zaa fun Y hY => ?_
  have bad:∀ (o:List OB) (tm:List AV),True:=fun _ _ => trivial
  by_cases c1:a ≤ 0
  ·simp only [sxZ,z6,z7,z8,j5,j6,j7,j8,j9,x3,x4,x5,x6,x7,x8,x9,reduceCtorEq,↓reduceIte,c1,decide_true]
   exact hk _ (by decide) (by decide) (fun h => absurd h (by decide))
  by_cases c2:d ≤ 0
  ·simp only [sxZ,z6,z7,z8,j5,j6,j7,j8,j9,x3,x4,x5,x6,x7,x8,x9,reduceCtorEq,↓reduceIte,c1,c2,decide_true]
   exact hk _ (by decide) (by decide) (fun h => absurd h (by decide))
  by_cases c3:(300:Int) < v.text.length
  ·simp only [sxZ,z6,z7,z8,j5,j6,j7,j8,j9,x3,x4,x5,x6,x7,x8,x9,reduceCtorEq,↓reduceIte,c1,c2,c3,decide_true]
   exact hk _ (by decide) (by decide) (fun h => absurd h (by decide))
  by_cases c4:(v.items.length:Int) + 4 < v.keys.length
  ·simp only [sxZ,z6,z7,z8,j5,j6,j7,j8,j9,x3,x4,x5,x6,x7,x8,x9,reduceCtorEq,↓reduceIte,c1,c2,c3,c4,decide_true]
   refine ⟨by omega,?_⟩
   exact hk _ (by decide) (by decide) (fun h => absurd h (by decide))
  by_cases c5:a < (v.items.length:Int)
  ·simp only [sxZ,z6,z7,z8,j5,j6,j7,j8,j9,x3,x4,x5,x6,x7,x8,x9,reduceCtorEq,↓reduceIte,c1,c2,c3,c4,c5,decide_true]
   refine ⟨by omega,?_⟩
   exact hk _ (by decide) (by decide) (fun h => absurd h (by decide))
  simp only [sxZ,z6,z7,z8,j5,j6,j7,j8,j9,x3,x4,x5,x6,x7,x8,x9,reduceCtorEq,↓reduceIte,c1,c2,c3,c4,c5,decide_true]
  refine ⟨by omega,?_⟩
  rw [← e0]
  generalize hB:OB.box 26 (zam v)=B
  subst hY
  refine zaa fun Y hY => ?_
  simp only [sxZ,z6,z7,z8,j5,j6,j7,j8,j9,x3,x4,x5,x6,x7,x8,x9,reduceCtorEq,↓reduceIte]
  refine ⟨by omega,?_⟩
  subst hY
  refine zaa fun Y hY => ?_
  rw [← hB,e0]
  simp only [sxZ,z6,z7,z8,j5,j6,j7,j8,j9,x3,x4,x5,x6,x7,x8,x9,reduceCtorEq,↓reduceIte]
  refine zaQ (fun n o tm => ∃ i:Nat,i ≤ v.keys.length ∧ n=v.keys.length - i ∧ o=[OB.box 26 (zam v)] ∧ (∀ j x,j < i → v.keys[j]? = some x → x.length ≤ 300) ∧ tm.length=69 ∧ tm[1]? = some (.i .i64 (a - 1)) ∧ tm[2]? = some (.i .i64 d) ∧ tm[3]? = some (.p 0 0) ∧ tm[43]? = some (.row v.keys.length (v.keys.map .s)) ∧ tm[44]? = some (.i .i64 (v.keys.length:Int)) ∧ tm[45]? = some (.i .i64 (i:Int))) v.keys.length ⟨0,Nat.zero_le _,rfl,by rw [e0],(fun j x h => by omega),rfl,rfl,rfl,rfl,rfl,rfl,rfl⟩ ?_
  rintro n _ tm ⟨i,hi,rfl,rfl,hks,hlen,t1,t2,t3,t43,t44,t45⟩
  refine zaa fun Z hZ => ?_
  by_cases hlt:(i:Int) < (v.keys.length:Int)
  ·have hi':i < v.keys.length:=by omega
   have hkk:(v.keys.map AV.s)[i * 1]? = some (.s v.keys[i]):=by rw [Nat.mul_one,List.getElem?_map,List.getElem?_eq_getElem hi']; rfl
   have hk4:=l4 _ (List.getElem_mem hi')
   have hk5:v.keys[i]? = some v.keys[i]:=List.getElem?_eq_getElem hi'
   generalize v.keys[i]=key at hkk hk4 hk5
   simp only [sxZ,z6,z7,z8,j5,j6,j7,j8,j9,x3,x4,x5,x6,x7,x8,x9,reduceCtorEq,↓reduceIte,List.getElem?_set,hlen,t1,t2,t3,t43,t44,t45,hlt]
   subst hZ
   simp only [sxZ,z6,z7,z8,j5,j6,j7,j8,j9,x3,x4,x5,x6,x7,x8,x9,reduceCtorEq,↓reduceIte,List.getElem?_set,hlen,t1,t2,t3,t43,t44,t45,hlt,List.length_map,hkk]
   refine ⟨by omega,?_⟩
   by_cases c6:(300:Int) < key.length
   ·simp only [sxZ,z6,z7,z8,j5,j6,j7,j8,j9,x3,x4,x5,x6,x7,x8,x9,reduceCtorEq,↓reduceIte,List.getElem?_set,hlen,t1,t2,t3,t43,t44,t45,c6]
    exact hk _ (by decide) (by decide) (fun h => absurd h (by decide))
   simp only [sxZ,z6,z7,z8,j5,j6,j7,j8,j9,x3,x4,x5,x6,x7,x8,x9,reduceCtorEq,↓reduceIte,List.getElem?_set,hlen,t1,t2,t3,t43,t44,t45,c6]
   refine ⟨by omega,v.keys.length - (i + 1),by omega,i + 1,by omega,rfl,fun j x hj hx => ?_,rfl⟩
   by_cases e:j=i
   ·subst e
    rw [hk5] at hx; injection hx with hx; rw [← hx]; omega
   ·exact hks j x (by omega) hx
  have hn:i=v.keys.length:=by omega
  have hks2:∀ k ∈ v.keys,k.length ≤ 300:=fun k hk => by
   obtain ⟨j,hj⟩:=List.mem_iff_getElem?.1 hk
   exact hks j k (by have:=(List.getElem?_eq_some_iff.1 hj).1; omega) hj
  simp only [sxZ,z6,z7,z8,j5,j6,j7,j8,j9,x3,x4,x5,x6,x7,x8,x9,reduceCtorEq,↓reduceIte,List.getElem?_set,hlen,t1,t2,t3,t43,t44,t45,hlt]
  subst hZ
  simp only [sxZ,z6,z7,z8,j5,j6,j7,j8,j9,x3,x4,x5,x6,x7,x8,x9,reduceCtorEq,↓reduceIte,List.getElem?_set,hlen,t1,t2,t3,t43,t44,t45,hlt]
  refine zdc (fun t => t.length=69 ∧ t[1]? = some (.i .i64 (a - 1)) ∧ t[2]? = some (.i .i64 d) ∧ t[3]? = some (.p 0 0)) ?_ ?_
  ·simp only [sxZ,z6,z7,z8,j5,j6,j7,j8,j9,x3,x4,x5,x6,x7,x8,x9,reduceCtorEq,↓reduceIte,List.length_set,List.getElem?_set,hlen,t1,t2,t3,and_self]
  clear hlen t1 t2 t3 t43 t44 t45 hlt
  rintro tm ⟨hlen,t1,t2,t3⟩
  subst hY
  refine zaa fun Y hY => ?_
  rw [e0]
  simp only [sxZ,z6,z7,z8,j5,j6,j7,j8,j9,x3,x4,x5,x6,x7,x8,x9,reduceCtorEq,↓reduceIte,List.getElem?_set,hlen,t1,t2,t3]
  rw [← e0]
  refine zaQ (fun n o tm => ∃ (i:Nat) (b:Int),i ≤ v.items.length ∧ n=v.items.length - i ∧ o[0]? = some (OB.box 26 (zam v)) ∧ 0 ≤ b ∧ b ≤ 1099511627776 ∧ (∀ (j:Nat) (h:j < v.items.length),j < i → JKp v.items[j]) ∧ b + (JV.sizes (v.items.take i):Int)=a - 1 ∧ tm.length=69 ∧ tm[1]? = some (.i .i64 b) ∧ tm[2]? = some (.i .i64 d) ∧ tm[3]? = some (.p 0 0) ∧ tm[54]? = some (.row v.items.length (zac v.items)) ∧ tm[55]? = some (.i .i64 (v.items.length:Int)) ∧ tm[56]? = some (.i .i64 (i:Int))) v.items.length ⟨0,a - 1,Nat.zero_le _,rfl,rfl,by omega,by omega,(fun j _ h => by omega),by rw [List.take_zero,JV.sizes]; omega,?_⟩ ?_
  ·simp only [sxZ,z6,z7,z8,j5,j6,j7,j8,j9,x3,x4,x5,x6,x7,x8,x9,reduceCtorEq,↓reduceIte,List.length_set,List.getElem?_set,hlen,t1,t2,t3,Int.cast_ofNat_Int,and_self]
  clear hlen t1 t2 t3
  rintro n o tm ⟨i,b,hi,rfl,ho,hb,hb2,hall,hsum,hlen,t1,t2,t3,t54,t55,t56⟩
  refine zaa fun Z hZ => ?_
  by_cases hlt:(i:Int) < (v.items.length:Int)
  ·have hi':i < v.items.length:=by omega
   have hjc:=zhQ hi'
   have hjl:=zaR v.items
   have hit:=hv.its hi'
   have hsz:=zb0 hi'
   have hsum2:=zfN hi'
   have hall2:JKp v.items[i] → ∀ (j:Nat) (h:j < v.items.length),j < i + 1 → JKp v.items[j]:=by
    intro hs j h1 hj
    by_cases e:j=i
    ·subst e; exact hs
    ·exact hall j h1 (by omega)
   generalize v.items[i]=x at hjc hit hsz hall2 hsum2
   have hcall:=fun {objs:List OB} {K:List OB → AV → Prop} (h) => ih x b (d - 1) (by omega) hit hb hb2 (by omega) (by omega) (objs:=objs) (K:=K) h
   obtain ⟨q0,q1,q2,q3,hq⟩:∃ q0 q1 q2 q3,zam x=[q0,q1,q2,q3]:=⟨_,_,_,_,zar x⟩
   have hcp:zap [q0,q1,q2,q3]=true:=by rw [← hq]; exact zaX x
   rw [hq] at hjc hcall
   have h0:∀ z,(o ++ [z])[0]? = some (OB.box 26 (zam v)):=fun z => by rw [List.getElem?_append_left (List.getElem?_eq_some_iff.1 ho).1]; exact ho
   simp only [sxZ,z6,z7,z8,j5,j6,j7,j8,j9,x3,x4,x5,x6,x7,x8,x9,reduceCtorEq,↓reduceIte,List.getElem?_set,hlen,t1,t2,t3,t54,t55,t56,hlt]
   subst hZ
   refine zaa fun Z hZ => ?_
   simp only [sxZ,z6,z7,z8,j5,j6,j7,j8,j9,x3,x4,x5,x6,x7,x8,x9,reduceCtorEq,↓reduceIte,List.getElem?_set,hlen]
   subst hZ
   refine zaa fun W hW => ?_
   rw [za9]
   refine zaa fun Z hZ => ?_
   simp only [sxZ,z6,z7,z8,j5,j6,j7,j8,j9,x3,x4,x5,x6,x7,x8,x9,reduceCtorEq,↓reduceIte,List.getElem?_set,hlen,t1,t2,t3,t54,t55,t56,hlt,hjc]
   refine ⟨by omega,by omega,?_⟩
   simp only [sxZ,z6,z7,z8,j5,j6,j7,j8,j9,x3,x4,x5,x6,x7,x8,x9,reduceCtorEq,↓reduceIte,List.getElem?_set,hlen,gn1,sn1]
   have h1:=h0 (OB.box 26 [q0,q1,q2,q3])
   have h2:(o ++ [OB.box 26 [q0,q1,q2,q3]])[o.length]? = some (OB.box 26 [q0,q1,q2,q3]):=gn1 _ _
   generalize o ++ [OB.box 26 [q0,q1,q2,q3]]=o1 at h1 h2 ⊢
   subst hZ
   refine zaa fun Z hZ => ?_
   simp only [sxZ,z6,z7,z8,j5,j6,j7,j8,j9,x3,x4,x5,x6,x7,x8,x9,reduceCtorEq,↓reduceIte,List.getElem?_set,hlen,t1,t2,h2]
   refine ⟨by omega,?_⟩
   refine zak (hcall fun n hn1 hn2 hn3 => ?_)
   simp only [sxZ,z6,z7,z8,j5,j6,j7,j8,j9,x3,x4,x5,x6,x7,x8,x9,reduceCtorEq,↓reduceIte,List.getElem?_set,hlen]
   subst hZ
   by_cases c7:n < 0
   ·simp only [sxZ,z6,z7,z8,j5,j6,j7,j8,j9,x3,x4,x5,x6,x7,x8,x9,reduceCtorEq,↓reduceIte,List.getElem?_set,hlen,c7]
    exact hk _ (by decide) (by decide) (fun h => absurd h (by decide))
   simp only [sxZ,z6,z7,z8,j5,j6,j7,j8,j9,x3,x4,x5,x6,x7,x8,x9,reduceCtorEq,↓reduceIte,List.getElem?_set,hlen,c7]
   subst hW
   simp only [sxZ,z6,z7,z8,j5,j6,j7,j8,j9,x3,x4,x5,x6,x7,x8,x9,reduceCtorEq,↓reduceIte,List.getElem?_set,hlen,t1,t2,t3,t54,t55,t56]
   exact ⟨by omega,v.items.length - (i + 1),by omega,i + 1,n,by omega,rfl,h1,by omega,hn2,hall2 (hn3 (by omega)).1,(by have:=(hn3 (by omega)).2; omega),rfl,rfl⟩
  simp only [sxZ,z6,z7,z8,j5,j6,j7,j8,j9,x3,x4,x5,x6,x7,x8,x9,reduceCtorEq,↓reduceIte,List.getElem?_set,hlen,t1,t2,t3,t54,t55,t56,hlt]
  subst hZ
  subst hY
  simp only [sxZ,z6,z7,z8,j5,j6,j7,j8,j9,x3,x4,x5,x6,x7,x8,x9,reduceCtorEq,↓reduceIte,List.getElem?_set,hlen,t1,t2,t3,t54,t55,t56,hlt]
  exact hk _ (by omega) hb2 (fun _ => ⟨JKp.of (by omega) (by omega) (by omega) hks2 fun j h => hall j h (by omega),by rw [size_eq]; rw [List.take_of_length_le (by omega)] at hsum; omega⟩)
end
end
section
attribute [local irreducible] run
def zeu (key:List UInt8):List (List UInt8) → Nat
 | [] => 0
 | k :: l => if k=key then 0 else zeu key l + 1
theorem ziR {key:List UInt8}:∀ {l:List (List UInt8)},zeu key l < l.length → l[zeu key l]? = some key
 | [],h => by simp [zeu] at h
 | k :: l,h => by
  unfold zeu at h ⊢
  by_cases c:k=key
  ·rw [if_pos c,c]; rfl
  ·rw [if_neg c] at h ⊢
   simpa using ziR (l:=l) (by simpa using h)
theorem znP {key:List UInt8}:∀ {l:List (List UInt8)} {i:Nat},l[i]? = some key → zeu key l ≤ i
 | [],i,h => by simp at h
 | k :: l,0,h => by
  simp only [List.getElem?_cons_zero,Option.some.injEq] at h
  unfold zeu; rw [if_pos h]; omega
 | k :: l,i + 1,h => by
  unfold zeu
  split
  ·omega
  ·have:=znP (l:=l) (i:=i) (by simpa using h)
   omega
def zfX (v:JV) (key:List UInt8):JV × Bool :=
 if v.kind=7 ∧ zeu key v.keys < v.keys.length then (match v.items[zeu key v.keys]? with | some x => (x,true) | none => (jvZ,false)) else (jvZ,false)
def zhT (R:JV × Bool):AV:=.tup [.agg (zam R.1),.b R.2]
theorem znR {v:JV} {key:List UInt8} (h:¬ v.kind=7):zfX v key=(jvZ,false):=by unfold zfX; rw [if_neg (fun k => h k.1)]
theorem getJ_at {v:JV} {key:List UInt8} {i:Nat} (h:v.kind=7) (hk:v.keys[i]? = some key) (hi:i < v.items.length) (hall:∀ j,j < i → v.keys[j]? ≠ some key ∨ v.items.length ≤ j):zfX v key=(v.items[i],true):=by
 have hl:=(List.getElem?_eq_some_iff.1 hk).1
 have h1:=znP hk
 have h2:zeu key v.keys=i:=by
  rcases Nat.lt_or_ge (zeu key v.keys) i with h3 | h3
  ·have h4:=ziR (l:=v.keys) (key:=key) (by omega)
   rcases hall _ h3 with h5 | h5
   ·exact absurd h4 h5
   ·omega
  ·omega
 unfold zfX
 rw [if_pos ⟨h,by omega⟩,h2,List.getElem?_eq_getElem hi]
theorem getJ_no {v:JV} {key:List UInt8} (hall:∀ j,j < v.keys.length → v.keys[j]? ≠ some key ∨ v.items.length ≤ j):zfX v key=(jvZ,false):=by
 unfold zfX
 split
 ·rename_i h
  have h4:=ziR h.2
  rcases hall _ h.2 with h5 | h5
  ·exact absurd h4 h5
  ·rw [List.getElem?_eq_none h5]
 ·rfl
theorem den_zv2 {b:Bool} {G:Gh} {I:Imm} {y:Value} (h:Den G I (.tup [.agg [.i .i64 0,.s [],.nil,.nil],.b b]) y):Den G I (zhT (jvZ,b)) y:=by
 unfold zhT jvZ
 rw [zam,zax]
 simp only [zag,Den] at h ⊢
 obtain ⟨ys,h1,y0,l0,rfl,⟨zs,rfl,⟨z0,m0,rfl,q0,z1,m1,rfl,q1,z2,m2,rfl,q2,z3,m3,rfl,q3,q4⟩,hz⟩,h2⟩:=h
 refine ⟨_,h1,_,_,rfl,⟨_,rfl,⟨_,_,rfl,q0,_,_,rfl,q1,_,_,rfl,?_,_,_,rfl,?_,q4⟩,hz⟩,h2⟩
 ·exact ⟨none,0,[],q2,⟨Nat.le_refl _,fun ad h => by cases h⟩,rfl,by simp,by simp⟩
 ·exact ⟨none,0,[],q3,⟨Nat.le_refl _,fun ad h => by cases h⟩,rfl,by simp,by simp⟩
theorem jres2 {P:Program} [Tabs P] {f:FuncId} {args:List AV} {objs:List OB} {K:List OB → AV → Prop} (r':AV) (hc:zad P f args objs (fun o r => (∀ G I y,Den G I r y → Den G I r' y) ∧ K o r')):zad P f args objs K:=by
 intro C _ G I w hin hm ys hd
 refine (hc C G I w hin hm ys hd).mono ?_
 rintro e w' ⟨y,objs',r,G',I',he,⟨hr,hk⟩,h1,h2,h3,h4,hy⟩
 exact ⟨y,objs',r',G',I',he,hk,h1,h2,h3,h4,hr _ _ _ hy⟩
section
variable [Tabs Tryz.prog] {objs:List OB} {K:List OB → AV → Prop}
theorem zkU (v:JV) (key:List UInt8) (hv:JOk v) (hk:K objs (zhT (zfX v key))):zad Tryz.prog 15 [.agg (zam v),.s key] objs K:=by
 obtain ⟨l1,l2,l3,l4⟩:=hv.lens
 refine jres2 (zhT (zfX v key)) ?_
 refine za8 is_ref14_Get (by simp only [zap,AV.plain,zaX,Bool.and_self]) fun C _ => ?_
 have fin:∀ {o:List OB},zfX v key=(jvZ,false) → ((∀ G I y,Den G I (.tup [.agg [.i .i64 0,.s [],.nil,.nil],.b false]) y → Den G I (zhT (zfX v key)) y) ∧ K objs (zhT (zfX v key))):=fun {o} h => ⟨fun G I y hy => by rw [h]; exact den_zv2 hy,hk⟩
 rw [c_ref14_Get]
 refine zaa fun Y hY => ?_
 simp only [sxZ,z6,z7,z8,j5,j6,j7,j8,j9,x3,x4,x5,x6,x7,x8,x9,reduceCtorEq,↓reduceIte]
 have e0:OB.box 26 (zam v)=OB.box 26 [.i .i64 v.kind,.s v.text,.row v.keys.length (v.keys.map .s),.row v.items.length (zac v.items)]:=by rw [zar]
 rw [e0]
 subst hY
 refine zaa fun Y hY => ?_
 by_cases c1:v.kind=7
 rotate_left
 ·simp only [sxZ,z6,z7,z8,j5,j6,j7,j8,j9,x3,x4,x5,x6,x7,x8,x9,reduceCtorEq,↓reduceIte,c1,decide_false,Bool.not_false]
  exact fin (o:=[]) (znR c1)
 simp only [sxZ,z6,z7,z8,j5,j6,j7,j8,j9,x3,x4,x5,x6,x7,x8,x9,reduceCtorEq,↓reduceIte,c1,decide_true,Bool.not_true]
 subst hY
 refine zaa fun Y hY => ?_
 simp only [sxZ,z6,z7,z8,j5,j6,j7,j8,j9,x3,x4,x5,x6,x7,x8,x9,reduceCtorEq,↓reduceIte]
 refine zaQ (fun n o tm => ∃ i:Nat,i ≤ v.keys.length ∧ n=v.keys.length - i ∧ o=[OB.box 26 [.i .i64 7,.s v.text,.row v.keys.length (v.keys.map .s),.row v.items.length (zac v.items)],OB.box 26 [.i .i64 0,.s [],.nil,.nil]] ∧ (∀ j,j < i → v.keys[j]? ≠ some key ∨ v.items.length ≤ j) ∧ tm.length=38 ∧ tm[1]? = some (.s key) ∧ tm[2]? = some (.p 0 0) ∧ tm[4]? = some (.p 1 0) ∧ tm[13]? = some (.i .i64 (v.keys.length:Int)) ∧ tm[14]? = some (.i .i64 (i:Int))) v.keys.length ⟨0,Nat.zero_le _,rfl,rfl,fun j h => by omega,rfl,rfl,rfl,rfl,rfl,rfl⟩ ?_
 rintro n _ tm ⟨i,hi,rfl,rfl,hall,hlen,t1,t2,t4,t13,t14⟩
 refine zaa fun Z hZ => ?_
 by_cases hlt:(i:Int) < (v.keys.length:Int)
 ·have hi':i < v.keys.length:=by omega
  have kv:(v.keys.map AV.s)[i * 1]? = some (.s v.keys[i]):=by rw [Nat.mul_one,List.getElem?_map,List.getElem?_eq_getElem hi']; rfl
  have kv2:v.keys[i]? = some v.keys[i]:=List.getElem?_eq_getElem hi'
  generalize v.keys[i]=x at kv kv2
  simp only [sxZ,z6,z7,z8,j5,j6,j7,j8,j9,x3,x4,x5,x6,x7,x8,x9,reduceCtorEq,↓reduceIte,List.getElem?_set,hlen,t1,t2,t4,t13,t14,hlt]
  subst hZ
  refine zaa fun Z hZ => ?_
  simp only [sxZ,z6,z7,z8,j5,j6,j7,j8,j9,x3,x4,x5,x6,x7,x8,x9,reduceCtorEq,↓reduceIte,List.getElem?_set,hlen]
  subst hZ
  refine zaa fun W hW => ?_
  rw [za9]
  refine zaa fun Z hZ => ?_
  simp only [sxZ,z6,z7,z8,j5,j6,j7,j8,j9,x3,x4,x5,x6,x7,x8,x9,reduceCtorEq,↓reduceIte,List.getElem?_set,hlen,t14]
  subst hZ
  refine zaa fun Z hZ => ?_
  have next:(x=key → v.items.length ≤ i) → ∀ j,j < i + 1 → v.keys[j]? ≠ some key ∨ v.items.length ≤ j:=by
   intro h j hj
   by_cases e:j=i
   ·subst e
    by_cases ex:x=key
    ·exact .inr (h ex)
    ·left; rw [kv2]; intro h; injection h with h; exact ex h
   ·exact hall j (by omega)
  by_cases c2:x=key
  ·by_cases c3:(i:Int) < v.items.length
   ·have hi2:i < v.items.length:=by omega
    have hg:=getJ_at c1 (by rw [kv2,c2]) hi2 hall
    have jv:=zhQ hi2
    have jvl:=zaR v.items
    have hq:=zar v.items[i]
    rw [hq] at jv
    simp only [sxZ,z6,z7,z8,j5,j6,j7,j8,j9,x3,x4,x5,x6,x7,x8,x9,reduceCtorEq,↓reduceIte,List.getElem?_set,hlen,t1,t2,kv,List.length_map,c2,c3,decide_true]
    refine ⟨by omega,?_⟩
    subst hZ
    simp only [sxZ,z6,z7,z8,j5,j6,j7,j8,j9,x3,x4,x5,x6,x7,x8,x9,reduceCtorEq,↓reduceIte,List.getElem?_set,hlen,t1,t2,t4,jv]
    refine ⟨by omega,by omega,?_⟩
    simp only [pub,AV.plain,zaK,zcZ,sxZ,z6,z7,z8,j5,j6,j7,j8,j9,x3,x4,x5,x6,x7,x8,x9,reduceCtorEq,↓reduceIte]
    refine ⟨fun G I y hy => ?_,hk⟩
    rw [hg,zhT,hq]
    exact hy
   ·simp only [sxZ,z6,z7,z8,j5,j6,j7,j8,j9,x3,x4,x5,x6,x7,x8,x9,reduceCtorEq,↓reduceIte,List.getElem?_set,hlen,t1,t2,kv,List.length_map,c2,c3,decide_true,decide_false]
    refine ⟨by omega,?_⟩
    subst hZ
    simp only [sxZ,z6,z7,z8,j5,j6,j7,j8,j9,x3,x4,x5,x6,x7,x8,x9,reduceCtorEq,↓reduceIte,List.getElem?_set,hlen,t1,t2,t4]
    subst hW
    simp only [sxZ,z6,z7,z8,j5,j6,j7,j8,j9,x3,x4,x5,x6,x7,x8,x9,reduceCtorEq,↓reduceIte,List.getElem?_set,hlen,t1,t2,t4,t13,t14]
    exact ⟨by omega,v.keys.length - (i + 1),by omega,i + 1,by omega,rfl,next (fun _ => by omega),rfl⟩
  ·simp only [sxZ,z6,z7,z8,j5,j6,j7,j8,j9,x3,x4,x5,x6,x7,x8,x9,reduceCtorEq,↓reduceIte,List.getElem?_set,hlen,t1,t2,kv,List.length_map,c2,decide_false]
   refine ⟨by omega,?_⟩
   subst hZ
   simp only [sxZ,z6,z7,z8,j5,j6,j7,j8,j9,x3,x4,x5,x6,x7,x8,x9,reduceCtorEq,↓reduceIte,List.getElem?_set,hlen,t1,t2,t4]
   subst hW
   simp only [sxZ,z6,z7,z8,j5,j6,j7,j8,j9,x3,x4,x5,x6,x7,x8,x9,reduceCtorEq,↓reduceIte,List.getElem?_set,hlen,t1,t2,t4,t13,t14]
   exact ⟨by omega,v.keys.length - (i + 1),by omega,i + 1,by omega,rfl,next (fun h => absurd h c2),rfl⟩
 simp only [sxZ,z6,z7,z8,j5,j6,j7,j8,j9,x3,x4,x5,x6,x7,x8,x9,reduceCtorEq,↓reduceIte,List.getElem?_set,hlen,t1,t2,t4,t13,t14,hlt]
 subst hZ
 subst hY
 simp only [sxZ,z6,z7,z8,j5,j6,j7,j8,j9,x3,x4,x5,x6,x7,x8,x9,reduceCtorEq,↓reduceIte,List.getElem?_set,hlen,t1,t2,t4,t13,t14,hlt]
 exact fin (o:=[]) (getJ_no fun j hj => hall j (by omega))
end
end
end Go.Proofs.YthmdohgkmdkeeaaGreatDoor
namespace Go.Proofs.YthmdohgkmdkeeaaGreatDoor
open Go.RowKit Sx
section
attribute [local irreducible] run
theorem ze9:∀ (ks:List (List UInt8)) (o:List OB) (d:Nat),zfQ o (d + 1) (ks.map AV.s)=some (ks.map AV.s)
 | [],o,d => by simp only [List.map_nil,zfQ]
 | k :: ks,o,d => by simp only [List.map_cons,zfQ,pub,AV.plain,if_true,ze9 ks o d]
theorem ziC:∀ (l:List JV) (o:List OB) (d:Nat),zfQ o (d + 1) (zac l)=some (zac l)
 | [],o,d => by rw [zax]; simp only [zfQ]
 | v :: l,o,d => by
  rw [zaE,zar]
  simp only [List.cons_append,List.nil_append,zfQ,pub,AV.plain,zaK,zcZ,if_true,ziC l o d]
section
variable [Tabs Tryz.prog] {objs:List OB} {K:List OB → AV → Prop}
end
end
end Go.Proofs.YthmdohgkmdkeeaaGreatDoor
namespace Go.Proofs.YthmdohgkmdkeeaaGreatDoor
open Go.RowKit Sx
section
attribute [local irreducible] run
structure WfM (σ:Ms) (a:Nat):Prop where
 top:(σ.st=1 ∨ σ.st=2 ∨ σ.st=3 ∨ σ.st=4 ∨ σ.st=5) → σ.stk ≠ []
 obj:(σ.st=2 ∨ σ.st=3 ∨ σ.st=4) → ∀ f r,σ.stk=f :: r → f.obj=true
 len:∀ f ∈ σ.stk,f.ks.length ≤ a ∧ f.its.length ≤ a
 deep:σ.stk.length ≤ 64
 few:σ.nodes ≤ 20000
theorem wf0 (a:Nat):WfM ms0 a:=⟨fun h => by simp [ms0] at h,fun h => by simp [ms0] at h,fun f h => by simp [ms0] at h,by simp [ms0],by simp [ms0]⟩
theorem wf_add {σ:Ms} {a:Nat} (v:JV) (hl:∀ f ∈ σ.stk,f.ks.length ≤ a ∧ f.its.length ≤ a) (hd:σ.stk.length ≤ 64) (hn:σ.nodes ≤ 20000):WfM (zcn σ v) (a + 1):=by
 unfold zcn
 split
 ·exact ⟨fun h => by simp at h,fun h => by simp at h,fun f h => by simp at h,by simp,hn⟩
 ·rename_i f r hs
  rw [hs] at hl hd
  refine ⟨fun _ => by simp,fun h => by simp at h,fun f' h => ?_,by simpa using hd,hn⟩
  rcases List.mem_cons.1 h with rfl | h
  ·have:=hl f (by simp)
   simp only [List.length_append,List.length_cons,List.length_nil]
   omega
  ·have:=hl f' (by simp [h])
   omega
theorem zge {σ:Ms} {a:Nat} (h:WfM σ a):WfM (zb4 σ) (a + 1):=by
 unfold zb4
 split
 ·exact ⟨h.top,h.obj,fun f hf => by have:=h.len f hf; omega,h.deep,h.few⟩
 ·rename_i f r hs
  refine wf_add _ (fun f' hf => h.len f' (by rw [hs]; exact List.mem_cons_of_mem _ hf)) ?_ h.few
  have:=h.deep
  rw [hs,List.length_cons] at this
  show r.length ≤ 64
  omega
theorem zje {σ:Ms} {a:Nat} {t:Tk} (h:WfM σ a) (h0:(zaB σ t).1=0):WfM (zaB σ t).2 (a + 1):=by
 unfold zaB at h0 ⊢
 by_cases c0:vkE t=0
 ·rw [if_pos c0] at h0; cases h0
 rw [if_neg c0] at h0 ⊢
 by_cases c1:vkE t=6 ∨ vkE t=7
 ·rw [if_pos c1] at h0 ⊢
  by_cases c2:64 ≤ σ.stk.length
  ·rw [if_pos c2] at h0; cases h0
  rw [if_neg c2] at h0 ⊢
  by_cases c3:20000 ≤ σ.nodes
  ·rw [if_pos c3] at h0; cases h0
  rw [if_neg c3]
  unfold zbb
  refine ⟨fun _ => by simp,fun hs f r hr => ?_,fun f hf => ?_,by simp; omega,by show σ.nodes + 1 ≤ _; omega⟩
  ·injection hr with hr _
   subst hr
   cases hb:decide (vkE t=7)
   ·simp [hb] at hs
   ·rfl
  ·rcases List.mem_cons.1 hf with rfl | hf
   ·simp
   ·have:=h.len f hf; omega
 ·rw [if_neg c1] at h0 ⊢
  by_cases c2:¬ (zfE t).1=0
  ·rw [if_pos c2] at h0; exact absurd h0 c2
  rw [if_neg c2] at h0 ⊢
  by_cases c3:20000 ≤ σ.nodes
  ·rw [if_pos c3] at h0; cases h0
  rw [if_neg c3]
  exact wf_add _ h.len h.deep (by show σ.nodes + 1 ≤ _; omega)
theorem wf_key {σ:Ms} {a:Nat} {t:Tk} (h:WfM σ a) (ho:∀ f r,σ.stk=f :: r → f.obj=true) (h0:(zgA σ t).1=0):WfM (zgA σ t).2 (a + 1):=by
 unfold zgA at h0 ⊢
 split
 ·rename_i hs; rw [hs] at h0; cases h0
 ·rename_i f r hs
  rw [hs] at h0
  simp only at h0
  by_cases c1:¬ t.1=3
  ·rw [if_pos c1] at h0; cases h0
  rw [if_neg c1] at h0 ⊢
  by_cases c2:t.2.1 ∈ f.ks
  ·rw [if_pos c2] at h0; cases h0
  rw [if_neg c2]
  have hd:=h.deep
  rw [hs] at hd
  refine ⟨fun _ => by simp,fun _ f' r' hr => ?_,fun f' hf => ?_,by simpa using hd,h.few⟩
  ·injection hr with hr _
   subst hr
   exact ho f r hs
  ·rcases List.mem_cons.1 hf with rfl | hf
   ·have:=h.len f (by rw [hs]; simp)
    simp only [List.length_append,List.length_cons,List.length_nil]
    omega
   ·have:=h.len f' (by rw [hs]; exact List.mem_cons_of_mem _ hf)
    omega
theorem wf_take {σ:Ms} {a:Nat} {t:Tk} (h:WfM σ a) (h0:(zao σ t).1=0):WfM (zao σ t).2 (a + 1):=by
 have more:∀ f ∈ σ.stk,f.ks.length ≤ a + 1 ∧ f.its.length ≤ a + 1:=fun f hf => by have:=h.len f hf; omega
 unfold zao at h0 ⊢
 by_cases c0:σ.st=0
 ·rw [if_pos c0] at h0 ⊢; exact zje h h0
 rw [if_neg c0] at h0 ⊢
 by_cases c1:σ.st=1
 ·rw [if_pos c1] at h0 ⊢
  by_cases d:zcR σ t=true
  ·rw [if_pos d]; exact zge h
  ·rw [if_neg d] at h0 ⊢; exact zje h h0
 rw [if_neg c1] at h0 ⊢
 by_cases c3:σ.st=3
 ·rw [if_pos c3] at h0 ⊢
  by_cases d:zcR σ t=true
  ·rw [if_pos d]; exact zge h
  ·rw [if_neg d] at h0 ⊢; exact wf_key h (h.obj (.inr (.inl c3))) h0
 rw [if_neg c3] at h0 ⊢
 by_cases c2:σ.st=2
 ·rw [if_pos c2] at h0 ⊢; exact wf_key h (h.obj (.inl c2)) h0
 rw [if_neg c2] at h0 ⊢
 by_cases c4:σ.st=4
 ·rw [if_pos c4] at h0 ⊢
  by_cases d:isP t 58=true
  ·rw [if_pos d]
   exact ⟨fun h => by simp at h,fun h => by simp at h,more,h.deep,h.few⟩
  ·rw [if_neg d] at h0; cases h0
 rw [if_neg c4] at h0 ⊢
 by_cases c5:σ.st=5
 ·rw [if_pos c5] at h0 ⊢
  have hne:=h.top (by omega)
  unfold onM at h0 ⊢
  split
  ·rename_i hs; exact absurd hs hne
  ·rename_i f r hs
   rw [hs] at h0
   simp only at h0
   by_cases d:zcR σ t=true
   ·rw [if_pos d]; exact zge h
   rw [if_neg d] at h0 ⊢
   by_cases d2:isP t 44=false
   ·rw [if_pos d2] at h0; cases h0
   rw [if_neg d2]
   refine ⟨fun _ => hne,fun hst f' r' hr => ?_,more,h.deep,h.few⟩
   rw [hs] at hr
   injection hr with hr _
   subst hr
   cases hb:f.obj
   ·simp [hb] at hst
   ·rfl
 rw [if_neg c5] at h0 ⊢
 by_cases c6:σ.st=6
 ·rw [if_pos c6] at h0 ⊢
  by_cases d:t.1=1
  ·rw [if_pos d]
   exact ⟨fun h => by simp at h,fun h => by simp at h,more,h.deep,h.few⟩
  ·rw [if_neg d] at h0; cases h0
 ·rw [if_neg c6] at h0; cases h0
end
end Go.Proofs.YthmdohgkmdkeeaaGreatDoor
