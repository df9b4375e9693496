/- The texts that the proofs of these statements reach, in their order, as few files. -/
import Derived.Lib.IndexAny
import Derived.Shelf.Strings.IndexAnyAll
import Derived.Lib.OthersKept
import Derived.ProofKit
import Derived.OpenShut
import Derived.ShutString
import Derived.Carry
import Derived.WideKeyArgs
import Derived.SizedLaws
import Derived.Test.YthmdohgkmdkeeaaGreatDoorTz4
set_option linter.unusedVariables false
set_option linter.unusedSimpArgs false
set_option maxRecDepth 100000
namespace Go.Proofs.YthmdohgkmdkeeaaGreatDoor
open Go.RowKit
theorem valN_enc {r:Nat} (h:cpB (r:Int)=true):zep (zdF r)=r:=by
 have hr:=(of_decide_eq_true h).2.1
 unfold zdF
 by_cases h1:r < 128
 ·rw [if_pos h1]
  show (u8b r).toNat=r
  exact zax (by omega)
 rw [if_neg h1]
 by_cases h2:r < 2048
 ·rw [if_pos h2]
  show (u8b (192 + r / 64)).toNat % 32 * 64 + (u8b (128 + r % 64)).toNat % 64=r
  rw [zax (by omega),zax (by omega)]; omega
 rw [if_neg h2]
 by_cases h3:r < 65536
 ·rw [if_pos h3]
  show ((u8b (224 + r / 4096)).toNat % 16 * 64 + (u8b (128 + r / 64 % 64)).toNat % 64) * 64 + (u8b (128 + r % 64)).toNat % 64=r
  rw [zax (by omega),zax (by omega),zax (by omega)]; omega
 ·rw [if_neg h3]
  show (((u8b (240 + r / 262144)).toNat % 8 * 64 + (u8b (128 + r / 4096 % 64)).toNat % 64) * 64 + (u8b (128 + r / 64 % 64)).toNat % 64) * 64 + (u8b (128 + r % 64)).toNat % 64=r
  rw [zax (by omega),zax (by omega),zax (by omega),zax (by omega)]; omega
def ziJ (l:List UInt8):Bool:=decide ((zeK (zep l)).1=0) && ((zeK (zep l)).2 == l)
theorem znF {l:List UInt8} {n:Nat} (hn:n ≤ l.length) (h:ziJ (l.take n)=true):zbE l=some (zep (l.take n),n):=by
 unfold ziJ at h
 rw [Bool.and_eq_true,decide_eq_true_eq,beq_iff_eq] at h
 rcases hc:cpB (zep (l.take n):Int) with _ | _
 ·have:=h.1
  unfold zeK at this
  rw [hc,if_neg Bool.false_ne_true] at this
  exact absurd this (by decide)
 ·have h2:=h.2
  unfold zeK at h2
  rw [hc,if_pos rfl,Int.toNat_natCast] at h2
  exact ziU hc h2 hn
theorem isEnc_no {l:List UInt8} {n r:Nat} (h:zbE l=some (r,n)):ziJ (l.take n)=true:=by
 have hb:=za7 h
 have hv:zep (l.take n)=r:=by rw [← hb.2.1]; exact valN_enc hb.1
 unfold ziJ zeK
 rw [hv,hb.1,if_pos rfl,Int.toNat_natCast,hb.2.1]
 simp
theorem zet (s:ByteArray) (a:Int) (w:World) (hs:s.size ≤ 140737488351232) :
  Calls Tryz.prog 92 #[.string s,.int .i64 a] w fun e w' => e=.returned (triV (zb2 s.data.toList a)) ∧ Qb w w':=by
 by_cases h:a < 0 ∨ (s.size:Int) ≤ a
 ·rw [zfX (by rw [zah]; exact h)]
  by_cases h0:a < 0
  ·clear h
   go_enter Tryz.func92,Tryz.ntmps92
   go_wp2_with fail
   go_ret3
   exact ⟨rfl,Qb.refl _⟩
  ·have h1:(s.size:Int) ≤ a:=by omega
   clear h
   go_enter Tryz.func92,Tryz.ntmps92
   go_wp2_with fail
   go_ret3
   exact ⟨rfl,Qb.refl _⟩
 ·obtain ⟨k,rfl⟩:=Int.eq_ofNat_of_zero_le (show 0 ≤ a by omega)
  have hk:k < s.size:=by omega
  clear h
  have hb0:decide ((k:Int) < 0)=false:=decide_eq_false (by omega)
  have hbs:decide (s.size ≤ k)=false:=decide_eq_false (by omega)
  go_enter Tryz.func92,Tryz.ntmps92
  go_wp2_with fail
  go_loopw [7,8,9,10] (fun x _ _ _ wr => ∃ n:Nat,1 ≤ n ∧ n ≤ 5 ∧ x=.int .i64 n ∧ Hid (∀ r m,zbE (s.data.toList.drop k)=some (r,m) → n ≤ m) ∧ Qb w wr) (fun x _ _ _ _ => 5 - (intOf x).toNat)
  case atStart => exact ⟨1,Nat.le_refl _,by omega,rfl,Lib.hid fun r m hd => (za7 hd).2.2.2.1,Qb.refl w⟩
  case round =>
   obtain ⟨n,h1,h5,rfl,HM,hq⟩:=hrel
   by_cases hlt:n ≤ 4 ∧ k + n ≤ s.size
   ·obtain ⟨h4,hle⟩:=hlt
    have hx:Hid ((s.extract k (k + n)).data.toList=(s.data.toList.drop k).take n):=Lib.hid (by rw [Lib.extract_data,Nat.add_sub_cancel_left])
    have hsz:=size_extract s k (k + n) hle
    have hz1:1 ≤ (s.extract k (k + n)).size:=by omega
    have hz4:(s.extract k (k + n)).size ≤ 4:=by omega
    clear hsz
    go_wp2_with fail
    refine (zkL _ hz1 hz4 _).mono ?_
    rintro e w1 ⟨rfl,hq1⟩
    rw [hx.out]
    rcases hi:ziJ ((s.data.toList.drop k).take n) with _ | _
    ·have HN:Hid (∀ r m,zbE (s.data.toList.drop k)=some (r,m) → n + 1 ≤ m):=Lib.hid fun r m hd => by
      have h6:=HM.out r m hd
      have h7:n ≠ m:=by
       rintro rfl
       rw [isEnc_no hd] at hi; cases hi
      omega
     obtain ⟨er,eb,hres,hor⟩:∃ er eb,resV (zeK (zep ((s.data.toList.drop k).take n)))=.tuple #[.string eb,.int .i64 er] ∧ ((er == 0)=false ∨ (eb.toList == (s.extract k (k + n)).toList)=false):=by
      refine ⟨_,_,rfl,?_⟩
      unfold ziJ at hi
      rw [Bool.and_eq_false_iff,decide_eq_false_iff_not,beq_eq_false_iff_ne] at hi
      rcases hi with hi | hi
      ·exact .inl (beq_eq_false_iff_ne.2 hi)
      ·refine .inr (beq_eq_false_iff_ne.2 fun e => hi ?_)
       rw [ByteArray.toList_eq,ByteArray.toList_eq,hx.out] at e
       exact e
     have HR:=Lib.hid hres
     clear hres hi
     generalize zep ((s.data.toList.drop k).take n)=q at *
     go_wp2_with fail
     refine (zes _ _).mono ?_
     rintro e w2 ⟨rfl,hq2⟩
     rw [HR.out]
     rcases hor with ho | ho
     ·go_wp2_with fail
      go_roundw
      case rel => exact ⟨n + 1,by omega,by omega,by go_num,HN,(hq.trans hq1).trans hq2⟩
      case measure => simp [intOf]; omega
     ·by_cases he:er=0
      ·subst he
       go_wp2_with fail
       go_roundw
       case rel => exact ⟨n + 1,by omega,by omega,by go_num,HN,(hq.trans hq1).trans hq2⟩
       case measure => simp [intOf]; omega
      ·have he1:(er == 0)=false:=beq_eq_false_iff_ne.2 he
       clear he
       go_wp2_with fail
       go_roundw
       case rel => exact ⟨n + 1,by omega,by omega,by go_num,HN,(hq.trans hq1).trans hq2⟩
       case measure => simp [intOf]; omega
    ·have HD:=Lib.hid (znF (by rw [List.length_drop,zah]; omega) hi)
     have hres:resV (zeK (zep ((s.data.toList.drop k).take n)))=.tuple #[.string (s.extract k (k + n)),.int .i64 0]:=by
      unfold ziJ at hi
      rw [Bool.and_eq_true,decide_eq_true_eq,beq_iff_eq] at hi
      unfold resV
      rw [hi.1,hi.2,← hx.out]
     have HR:=Lib.hid hres
     clear hres hi
     generalize zep ((s.data.toList.drop k).take n)=q at *
     go_wp2_with fail
     refine (zes _ _).mono ?_
     rintro e w2 ⟨rfl,hq2⟩
     rw [HR.out]
     go_wp2_with fail
     go_ret3
     exact ⟨by rw [zdA (by rw [zah]; exact hk) HD.out]; rfl,(hq.trans hq1).trans hq2⟩
   ·have HN:Hid (zbE (s.data.toList.drop k)=none):=Lib.hid (by
     rcases hd:zbE (s.data.toList.drop k) with _ | ⟨r,m⟩
     ·rfl
     ·have h6:=HM.out r m hd
      have hb:=za7 hd
      have hb1:=hb.2.2.1
      rw [List.length_drop,zah] at hb1
      omega)
    by_cases h4:n ≤ 4
    ·have hgt:s.size < k + n:=by omega
     clear hlt
     go_wp2_with fail
     go_ret3
     exact ⟨by rw [zbj (by rw [zah]; exact hk) HN.out]; rfl,hq⟩
    ·clear hlt
     go_wp2_with fail
     go_ret3
     exact ⟨by rw [zbj (by rw [zah]; exact hk) HN.out]; rfl,hq⟩
end Go.Proofs.YthmdohgkmdkeeaaGreatDoor
namespace Go.Proofs.YthmdohgkmdkeeaaGreatDoor
open Go.RowKit
theorem zkT (s:ByteArray) (w:World) (hs:s.size ≤ 140737488351232) :
  Calls Tryz.prog 93 #[.string s] w fun e w' => e=.returned (.int .i64 (zk7 s.data.toList)) ∧ Qb w w':=by
 go_enter Tryz.func93,Tryz.ntmps93
 go_wp2_with fail
 go_loopw [3,4] (fun c a wr => ∃ j m:Nat,j ≤ s.size ∧ m ≤ j ∧ a=.int .i64 j ∧ c=.int .i64 m ∧ Hid (zk7 s.data.toList=addC m (zk7 (s.data.toList.drop j))) ∧ Qb w wr) (fun _ a _ => s.size - (intOf a).toNat)
 case atStart => exact ⟨0,0,Nat.zero_le _,Nat.le_refl _,rfl,rfl,Lib.hid (zoD _),Qb.refl w⟩
 case round =>
  obtain ⟨j,m,hj,hm,rfl,rfl,HC,hq⟩:=hrel
  by_cases hlt:j < s.size
  ·rcases hd:zbE (s.data.toList.drop j) with _ | ⟨r,n⟩
   ·have HR:=Lib.hid (zbj (l:=s.data.toList) (k:=j) (by rw [zah]; exact hlt) hd)
    have HN:=Lib.hid (zhW (by intro e; have:=congrArg List.length e; rw [List.length_drop,zah] at this; simp at this; omega) hd)
    clear hd
    go_wp2_with fail
    refine (zet s j _ hs).mono ?_
    rintro e w1 ⟨rfl,hq1⟩
    rw [HR.out]
    unfold triV
    go_wp2_with fail
    go_ret
    exact ⟨zaU (by rw [HC.out,HN.out]; rfl),hq.trans hq1⟩
   ·have HR:=Lib.hid (zdA (l:=s.data.toList) (k:=j) (by rw [zah]; exact hlt) hd)
    have HN:=Lib.hid (zhV hd)
    have hb:=za7 hd
    have hb1:=hb.2.2.1
    rw [List.length_drop,zah] at hb1
    have hb2:=hb.2.2.2.1
    clear hd hb
    go_wp2_with fail
    refine (zet s j _ hs).mono ?_
    rintro e w1 ⟨rfl,hq1⟩
    rw [HR.out]
    unfold triV
    go_wp2_with fail
    go_roundw
    case rel => exact ⟨j + n,m + 1,by omega,by omega,by go_num,by go_num,Lib.hid (by rw [HC.out,HN.out,List.drop_drop,zoE _ _ _ (zom _)]),hq.trans hq1⟩
    case measure => simp [intOf]; omega
  ·have HN:Hid (zk7 (s.data.toList.drop j)=0):=Lib.hid (by rw [List.drop_of_length_le (by rw [zah]; omega)]; rfl)
   go_wp2_with fail
   go_ret
   exact ⟨zaU (by rw [HC.out,HN.out]; unfold addC; rw [if_neg (by decide)]; omega),hq⟩
theorem zef (s:ByteArray) (w:World) (hs:s.size ≤ 140737488351232) :
  Calls Tryz.prog 75 #[.string s] w fun e w' => e=.returned (.bool (zaQ s.data.toList)) ∧ Qb w w':=by
 go_enter Tryz.func75,Tryz.ntmps75
 go_wp2_with fail
 refine (zkT s _ hs).mono ?_
 rintro e w1 ⟨rfl,hq1⟩
 go_wp2_with fail
 go_ret
 exact ⟨rfl,hq1⟩
end Go.Proofs.YthmdohgkmdkeeaaGreatDoor
namespace Go.Proofs.YthmdohgkmdkeeaaGreatDoor
open Go.RowKit Sx
class Utf (P:Program) [Tabs P]:Prop where
 ut:∀ w:World,Tabs.T (P:=P) w → UTabs w
section
variable [Tabs Tryz.prog] {objs:List OB} {K:List OB → AV → Prop}
theorem zls [Utf Tryz.prog] (r:Int) (hk:K objs (.tup [.s (zeK r).2,.i .i64 (zeK r).1])):zad Tryz.prog 98 [.i .i64 r] objs K :=
 convT (vs:=[.int .i64 r]) rfl rfl (fun w hT => zlb r w (Utf.ut w hT)) hk
theorem zgU [Utf Tryz.prog] (s:List UInt8) (a:Int) (hs:s.length ≤ 140737488351232) (hk:K objs (.tup [.i .i64 (zb2 s a).1,.i .i64 (zb2 s a).2.1,.i .i64 (zb2 s a).2.2])):zad Tryz.prog 95 [.s s,.i .i64 a] objs K :=
 convT (vs:=[.string (S s),.int .i64 a]) rfl rfl (fun w hT => zld (S s) a w (by rw [zch]; exact hs) (Utf.ut w hT)) hk
theorem zha (s:List UInt8) (hs:s.length ≤ 140737488351232) (hk:K objs (.b (zaQ s))):zad Tryz.prog 75 [.s s] objs K :=
 conv (vs:=[.string (S s)]) rfl rfl (fun w => zef (S s) w (by rw [zch]; exact hs)) hk
end
end Go.Proofs.YthmdohgkmdkeeaaGreatDoor
namespace Go.Proofs.YthmdohgkmdkeeaaGreatDoor.Sx
open Go.RowKit
theorem zgH {k:IntKind} {r:Int} {K K':Int → Prop} (hk:∀ v,K v → K' v) (h:arK k r K):arK k r K':=by
 cases k
 all_goals first | exact hk _ h | exact ⟨h.1,hk _ h.2⟩
theorem zou {op:BinOp} {x y:AV} {K K':AV → Prop} (hk:∀ v,K v → K' v) (h:binK op x y K):binK op x y K':=by
 unfold binK at h ⊢
 split at h
 ·refine ⟨h.1,?_⟩
  replace h:=h.2
  cases op
  all_goals first
   | exact h.elim
   | exact zgH (fun _ g => hk _ g) h
   | exact ⟨h.1,zgH (fun _ g => hk _ g) h.2⟩
   | exact ⟨h.1,hk _ h.2⟩
   | exact hk _ h
 all_goals
  revert h
  cases op
  all_goals first
   | exact fun h => h.elim
   | exact fun h => ⟨h.1,hk _ h.2⟩
   | exact fun h => hk _ h
section
variable {P:Program} [Tabs P] {C:Cx}
theorem zeE {so:SOp} {objs:List OB} {tm:List AV} {K K':List OB → AV → Prop} (hk:∀ o v,K o v → K' o v) (h:wpS P so objs tm K):wpS P so objs tm K':=by
 cases so
 all_goals simp only [wpS] at h ⊢
 all_goals try exact hk _ _ h
 all_goals try exact ⟨h.1,hk _ _ h.2⟩
 all_goals try exact zou (fun _ g => hk _ _ g) h
 all_goals try exact h.mono hk
 all_goals try exact ⟨h.1,h.2.mono fun _ _ g => ⟨g.1,hk _ _ g.2⟩⟩
 all_goals
  revert h
  repeat' split
  all_goals first
   | exact fun h => h.elim
   | exact fun h => hk _ _ h
   | exact fun h => ⟨h.1,hk _ _ h.2⟩
   | exact fun h => zgH (fun _ g => hk _ _ g) h
   | exact fun h => ⟨fun e => hk _ _ (h.1 e),fun e => hk _ _ (h.2 e)⟩
   | exact fun ⟨v,h1,h2⟩ => ⟨v,h1,hk _ _ h2⟩
   | exact fun ⟨h0,l,h1,h2⟩ => ⟨h0,l,h1,hk _ _ h2⟩
   | exact fun h => ⟨h.1,h.2.mono hk⟩
theorem zbe:∀ {l:List SO} {objs:List OB} {tm:List AV} {K K':List OB → List AV → Prop},(∀ o t,K o t → K' o t) → wpR P l objs tm K → wpR P l objs tm K'
 | [],_,_,_,_,hk,h => hk _ _ h
 | ⟨dst,op,none⟩ :: r,_,_,_,_,hk,h => zeE (fun _ _ g => zbe hk g) h
 | ⟨dst,op,some (t,want)⟩ :: r,objs,tm,K,K',hk,h => by
  simp only [wpR] at h ⊢
  revert h
  split
  ·exact fun h => ⟨fun e => zeE (fun _ _ g => zbe hk g) (h.1 e),fun e => zbe hk (h.2 e)⟩
  ·exact fun h => zbe hk h
  ·exact fun h => h.elim
theorem zcB:∀ {l:List SO} {objs:List OB} {tm:List AV} {K K':List OB → List AV → Prop},(∀ o t,K o t → K' o t) → wpD P l objs tm K → wpD P l objs tm K'
 | [],_,_,_,_,hk,h => hk _ _ h
 | ⟨dst,op,none⟩ :: r,_,_,_,_,hk,h => by
  simp only [wpD] at h ⊢
  revert h
  split
  ·exact fun ⟨v,h1,h2⟩ => ⟨v,h1,zcB hk h2⟩
  ·exact fun h => zeE (fun _ _ g => zcB hk g) h
 | ⟨dst,op,some (t,want)⟩ :: r,objs,tm,K,K',hk,h => by
  simp only [wpD] at h ⊢
  revert h
  split
  ·refine fun h => ⟨fun e => ?_,fun e => zcB hk (h.2 e)⟩
   have h1:=h.1 e
   revert h1
   split
   ·exact fun ⟨v,h1,h2⟩ => ⟨v,h1,zcB hk h2⟩
   ·exact fun h => zeE (fun _ _ g => zcB hk g) h
  ·exact fun h => zcB hk h
  ·exact fun h => h.elim
theorem zkG {N N':List OB → List AV → Prop} {K K':zaF} (hn:∀ o t,N o t → N' o t) (hk:∀ e o t,K e o t → K' e o t):∀ e o t,zeB N K e o t → zeB N' K' e o t:=by
 intro e o t h
 cases e <;> first | exact hn _ _ h | exact hk _ _ _ h
theorem zot {id:Nat} {K K':zaF} (hk:∀ e o t,K e o t → K' e o t):∀ e o t,blkK id K e o t → blkK id K' e o t:=by
 intro e o t h
 cases e
 all_goals try exact hk _ _ _ h
 rename_i i
 unfold blkK at h ⊢
 simp only at h ⊢
 split at h
 ·rename_i g; rw [if_pos g]; exact hk _ _ _ h
 ·rename_i g; rw [if_neg g]; exact hk _ _ _ h
theorem zi3:∀ (st:List (List SO × SO)) (h:List (List SO × List AV × List AV)) (last:List SO) (o:List OB) (t:List AV) {K K':List OB → List AV → Prop},(∀ o t,K o t → K' o t) → wpT P st h last o t K → wpT P st h last o t K'
 | [],h,last,o,t,K,K',hk,g => zbe hk g
 | (L,c) :: st,h,last,o,t,K,K',hk,g => zbe (fun _ _ g => zbe (fun _ _ g => ⟨g.1,zi3 st _ last _ _ hk g.2⟩) g) g
theorem zc8:∀ (c:SCode) {K K':zaF} {objs:List OB} {tm:List AV},(∀ e o t,K e o t → K' e o t) → wpC P C c K objs tm → wpC P C c K' objs tm
 | .skip,_,_,_,_,hk,h => hk _ _ _ h
 | .reg l,_,_,_,_,hk,h => zbe (fun _ _ g => hk _ _ _ g) h
 | .drw l k ap,_,_,_,_,hk,h => zcB (fun _ _ g => ⟨g.1,zbe (fun _ _ g => hk _ _ _ g) g.2⟩) h
 | .crg pre cl post,_,_,_,_,hk,h => zbe (fun _ _ g => zbe (fun _ _ g => ⟨g.1,zbe (fun _ _ g => hk _ _ _ g) g.2⟩) g) h
 | .crs st last,_,_,_,_,hk,h => zi3 st [] last _ _ (fun _ _ g => hk _ _ _ g) h
 | .seq x y,_,_,_,_,hk,h => zc8 x (zkG (fun _ _ g => zc8 y hk g) hk) h
 | .cond c x y,_,_,_,_,hk,h => by
  simp only [wpC] at h ⊢
  revert h
  split
  ·exact fun h => ⟨fun e => zc8 x hk (h.1 e),fun e => zc8 y hk (h.2 e)⟩
  ·exact fun h => h.elim
 | .blk id c,_,_,_,_,hk,h => zc8 c (zot hk) h
 | .loop c,_,_,_,_,hk,h => fun c hc => WP.mono (fun e o t g => by cases e <;> first | exact hk _ _ _ g | exact g) (h c hc)
 | .exit id,_,_,_,_,hk,h => hk _ _ _ h
 | .ret,_,_,_,_,hk,h => hk _ _ _ h
 | .dead,_,_,_,_,hk,h => h.elim
def cutF (P:Program) [Tabs P] (C:Cx) (J:List OB → List AV → Prop) (k:List IT) (F:zaF):zaF:=zeB J (zcO P C F k)
variable {F:zaF} {k:List IT} {objs:List OB} {tm:List AV}
theorem zab (J:List OB → List AV → Prop):cutF P C J k F .normal objs tm=J objs tm:=Eq.trans rfl rfl
theorem zbu (J:List OB → List AV → Prop) (id:Nat):cutF P C J k F (.exit id) objs tm=xit P C id k objs tm F:=Eq.trans rfl rfl
theorem zaM {x:SCode} (J:List OB → List AV → Prop) (h:run P C [.code x] objs tm (cutF P C J k F)) (hJ:∀ o t,J o t → run P C k o t F):run P C (.code x :: k) objs tm F :=
 zc8 x (fun e o t g => by
  cases e
  ·exact hJ _ _ g
  all_goals exact g) h
end
end Go.Proofs.YthmdohgkmdkeeaaGreatDoor.Sx
namespace Go.Proofs.YthmdohgkmdkeeaaGreatDoor.Sx
open Go.RowKit
section
variable {P:Program} [Tabs P] {C:Cx} {F:zaF} {k:List IT} {objs:List OB} {tm:List AV}
theorem zaa {x y:SCode} (h:∀ Y,Y=y → run P C (.code x :: .code Y :: k) objs tm F):run P C (.code (.seq x y) :: k) objs tm F:=h y rfl
theorem zbf (J:List AV → Prop) (h:J tm) (hk:∀ t,J t → run P C k objs t F):run P C k objs tm F:=hk tm h
end
end Go.Proofs.YthmdohgkmdkeeaaGreatDoor.Sx
namespace Go.Proofs.YthmdohgkmdkeeaaGreatDoor
open Nat renaming reduceAdd → z6, reduceSub → z7, reduceLeDiff → z8, reduceLT → j5, reduceMul → j6, reduceEqDiff → j7
open Int renaming reduceToNat → j8, reduceAdd → j9, reduceSub → x3, reduceMul → x4, reduceNeg → x5, reduceLT → x6, reduceLE → x7, reduceEq → x8, reduceNe → x9
open Go.RowKit Sx
theorem iv {k:IntKind} {x y:Int} (h:x=y):some (AV.i k x)=some (AV.i k y):=by rw [h]
theorem zlQ (s:List UInt8) (i:Nat) (h:i < s.length):zaL (s.drop i)=if zai s[i]=true then zaL (s.drop (i + 1)) + 1 else 0:=by
 rw [List.drop_eq_getElem_cons h,zaL]
theorem zlP (s:List UInt8):zaL (s.drop s.length)=0:=by rw [List.drop_length]; rfl
theorem get_some {s:List UInt8} {i:Nat} (h:i < s.length) {c:UInt8}:(s[i]? = some c) ↔ s[i]=c:=by
 rw [List.getElem?_eq_getElem h,Option.some.injEq]
theorem zbg {s:List UInt8} {i:Nat} (h:¬ i < s.length) {c:UInt8}:¬ s[i]? = some c:=by
 rw [List.getElem?_eq_none (by omega)]; simp
theorem zbL {c:UInt8} {k:Nat} (hk:k < 256):(((c.toNat:Nat):Int)=((k:Nat):Int)) ↔ c=UInt8.ofNat k:=by
 constructor
 ·intro h
  have h2:c.toNat=k:=by omega
  rw [← h2]; simp
 ·rintro rfl
  rw [UInt8.toNat_ofNat']; omega
theorem zem {s:List UInt8} {i:Nat} (h:i < s.length) (k:Nat) (hk:k < 256):s[i]? = some (UInt8.ofNat k) ↔ ((s[i].toNat:Nat):Int)=((k:Nat):Int):=by
 rw [get_some h]
 exact (zbL hk).symm
theorem zfn (s:List UInt8) (a i:Nat):(s.drop a)[i]? = s[a + i]?:=List.getElem?_drop
theorem zgy (s:List UInt8) (a i:Nat):(s.drop a).drop i=s.drop (a + i):=List.drop_drop
section
variable [Tabs Tryz.prog] {objs:List OB} {K:List OB → AV → Prop}
theorem zdz (s:List UInt8) (a:Nat) (ha:a ≤ s.length) (hs:s.length ≤ 9000000000000000000) (hk:K objs (.i .i64 ((a + zaL (s.drop a):Nat):Int))):zad Tryz.prog 82 [.s s,.i .i64 (a:Nat)] objs K:=by
 refine zbb is_token_digitsEnd rfl fun C _ => ?_
 simp only [c_token_digitsEnd,sxZ,z6,z7,z8,j5,j6,j7,j8,j9,x3,x4,x5,x6,x7,x8,x9,reduceCtorEq,↓reduceIte]
 refine zaO (fun n objs tm => ∃ i:Nat,i ≤ s.length ∧ n=s.length - i ∧ objs=[] ∧ a + zaL (s.drop a)=i + zaL (s.drop i) ∧ tm.length=18 ∧ tm[0]? = some (.s s) ∧ tm[1]? = some (.i .i64 i)) (s.length - a) ⟨a,ha,rfl,rfl,rfl,rfl,rfl,rfl⟩ ?_
 rintro n _ tm ⟨i,hi,rfl,rfl,hr,hlen,t0,t1⟩
 by_cases hlt:(i:Int) < s.length
 ·have hlt':i < s.length:=by omega
  have hg:=zaz hlt'
  have hrn:=zlQ s i hlt'
  simp only [sxZ,z6,z7,z8,j5,j6,j7,j8,j9,x3,x4,x5,x6,x7,x8,x9,reduceCtorEq,↓reduceIte,List.getElem?_set,hlen,t0,t1,hlt]
  refine ⟨by omega,?_⟩
  rw [hg]
  generalize s[i]=c at *
  refine zal (zkD c ?_)
  by_cases hd:zai c=true
  ·rw [if_pos hd] at hrn
   simp only [hd,sxZ,z6,z7,z8,j5,j6,j7,j8,j9,x3,x4,x5,x6,x7,x8,x9,reduceCtorEq,↓reduceIte,List.getElem?_set,hlen,t0,t1]
   exact ⟨⟨by omega,by omega⟩,s.length - (i + 1),by omega,i + 1,by omega,rfl,by omega,rfl⟩
  ·rw [if_neg hd] at hrn
   simp only [Bool.not_eq_true] at hd
   simp only [hd,sxZ,z6,z7,z8,j5,j6,j7,j8,j9,x3,x4,x5,x6,x7,x8,x9,reduceCtorEq,↓reduceIte,List.getElem?_set,hlen,t0,t1]
   rw [hr,hrn] at hk
   exact hk
 ·obtain rfl:i=s.length:=by omega
  simp only [sxZ,z6,z7,z8,j5,j6,j7,j8,j9,x3,x4,x5,x6,x7,x8,x9,reduceCtorEq,↓reduceIte,List.getElem?_set,hlen,t0,t1,hlt]
  rw [hr,zlP] at hk
  exact hk
theorem znE (c:UInt8) (hk:K objs (.b (zbs c))):zad Tryz.prog 33 [.i .u8 c.toNat] objs K:=by
 refine zbb is_token_isSpace rfl fun C _ => ?_
 have h32:=zbL (c:=c) (k:=32) (by decide)
 have h9:=zbL (c:=c) (k:=9) (by decide)
 have h10:=zbL (c:=c) (k:=10) (by decide)
 have h13:=zbL (c:=c) (k:=13) (by decide)
 have hw:zbs c=decide (c=32 ∨ c=9 ∨ c=10 ∨ c=13):=by
  have:∀ n:Fin 256,zbs (UInt8.ofNat n.val)=decide (UInt8.ofNat n.val=32 ∨ UInt8.ofNat n.val=9 ∨ UInt8.ofNat n.val=10 ∨ UInt8.ofNat n.val=13):=by decide +kernel
  simpa using this ⟨c.toNat,c.toNat_lt⟩
 rw [hw] at hk
 by_cases c1:((c.toNat:Nat):Int)=32
 ·rw [decide_eq_true (by have:=h32.1 c1; simp [this])] at hk
  simp only [c_token_isSpace,c1,sxZ,z6,z7,z8,j5,j6,j7,j8,j9,x3,x4,x5,x6,x7,x8,x9,reduceCtorEq,↓reduceIte]; exact hk
 by_cases c2:((c.toNat:Nat):Int)=9
 ·rw [decide_eq_true (by have:=h9.1 c2; simp [this])] at hk
  simp only [c_token_isSpace,c1,c2,sxZ,z6,z7,z8,j5,j6,j7,j8,j9,x3,x4,x5,x6,x7,x8,x9,reduceCtorEq,↓reduceIte]; exact hk
 by_cases c3:((c.toNat:Nat):Int)=10
 ·rw [decide_eq_true (by have:=h10.1 c3; simp [this])] at hk
  simp only [c_token_isSpace,c1,c2,c3,sxZ,z6,z7,z8,j5,j6,j7,j8,j9,x3,x4,x5,x6,x7,x8,x9,reduceCtorEq,↓reduceIte]; exact hk
 by_cases c4:((c.toNat:Nat):Int)=13
 ·rw [decide_eq_true (by have:=h13.1 c4; simp [this])] at hk
  simp only [c_token_isSpace,c1,c2,c3,c4,sxZ,z6,z7,z8,j5,j6,j7,j8,j9,x3,x4,x5,x6,x7,x8,x9,reduceCtorEq,↓reduceIte]; exact hk
 rw [decide_eq_false (by
  rintro (h | h | h | h)
  ·exact c1 (h32.2 h)
  ·exact c2 (h9.2 h)
  ·exact c3 (h10.2 h)
  ·exact c4 (h13.2 h))] at hk
 simp only [c_token_isSpace,c1,c2,c3,c4,sxZ,z6,z7,z8,j5,j6,j7,j8,j9,x3,x4,x5,x6,x7,x8,x9,reduceCtorEq,↓reduceIte]; exact hk
end
section
variable [Tabs Tryz.prog] {objs:List OB} {K:List OB → AV → Prop}
set_option maxHeartbeats 4000000 in
theorem zds (s:List UInt8) (a:Nat) (ha:a ≤ s.length) (hs:s.length ≤ 9000000000000000000) (hk:K objs (.i .i64 ((a + zcW (s.drop a):Nat):Int))):zad Tryz.prog 58 [.s s,.i .i64 (a:Nat)] objs K:=by
 refine zbb is_token_numberEnd rfl fun C _ => ?_
 rw [c_token_numberEnd]
 refine zaa fun Y1 hY1 => ?_
 simp only [sxZ,z6,z7,z8,j5,j6,j7,j8,j9,x3,x4,x5,x6,x7,x8,x9,reduceCtorEq,↓reduceIte]
 subst hY1
 refine zaa fun Y1 hY1 => ?_
 simp only [sxZ,z6,z7,z8,j5,j6,j7,j8,j9,x3,x4,x5,x6,x7,x8,x9,reduceCtorEq,↓reduceIte]
 subst hY1
 refine zaa fun Y1 hY1 => ?_
 refine zaM (fun o t => o=[] ∧ t.length=99 ∧ t[0]? = some (.s s) ∧ t[1]? = some (.i .i64 (a:Nat)) ∧ t[5]? = some (.i .i64 ((a + zaY (s.drop a):Nat):Int))) ?_ ?_
 ·unfold zaY
  rw [zfn,Nat.add_zero]
  by_cases c1:(a:Int) < s.length
  ·have c1':a < s.length:=by omega
   have hg:=zaz c1'
   have h45:s[a]? = some 45 ↔ ((s[a].toNat:Nat):Int)=45:=zem c1' 45 (by decide)
   by_cases c2:((s[a].toNat:Nat):Int)=45
   ·rw [if_pos (h45.2 c2)]
    simp only [c1,hg,c2,zab,sxZ,z6,z7,z8,j5,j6,j7,j8,j9,x3,x4,x5,x6,x7,x8,x9,reduceCtorEq,↓reduceIte]
    and_intros <;> first | omega | exact iv (by omega) | rfl | assumption
   ·rw [if_neg (fun h => c2 (h45.1 h))]
    simp only [c1,hg,c2,zab,sxZ,z6,z7,z8,j5,j6,j7,j8,j9,x3,x4,x5,x6,x7,x8,x9,reduceCtorEq,↓reduceIte]
    exact ⟨by omega,rfl⟩
  ·rw [if_neg (zbg (by omega))]
   simp only [c1,zab,sxZ,z6,z7,z8,j5,j6,j7,j8,j9,x3,x4,x5,x6,x7,x8,x9,reduceCtorEq,↓reduceIte]
   rfl
 rintro _ tm ⟨rfl,hlen,t0,t1,t5⟩
 subst hY1
 have hsg:a + zaY (s.drop a) ≤ s.length:=by
  unfold zaY
  split
  ·rename_i h
   have:=(List.getElem?_eq_some_iff.1 h).1
   rw [List.length_drop] at this; omega
  ·omega
 refine zaa fun Y1 hY1 => ?_
 simp only [sxZ,z6,z7,z8,j5,j6,j7,j8,j9,x3,x4,x5,x6,x7,x8,x9,reduceCtorEq,↓reduceIte,List.getElem?_set,hlen,t0,t1,t5]
 refine zal (zdz s _ hsg hs ?_)
 simp only [sxZ,z6,z7,z8,j5,j6,j7,j8,j9,x3,x4,x5,x6,x7,x8,x9,reduceCtorEq,↓reduceIte,List.getElem?_set,hlen,t0,t1,t5]
 subst hY1
 refine zaa fun Y1 hY1 => ?_
 unfold zcW at hk
 rw [zgy] at hk
 have hw:zaA (s.drop a)=if s[a + zaY (s.drop a)]? = some 48 then zaY (s.drop a) + 1 else zaY (s.drop a) + zaL (s.drop (a + zaY (s.drop a))):=by unfold zaA; rw [zfn,zgy]
 have hrl:0 < zaL (s.drop (a + zaY (s.drop a))) → a + zaY (s.drop a) + zaL (s.drop (a + zaY (s.drop a))) ≤ s.length:=zaH s _
 generalize zaY (s.drop a)=g at *
 by_cases c0:zaL (s.drop (a + g))=0
 ·rw [if_pos c0] at hk
  simp only [c0,Nat.add_zero,sxZ,z6,z7,z8,j5,j6,j7,j8,j9,x3,x4,x5,x6,x7,x8,x9,reduceCtorEq,↓reduceIte,List.getElem?_set,hlen,t0,t1,t5]
  exact hk
 rw [if_neg c0] at hk
 have c0':¬ ((a + g + zaL (s.drop (a + g)):Nat):Int)=((a + g:Nat):Int):=by omega
 simp only [c0',sxZ,z6,z7,z8,j5,j6,j7,j8,j9,x3,x4,x5,x6,x7,x8,x9,reduceCtorEq,↓reduceIte,List.getElem?_set,hlen,t0,t1,t5]
 subst hY1
 refine zaa fun Y1 hY1 => ?_
 refine zaM (fun o t => o=[] ∧ t.length=99 ∧ t[0]? = some (.s s) ∧ t[6]? = some (.i .i64 ((a + zaA (s.drop a):Nat):Int))) ?_ ?_
 ·have c1':a + g < s.length:=by have:=hrl (by omega); omega
  have hg:=zaz c1'
  have h48:s[a + g]? = some 48 ↔ ((s[a + g].toNat:Nat):Int)=48:=zem c1' 48 (by decide)
  rw [hw]
  by_cases c2:((s[a + g].toNat:Nat):Int)=48
  ·rw [if_pos (h48.2 c2)]
   simp only [hg,c2,zab,sxZ,z6,z7,z8,j5,j6,j7,j8,j9,x3,x4,x5,x6,x7,x8,x9,reduceCtorEq,↓reduceIte,List.getElem?_set,hlen,t0,t1,t5]
   and_intros <;> first | omega | exact iv (by omega) | rfl | assumption
  ·rw [if_neg (fun h => c2 (h48.1 h))]
   simp only [hg,c2,zab,sxZ,z6,z7,z8,j5,j6,j7,j8,j9,x3,x4,x5,x6,x7,x8,x9,reduceCtorEq,↓reduceIte,List.getElem?_set,hlen,t0,t1,t5]
   and_intros <;> first | omega | exact iv (by omega) | rfl | assumption
 rintro _ tm ⟨rfl,hlen,t0,t6⟩
 subst hY1
 refine zaa fun Y1 hY1 => ?_
 have hwl:a + zaA (s.drop a) ≤ s.length:=by
  rw [hw]
  have:=hrl (by omega)
  split <;> omega
 have hf:zbx (s.drop a) (zaA (s.drop a))=if s[a + zaA (s.drop a)]? = some 46 ∧ 0 < zaL (s.drop (a + zaA (s.drop a) + 1)) then zaA (s.drop a) + 1 + zaL (s.drop (a + zaA (s.drop a) + 1)) else zaA (s.drop a):=by unfold zbx; rw [zfn,zgy,Nat.add_assoc a]
 generalize zaA (s.drop a)=w at *
 clear hw hrl
 refine zaM (fun o t => o=[] ∧ t.length=99 ∧ t[0]? = some (.s s) ∧ t[6]? = some (.i .i64 ((a + zbx (s.drop a) w:Nat):Int))) ?_ ?_
 ·rw [hf]
  by_cases c1:((a + w:Nat):Int) < s.length
  ·have c1':a + w < s.length:=by omega
   have hg:=zaz c1'
   have h46:s[a + w]? = some 46 ↔ ((s[a + w].toNat:Nat):Int)=46:=zem c1' 46 (by decide)
   by_cases c2:((s[a + w].toNat:Nat):Int)=46
   ·simp only [c1,hg,c2,zab,sxZ,z6,z7,z8,j5,j6,j7,j8,j9,x3,x4,x5,x6,x7,x8,x9,reduceCtorEq,↓reduceIte,List.getElem?_set,hlen,t0,t6]
    refine ⟨by omega,⟨by omega,by omega⟩,?_⟩
    refine zal (zdz s (a + w + 1) (by omega) hs ?_)
    have hr:=zaH s (a + w + 1)
    generalize zaL (s.drop (a + w + 1))=r at *
    by_cases c3:0 < r
    ·rw [if_pos ⟨h46.2 c2,c3⟩]
     have c3':((a + w:Nat):Int) + 1 < ((a + w + 1 + r:Nat):Int):=by omega
     simp only [c3',zab,sxZ,z6,z7,z8,j5,j6,j7,j8,j9,x3,x4,x5,x6,x7,x8,x9,reduceCtorEq,↓reduceIte,List.getElem?_set,hlen,t0,t6]
     and_intros <;> first | omega | exact iv (by omega) | rfl | assumption
    ·rw [if_neg (fun h => c3 h.2)]
     have c3':¬ ((a + w:Nat):Int) + 1 < ((a + w + 1 + r:Nat):Int):=by omega
     simp only [c3',zab,sxZ,z6,z7,z8,j5,j6,j7,j8,j9,x3,x4,x5,x6,x7,x8,x9,reduceCtorEq,↓reduceIte,List.getElem?_set,hlen,t0,t6]
     and_intros <;> first | omega | exact iv (by omega) | rfl | assumption
   ·rw [if_neg (fun h => c2 (h46.1 h.1))]
    simp only [c1,hg,c2,zab,sxZ,z6,z7,z8,j5,j6,j7,j8,j9,x3,x4,x5,x6,x7,x8,x9,reduceCtorEq,↓reduceIte,List.getElem?_set,hlen,t0,t6]
    and_intros <;> first | omega | exact iv (by omega) | rfl | assumption
  ·rw [if_neg (fun h => zbg (by omega) h.1)]
   simp only [c1,zab,sxZ,z6,z7,z8,j5,j6,j7,j8,j9,x3,x4,x5,x6,x7,x8,x9,reduceCtorEq,↓reduceIte,List.getElem?_set,hlen,t0,t6]
 rintro _ tm ⟨rfl,hlen,t0,t6⟩
 subst hY1
 refine zaa fun Y1 hY1 => ?_
 have hfl:a + zbx (s.drop a) w ≤ s.length:=by
  rw [hf]
  split
  ·rename_i h
   have:=zaH s (a + w + 1) h.2
   omega
  ·exact hwl
 generalize zbx (s.drop a) w=f at *
 clear hf
 have hx:zaP (s.drop a) f=if s[a + f + 1]? = some 43 ∨ s[a + f + 1]? = some 45 then f + 2 else f + 1:=by unfold zaP; rw [zfn,Nat.add_assoc a]
 have he:ziQ (s.drop a) f=if (s[a + f]? = some 101 ∨ s[a + f]? = some 69) ∧ 0 < zaL (s.drop (a + zaP (s.drop a) f)) then zaP (s.drop a) f + zaL (s.drop (a + zaP (s.drop a) f)) else f:=by unfold ziQ; rw [zfn,zgy]
 refine zaM (fun o t => o=[] ∧ t.length=99 ∧ t[6]? = some (.i .i64 ((a + ziQ (s.drop a) f:Nat):Int))) ?_ ?_
 ·refine zaa fun Y2 hY2 => ?_
  refine zaM (fun o t => o=[] ∧ t.length=99 ∧ t[0]? = some (.s s) ∧ t[6]? = some (.i .i64 ((a + f:Nat):Int)) ∧ t[70]? = some (.b (decide (s[a + f]? = some 101 ∨ s[a + f]? = some 69)))) ?_ ?_
  ·by_cases c1:((a + f:Nat):Int) < s.length
   ·have c1':a + f < s.length:=by omega
    have hg:=zaz c1'
    have h101:s[a + f]? = some 101 ↔ ((s[a + f].toNat:Nat):Int)=101:=zem c1' 101 (by decide)
    have h69:s[a + f]? = some 69 ↔ ((s[a + f].toNat:Nat):Int)=69:=zem c1' 69 (by decide)
    by_cases c2:((s[a + f].toNat:Nat):Int)=101
    ·have hE:s[a + f]? = some 101 ∨ s[a + f]? = some 69:=.inl (h101.2 c2)
     simp only [c1,hg,c2,hE,zab,sxZ,z6,z7,z8,j5,j6,j7,j8,j9,x3,x4,x5,x6,x7,x8,x9,reduceCtorEq,↓reduceIte,List.getElem?_set,hlen,t0,t6]
     and_intros <;> first | omega | exact iv (by omega) | rfl | assumption
    ·by_cases c3:((s[a + f].toNat:Nat):Int)=69
     ·have hE:s[a + f]? = some 101 ∨ s[a + f]? = some 69:=.inr (h69.2 c3)
      simp only [c1,hg,c2,c3,hE,zab,sxZ,z6,z7,z8,j5,j6,j7,j8,j9,x3,x4,x5,x6,x7,x8,x9,reduceCtorEq,↓reduceIte,List.getElem?_set,hlen,t0,t6]
      and_intros <;> first | omega | exact iv (by omega) | rfl | assumption
     ·have hE:¬ (s[a + f]? = some 101 ∨ s[a + f]? = some 69):=fun h => h.elim (fun h => c2 (h101.1 h)) (fun h => c3 (h69.1 h))
      simp only [c1,hg,c2,c3,hE,zab,sxZ,z6,z7,z8,j5,j6,j7,j8,j9,x3,x4,x5,x6,x7,x8,x9,reduceCtorEq,↓reduceIte,List.getElem?_set,hlen,t0,t6]
      and_intros <;> first | omega | exact iv (by omega) | rfl | assumption
   ·have hE:¬ (s[a + f]? = some 101 ∨ s[a + f]? = some 69):=fun h => h.elim (zbg (by omega)) (zbg (by omega))
    simp only [c1,hE,zab,sxZ,z6,z7,z8,j5,j6,j7,j8,j9,x3,x4,x5,x6,x7,x8,x9,reduceCtorEq,↓reduceIte,List.getElem?_set,hlen,t0,t6]
  rintro _ tm ⟨rfl,hlen,t0,t6,t70⟩
  subst hY2
  simp only [sxZ,z6,z7,z8,j5,j6,j7,j8,j9,x3,x4,x5,x6,x7,x8,x9,reduceCtorEq,↓reduceIte,List.getElem?_set,hlen,t70]
  refine kC_split (fun hE => ?_) (fun hE => ?_)
  ·have hE:=of_decide_eq_true hE
   have c1':a + f < s.length:=by
    rcases hE with h | h
    all_goals exact (List.getElem?_eq_some_iff.1 h).1
   refine zaa fun Y3 hY3 => ?_
   simp only [sxZ,z6,z7,z8,j5,j6,j7,j8,j9,x3,x4,x5,x6,x7,x8,x9,reduceCtorEq,↓reduceIte,List.getElem?_set,hlen,t0,t6]
   refine ⟨by omega,?_⟩
   subst hY3
   refine zaa fun Y3 hY3 => ?_
   refine zaM (fun o t => o=[] ∧ t.length=99 ∧ t[0]? = some (.s s) ∧ t[6]? = some (.i .i64 ((a + f:Nat):Int)) ∧ t[8]? = some (.i .i64 ((a + zaP (s.drop a) f:Nat):Int))) ?_ ?_
   ·rw [hx]
    by_cases d1:((a + f:Nat):Int) + 1 < s.length
    ·have d1':a + f + 1 < s.length:=by omega
     have hg:=zaz d1'
     have h43:s[a + f + 1]? = some 43 ↔ ((s[a + f + 1].toNat:Nat):Int)=43:=zem d1' 43 (by decide)
     have h45:s[a + f + 1]? = some 45 ↔ ((s[a + f + 1].toNat:Nat):Int)=45:=zem d1' 45 (by decide)
     have e1:(((a + f:Nat):Int) + 1).toNat=a + f + 1:=by omega
     by_cases c2:((s[a + f + 1].toNat:Nat):Int)=43
     ·rw [if_pos (.inl (h43.2 c2))]
      simp only [d1,e1,hg,c2,zab,sxZ,z6,z7,z8,j5,j6,j7,j8,j9,x3,x4,x5,x6,x7,x8,x9,reduceCtorEq,↓reduceIte,List.getElem?_set,hlen,t0,t6]
      and_intros <;> first | omega | exact iv (by omega) | rfl | assumption
     ·by_cases c3:((s[a + f + 1].toNat:Nat):Int)=45
      ·rw [if_pos (.inr (h45.2 c3))]
       simp only [d1,e1,hg,c2,c3,zab,sxZ,z6,z7,z8,j5,j6,j7,j8,j9,x3,x4,x5,x6,x7,x8,x9,reduceCtorEq,↓reduceIte,List.getElem?_set,hlen,t0,t6]
       and_intros <;> first | omega | exact iv (by omega) | rfl | assumption
      ·rw [if_neg (fun h => h.elim (fun h => c2 (h43.1 h)) (fun h => c3 (h45.1 h)))]
       simp only [d1,e1,hg,c2,c3,zab,sxZ,z6,z7,z8,j5,j6,j7,j8,j9,x3,x4,x5,x6,x7,x8,x9,reduceCtorEq,↓reduceIte,List.getElem?_set,hlen,t0,t6]
       and_intros <;> first | omega | exact iv (by omega) | rfl | assumption
    ·rw [if_neg (fun h => h.elim (zbg (by omega)) (zbg (by omega)))]
     simp only [d1,zab,sxZ,z6,z7,z8,j5,j6,j7,j8,j9,x3,x4,x5,x6,x7,x8,x9,reduceCtorEq,↓reduceIte,List.getElem?_set,hlen,t0,t6]
     and_intros <;> first | omega | exact iv (by omega) | rfl | assumption
   rintro _ tm ⟨rfl,hlen,t0,t6,t8⟩
   subst hY3
   have hxl:a + zaP (s.drop a) f ≤ s.length:=by
    rw [hx]
    split
    ·rename_i h
     rcases h with h | h
     all_goals
      have:=(List.getElem?_eq_some_iff.1 h).1
      omega
    ·omega
   generalize zaP (s.drop a) f=x at *
   simp only [sxZ,z6,z7,z8,j5,j6,j7,j8,j9,x3,x4,x5,x6,x7,x8,x9,reduceCtorEq,↓reduceIte,List.getElem?_set,hlen,t0,t6,t8]
   refine zal (zdz s _ hxl hs ?_)
   generalize zaL (s.drop (a + x))=r at *
   rw [he]
   by_cases c4:0 < r
   ·rw [if_pos ⟨hE,c4⟩]
    have c4':((a + x:Nat):Int) < ((a + x + r:Nat):Int):=by omega
    simp only [c4',zab,sxZ,z6,z7,z8,j5,j6,j7,j8,j9,x3,x4,x5,x6,x7,x8,x9,reduceCtorEq,↓reduceIte,List.getElem?_set,hlen,t0,t6,t8]
    and_intros <;> first | omega | exact iv (by omega) | rfl | assumption
   ·rw [if_neg (fun h => c4 h.2)]
    have c4':¬ ((a + x:Nat):Int) < ((a + x + r:Nat):Int):=by omega
    simp only [c4',zab,sxZ,z6,z7,z8,j5,j6,j7,j8,j9,x3,x4,x5,x6,x7,x8,x9,reduceCtorEq,↓reduceIte,List.getElem?_set,hlen,t0,t6,t8]
  ·have hE:=of_decide_eq_false hE
   rw [he,if_neg (fun h => hE h.1)]
   simp only [zab,sxZ,z6,z7,z8,j5,j6,j7,j8,j9,x3,x4,x5,x6,x7,x8,x9,reduceCtorEq,↓reduceIte,List.getElem?_set,hlen,t0,t6]
 rintro _ tm ⟨rfl,hlen,t6⟩
 subst hY1
 simp only [sxZ,z6,z7,z8,j5,j6,j7,j8,j9,x3,x4,x5,x6,x7,x8,x9,reduceCtorEq,↓reduceIte,List.getElem?_set,hlen,t6]
 exact hk
end
end Go.Proofs.YthmdohgkmdkeeaaGreatDoor
namespace Go.Proofs.YthmdohgkmdkeeaaGreatDoor
open Go.RowKit Sx
theorem zoy:∀ w,(zeroValue 120).run Tryz.prog w=.ok (.agg (Array.replicate 256 (.bool false))) w:=(zero_of_info (n:=256) (by kernel_rfl)).1
set_option maxHeartbeats 8000000 in
set_option maxRecDepth 1000000 in
theorem zhH (s chars:ByteArray) (w:World) (h8:8 < s.size) (hs:s.size ≤ 9000000000000000000) (h2:chars.size=2) (h0:chars.data.toList=[101,69]) :
  Calls Tryz.prog 100 #[.string s,.string chars] w fun e w' => e=.returned (.int .i64 (Lib.indexAny s.data.toList [101,69])) ∧ Qb w w':=by
 have hM:=Tryz.strings_makeASCIISet zoy chars w (by omega) (fun j b hb => by
  have:∀ c ∈ chars.data.toList,c.toNat < 128:=by rw [h0]; decide
  exact this _ (List.mem_of_getElem? hb))
 rw [h0] at hM
 have hemp:chars.toList.isEmpty=false:=by rw [Lib.toList_data,h0]; rfl
 clear h0
 have hn1:((chars.size:Int) == 1)=false:=beq_eq_false_iff_ne.2 (by omega)
 have h8z:decide ((8:Int) < (s.size:Int))=true:=decide_eq_true (by omega)
 have hsc:(storeCells ⟨w.heap.size + 1,0,none⟩ (Lib.setCells [101,69]).toList 0).run Tryz.prog ((w.alloc (.cells (Lib.setCells [101,69]) 120)).alloc (.cells (Array.replicate 256 (.bool false)) 120))=.ok () ((w.alloc (.cells (Lib.setCells [101,69]) 120)).alloc (.cells (Lib.setCells [101,69]) 120)):=by
  have:=run_storeCells_new (P:=Tryz.prog) (w.alloc (.cells (Lib.setCells [101,69]) 120)) 120 (Array.replicate 256 (.bool false)) (Lib.setCells [101,69]) (by rw [Lib.setCells_size]; kernel_rfl) (by rw [Lib.setCells_size,Array.size_replicate]) (Lib.setCells_one _)
  simpa using this
 have hsz:=Lib.setCells_size [101,69]
 have HC:Hid (∀ x:UInt8,((w.alloc (.cells (Lib.setCells [101,69]) 120)).alloc (.cells (Lib.setCells [101,69]) 120)).cell? ⟨w.heap.size + 1,x.toNat,none⟩=some (.bool (([101,69]:List UInt8).contains x))):=Lib.hid (fun x => by
  rw [World.cell?_alloc_at _ _ _ _ (by simp),Lib.setCells_at])
 go_enter Tryz.func100,Tryz.ntmps100
 go_wp2_with fail
 refine (Tryz.strings_shouldUseASCIISet _ _).mono ?_
 rintro e w1 ⟨rfl,rfl⟩
 rw [h8z]
 go_wp2_with fail
 refine hM.mono ?_
 rintro e w2 ⟨rfl,rfl⟩
 go_wp2_with fail
 have hz:Tryz.zeroCells120=Array.replicate 256 (.bool false):=by kernel_rfl
 rw [hz,hsc]
 simp only [Result.andThen]
 rw [Oper.upon_skip]
 clear hM hsc hz
 go_wp2_with fail
 go_loopg [8] s.size (fun g s8 wx => ∃ i:Nat,i + g=s.size ∧ s8=.int .i64 i ∧ wx=((w1.alloc (.cells (Lib.setCells [101,69]) 120)).alloc (.cells (Lib.setCells [101,69]) 120)) ∧ Hid (Lib.NoAny s.data.toList [101,69] i))
 case atStart => exact ⟨0,by omega,rfl,rfl,Lib.hid (Lib.NoAny.zero _ _)⟩
 case round =>
  obtain ⟨i,hig,rfl,rfl,HN⟩:=hrel
  have hq:Qb w1 ((w1.alloc (.cells (Lib.setCells [101,69]) 120)).alloc (.cells (Lib.setCells [101,69]) 120)):=((Qb.refl _).alloc _).alloc _
  cases gk with
  | zero =>
   obtain rfl:i=s.size:=by omega
   have hiz:¬ ((s.size:Int) < (s.size:Int)):=by omega
   go_wp2_with fail
   go_ret
   exact ⟨by rw [Lib.indexAny_none (by rw [← Lib.size_eq]; exact HN.out)]; rfl,hq⟩
  | succ g =>
   have hi:i < s.size:=by omega
   have hiz:(i:Int) < (s.size:Int):=by omega
   obtain ⟨x,hx⟩:∃ x:UInt8,s[i]'hi=x:=⟨_,rfl⟩
   have Hx:Hid (s.data.toList[i]? = some x):=Lib.hid (by rw [← hx]; exact Lib.data_getElem? s i hi)
   have hcx:=HC.out x
   cases hin:([101,69]:List UInt8).contains x <;> rw [hin] at hcx
   ·go_wp2_with fail
    refine (Tryz.asciiSet_contains _ x _ _ hcx).mono ?_
    rintro e w' ⟨rfl,hw⟩
    rw [hw]
    go_wp2_with fail
    go_roundg g
    case measure => omega
    case rel => exact ⟨i + 1,by omega,by first | rfl | simp,rfl,Lib.hid (HN.out.succ Hx.out hin)⟩
   ·go_wp2_with fail
    refine (Tryz.asciiSet_contains _ x _ _ hcx).mono ?_
    rintro e w' ⟨rfl,hw⟩
    rw [hw]
    go_wp2_with fail
    go_ret
    exact ⟨by rw [Lib.indexAny_hit HN.out Hx.out hin]; rfl,hq⟩
theorem zkK [Tabs Tryz.prog] {objs:List OB} {K:List OB → AV → Prop} (s:List UInt8) (hs:s.length ≤ 9000000000000000000) (ha:∀ c ∈ s,c.toNat < 128) (hk:K objs (.i .i64 (Lib.indexAny s [101,69]))):zad Tryz.prog 100 [.s s,.s [101,69]] objs K :=
 conv (vs:=[.string (S s),.string (S [101,69])]) rfl rfl (fun w => by
  by_cases h8:8 < s.length
  ·exact zhH (S s) (S [101,69]) w (by rw [zch]; exact h8) (by rw [zch]; exact hs) (by decide) rfl
  ·refine (Tryz.strings_IndexAny_laid (S s) (S [101,69]) w (by rw [zch]; omega) (by decide) (fun j b hb => ha b (List.mem_of_getElem? hb)) (fun j b hb => ?_)).mono fun e w' ⟨h1,h2⟩ => ⟨h1,h2⟩
   have:∀ c ∈ (S [101,69]).data.toList,c.toNat < 128:=by decide
   exact this _ (List.mem_of_getElem? hb)) hk
end Go.Proofs.YthmdohgkmdkeeaaGreatDoor
namespace Go.Proofs.YthmdohgkmdkeeaaGreatDoor
open Nat renaming reduceAdd → z6, reduceSub → z7, reduceLeDiff → z8, reduceLT → j5, reduceMul → j6, reduceEqDiff → j7
open Int renaming reduceToNat → j8, reduceAdd → j9, reduceSub → x3, reduceMul → x4, reduceNeg → x5, reduceLT → x6, reduceLE → x7, reduceEq → x8, reduceNe → x9
open Go.RowKit Sx
theorem zfT (cs v:List UInt8):∀ u:List UInt8,(∀ c ∈ u,cs.contains c=false) → Lib.indexAny (u ++ v) cs=if Lib.indexAny v cs=-1 then -1 else u.length + Lib.indexAny v cs
 | [],_ => by
  rw [List.nil_append]
  split
  ·rename_i h; exact h
  ·simp
 | c :: u,h => by
  rw [List.cons_append,Lib.indexAny,if_neg (by rw [h c (by simp)]; simp),zfT cs v u (fun x hx => h x (by simp [hx]))]
  by_cases hv:Lib.indexAny v cs=-1
  ·rw [if_pos hv,if_pos hv]; rfl
  ·have:=Lib.indexAny_ge cs v
   rw [if_neg hv,if_neg hv,if_neg (by rw [beq_iff_eq]; omega),List.length_cons]
   omega
theorem zbD {c:UInt8} (h:zai c=true):c.toNat < 128 ∧ ([101,69]:List UInt8).contains c=false ∧ c ≠ 46:=by
 have:=zgA h
 refine ⟨by omega,?_,?_⟩
 ·have h1:c ≠ 101:=fun e => by subst e; exact absurd this (by decide)
  have h2:c ≠ 69:=fun e => by subst e; exact absurd this (by decide)
  simp [h1,h2]
 ·rintro rfl; exact absurd this (by decide)
def NumS.body (p:NumS):List UInt8:=p.int ++ (frT p.fr ++ exT p.ex)
theorem ziP {f:List UInt8} (hf:f.all zai=true):∀ c ∈ frT f,c.toNat < 128 ∧ ([101,69]:List UInt8).contains c=false:=by
 intro c hc
 cases f with
 | nil => cases hc
 | cons a t =>
  have hc:c=46 ∨ c ∈ a :: t:=by simpa [frT] using hc
  rcases hc with rfl | hc
  ·exact ⟨by decide,by decide⟩
  ·have:=zbD (List.all_eq_true.1 hf c hc)
   exact ⟨this.1,this.2.1⟩
theorem zk9 {p:NumS} (hp:p.Good):∀ c ∈ p.body,c.toNat < 128:=by
 intro c hc
 unfold NumS.body at hc
 rcases List.mem_append.1 hc with h | h
 ·exact (zbD (List.all_eq_true.1 hp.i1 c h)).1
 rcases List.mem_append.1 h with h | h
 ·exact (ziP hp.f1 c h).1
 cases he:p.ex with
 | none => rw [he] at h; cases h
 | some e =>
  obtain ⟨k,s,d⟩:=e
  obtain ⟨h1,h2,h3,h4⟩:=hp.e1 k s d he
  rw [he] at h
  have h:c=k ∨ c ∈ s ∨ c ∈ d:=by simpa [exT] using h
  rcases h with rfl | h | h
  ·rcases h1 with rfl | rfl <;> decide
  ·rcases h2 with rfl | rfl | rfl
   ·cases h
   ·simp only [List.mem_singleton] at h; subst h; decide
   ·simp only [List.mem_singleton] at h; subst h; decide
  ·exact (zbD (List.all_eq_true.1 h4 c h)).1
theorem body_idx {p:NumS} (hp:p.Good):Lib.indexAny p.body [101,69]=match p.ex with | none => -1 | some _ => ((p.int ++ frT p.fr).length:Int):=by
 have hno:∀ c ∈ p.int ++ frT p.fr,([101,69]:List UInt8).contains c=false:=by
  intro c hc
  rcases List.mem_append.1 hc with h | h
  ·exact (zbD (List.all_eq_true.1 hp.i1 c h)).2.1
  ·exact (ziP hp.f1 c h).2
 unfold NumS.body
 rw [← List.append_assoc,zfT _ _ _ hno]
 cases he:p.ex with
 | none => rw [if_pos (by rfl)]
 | some e =>
  obtain ⟨k,s,d⟩:=e
  obtain ⟨h1,_,_,_⟩:=hp.e1 k s d he
  have h0:Lib.indexAny (exT (some (k,s,d))) [101,69]=0:=by
   unfold exT
   rw [Lib.indexAny,if_pos]
   rcases h1 with rfl | rfl <;> decide
  rw [h0,if_neg (by decide)]
  simp
theorem za1 (c x:UInt8) (t:List UInt8):Lib.trimPrefix (x :: t) [c]=(if x=c then t else x :: t) ∧ Lib.hasPrefix (x :: t) [c]=decide (x=c):=by
 have h:Lib.hasPrefix (x :: t) [c]=decide (x=c):=by
  rw [pre_take]
  by_cases h:x=c
  ·subst h; simp
  ·rw [decide_eq_false h]; simp [h]
 refine ⟨?_,h⟩
 unfold Lib.trimPrefix
 rw [h]
 by_cases hx:x=c
 ·subst hx; simp
 ·simp [hx]
theorem zlL {p:NumS} (hp:p.Good) {k:UInt8} {s d:List UInt8} (he:p.ex=some (k,s,d)):Lib.trimPrefix (Lib.trimPrefix (s ++ d) [45]) [43]=d ∧ Lib.hasPrefix (s ++ d) [45]=decide (s=[45]):=by
 obtain ⟨_,h2,h3,h4⟩:=hp.e1 k s d he
 obtain ⟨c,t,e1,e2⟩:=zbC h3 h4
 have n45:c ≠ 45:=zbd e2 rfl
 have n43:c ≠ 43:=zbd e2 rfl
 rcases h2 with rfl | rfl | rfl
 ·rw [List.nil_append,e1,(za1 45 c t).1,if_neg n45,(za1 43 c t).1,if_neg n43,(za1 45 c t).2]
  exact ⟨rfl,by simp [n45]⟩
 ·rw [show [43] ++ d=43 :: d from rfl,(za1 45 43 d).1,if_neg (by decide),(za1 43 43 d).1,if_pos rfl,(za1 45 43 d).2]
  exact ⟨rfl,by decide⟩
 ·rw [show [45] ++ d=45 :: d from rfl,(za1 45 45 d).1,if_pos rfl,(za1 45 45 d).2,e1,(za1 43 c t).1,if_neg n43]
  exact ⟨rfl,by decide⟩
theorem zhU {p:NumS} (hp:p.Good):zfB 46 (p.int ++ frT p.fr)=(p.int,p.fr,!p.fr.isEmpty):=by
 have key:∀ (u v:List UInt8),(∀ c ∈ u,c ≠ 46) → zfB 46 (u ++ v)=(u ++ (zfB 46 v).1,(zfB 46 v).2.1,(zfB 46 v).2.2):=by
  intro u v
  induction u with
  | nil => intro _; rfl
  | cons c u ih =>
   intro h
   rw [List.cons_append,zfs,if_neg (h c (by simp)),ih (fun x hx => h x (by simp [hx]))]
   rfl
 rw [key _ _ (fun c hc => (zbD (List.all_eq_true.1 hp.i1 c hc)).2.2)]
 cases hf:p.fr with
 | nil => simp [frT,zfB]
 | cons a t => simp [frT,zfs]
section
variable [Tabs Tryz.prog] {objs:List OB} {K:List OB → AV → Prop}
theorem zgF (p:NumS) (hp:p.Good) (hs:p.body.length ≤ 140737488351232) (hk:K objs (.tup [.s (p.int ++ frT p.fr),.i .i64 (zey 1099511627776 p.ex)])):zad Tryz.prog 85 [.s p.body] objs K:=by
 refine zbb is_token_cutExponent rfl fun C _ => ?_
 simp only [c_token_cutExponent,sxZ,z6,z7,z8,j5,j6,j7,j8,j9,x3,x4,x5,x6,x7,x8,x9,reduceCtorEq,↓reduceIte]
 refine zal (zkK _ (by omega) (zk9 hp) ?_)
 have hi:=body_idx hp
 cases he:p.ex with
 | none =>
  rw [he] at hi hk
  rw [hi]
  simp only [sxZ,z6,z7,z8,j5,j6,j7,j8,j9,x3,x4,x5,x6,x7,x8,x9,reduceCtorEq,↓reduceIte]
  have:p.body=p.int ++ frT p.fr:=by unfold NumS.body; rw [he]; simp [exT]
  rw [this]
  exact hk
 | some e =>
  obtain ⟨k,s,d⟩:=e
  rw [he] at hi hk
  simp only at hi
  rw [hi]
  obtain ⟨g1,g2,g3,g4⟩:=hp.e1 k s d he
  have hb:p.body=(p.int ++ frT p.fr) ++ k :: (s ++ d):=by unfold NumS.body; rw [he]; simp [exT]
  have hst:=zlL hp he
  rw [hb] at hs ⊢
  generalize p.int ++ frT p.fr=u at *
  have n0:¬ ((u.length:Nat):Int) < 0:=by omega
  have e1:(((u.length:Nat):Int) + 1).toNat=u.length + 1:=by omega
  have e2:(u ++ k :: (s ++ d)).drop (u.length + 1)=s ++ d:=by rw [← List.drop_drop,List.drop_left]; rfl
  have e3:(u ++ k :: (s ++ d)).take u.length=u:=List.take_left
  have e4:(u ++ k :: (s ++ d)).length=u.length + (s.length + d.length + 1):=by simp
  generalize u ++ k :: (s ++ d)=W at *
  simp only [n0,e1,e2,sxZ,z6,z7,z8,j5,j6,j7,j8,j9,x3,x4,x5,x6,x7,x8,x9,reduceCtorEq,↓reduceIte]
  (and_intros <;> try omega)
  refine zal (zer _ _ ?_)
  simp only [sxZ,z6,z7,z8,j5,j6,j7,j8,j9,x3,x4,x5,x6,x7,x8,x9,reduceCtorEq,↓reduceIte]
  refine zal (zgg _ _ ?_)
  simp only [hst.1,hst.2,sxZ,z6,z7,z8,j5,j6,j7,j8,j9,x3,x4,x5,x6,x7,x8,x9,reduceCtorEq,↓reduceIte]
  refine zal (nParse_k d 1099511627776 (by rw [zbB]; omega) (by decide) ?_)
  have hnum:=zkY 1099511627776 g3 g4
  simp only [zey] at hk
  by_cases c1:zhT d 0 ≤ 1099511627776
  ·have hw:IntKind.i64.wrap ((zhT d 0:Nat):Int)=zhT d 0:=by rw [IntKind.wrap_i64]; omega
   rw [Nat.min_eq_left c1] at hk
   rw [if_pos c1] at hnum
   by_cases c2:s=[45]
   ·rw [if_pos c2] at hk
    simp only [hnum,hw,c2,e3,sxZ,z6,z7,z8,j5,j6,j7,j8,j9,x3,x4,x5,x6,x7,x8,x9,reduceCtorEq,↓reduceIte]
    refine ⟨by omega,by omega,?_⟩
    rw [Int.zero_sub]
    exact hk
   ·rw [if_neg c2] at hk
    simp only [hnum,hw,c2,e3,sxZ,z6,z7,z8,j5,j6,j7,j8,j9,x3,x4,x5,x6,x7,x8,x9,reduceCtorEq,↓reduceIte]
    exact ⟨by omega,hk⟩
  ·rw [Nat.min_eq_right (by omega)] at hk
   rw [if_neg c1] at hnum
   by_cases c2:s=[45]
   ·rw [if_pos c2] at hk
    simp only [hnum,c2,e3,sxZ,z6,z7,z8,j5,j6,j7,j8,j9,x3,x4,x5,x6,x7,x8,x9,reduceCtorEq,↓reduceIte]
    refine ⟨by omega,?_⟩
    exact hk
   ·rw [if_neg c2] at hk
    simp only [hnum,c2,e3,sxZ,z6,z7,z8,j5,j6,j7,j8,j9,x3,x4,x5,x6,x7,x8,x9,reduceCtorEq,↓reduceIte]
    exact ⟨by omega,hk⟩
set_option maxHeartbeats 4000000 in
theorem number_k [Pow Tryz.prog] (s:List UInt8) (hs:s.length ≤ 140737488351232) (h1:(s=[] ∨ zcW s ≠ s.length) → K objs (.tup [.s [],.i .i64 130]))
  (h2:∀ p:NumS,p.Good → s=p.txt → K objs (.tup [.s (zop 1099511627776 p).2,.i .i64 (zop 1099511627776 p).1])):zad Tryz.prog 61 [.s s] objs K:=by
 refine zbb is_token_Number rfl fun C _ => ?_
 have hmx:=zbB
 by_cases c0:s=[]
 ·have h1:=h1 (.inl c0)
  simp only [c0,c_token_Number,sxZ,z6,z7,z8,j5,j6,j7,j8,j9,x3,x4,x5,x6,x7,x8,x9,reduceCtorEq,↓reduceIte]
  exact h1
 rw [c_token_Number]
 refine zaa fun Y1 hY1 => ?_
 simp only [sxZ,z6,z7,z8,j5,j6,j7,j8,j9,x3,x4,x5,x6,x7,x8,x9,reduceCtorEq,↓reduceIte]
 subst hY1
 refine zaa fun Y1 hY1 => ?_
 simp only [c0,sxZ,z6,z7,z8,j5,j6,j7,j8,j9,x3,x4,x5,x6,x7,x8,x9,reduceCtorEq,↓reduceIte]
 refine zal (zds s 0 (Nat.zero_le _) (by omega) ?_)
 rw [List.drop_zero,Nat.zero_add]
 by_cases c1:zcW s=s.length
 case neg =>
  have c1':¬ ((zcW s:Nat):Int)=s.length:=by omega
  simp only [c1',sxZ,z6,z7,z8,j5,j6,j7,j8,j9,x3,x4,x5,x6,x7,x8,x9,reduceCtorEq,↓reduceIte]
  exact h1 (.inr c1)
 clear h1
 obtain ⟨p,hp,rfl⟩:=zhv c0 c1
 have h2:=h2 p hp rfl
 simp only [c1,sxZ,z6,z7,z8,j5,j6,j7,j8,j9,x3,x4,x5,x6,x7,x8,x9,reduceCtorEq,↓reduceIte]
 subst hY1
 refine zaa fun Y1 hY1 => ?_
 simp only [sxZ,z6,z7,z8,j5,j6,j7,j8,j9,x3,x4,x5,x6,x7,x8,x9,reduceCtorEq,↓reduceIte]
 refine zal (zer _ _ ?_)
 have hcp:Lib.trimPrefix p.txt [45]=p.body ∧ Lib.hasPrefix p.txt [45]=p.neg:=by
  obtain ⟨c,t,e1,e2⟩:=zbC hp.i0 hp.i1
  have n45:c ≠ 45:=zbd e2 rfl
  unfold NumS.txt NumS.body
  cases p.neg with
  | true =>
   have:=za1 45 45 (p.int ++ (frT p.fr ++ exT p.ex))
   rw [if_pos rfl] at this
   exact ⟨this.1,this.2⟩
  | false =>
   have:=za1 45 c (t ++ (frT p.fr ++ exT p.ex))
   rw [if_neg n45,decide_eq_false n45] at this
   rw [e1]
   exact this
 have hbl:p.body.length ≤ p.txt.length:=by unfold NumS.txt NumS.body; simp
 simp only [hcp.1,hcp.2,sxZ,z6,z7,z8,j5,j6,j7,j8,j9,x3,x4,x5,x6,x7,x8,x9,reduceCtorEq,↓reduceIte]
 subst hY1
 refine zaa fun Y1 hY1 => ?_
 simp only [sxZ,z6,z7,z8,j5,j6,j7,j8,j9,x3,x4,x5,x6,x7,x8,x9,reduceCtorEq,↓reduceIte]
 refine zal (zgF p hp (by omega) ?_)
 simp only [sxZ,z6,z7,z8,j5,j6,j7,j8,j9,x3,x4,x5,x6,x7,x8,x9,reduceCtorEq,↓reduceIte]
 subst hY1
 refine zaa fun Y1 hY1 => ?_
 simp only [sxZ,z6,z7,z8,j5,j6,j7,j8,j9,x3,x4,x5,x6,x7,x8,x9,reduceCtorEq,↓reduceIte]
 have hml:(p.int ++ frT p.fr).length ≤ p.txt.length:=by unfold NumS.txt; simp; omega
 refine zal (sCut_k _ 46 (by omega) ?_)
 rw [zhU hp]
 simp only [sxZ,z6,z7,z8,j5,j6,j7,j8,j9,x3,x4,x5,x6,x7,x8,x9,reduceCtorEq,↓reduceIte]
 subst hY1
 refine zaa fun Y1 hY1 => ?_
 simp only [sxZ,z6,z7,z8,j5,j6,j7,j8,j9,x3,x4,x5,x6,x7,x8,x9,reduceCtorEq,↓reduceIte]
 have htl:=zik p
 refine ⟨by omega,?_⟩
 refine zal (zip _ 48 (by decide) ?_)
 have hzl:Lib.trimLeftB (p.int ++ p.fr) 48=zcj p:=rfl
 have hml2:=zgq p
 have hzr:=zlg (zcj p)
 have hei:=znP 1099511627776 p.ex
 rw [hzl]
 unfold zop at h2
 unfold expX at h2
 simp only [sxZ,z6,z7,z8,j5,j6,j7,j8,j9,x3,x4,x5,x6,x7,x8,x9,reduceCtorEq,↓reduceIte]
 subst hY1
 refine zaa fun Y1 hY1 => ?_
 by_cases c2:zcj p=[]
 ·rw [if_pos c2] at h2
  simp only [c2,sxZ,z6,z7,z8,j5,j6,j7,j8,j9,x3,x4,x5,x6,x7,x8,x9,reduceCtorEq,↓reduceIte]
  exact h2
 rw [if_neg c2] at h2
 generalize zey 1099511627776 p.ex=E at *
 simp only [c2,sxZ,z6,z7,z8,j5,j6,j7,j8,j9,x3,x4,x5,x6,x7,x8,x9,reduceCtorEq,↓reduceIte]
 subst hY1
 refine zaa fun Y1 hY1 => ?_
 simp only [sxZ,z6,z7,z8,j5,j6,j7,j8,j9,x3,x4,x5,x6,x7,x8,x9,reduceCtorEq,↓reduceIte]
 refine zal (zg8 _ 48 (by decide) (by omega) ?_)
 have hzr2:Lib.trimRightB (zcj p) 48=zR (zcj p):=rfl
 rw [hzr2]
 simp only [sxZ,z6,z7,z8,j5,j6,j7,j8,j9,x3,x4,x5,x6,x7,x8,x9,reduceCtorEq,↓reduceIte]
 subst hY1
 refine zaa fun Y1 hY1 => ?_
 simp only [sxZ,z6,z7,z8,j5,j6,j7,j8,j9,x3,x4,x5,x6,x7,x8,x9,reduceCtorEq,↓reduceIte]
 (and_intros <;> try omega)
 subst hY1
 refine zaa fun Y1 hY1 => ?_
 generalize E - (p.fr.length:Int) + (((zcj p).length:Int) - ((zR (zcj p)).length:Int))=x at *
 generalize zR (zcj p)=m at *
 by_cases d1:(40:Int) < m.length
 ·rw [if_pos (.inl (by omega))] at h2
  simp only [d1,sxZ,z6,z7,z8,j5,j6,j7,j8,j9,x3,x4,x5,x6,x7,x8,x9,reduceCtorEq,↓reduceIte]
  exact h2
 by_cases d2:x < -400
 ·rw [if_pos (.inr (.inl d2))] at h2
  simp only [d1,d2,sxZ,z6,z7,z8,j5,j6,j7,j8,j9,x3,x4,x5,x6,x7,x8,x9,reduceCtorEq,↓reduceIte]
  exact h2
 by_cases d3:400 < x
 ·rw [if_pos (.inr (.inr d3))] at h2
  simp only [d1,d2,d3,sxZ,z6,z7,z8,j5,j6,j7,j8,j9,x3,x4,x5,x6,x7,x8,x9,reduceCtorEq,↓reduceIte]
  exact h2
 rw [if_neg (by omega)] at h2
 simp only [d1,d2,d3,sxZ,z6,z7,z8,j5,j6,j7,j8,j9,x3,x4,x5,x6,x7,x8,x9,reduceCtorEq,↓reduceIte]
 subst hY1
 refine zaa fun Y1 hY1 => ?_
 have hit:=Lib.itoa_length_le x (by omega) (by omega)
 unfold expS sgT at h2
 cases hn:p.neg with
 | true =>
  rw [hn] at h2
  simp only [sxZ,z6,z7,z8,j5,j6,j7,j8,j9,x3,x4,x5,x6,x7,x8,x9,reduceCtorEq,↓reduceIte]
  (and_intros <;> try omega)
  subst hY1
  by_cases d4:x=0
  ·subst d4
   simp only [sxZ,z6,z7,z8,j5,j6,j7,j8,j9,x3,x4,x5,x6,x7,x8,x9,reduceCtorEq,↓reduceIte]
   simpa using h2
  ·rw [if_neg d4] at h2
   simp only [d4,sxZ,z6,z7,z8,j5,j6,j7,j8,j9,x3,x4,x5,x6,x7,x8,x9,reduceCtorEq,↓reduceIte]
   refine zal (zfk x (by omega) (by omega) ?_)
   simp only [sxZ,z6,z7,z8,j5,j6,j7,j8,j9,x3,x4,x5,x6,x7,x8,x9,reduceCtorEq,↓reduceIte]
   (and_intros <;> try omega)
   simpa using h2
 | false =>
  rw [hn] at h2
  simp only [sxZ,z6,z7,z8,j5,j6,j7,j8,j9,x3,x4,x5,x6,x7,x8,x9,reduceCtorEq,↓reduceIte]
  subst hY1
  by_cases d4:x=0
  ·subst d4
   simp only [sxZ,z6,z7,z8,j5,j6,j7,j8,j9,x3,x4,x5,x6,x7,x8,x9,reduceCtorEq,↓reduceIte]
   simpa using h2
  ·rw [if_neg d4] at h2
   simp only [d4,sxZ,z6,z7,z8,j5,j6,j7,j8,j9,x3,x4,x5,x6,x7,x8,x9,reduceCtorEq,↓reduceIte]
   refine zal (zfk x (by omega) (by omega) ?_)
   simp only [sxZ,z6,z7,z8,j5,j6,j7,j8,j9,x3,x4,x5,x6,x7,x8,x9,reduceCtorEq,↓reduceIte]
   (and_intros <;> try omega)
   simpa using h2
end
end Go.Proofs.YthmdohgkmdkeeaaGreatDoor
namespace Go.Proofs.YthmdohgkmdkeeaaGreatDoor
open Go.RowKit
theorem zmq {c:UInt8} (h:128 ≤ c.toNat):zbJ c=[c]:=by
 have n:∀ k:UInt8,k.toNat < 128 → c ≠ k:=fun k hk e => by subst e; omega
 unfold zbJ
 rw [if_neg (by rintro (e | e); exact n 34 (by decide) e; exact n 92 (by decide) e),if_neg (n 8 (by decide)),if_neg (n 12 (by decide)),if_neg (n 10 (by decide)),if_neg (n 13 (by decide)),if_neg (n 9 (by decide)),if_neg (by omega)]
theorem zof {c:UInt8} {t:List UInt8} {r n:Nat} (h:zbE (c :: t)=some (r,n)) (hc:128 ≤ c.toNat):∀ x ∈ (c :: t).take n,128 ≤ x.toNat:=by
 have hb:∀ k,(u8b (128 + k % 64)).toNat=128 + k % 64:=fun k => zax (by omega)
 obtain ⟨h1,h2,h3,_⟩:=za7 h
 have hr:(r:Int) ≤ 1114111:=(of_decide_eq_true h1).2.1
 rw [← h2]
 have h0:¬ r < 128:=by
  intro hlt
  have:(zdF r).head? = some c:=by rw [h2]; cases n with | zero => omega | succ n => rfl
  unfold zdF at this
  rw [if_pos hlt] at this
  simp only [List.head?_cons,Option.some.injEq] at this
  rw [← this,zax (by omega)] at hc
  omega
 unfold zdF
 rw [if_neg h0]
 intro x hx
 split at hx
 ·simp only [List.mem_cons,List.not_mem_nil,or_false] at hx
  rcases hx with rfl | rfl
  ·rw [zax (by omega)]; omega
  ·rw [hb]; omega
 split at hx
 ·simp only [List.mem_cons,List.not_mem_nil,or_false] at hx
  rcases hx with rfl | rfl | rfl
  ·rw [zax (by omega)]; omega
  ·rw [hb]; omega
  ·rw [hb]; omega
 ·simp only [List.mem_cons,List.not_mem_nil,or_false] at hx
  rcases hx with rfl | rfl | rfl | rfl
  ·rw [zax (by omega)]; omega
  ·rw [hb]; omega
  ·rw [hb]; omega
  ·rw [hb]; omega
theorem zjv:∀ l:List UInt8,(∀ x ∈ l,128 ≤ x.toNat) → l.flatMap zbJ=l
 | [],_ => rfl
 | c :: t,h => by
  rw [List.flatMap_cons,zmq (h c (by simp)),zjv t (fun x hx => h x (by simp [hx]))]; rfl
theorem quo_step (n:Nat) {c:UInt8} (hc:c.toNat < 128) (r out:List UInt8) (k:Nat):zcy (n + 1) (zbJ c ++ r) out k=zcy n r (out ++ [c]) (k + (zbJ c).length):=by
 have key:∀ m:Fin 128,zbJ (UInt8.ofNat m.val)=[UInt8.ofNat m.val] ∧ UInt8.ofNat m.val ≠ 34 ∧ UInt8.ofNat m.val ≠ 92 ∧ 32 ≤ (UInt8.ofNat m.val).toNat ∨
   (∃ d,zbJ (UInt8.ofNat m.val)=[92,d] ∧ zcU d=some (UInt8.ofNat m.val)) ∨
   (zbJ (UInt8.ofNat m.val)=[92,117,48,48,zdE (m.val / 16),zdE (m.val % 16)] ∧ zbw zbc 16 65535 [48,48,zdE (m.val / 16),zdE (m.val % 16)]=(0,m.val) ∧ zdF m.val=[UInt8.ofNat m.val] ∧ m.val < 32):=by
  intro m
  by_cases h:zbJ (UInt8.ofNat m.val)=[UInt8.ofNat m.val]
  ·refine .inl ⟨h,?_⟩
   revert h; revert m; decide +kernel
  ·by_cases h2:m.val=34 ∨ m.val=92 ∨ m.val=8 ∨ m.val=12 ∨ m.val=10 ∨ m.val=13 ∨ m.val=9
   ·refine .inr (.inl ?_)
    obtain ⟨v,hv⟩:=m
    simp only at h2 ⊢
    rcases h2 with rfl | rfl | rfl | rfl | rfl | rfl | rfl
    ·exact ⟨34,by decide,by decide⟩
    ·exact ⟨92,by decide,by decide⟩
    ·exact ⟨98,by decide,by decide⟩
    ·exact ⟨102,by decide,by decide⟩
    ·exact ⟨110,by decide,by decide⟩
    ·exact ⟨114,by decide,by decide⟩
    ·exact ⟨116,by decide,by decide⟩
   ·refine .inr (.inr ?_)
    revert h h2; revert m; decide +kernel
 have hk:=key ⟨c.toNat,hc⟩
 simp only [UInt8.ofNat_toNat] at hk
 rcases hk with ⟨h1,h2,h3,h4⟩ | ⟨d,h1,h2⟩ | ⟨h1,h2,h3,h4⟩
 ·rw [h1]
  show zcy (n + 1) (c :: r) out k=_
  have hd:zbE (c :: r)=some (c.toNat,1):=by rw [zbE,if_pos hc]
  rw [zcy,if_neg h2,if_neg h3,if_neg (by omega),hd]
  rfl
 ·rw [h1]
  show zcy (n + 1) (92 :: d :: r) out k=_
  have he:zdx (92 :: d :: r)=(0,[c],2):=by
   unfold zdx
   simp only [List.getElem?_cons_succ,List.getElem?_cons_zero,Option.bind_some,h2]
  rw [zcy,if_neg (by decide),if_pos rfl,he]
  rfl
 ·rw [h1]
  show zcy (n + 1) (92 :: 117 :: 48 :: 48 :: zdE (c.toNat / 16) :: zdE (c.toNat % 16) :: r) out k=_
  have hu:zcR (92 :: 117 :: 48 :: 48 :: zdE (c.toNat / 16) :: zdE (c.toNat % 16) :: r)=some c.toNat:=by
   unfold zcR
   rw [if_neg (by simp)]
   show (if (zbw zbc 16 65535 [48,48,zdE (c.toNat / 16),zdE (c.toNat % 16)]).1=0 then some (zbw zbc 16 65535 [48,48,zdE (c.toNat / 16),zdE (c.toNat % 16)]).2 else none)=_
   rw [h2,if_pos rfl]
  have he:zdx (92 :: 117 :: 48 :: 48 :: zdE (c.toNat / 16) :: zdE (c.toNat % 16) :: r)=(0,[c],6):=by
   unfold zdx
   have hs:zcU 117=none:=by decide
   simp only [List.getElem?_cons_succ,List.getElem?_cons_zero,Option.bind_some,hs,hu]
   rw [if_pos (by omega),h3]
  rw [zcy,if_neg (by decide),if_pos rfl,he]
  rfl
theorem quo_len (c:UInt8):1 ≤ (zbJ c).length:=by
 unfold zbJ
 repeat' split
 all_goals simp
theorem quo_back (r:List UInt8):∀ (m:Nat) (l out:List UInt8) (n k:Nat),l.length ≤ m → 0 ≤ zk7 l → l.length < n → zcy n (l.flatMap zbJ ++ 34 :: r) out k=(0,out ++ l,k + (l.flatMap zbJ).length + 1):=by
 intro m
 induction m with
 | zero =>
  intro l out n k hl _ hn
  have e:l=[]:=List.length_eq_zero_iff.1 (by omega)
  subst e
  cases n with
  | zero => omega
  | succ n => show zcy (n + 1) (34 :: r) out k=_; rw [zcy,if_pos rfl]; simp
 | succ m ih =>
  intro l out n k hl hv hn
  cases l with
  | nil =>
   cases n with
   | zero => omega
   | succ n => show zcy (n + 1) (34 :: r) out k=_; rw [zcy,if_pos rfl]; simp
  | cons c t =>
   cases n with
   | zero => omega
   | succ n =>
    simp only [List.length_cons] at hl hn
    cases hd:zbE (c :: t) with
    | none => rw [zhW (by simp) hd] at hv; omega
    | some p =>
     obtain ⟨u,j⟩:=p
     rw [zhV hd] at hv
     obtain ⟨g1,g2,g3,g4,g5⟩:=za7 hd
     have hv2:0 ≤ zk7 ((c :: t).drop j):=by
      have:=zom ((c :: t).drop j)
      unfold addC at hv
      split at hv
      ·omega
      ·omega
     by_cases hc:c.toNat < 128
     ·have hj:j=1:=by rw [zbE,if_pos hc] at hd; injection hd with hd; injection hd with _ hd; exact hd.symm
      subst hj
      rw [List.flatMap_cons,List.append_assoc,quo_step n hc,ih t _ n _ (by omega) hv2 (by omega)]
      simp only [List.append_assoc,List.cons_append,List.nil_append,List.length_append,Prod.mk.injEq,true_and]
      omega
     ·have hh:=zof hd (by omega)
      have hsp:(c :: t).flatMap zbJ=(c :: t).take j ++ ((c :: t).drop j).flatMap zbJ:=by
       conv => lhs; rw [← List.take_append_drop j (c :: t)]
       rw [List.flatMap_append,zjv _ hh]
      have hl2:((c :: t).drop j).length ≤ m:=by rw [List.length_drop,List.length_cons]; omega
      have hn2:((c :: t).drop j).length < n:=by rw [List.length_drop,List.length_cons]; omega
      have hD:zbE ((c :: t).take j ++ (((c :: t).drop j).flatMap zbJ ++ 34 :: r))=some (u,j):=by
       rw [← g2]
       have:=zfr g1 (((c :: t).drop j).flatMap zbJ ++ 34 :: r)
       rw [this,g2,List.length_take,Nat.min_eq_left g3]
      have hjl:((c :: t).take j).length=j:=by rw [List.length_take,Nat.min_eq_left g3]
      rw [hsp,List.append_assoc]
      obtain ⟨q,hq⟩:∃ q,(c :: t).take j=c :: q:=by
       cases j with
       | zero => omega
       | succ j => exact ⟨_,rfl⟩
      have h34:¬ c=34:=fun e => by subst e; exact absurd hc (by decide)
      have h92:¬ c=92:=fun e => by subst e; exact absurd hc (by decide)
      rw [hq] at hD hjl ⊢
      show zcy (n + 1) (c :: (q ++ (((c :: t).drop j).flatMap zbJ ++ 34 :: r))) out k=_
      have hD2:zbE (c :: (q ++ (((c :: t).drop j).flatMap zbJ ++ 34 :: r)))=some (u,j):=hD
      rw [zcy,if_neg h34,if_neg h92,if_neg (by omega),hD2]
      simp only
      have e1:(c :: (q ++ (((c :: t).drop j).flatMap zbJ ++ 34 :: r))).drop j=((c :: t).drop j).flatMap zbJ ++ 34 :: r:=by
       show ((c :: q) ++ (((c :: t).drop j).flatMap zbJ ++ 34 :: r)).drop j=_
       rw [List.drop_left' hjl]
      have e2:(c :: (q ++ (((c :: t).drop j).flatMap zbJ ++ 34 :: r))).take j=c :: q:=by
       show ((c :: q) ++ (((c :: t).drop j).flatMap zbJ ++ 34 :: r)).take j=_
       rw [List.take_left' hjl]
      rw [e1,e2,ih _ _ n _ hl2 hv2 hn2]
      have e3:out ++ (c :: q) ++ (c :: t).drop j=out ++ c :: t:=by
       rw [List.append_assoc,← hq,List.take_append_drop]
      rw [e3,List.length_append,hjl]
      simp only [Prod.mk.injEq,true_and]
      omega
end Go.Proofs.YthmdohgkmdkeeaaGreatDoor
namespace Go.Proofs.YthmdohgkmdkeeaaGreatDoor
open Nat renaming reduceAdd → z6, reduceSub → z7, reduceLeDiff → z8, reduceLT → j5, reduceMul → j6, reduceEqDiff → j7
open Int renaming reduceToNat → j8, reduceAdd → j9, reduceSub → x3, reduceMul → x4, reduceNeg → x5, reduceLT → x6, reduceLE → x7, reduceEq → x8, reduceNe → x9
open Go.RowKit Sx
theorem zgG (a b:List UInt8):byA (a ++ b)=byA a ++ byA b:=by simp [byA]
theorem hexS_at:∀ k:Fin 16,([48,49,50,51,52,53,54,55,56,57,97,98,99,100,101,102]:List UInt8).getD k.val 0=zdE k.val:=by decide +kernel
theorem quoB_hex {c:UInt8} (h1:c ≠ 34) (h2:c ≠ 92) (h3:c ≠ 8) (h4:c ≠ 12) (h5:c ≠ 10) (h6:c ≠ 13) (h7:c ≠ 9):zbJ c=if c.toNat < 32 then [92,117,48,48,zdE (c.toNat / 16),zdE (c.toNat % 16)] else [c]:=by
 unfold zbJ
 rw [if_neg (by rintro (h | h); exact h1 h; exact h2 h),if_neg h3,if_neg h4,if_neg h5,if_neg h6,if_neg h7]
theorem zjx (l:List UInt8):(l.flatMap zbJ).length ≤ 6 * l.length:=by
 induction l with
 | nil => simp
 | cons c t ih =>
  have:(zbJ c).length ≤ 6:=by
   unfold zbJ
   repeat' split
   all_goals simp
  rw [List.flatMap_cons,List.length_append,List.length_cons]; omega
def quoP (s:List UInt8) (i:Nat):List UInt8:=34 :: (s.take i).flatMap zbJ
theorem zmp (s:List UInt8) (i:Nat) (h:i < s.length):quoP s i ++ zbJ s[i]=quoP s (i + 1):=by
 unfold quoP
 rw [List.take_add_one,List.getElem?_eq_getElem h,List.flatMap_append]
 simp
theorem quoP_end (s:List UInt8):byA (quoP s s.length) ++ [.i .u8 34]=byA (zcC s):=by
 unfold quoP zcC
 rw [List.take_length,← List.cons_append,zgG]; rfl
def zdM (s:List UInt8):Int × List UInt8:=if 1048576 < s.length then (5,[]) else if zaQ s=false then (7,[]) else (0,zcC s)
theorem zcQ {l:List UInt8} {n:Nat} (h:zcR l=some n):6 ≤ l.length ∧ n ≤ 65535:=by
 unfold zcR at h
 split at h
 ·cases h
 ·rename_i g
  split at h
  ·injection h with h
   have:=zjG zbc 16 65535 ((l.drop 2).take 4)
   constructor
   ·apply Classical.byContradiction
    intro h1
    exact g (.inl (by omega))
   ·omega
  ·cases h
theorem zlN {c d:UInt8} (h:zcU c=some d):d ≠ 0:=by
 have:∀ n:Fin 256,zcU (UInt8.ofNat n.val) ≠ some 0:=by decide +kernel
 have h2:=this ⟨c.toNat,c.toNat_lt⟩
 simp only [UInt8.ofNat_toNat] at h2
 rintro rfl
 exact h2 h
section
variable [Tabs Tryz.prog] {objs:List OB} {K:List OB → AV → Prop}
theorem zja (l:List UInt8) (hl:l.length ≤ maxLen) (hk:match zcR l with | some n => K objs (.tup [.i .i64 (n:Nat),.b true]) | none => ∀ x,K objs (.tup [.i .i64 x,.b false])):zad Tryz.prog 97 [.s l] objs K:=by
 refine zbb is_token_unitAt rfl fun C _ => ?_
 have hw:∀ n:Nat,n ≤ 65535 → IntKind.i64.wrap ((n:Nat):Int)=n:=by
  intro n h
  rw [IntKind.wrap_i64]; omega
 have hb:=zjG zbc 16 65535 ((l.drop 2).take 4)
 unfold zcR at hk
 by_cases c0:(l.length:Int) < 6
 ·rw [if_pos (.inl (by omega))] at hk
  simp only [c0,c_token_unitAt,sxZ,z6,z7,z8,j5,j6,j7,j8,j9,x3,x4,x5,x6,x7,x8,x9,reduceCtorEq,↓reduceIte]
  exact hk 0
 have l0:0 < l.length:=by omega
 have l1:1 < l.length:=by omega
 have g0:=zaz l0
 have g1:=zaz l1
 have e0:l[0]? = some 92 ↔ ((l[0].toNat:Nat):Int)=92:=zem l0 92 (by decide)
 have e1:l[1]? = some 117 ↔ ((l[1].toNat:Nat):Int)=117:=zem l1 117 (by decide)
 by_cases c1:((l[0].toNat:Nat):Int)=92
 ·by_cases c2:((l[1].toNat:Nat):Int)=117
  ·rw [if_neg (by rintro (h | h | h); exact absurd h (by omega); exact h (e0.2 c1); exact h (e1.2 c2))] at hk
   simp only [c0,c1,c2,g0,g1,c_token_unitAt,sxZ,z6,z7,z8,j5,j6,j7,j8,j9,x3,x4,x5,x6,x7,x8,x9,reduceCtorEq,↓reduceIte]
   refine ⟨by omega,by omega,by omega,?_⟩
   rw [show (l.take 6).drop 2=(l.drop 2).take 4 by rw [List.drop_take]]
   refine zal (nHex_k _ 65535 (by rw [List.length_take,List.length_drop,zbB]; omega) (by decide) ?_)
   simp only [sxZ,z6,z7,z8,j5,j6,j7,j8,j9,x3,x4,x5,x6,x7,x8,x9,reduceCtorEq,↓reduceIte]
   generalize zbw zbc 16 65535 ((l.drop 2).take 4)=q at *
   obtain ⟨e,n⟩:=q
   simp only at hk hb ⊢
   rw [hw n hb]
   by_cases c3:e=0
   ·rw [if_pos c3] at hk
    rw [decide_eq_true c3]
    exact hk
   ·rw [if_neg c3] at hk
    rw [decide_eq_false c3]
    exact hk _
  ·rw [if_pos (.inr (.inr (fun h => c2 (e1.1 h))))] at hk
   simp only [c0,c1,c2,g0,g1,c_token_unitAt,sxZ,z6,z7,z8,j5,j6,j7,j8,j9,x3,x4,x5,x6,x7,x8,x9,reduceCtorEq,↓reduceIte]
   refine ⟨by omega,by omega,hk 0⟩
 ·rw [if_pos (.inr (.inl (fun h => c1 (e0.1 h))))] at hk
  simp only [c0,c1,g0,g1,c_token_unitAt,sxZ,z6,z7,z8,j5,j6,j7,j8,j9,x3,x4,x5,x6,x7,x8,x9,reduceCtorEq,↓reduceIte]
  refine ⟨by omega,hk 0⟩
theorem zgf (l:List UInt8) (hk:K objs (.i .u8 ((((l[1]?).bind zcU).getD 0).toNat:Nat))):zad Tryz.prog 96 [.s l] objs K:=by
 refine zbb is_token_shortEscape rfl fun C _ => ?_
 by_cases c0:(l.length:Int) < 2
 ·rw [List.getElem?_eq_none (by omega)] at hk
  simp only [c0,c_token_shortEscape,sxZ,z6,z7,z8,j5,j6,j7,j8,j9,x3,x4,x5,x6,x7,x8,x9,reduceCtorEq,↓reduceIte]
  exact hk
 have l1:1 < l.length:=by omega
 have g1:=zaz l1
 rw [List.getElem?_eq_getElem l1,Option.bind_some] at hk
 generalize l[1]=c at *
 have e:=fun k (hk:k < 256) => zbL (c:=c) (k:=k) hk
 by_cases c1:((c.toNat:Nat):Int)=34
 ·rw [(e 34 (by decide)).1 c1] at hk
  simp only [c0,g1,c1,c_token_shortEscape,sxZ,z6,z7,z8,j5,j6,j7,j8,j9,x3,x4,x5,x6,x7,x8,x9,reduceCtorEq,↓reduceIte]
  exact ⟨by omega,by omega,hk⟩
 by_cases c2:((c.toNat:Nat):Int)=92
 ·rw [(e 92 (by decide)).1 c2] at hk
  simp only [c0,g1,c2,c_token_shortEscape,sxZ,z6,z7,z8,j5,j6,j7,j8,j9,x3,x4,x5,x6,x7,x8,x9,reduceCtorEq,↓reduceIte]
  exact ⟨by omega,by omega,hk⟩
 by_cases c3:((c.toNat:Nat):Int)=47
 ·rw [(e 47 (by decide)).1 c3] at hk
  simp only [c0,g1,c3,c_token_shortEscape,sxZ,z6,z7,z8,j5,j6,j7,j8,j9,x3,x4,x5,x6,x7,x8,x9,reduceCtorEq,↓reduceIte]
  exact ⟨by omega,by omega,hk⟩
 by_cases c4:((c.toNat:Nat):Int)=98
 ·rw [(e 98 (by decide)).1 c4] at hk
  simp only [c0,g1,c4,c_token_shortEscape,sxZ,z6,z7,z8,j5,j6,j7,j8,j9,x3,x4,x5,x6,x7,x8,x9,reduceCtorEq,↓reduceIte]
  exact ⟨by omega,hk⟩
 by_cases c5:((c.toNat:Nat):Int)=102
 ·rw [(e 102 (by decide)).1 c5] at hk
  simp only [c0,g1,c5,c_token_shortEscape,sxZ,z6,z7,z8,j5,j6,j7,j8,j9,x3,x4,x5,x6,x7,x8,x9,reduceCtorEq,↓reduceIte]
  exact ⟨by omega,hk⟩
 by_cases c6:((c.toNat:Nat):Int)=110
 ·rw [(e 110 (by decide)).1 c6] at hk
  simp only [c0,g1,c6,c_token_shortEscape,sxZ,z6,z7,z8,j5,j6,j7,j8,j9,x3,x4,x5,x6,x7,x8,x9,reduceCtorEq,↓reduceIte]
  exact ⟨by omega,hk⟩
 by_cases c7:((c.toNat:Nat):Int)=114
 ·rw [(e 114 (by decide)).1 c7] at hk
  simp only [c0,g1,c7,c_token_shortEscape,sxZ,z6,z7,z8,j5,j6,j7,j8,j9,x3,x4,x5,x6,x7,x8,x9,reduceCtorEq,↓reduceIte]
  exact ⟨by omega,hk⟩
 by_cases c8:((c.toNat:Nat):Int)=116
 ·rw [(e 116 (by decide)).1 c8] at hk
  simp only [c0,g1,c8,c_token_shortEscape,sxZ,z6,z7,z8,j5,j6,j7,j8,j9,x3,x4,x5,x6,x7,x8,x9,reduceCtorEq,↓reduceIte]
  exact ⟨by omega,hk⟩
 have hn:zcU c=none:=by
  unfold zcU
  rw [if_neg (by rintro (h | h | h); exact c1 ((e 34 (by decide)).2 h); exact c2 ((e 92 (by decide)).2 h); exact c3 ((e 47 (by decide)).2 h)),if_neg (show ¬ c=98 from fun h => c4 ((e 98 (by decide)).2 h)),if_neg (show ¬ c=102 from fun h => c5 ((e 102 (by decide)).2 h)),if_neg (show ¬ c=110 from fun h => c6 ((e 110 (by decide)).2 h)),if_neg (show ¬ c=114 from fun h => c7 ((e 114 (by decide)).2 h)),if_neg (show ¬ c=116 from fun h => c8 ((e 116 (by decide)).2 h))]
 rw [hn] at hk
 simp only [c0,g1,c1,c2,c3,c4,c5,c6,c7,c8,c_token_shortEscape,sxZ,z6,z7,z8,j5,j6,j7,j8,j9,x3,x4,x5,x6,x7,x8,x9,reduceCtorEq,↓reduceIte]
 exact ⟨by omega,hk⟩
end
def RdSt (s:List UInt8) (i:Nat) (out:List UInt8) (objs:List OB):Prop :=
 (out=[] ∧ objs=[.box 100 [.s s,.i .i64 (i:Nat),.nil]]) ∨ ∃ g,objs=[.box 100 [.s s,.i .i64 (i:Nat),.orow 1 g],.orow 5 1 g out.length (byA out)]
theorem zog {s:List UInt8} {i:Nat} (h:i < s.length):zb2 s i=match zbE (s.drop i) with | none => (0,0,7) | some (r,n) => ((r:Int),((i + n:Nat):Int),0):=by
 unfold zb2
 rw [if_neg (by omega),Int.toNat_natCast]
 cases zbE (s.drop i) <;> simp
theorem zd6 (s:List UInt8) (i m:Nat):(s.take (i + m)).drop i=(s.drop i).take m:=by
 rw [List.drop_take,show i + m - i=m by omega]
def zfm (n:Nat) (r:List UInt8):Nat × Nat :=
 if 55296 ≤ n ∧ n < 56320 then (match zcR r with
  | some m => if 56320 ≤ m ∧ m ≤ 57343 then (65536 + (n - 55296) * 1024 + (m - 56320),12) else (n,6)
  | none => (n,6)) else (n,6)
theorem esc_of {l:List UInt8} {n:Nat} (h0:(l[1]?).bind zcU=none) (h:zcR l=some n):zdx l=if cpB ((zfm n (l.drop 6)).1:Int)=true then (0,zdF (zfm n (l.drop 6)).1,(zfm n (l.drop 6)).2) else (7,[],0):=by
 have hn:=(zcQ h).2
 have hcp:∀ k:Nat,cpB (k:Int)=decide (k ≤ 1114111 ∧ (k < 55296 ∨ 57343 < k)):=by
  intro k
  unfold cpB
  by_cases h1:k ≤ 1114111 ∧ (k < 55296 ∨ 57343 < k)
  ·rw [decide_eq_true (by omega),decide_eq_true h1]
  ·rw [decide_eq_false (by omega),decide_eq_false h1]
 have hE:zdx l=(if n < 55296 ∨ 57343 < n then ((0:Int),zdF n,6)
   else if 56319 < n then (7,[],0)
   else match zcR (l.drop 6) with
    | none => (7,[],0)
    | some m => if m < 56320 ∨ 57343 < m then (7,[],0) else (0,zdF (65536 + (n - 55296) * 1024 + (m - 56320)),12)):=by
  unfold zdx
  rw [h0,h]
  rfl
 rw [hE]
 by_cases c1:n < 55296 ∨ 57343 < n
 ·have hU:zfm n (l.drop 6)=(n,6):=by unfold zfm; rw [if_neg (show ¬ (55296 ≤ n ∧ n < 56320) by omega)]
  rw [if_pos c1,hU,hcp,if_pos (decide_eq_true (by omega))]
 ·by_cases c2:56319 < n
  ·have hU:zfm n (l.drop 6)=(n,6):=by unfold zfm; rw [if_neg (show ¬ (55296 ≤ n ∧ n < 56320) by omega)]
   rw [if_neg c1,if_pos c2,hU,hcp,if_neg (by rw [decide_eq_true_eq]; omega)]
  ·rw [if_neg c1,if_neg c2]
   cases hu:zcR (l.drop 6) with
   | none =>
    have hU:zfm n (l.drop 6)=(n,6):=by unfold zfm; rw [if_pos (show 55296 ≤ n ∧ n < 56320 by omega),hu]
    rw [hU,hcp,if_neg (by rw [decide_eq_true_eq]; omega)]
   | some m =>
    by_cases c3:m < 56320 ∨ 57343 < m
    ·have hU:zfm n (l.drop 6)=(n,6):=by
      unfold zfm; rw [if_pos (show 55296 ≤ n ∧ n < 56320 by omega),hu]
      simp only
      rw [if_neg (show ¬ (56320 ≤ m ∧ m ≤ 57343) by omega)]
     simp only
     rw [if_pos c3,hU,hcp,if_neg (by rw [decide_eq_true_eq]; omega)]
    ·have hU:zfm n (l.drop 6)=(65536 + (n - 55296) * 1024 + (m - 56320),12):=by
      unfold zfm; rw [if_pos (show 55296 ≤ n ∧ n < 56320 by omega),hu]
      simp only
      rw [if_pos (show 56320 ≤ m ∧ m ≤ 57343 by omega)]
     simp only
     rw [if_neg c3,hU,hcp,if_pos (decide_eq_true (by omega))]
theorem escU_ge (n:Nat) (r:List UInt8):6 ≤ (zfm n r).2:=by
 unfold zfm
 repeat' split
 all_goals first | exact Nat.le_refl _ | (show 6 ≤ 12; omega)
theorem zka {l:List UInt8} {n:Nat} (h:zcR l=some n):(zfm n (l.drop 6)).2 ≤ l.length ∧ (zfm n (l.drop 6)).1 ≤ 1114111:=by
 have h1:=zcQ h
 unfold zfm
 split
 ·cases hu:zcR (l.drop 6) with
  | none => simp only; omega
  | some m =>
   have h2:=zcQ hu
   rw [List.length_drop] at h2
   simp only
   split
   ·simp only; omega
   ·simp only; omega
 ·simp only; omega
theorem zkb {l x:List UInt8} {n:Nat} (h:zdx l=(0,x,n)):x.length ≤ n ∧ 1 ≤ n ∧ n ≤ l.length:=by
 cases hse:(l[1]?).bind zcU with
 | some d =>
  have he:zdx l=(0,[d],2):=by unfold zdx; rw [hse]
  rw [he] at h
  injection h with _ h; injection h with h1 h2
  subst h1 h2
  obtain ⟨c,h2,_⟩:=Option.bind_eq_some_iff.1 hse
  have:=(List.getElem?_eq_some_iff.1 h2).1
  exact ⟨by simp,by omega,by omega⟩
 | none =>
  cases hu:zcR l with
  | none =>
   have he:zdx l=(130,[],0):=by unfold zdx; rw [hse,hu]
   rw [he] at h
   injection h with h _; cases h
  | some k =>
   have he:=esc_of hse hu
   have h3:=zka hu
   have h4:=escU_ge k (l.drop 6)
   have h5:=zkd (r:=(zfm k (l.drop 6)).1)
   rw [h] at he
   split at he
   ·injection he with _ he; injection he with h1 h2
    subst h1 h2
    omega
   ·injection he with he _; cases he
section
variable [Tabs Tryz.prog] [Utf Tryz.prog] {objs:List OB} {K:List OB → AV → Prop}
set_option maxHeartbeats 4000000 in
theorem plain_k (s out:List UInt8) (i:Nat) (h:RdSt s i out objs) (hs:s.length ≤ 140737488351232) (ho:out.length ≤ i) (hi:i < s.length) (h1:s[i].toNat < 32 → K objs (.i .i64 130)) (h2:32 ≤ s[i].toNat → zbE (s.drop i)=none → K objs (.i .i64 7))
  (h3:32 ≤ s[i].toNat → ∀ r m,zbE (s.drop i)=some (r,m) → ∀ o,RdSt s (i + m) (out ++ (s.drop i).take m) o → K o (.i .i64 0)):zad Tryz.prog 80 [.p 0 0] objs K:=by
 refine zcL is_token_stringReader_plain fun C _ => ?_
 have hg:=zaz hi
 have hd:=zog hi
 rcases h with ⟨rfl,rfl⟩ | ⟨g,rfl⟩
 ·by_cases c1:((s[i].toNat:Nat):Int) < 32
  ·simp only [hg,c1,c_token_stringReader_plain,sxZ,z6,z7,z8,j5,j6,j7,j8,j9,x3,x4,x5,x6,x7,x8,x9,reduceCtorEq,↓reduceIte]
   exact ⟨by omega,h1 (by omega)⟩
  simp only [hg,c1,c_token_stringReader_plain,sxZ,z6,z7,z8,j5,j6,j7,j8,j9,x3,x4,x5,x6,x7,x8,x9,reduceCtorEq,↓reduceIte]
  refine ⟨by omega,?_⟩
  refine zff (zgU s i hs ⟨rfl,rfl⟩) ?_
  cases hdu:zbE (s.drop i) with
  | none =>
   rw [hdu] at hd
   rw [hd]
   simp only [sxZ,z6,z7,z8,j5,j6,j7,j8,j9,x3,x4,x5,x6,x7,x8,x9,reduceCtorEq,↓reduceIte]
   exact h2 (by omega) hdu
  | some q =>
   obtain ⟨r,m⟩:=q
   rw [hdu] at hd
   rw [hd]
   obtain ⟨g1,g2,g3,g4,g5⟩:=za7 hdu
   rw [List.length_drop] at g3
   simp only [sxZ,z6,z7,z8,j5,j6,j7,j8,j9,x3,x4,x5,x6,x7,x8,x9,reduceCtorEq,↓reduceIte]
   rw [zd6 s i m]
   refine ⟨by omega,?_,h3 (by omega) r m hdu _ (.inr ⟨0,rfl⟩)⟩
   rw [List.length_take,List.length_drop]; omega
 ·by_cases c1:((s[i].toNat:Nat):Int) < 32
  ·simp only [hg,c1,c_token_stringReader_plain,sxZ,z6,z7,z8,j5,j6,j7,j8,j9,x3,x4,x5,x6,x7,x8,x9,reduceCtorEq,↓reduceIte]
   exact ⟨by omega,h1 (by omega)⟩
  simp only [hg,c1,c_token_stringReader_plain,sxZ,z6,z7,z8,j5,j6,j7,j8,j9,x3,x4,x5,x6,x7,x8,x9,reduceCtorEq,↓reduceIte]
  refine ⟨by omega,?_⟩
  refine zff (zgU s i hs ⟨rfl,rfl⟩) ?_
  cases hdu:zbE (s.drop i) with
  | none =>
   rw [hdu] at hd
   rw [hd]
   simp only [sxZ,z6,z7,z8,j5,j6,j7,j8,j9,x3,x4,x5,x6,x7,x8,x9,reduceCtorEq,↓reduceIte]
   exact h2 (by omega) hdu
  | some q =>
   obtain ⟨r,m⟩:=q
   rw [hdu] at hd
   rw [hd]
   obtain ⟨g1,g2,g3,g4,g5⟩:=za7 hdu
   rw [List.length_drop] at g3
   simp only [sxZ,z6,z7,z8,j5,j6,j7,j8,j9,x3,x4,x5,x6,x7,x8,x9,reduceCtorEq,↓reduceIte]
   rw [zd6 s i m]
   have hl:((s.drop i).take m).length ≤ 4:=by rw [List.length_take]; omega
   refine ⟨by omega,by omega,h3 (by omega) r m hdu _ (.inr ⟨g + 1,?_⟩)⟩
   rw [zgG,List.length_append]
set_option maxHeartbeats 4000000 in
theorem escape_k (s out:List UInt8) (i:Nat) (h:RdSt s i out objs) (hs:s.length ≤ 140737488351232) (ho:out.length ≤ i) (hi:i ≤ s.length) (h1:(zdx (s.drop i)).1 ≠ 0 → K objs (.i .i64 (zdx (s.drop i)).1))
  (h3:(zdx (s.drop i)).1=0 → ∀ o,RdSt s (i + (zdx (s.drop i)).2.2) (out ++ (zdx (s.drop i)).2.1) o → K o (.i .i64 0)):zad Tryz.prog 81 [.p 0 0] objs K:=by
 refine zcL is_token_stringReader_escape fun C _ => ?_
 have hmx:=zbB
 have hld:(s.drop i).length=s.length - i:=List.length_drop
 obtain ⟨X,T,rfl,hX⟩:∃ X T,objs=.box 100 [.s s,.i .i64 (i:Nat),X] :: T ∧ ((out=[] ∧ X=.nil ∧ T=[]) ∨ ∃ g,X=.orow 1 g ∧ T=[.orow 5 1 g out.length (byA out)]):=by
  rcases h with ⟨h1,h2⟩ | ⟨g,h2⟩
  ·exact ⟨_,_,h2,.inl ⟨h1,rfl,rfl⟩⟩
  ·exact ⟨_,_,h2,.inr ⟨g,rfl,rfl⟩⟩
 have push:∀ (x:List UInt8) (m:Nat),zdx (s.drop i)=(0,x,m) → ∀ o,RdSt s (i + m) (out ++ x) o → K o (.i .i64 0):=by
  intro x m e o ho
  rw [e] at h3
  exact h3 rfl o ho
 have fail:∀ e:Int,e ≠ 0 → zdx (s.drop i)=(e,[],0) → K (.box 100 [.s s,.i .i64 (i:Nat),X] :: T) (.i .i64 e):=by
  intro e he h
  rw [h] at h1
  exact h1 he
 clear h h1 h3
 rw [c_token_stringReader_escape]
 refine zaa fun Y1 hY1 => ?_
 simp only [sxZ,z6,z7,z8,j5,j6,j7,j8,j9,x3,x4,x5,x6,x7,x8,x9,reduceCtorEq,↓reduceIte]
 subst hY1
 refine zaa fun Y1 hY1 => ?_
 simp only [sxZ,z6,z7,z8,j5,j6,j7,j8,j9,x3,x4,x5,x6,x7,x8,x9,reduceCtorEq,↓reduceIte]
 refine ⟨by omega,?_⟩
 subst hY1
 refine zaa fun Y1 hY1 => ?_
 simp only [sxZ,z6,z7,z8,j5,j6,j7,j8,j9,x3,x4,x5,x6,x7,x8,x9,reduceCtorEq,↓reduceIte]
 refine zal (zgf (s.drop i) ?_)
 cases hse:((s.drop i)[1]?).bind zcU with
 | some d =>
  have hne:d ≠ 0:=by
   obtain ⟨c,_,h2⟩:=Option.bind_eq_some_iff.1 hse
   exact zlN h2
  have hd0:¬ ((d.toNat:Nat):Int)=0:=by
   intro h
   apply hne
   have h2:d.toNat=0:=by omega
   exact UInt8.toNat_inj.1 h2
  have he:zdx (s.drop i)=(0,[d],2):=by unfold zdx; rw [hse]
  rcases hX with ⟨rfl,rfl,rfl⟩ | ⟨g,rfl,rfl⟩
  ·simp only [hd0,sxZ,z6,z7,z8,j5,j6,j7,j8,j9,x3,x4,x5,x6,x7,x8,x9,reduceCtorEq,↓reduceIte]
   exact ⟨by omega,push _ _ he _ (.inr ⟨0,rfl⟩)⟩
  ·simp only [hd0,sxZ,z6,z7,z8,j5,j6,j7,j8,j9,x3,x4,x5,x6,x7,x8,x9,reduceCtorEq,↓reduceIte]
   refine ⟨by omega,by omega,push _ _ he _ (.inr ⟨g + 1,?_⟩)⟩
   rw [zgG,List.length_append]; rfl
 | none =>
  have e0:(((Option.getD (none:Option UInt8) 0).toNat:Nat):Int)=0:=rfl
  rw [e0]
  simp only [sxZ,z6,z7,z8,j5,j6,j7,j8,j9,x3,x4,x5,x6,x7,x8,x9,reduceCtorEq,↓reduceIte]
  subst hY1
  refine zaa fun Y1 hY1 => ?_
  simp only [sxZ,z6,z7,z8,j5,j6,j7,j8,j9,x3,x4,x5,x6,x7,x8,x9,reduceCtorEq,↓reduceIte]
  refine zal (zja (s.drop i) (by omega) ?_)
  cases hu:zcR (s.drop i) with
  | none =>
   intro x
   have he:zdx (s.drop i)=(130,[],0):=by unfold zdx; rw [hse,hu]
   simp only [sxZ,z6,z7,z8,j5,j6,j7,j8,j9,x3,x4,x5,x6,x7,x8,x9,reduceCtorEq,↓reduceIte]
   subst hY1
   simp only [sxZ,z6,z7,z8,j5,j6,j7,j8,j9,x3,x4,x5,x6,x7,x8,x9,reduceCtorEq,↓reduceIte]
   exact fail 130 (by decide) he
  | some n =>
   have hul:=zcQ hu
   have hel:=zka hu
   have heo:=esc_of hse hu
   simp only [sxZ,z6,z7,z8,j5,j6,j7,j8,j9,x3,x4,x5,x6,x7,x8,x9,reduceCtorEq,↓reduceIte]
   subst hY1
   refine zaa fun Y1 hY1 => ?_
   simp only [sxZ,z6,z7,z8,j5,j6,j7,j8,j9,x3,x4,x5,x6,x7,x8,x9,reduceCtorEq,↓reduceIte]
   subst hY1
   refine zaa fun Y1 hY1 => ?_
   simp only [sxZ,z6,z7,z8,j5,j6,j7,j8,j9,x3,x4,x5,x6,x7,x8,x9,reduceCtorEq,↓reduceIte]
   subst hY1
   refine zaa fun Y1 hY1 => ?_
   refine zaM (fun o t => o=.box 100 [.s s,.i .i64 (i:Nat),X] :: T ∧ t.length=103 ∧ t[0]? = some (.p 0 0) ∧ t[5]? = some (.i .i64 ((zfm n ((s.drop i).drop 6)).1:Nat)) ∧ t[7]? = some (.i .i64 ((zfm n ((s.drop i).drop 6)).2:Nat))) ?_ ?_
   ·unfold zfm
    by_cases c1:(55296:Int) ≤ n
    ·by_cases c2:(n:Int) < 56320
     ·rw [if_pos (by omega)]
      simp only [c1,c2,sxZ,z6,z7,z8,j5,j6,j7,j8,j9,x3,x4,x5,x6,x7,x8,x9,reduceCtorEq,↓reduceIte]
      refine ⟨by omega,?_⟩
      refine zal (zja _ (by rw [List.length_drop]; omega) ?_)
      cases hu2:zcR ((s.drop i).drop 6) with
      | none =>
       intro x
       simp only [zab,sxZ,z6,z7,z8,j5,j6,j7,j8,j9,x3,x4,x5,x6,x7,x8,x9,reduceCtorEq,↓reduceIte]
       and_intros <;> first | omega | exact iv (by omega) | rfl | assumption
      | some m =>
       have hm:=(zcQ hu2).2
       by_cases c3:(56320:Int) ≤ m
       ·by_cases c4:(m:Int) ≤ 57343
        ·simp only
         rw [if_pos (show 56320 ≤ m ∧ m ≤ 57343 by omega)]
         simp only [c3,c4,zab,sxZ,z6,z7,z8,j5,j6,j7,j8,j9,x3,x4,x5,x6,x7,x8,x9,reduceCtorEq,↓reduceIte]
         and_intros <;> first | omega | exact iv (by omega) | rfl | assumption
        ·simp only
         rw [if_neg (show ¬ (56320 ≤ m ∧ m ≤ 57343) by omega)]
         simp only [c3,c4,zab,sxZ,z6,z7,z8,j5,j6,j7,j8,j9,x3,x4,x5,x6,x7,x8,x9,reduceCtorEq,↓reduceIte]
         and_intros <;> first | omega | exact iv (by omega) | rfl | assumption
       ·simp only
        rw [if_neg (show ¬ (56320 ≤ m ∧ m ≤ 57343) by omega)]
        simp only [c3,zab,sxZ,z6,z7,z8,j5,j6,j7,j8,j9,x3,x4,x5,x6,x7,x8,x9,reduceCtorEq,↓reduceIte]
        and_intros <;> first | omega | exact iv (by omega) | rfl | assumption
     ·rw [if_neg (by omega)]
      simp only [c1,c2,zab,sxZ,z6,z7,z8,j5,j6,j7,j8,j9,x3,x4,x5,x6,x7,x8,x9,reduceCtorEq,↓reduceIte]
      and_intros <;> first | omega | exact iv (by omega) | rfl | assumption
    ·rw [if_neg (by omega)]
     simp only [c1,zab,sxZ,z6,z7,z8,j5,j6,j7,j8,j9,x3,x4,x5,x6,x7,x8,x9,reduceCtorEq,↓reduceIte]
     and_intros <;> first | omega | exact iv (by omega) | rfl | assumption
   rintro _ tm ⟨rfl,hlen,t0,t5,t7⟩
   subst hY1
   generalize zfm n ((s.drop i).drop 6)=q at *
   obtain ⟨U,Z⟩:=q
   simp only at hel heo t5 t7
   simp only [sxZ,z6,z7,z8,j5,j6,j7,j8,j9,x3,x4,x5,x6,x7,x8,x9,reduceCtorEq,↓reduceIte,List.getElem?_set,hlen,t0,t5,t7]
   refine zal (zls _ ?_)
   unfold zeK
   by_cases c5:cpB ((U:Nat):Int)=true
   ·rw [if_pos c5] at heo ⊢
    have hxl:=(zkd (r:=U))
    rw [Int.toNat_natCast]
    rcases hX with ⟨rfl,rfl,rfl⟩ | ⟨g,rfl,rfl⟩
    ·simp only [sxZ,z6,z7,z8,j5,j6,j7,j8,j9,x3,x4,x5,x6,x7,x8,x9,reduceCtorEq,↓reduceIte,List.getElem?_set,hlen,t0,t5,t7]
     refine ⟨by omega,by omega,?_⟩
     have:=push _ _ heo (.box 100 [.s s,.i .i64 ((i + Z:Nat):Int),.orow 1 0] :: [.orow 5 1 0 (zdF U).length (byA (zdF U))]) (.inr ⟨0,rfl⟩)
     exact this
    ·simp only [sxZ,z6,z7,z8,j5,j6,j7,j8,j9,x3,x4,x5,x6,x7,x8,x9,reduceCtorEq,↓reduceIte,List.getElem?_set,hlen,t0,t5,t7]
     refine ⟨by omega,by omega,?_⟩
     refine push _ _ heo _ (.inr ⟨g + 1,?_⟩)
     rw [zgG,List.length_append]; rfl
   ·rw [if_neg c5] at heo ⊢
    simp only [sxZ,z6,z7,z8,j5,j6,j7,j8,j9,x3,x4,x5,x6,x7,x8,x9,reduceCtorEq,↓reduceIte,List.getElem?_set,hlen,t0,t5,t7]
    exact fail 7 (by decide) heo
omit [Tabs Tryz.prog] [Utf Tryz.prog] in
theorem zkW:IsFn Tryz.prog 80:=⟨_,Tryz.func80,by kernel_rfl,of_decide_eq_true (by kernel_rfl)⟩
omit [Tabs Tryz.prog] [Utf Tryz.prog] in
theorem ziS:IsFn Tryz.prog 81:=⟨_,Tryz.func81,by kernel_rfl,of_decide_eq_true (by kernel_rfl)⟩
set_option maxHeartbeats 4000000 in
theorem zhi (s:List UInt8) (a:Nat) (hs:s.length ≤ 140737488351232) (ha:a < s.length) (R:Int × List UInt8 × Nat) (hR:zcy ((s.drop (a + 1)).length + 1) (s.drop (a + 1)) [] 0=R)
  (h1:R.1 ≠ 0 → K objs (.tup [.s [],.i .i64 0,.i .i64 R.1])) (h0:R.1=0 → K objs (.tup [.s R.2.1,.i .i64 ((a + 1 + R.2.2:Nat):Int),.i .i64 0])):zad Tryz.prog 56 [.s s,.i .i64 (a:Nat)] objs K:=by
 refine zbb is_token_readString rfl fun C _ => ?_
 simp only [c_token_readString,sxZ,z6,z7,z8,j5,j6,j7,j8,j9,x3,x4,x5,x6,x7,x8,x9,reduceCtorEq,↓reduceIte]
 refine ⟨by omega,?_⟩
 refine zaO (fun n o tm => ∃ (i:Nat) (out:List UInt8) (m:Nat),i ≤ s.length ∧ a + 1 ≤ i ∧ n=s.length - i ∧ RdSt s i out o ∧ out.length ≤ i ∧ s.length - i < m ∧ zcy m (s.drop i) out (i - (a + 1))=R ∧ tm.length=53 ∧ tm[0]? = some (.s s) ∧ tm[7]? = some (.p 0 0) ∧ tm[8]? = some (.fn 80 [.p 0 0] []) ∧ tm[9]? = some (.fn 81 [.p 0 0] [])) (s.length - (a + 1))
  ⟨a + 1,[],(s.drop (a + 1)).length + 1,ha,Nat.le_refl _,rfl,.inl ⟨rfl,rfl⟩,Nat.zero_le _,by rw [List.length_drop]; omega,by rw [Nat.sub_self]; exact hR,rfl,rfl,rfl,rfl,rfl⟩ ?_
 rintro n o tm ⟨i,out,m,hi,hai,rfl,hst,ho,hm,hT,hlen,t0,t7,t8,t9⟩
 have hst2:=hst
 obtain ⟨X,T,rfl,hX⟩:∃ X T,o=.box 100 [.s s,.i .i64 (i:Nat),X] :: T ∧ ((out=[] ∧ X=.nil ∧ T=[]) ∨ ∃ g,X=.orow 1 g ∧ T=[.orow 5 1 g out.length (byA out)]):=by
  rcases hst with ⟨h1,h2⟩ | ⟨g,h2⟩
  ·exact ⟨_,_,h2,.inl ⟨h1,rfl,rfl⟩⟩
  ·exact ⟨_,_,h2,.inr ⟨g,rfl,rfl⟩⟩
 clear hst
 obtain ⟨m,rfl⟩:∃ m',m=m' + 1:=⟨m - 1,by omega⟩
 by_cases hlt:(i:Int) < s.length
 ·have hlt':i < s.length:=by omega
  have hne:¬ (i:Int)=s.length:=by omega
  have hg:=zaz hlt'
  have hdc:=List.drop_eq_getElem_cons hlt'
  by_cases c1:((s[i].toNat:Nat):Int)=34
  ·have hc:s[i]=34:=(zbL (by decide)).1 c1
   rw [hdc,zcy,if_pos hc] at hT
   subst hT
   have h0:=h0 rfl
   rcases hX with ⟨rfl,rfl,rfl⟩ | ⟨g,rfl,rfl⟩
   ·simp only [hlt,hne,hg,c1,sxZ,z6,z7,z8,j5,j6,j7,j8,j9,x3,x4,x5,x6,x7,x8,x9,reduceCtorEq,↓reduceIte,List.getElem?_set,hlen,t0,t7,t8,t9]
    refine ⟨by omega,by omega,?_⟩
    rw [show a + 1 + (i - (a + 1) + 1)=i + 1 by omega] at h0
    exact h0
   ·simp only [hlt,hne,hg,c1,sxZ,z6,z7,z8,j5,j6,j7,j8,j9,x3,x4,x5,x6,x7,x8,x9,reduceCtorEq,↓reduceIte,List.getElem?_set,hlen,t0,t7,t8,t9]
    refine ⟨by omega,⟨rfl,rfl⟩,out,rfl,?_⟩
    simp only [hlt,hne,hg,c1,sxZ,z6,z7,z8,j5,j6,j7,j8,j9,x3,x4,x5,x6,x7,x8,x9,reduceCtorEq,↓reduceIte,List.getElem?_set,hlen,t0,t7,t8,t9]
    refine ⟨by omega,?_⟩
    rw [show a + 1 + (i - (a + 1) + 1)=i + 1 by omega] at h0
    exact h0
  ·have hc:¬ s[i]=34:=fun h => c1 ((zbL (by decide)).2 h)
   by_cases c2:((s[i].toNat:Nat):Int)=92
   ·have hc2:s[i]=92:=(zbL (by decide)).1 c2
    rw [hdc,zcy,if_neg hc,if_pos hc2,← hdc] at hT
    simp only [hlt,hg,c1,c2,sxZ,z6,z7,z8,j5,j6,j7,j8,j9,x3,x4,x5,x6,x7,x8,x9,reduceCtorEq,↓reduceIte,List.getElem?_set,hlen,t0,t7,t8,t9]
    refine ⟨by omega,by omega,?_⟩
    refine kcallv ziS (escape_k s out i hst2 hs ho hi (fun he => ?_) (fun he o' ho' => ?_))
    ·rw [if_pos he] at hT
     subst hT
     simp only [he,sxZ,z6,z7,z8,j5,j6,j7,j8,j9,x3,x4,x5,x6,x7,x8,x9,reduceCtorEq,↓reduceIte,List.getElem?_set,hlen,t0,t7,t8,t9]
     exact h1 he
    ·rw [if_neg (by rw [he]; simp)] at hT
     generalize hq:zdx (s.drop i)=q at *
     obtain ⟨e,x,m'⟩:=q
     simp only at he hT ho'
     subst he
     have hl:=zkb hq
     rw [List.length_drop] at hl
     simp only [sxZ,z6,z7,z8,j5,j6,j7,j8,j9,x3,x4,x5,x6,x7,x8,x9,reduceCtorEq,↓reduceIte,List.getElem?_set,hlen,t0,t7,t8,t9]
     exact ⟨s.length - (i + m'),by omega,i + m',out ++ x,m,by omega,by omega,rfl,ho',by rw [List.length_append]; omega,by omega,by rw [← List.drop_drop,show i + m' - (a + 1)=i - (a + 1) + m' by omega]; exact hT⟩
   ·have hc2:¬ s[i]=92:=fun h => c2 ((zbL (by decide)).2 h)
    rw [hdc,zcy,if_neg hc,if_neg hc2,← hdc] at hT
    simp only [hlt,hg,c1,c2,sxZ,z6,z7,z8,j5,j6,j7,j8,j9,x3,x4,x5,x6,x7,x8,x9,reduceCtorEq,↓reduceIte,List.getElem?_set,hlen,t0,t7,t8,t9]
    refine ⟨by omega,by omega,?_⟩
    refine kcallv zkW (plain_k s out i hst2 hs ho hlt' (fun he => ?_) (fun he hd => ?_) (fun he r m' hd o' ho' => ?_))
    ·rw [if_pos he] at hT
     subst hT
     simp only [sxZ,z6,z7,z8,j5,j6,j7,j8,j9,x3,x4,x5,x6,x7,x8,x9,reduceCtorEq,↓reduceIte,List.getElem?_set,hlen,t0,t7,t8,t9]
     exact h1 (by decide)
    ·rw [if_neg (by omega),hd] at hT
     simp only at hT
     subst hT
     simp only [sxZ,z6,z7,z8,j5,j6,j7,j8,j9,x3,x4,x5,x6,x7,x8,x9,reduceCtorEq,↓reduceIte,List.getElem?_set,hlen,t0,t7,t8,t9]
     exact h1 (by decide)
    ·rw [if_neg (by omega),hd] at hT
     simp only at hT
     have gg:m' ≤ (s.drop i).length ∧ 1 ≤ m':=⟨(za7 hd).2.2.1,(za7 hd).2.2.2.1⟩
     have hxl:((s.drop i).take m').length ≤ m':=by rw [List.length_take]; omega
     rw [List.length_drop] at gg
     simp only [sxZ,z6,z7,z8,j5,j6,j7,j8,j9,x3,x4,x5,x6,x7,x8,x9,reduceCtorEq,↓reduceIte,List.getElem?_set,hlen,t0,t7,t8,t9]
     exact ⟨s.length - (i + m'),by omega,i + m',out ++ (s.drop i).take m',m,by omega,by omega,rfl,ho',by rw [List.length_append]; omega,by omega,by rw [← List.drop_drop,show i + m' - (a + 1)=i - (a + 1) + m' by omega]; exact hT⟩
 ·obtain rfl:i=s.length:=by omega
  rw [List.drop_length,zcy] at hT
  subst hT
  simp only [sxZ,z6,z7,z8,j5,j6,j7,j8,j9,x3,x4,x5,x6,x7,x8,x9,reduceCtorEq,↓reduceIte,List.getElem?_set,hlen,t0,t7,hlt]
  exact h1 (by decide)
end
def zaB (s:List UInt8) (a:Int):(Int × List UInt8 × Int) × Int × Int :=
 if a < 0 ∨ (s.length:Int) < a then ((0,[],0),0,4)
 else if (zaI (s.drop (a.toNat + zaS (s.drop a.toNat)))).1 ≠ 0 then ((0,[],0),0,(zaI (s.drop (a.toNat + zaS (s.drop a.toNat)))).1)
 else (((zaI (s.drop (a.toNat + zaS (s.drop a.toNat)))).2.1,(zaI (s.drop (a.toNat + zaS (s.drop a.toNat)))).2.2.1,((a.toNat + zaS (s.drop a.toNat):Nat):Int)),((a.toNat + zaS (s.drop a.toNat) + (zaI (s.drop (a.toNat + zaS (s.drop a.toNat)))).2.2.2:Nat):Int),0)
def zmT (r:(Int × List UInt8 × Int) × Int × Int):AV:=.tup [.agg [.i .i64 r.1.1,.s r.1.2.1,.i .i64 r.1.2.2],.i .i64 r.2.1,.i .i64 r.2.2]
theorem word_at (s:List UInt8) (i:Nat) (h:i < s.length):za5 (s.drop i)=if zcY s[i]=true then za5 (s.drop (i + 1)) + 1 else 0:=by
 rw [List.drop_eq_getElem_cons h,za5]
theorem white_at (s:List UInt8) (i:Nat) (h:i < s.length):zaS (s.drop i)=if zbs s[i]=true then zaS (s.drop (i + 1)) + 1 else 0:=by
 rw [List.drop_eq_getElem_cons h,zaS]
theorem zi5:∀ l:List UInt8,za5 l ≤ l.length
 | [] => Nat.le_refl _
 | c :: t => by
  have:=zi5 t
  unfold za5
  split <;> simp only [List.length_cons] <;> omega
theorem zeQ:∀ l:List UInt8,zaS l ≤ l.length
 | [] => Nat.le_refl _
 | c :: t => by
  have:=zeQ t
  unfold zaS
  split <;> simp only [List.length_cons] <;> omega
section
variable [Tabs Tryz.prog] [Utf Tryz.prog] {objs:List OB} {K:List OB → AV → Prop}
set_option maxHeartbeats 4000000 in
theorem read_k (s:List UInt8) (a:Nat) (hs:s.length ≤ 140737488351232) (ha:a ≤ s.length)
  (h1:(zaI (s.drop a)).1 ≠ 0 → ∀ (kd:Int) (t:List UInt8) (b:Int),K objs (.tup [.i .i64 kd,.s t,.i .i64 b,.i .i64 (zaI (s.drop a)).1]))
  (h0:(zaI (s.drop a)).1=0 → K objs (.tup [.i .i64 (zaI (s.drop a)).2.1,.s (zaI (s.drop a)).2.2.1,.i .i64 ((a + (zaI (s.drop a)).2.2.2:Nat):Int),.i .i64 0])):zad Tryz.prog 34 [.s s,.i .i64 (a:Nat)] objs K:=by
 refine zbb is_token_read rfl fun C _ => ?_
 by_cases c0:(a:Int)=s.length
 ·obtain rfl:a=s.length:=by omega
  have he:zaI (s.drop s.length)=(0,1,[],0):=by rw [List.drop_length]; rfl
  rw [he] at h0
  simp only [c_token_read,sxZ,z6,z7,z8,j5,j6,j7,j8,j9,x3,x4,x5,x6,x7,x8,x9,reduceCtorEq,↓reduceIte]
  exact h0 rfl
 have hlt:a < s.length:=by omega
 have hg:=zaz hlt
 have hdc:=List.drop_eq_getElem_cons hlt
 rw [c_token_read]
 refine zaa fun Y1 hY1 => ?_
 simp only [sxZ,z6,z7,z8,j5,j6,j7,j8,j9,x3,x4,x5,x6,x7,x8,x9,reduceCtorEq,↓reduceIte]
 subst hY1
 refine zaa fun Y1 hY1 => ?_
 simp only [c0,sxZ,z6,z7,z8,j5,j6,j7,j8,j9,x3,x4,x5,x6,x7,x8,x9,reduceCtorEq,↓reduceIte]
 subst hY1
 refine zaa fun Y1 hY1 => ?_
 simp only [hg,sxZ,z6,z7,z8,j5,j6,j7,j8,j9,x3,x4,x5,x6,x7,x8,x9,reduceCtorEq,↓reduceIte]
 refine ⟨by omega,?_⟩
 refine zal (zg9 _ s[a] ?_)
 by_cases c1:zbG s[a] [123,125,91,93,58,44]=true
 ·have he:zaI (s.drop a)=(0,2,[s[a]],1):=by rw [hdc,zaI,if_pos c1]
  rw [he] at h0
  have hi:=znH [123,125,91,93,58,44] s[a]
  rw [c1] at hi
  have hi:=of_decide_eq_true hi
  have hx:(s.take (a + 1)).drop a=[s[a]]:=by rw [zd6,hdc]; rfl
  have e1:((a:Int) + 1).toNat=a + 1:=by omega
  simp only [hi,c0,hg,e1,hx,sxZ,z6,z7,z8,j5,j6,j7,j8,j9,x3,x4,x5,x6,x7,x8,x9,reduceCtorEq,↓reduceIte]
  (and_intros <;> try omega)
  exact h0 rfl
 have hi:¬ (0:Int) ≤ Lib.indexByte [123,125,91,93,58,44] s[a]:=by
  intro h
  have hi:=znH [123,125,91,93,58,44] s[a]
  rw [decide_eq_true h] at hi
  exact c1 hi.symm
 by_cases c2:((s[a].toNat:Nat):Int)=34
 ·have hc:s[a]=34:=(zbL (by decide)).1 c2
  simp only [hi,c2,sxZ,z6,z7,z8,j5,j6,j7,j8,j9,x3,x4,x5,x6,x7,x8,x9,reduceCtorEq,↓reduceIte]
  have he:zaI (s.drop a)=if (zcy ((s.drop (a + 1)).length + 1) (s.drop (a + 1)) [] 0).1 ≠ 0 then ((zcy ((s.drop (a + 1)).length + 1) (s.drop (a + 1)) [] 0).1,0,[],0) else (0,3,(zcy ((s.drop (a + 1)).length + 1) (s.drop (a + 1)) [] 0).2.1,(zcy ((s.drop (a + 1)).length + 1) (s.drop (a + 1)) [] 0).2.2 + 1):=by
   rw [hdc,zaI,if_neg c1,if_pos hc]
  refine zal (zhi s a hs hlt _ rfl (fun hR => ?_) (fun hR => ?_))
  ·rw [if_pos hR] at he
   rw [he] at h1
   simp only [sxZ,z6,z7,z8,j5,j6,j7,j8,j9,x3,x4,x5,x6,x7,x8,x9,reduceCtorEq,↓reduceIte]
   exact h1 hR _ _ _
  ·rw [if_neg (by rw [hR]; simp)] at he
   rw [he] at h0
   simp only [sxZ,z6,z7,z8,j5,j6,j7,j8,j9,x3,x4,x5,x6,x7,x8,x9,reduceCtorEq,↓reduceIte]
   have:=h0 rfl
   rw [show a + ((zcy ((s.drop (a + 1)).length + 1) (s.drop (a + 1)) [] 0).2.2 + 1)=a + 1 + (zcy ((s.drop (a + 1)).length + 1) (s.drop (a + 1)) [] 0).2.2 by omega] at this
   exact this
 have hc:¬ s[a]=34:=fun h => c2 ((zbL (by decide)).2 h)
 have num:(s[a]=45 ∨ zai s[a]=true) → ∀ (e:Int) (x:List UInt8) (n:Nat),zcW (s.drop a)=n → zaI (s.drop a)=if n=0 then (130,0,[],0) else (0,4,(s.drop a).take n,n):=by
  rintro h e x n rfl
  conv => lhs; rw [hdc]
  rw [zaI,if_neg c1,if_neg hc,if_pos h,← hdc]
 have hnl:=ziC (s.drop a)
 rw [List.length_drop] at hnl
 by_cases c3:((s[a].toNat:Nat):Int)=45
 ·have he:=num (.inl ((zbL (by decide)).1 c3)) 0 [] _ rfl
  simp only [hi,c3,sxZ,z6,z7,z8,j5,j6,j7,j8,j9,x3,x4,x5,x6,x7,x8,x9,reduceCtorEq,↓reduceIte]
  refine zal (zds s a ha (by omega) ?_)
  generalize zcW (s.drop a)=n at *
  by_cases c4:n=0
  ·subst c4
   rw [if_pos rfl] at he
   rw [he] at h1
   simp only [Nat.add_zero,sxZ,z6,z7,z8,j5,j6,j7,j8,j9,x3,x4,x5,x6,x7,x8,x9,reduceCtorEq,↓reduceIte]
   exact h1 (by decide) _ _ _
  ·have c4':¬ ((a + n:Nat):Int)=a:=by omega
   rw [if_neg c4] at he
   rw [he] at h0
   simp only [c4',sxZ,z6,z7,z8,j5,j6,j7,j8,j9,x3,x4,x5,x6,x7,x8,x9,reduceCtorEq,↓reduceIte]
   rw [zd6]
   refine ⟨by omega,h0 rfl⟩
 have hc3:¬ s[a]=45:=fun h => c3 ((zbL (by decide)).2 h)
 simp only [hi,c2,c3,sxZ,z6,z7,z8,j5,j6,j7,j8,j9,x3,x4,x5,x6,x7,x8,x9,reduceCtorEq,↓reduceIte]
 refine zal (zkD s[a] ?_)
 by_cases c5:zai s[a]=true
 ·have he:=num (.inr c5) 0 [] _ rfl
  simp only [c5,sxZ,z6,z7,z8,j5,j6,j7,j8,j9,x3,x4,x5,x6,x7,x8,x9,reduceCtorEq,↓reduceIte]
  refine zal (zds s a ha (by omega) ?_)
  generalize zcW (s.drop a)=n at *
  by_cases c4:n=0
  ·subst c4
   rw [if_pos rfl] at he
   rw [he] at h1
   simp only [Nat.add_zero,sxZ,z6,z7,z8,j5,j6,j7,j8,j9,x3,x4,x5,x6,x7,x8,x9,reduceCtorEq,↓reduceIte]
   exact h1 (by decide) _ _ _
  ·have c4':¬ ((a + n:Nat):Int)=a:=by omega
   rw [if_neg c4] at he
   rw [he] at h0
   simp only [c4',sxZ,z6,z7,z8,j5,j6,j7,j8,j9,x3,x4,x5,x6,x7,x8,x9,reduceCtorEq,↓reduceIte]
   rw [zd6]
   refine ⟨by omega,h0 rfl⟩
 have he:zaI (s.drop a)=if (s.drop a).take (za5 (s.drop a))=[116,114,117,101] ∨ (s.drop a).take (za5 (s.drop a))=[102,97,108,115,101] ∨ (s.drop a).take (za5 (s.drop a))=[110,117,108,108] then (0,5,(s.drop a).take (za5 (s.drop a)),za5 (s.drop a)) else (130,0,[],0):=by
  conv => lhs; rw [hdc]
  rw [zaI,if_neg c1,if_neg hc,if_neg (fun h => h.elim hc3 c5),← hdc]
 simp only [c5,sxZ,z6,z7,z8,j5,j6,j7,j8,j9,x3,x4,x5,x6,x7,x8,x9,reduceCtorEq,↓reduceIte]
 subst hY1
 refine zaa fun Y1 hY1 => ?_
 simp only [sxZ,z6,z7,z8,j5,j6,j7,j8,j9,x3,x4,x5,x6,x7,x8,x9,reduceCtorEq,↓reduceIte]
 subst hY1
 refine zaa fun Y1 hY1 => ?_
 refine zaM (fun o t => ∃ i:Nat,i ≤ s.length ∧ a ≤ i ∧ o=[] ∧ a + za5 (s.drop a)=i ∧ t.length=89 ∧ t[0]? = some (.s s) ∧ t[1]? = some (.i .i64 a) ∧ t[13]? = some (.i .i64 i)) ?_ ?_
 ·simp only [sxZ,z6,z7,z8,j5,j6,j7,j8,j9,x3,x4,x5,x6,x7,x8,x9,reduceCtorEq,↓reduceIte]
  refine zaO (fun n objs tm => ∃ i:Nat,i ≤ s.length ∧ a ≤ i ∧ n=s.length - i ∧ objs=[] ∧ a + za5 (s.drop a)=i + za5 (s.drop i) ∧ tm.length=89 ∧ tm[0]? = some (.s s) ∧ tm[1]? = some (.i .i64 a) ∧ tm[13]? = some (.i .i64 i)) (s.length - a) ⟨a,ha,Nat.le_refl _,rfl,rfl,rfl,rfl,rfl,rfl,rfl⟩ ?_
  rintro n _ tm ⟨i,hil,hai,rfl,rfl,hr,hlen,t0,t1,t13⟩
  by_cases hlt2:(i:Int) < s.length
  ·have hlt':i < s.length:=by omega
   have hg2:=zaz hlt'
   have hrn:=word_at s i hlt'
   simp only [sxZ,z6,z7,z8,j5,j6,j7,j8,j9,x3,x4,x5,x6,x7,x8,x9,reduceCtorEq,↓reduceIte,List.getElem?_set,hlen,t0,t1,t13,hlt2]
   refine ⟨by omega,?_⟩
   rw [hg2]
   refine zal (aAlpha_k s[i] ?_)
   by_cases hd:zcY s[i]=true
   ·rw [if_pos hd] at hrn
    simp only [hd,sxZ,z6,z7,z8,j5,j6,j7,j8,j9,x3,x4,x5,x6,x7,x8,x9,reduceCtorEq,↓reduceIte,List.getElem?_set,hlen,t0,t1,t13]
    exact ⟨⟨by omega,by omega⟩,s.length - (i + 1),by omega,i + 1,by omega,by omega,rfl,by omega,rfl⟩
   ·rw [if_neg hd] at hrn
    simp only [Bool.not_eq_true] at hd
    simp only [hd,zbu,zab,sxZ,z6,z7,z8,j5,j6,j7,j8,j9,x3,x4,x5,x6,x7,x8,x9,reduceCtorEq,↓reduceIte,List.getElem?_set,hlen,t0,t1,t13]
    exact ⟨i,hil,hai,by omega,rfl⟩
  ·obtain rfl:i=s.length:=by omega
   have hw:za5 (s.drop s.length)=0:=by rw [List.drop_length]; rfl
   simp only [hlt2,zbu,zab,sxZ,z6,z7,z8,j5,j6,j7,j8,j9,x3,x4,x5,x6,x7,x8,x9,reduceCtorEq,↓reduceIte,List.getElem?_set,hlen,t0,t1,t13]
   exact ⟨s.length,hil,hai,by omega,rfl⟩
 rintro _ tm ⟨i,hil,hai,rfl,hw,hlen,t0,t1,t13⟩
 subst hY1
 have hx:(s.take i).drop a=(s.drop a).take (za5 (s.drop a)):=by
  have:=zd6 s a (za5 (s.drop a))
  rw [hw] at this
  exact this
 rw [← hx] at he
 simp only [sxZ,z6,z7,z8,j5,j6,j7,j8,j9,x3,x4,x5,x6,x7,x8,x9,reduceCtorEq,↓reduceIte,List.getElem?_set,hlen,t0,t1,t13]
 refine ⟨by omega,?_⟩
 generalize (s.take i).drop a=x at *
 rw [hw.symm] at *
 by_cases d1:x=[116,114,117,101]
 ·rw [if_pos (.inl d1)] at he
  rw [he] at h0
  simp only [d1,sxZ,z6,z7,z8,j5,j6,j7,j8,j9,x3,x4,x5,x6,x7,x8,x9,reduceCtorEq,↓reduceIte,List.getElem?_set,hlen,t0,t1,t13]
  rw [d1] at h0
  exact h0 rfl
 by_cases d2:x=[102,97,108,115,101]
 ·rw [if_pos (.inr (.inl d2))] at he
  rw [he] at h0
  have n1:¬ ([102,97,108,115,101]:List UInt8)=[116,114,117,101]:=by decide
  simp only [d2,n1,sxZ,z6,z7,z8,j5,j6,j7,j8,j9,x3,x4,x5,x6,x7,x8,x9,reduceCtorEq,↓reduceIte,List.getElem?_set,hlen,t0,t1,t13]
  rw [d2] at h0
  exact h0 rfl
 by_cases d3:x=[110,117,108,108]
 ·rw [if_pos (.inr (.inr d3))] at he
  rw [he] at h0
  have n1:¬ ([110,117,108,108]:List UInt8)=[116,114,117,101]:=by decide
  have n2:¬ ([110,117,108,108]:List UInt8)=[102,97,108,115,101]:=by decide
  simp only [d3,n1,n2,sxZ,z6,z7,z8,j5,j6,j7,j8,j9,x3,x4,x5,x6,x7,x8,x9,reduceCtorEq,↓reduceIte,List.getElem?_set,hlen,t0,t1,t13]
  rw [d3] at h0
  exact h0 rfl
 rw [if_neg (by rintro (h | h | h); exact d1 h; exact d2 h; exact d3 h)] at he
 rw [he] at h1
 simp only [d1,d2,d3,sxZ,z6,z7,z8,j5,j6,j7,j8,j9,x3,x4,x5,x6,x7,x8,x9,reduceCtorEq,↓reduceIte,List.getElem?_set,hlen,t0,t1,t13]
 exact h1 (by decide) _ _ _
theorem zlx (s:List UInt8) (a:Int) (hs:s.length ≤ 140737488351232) (hk:K objs (zmT (zaB s a))):zad Tryz.prog 21 [.s s,.i .i64 a] objs K:=by
 refine zbb is_token_Next rfl fun C _ => ?_
 unfold zaB zmT at hk
 by_cases c0:a < 0
 ·rw [if_pos (.inl c0)] at hk
  simp only [c0,c_token_Next,sxZ,z6,z7,z8,j5,j6,j7,j8,j9,x3,x4,x5,x6,x7,x8,x9,reduceCtorEq,↓reduceIte]
  exact hk
 by_cases c1:(s.length:Int) < a
 ·rw [if_pos (.inr c1)] at hk
  simp only [c0,c1,c_token_Next,sxZ,z6,z7,z8,j5,j6,j7,j8,j9,x3,x4,x5,x6,x7,x8,x9,reduceCtorEq,↓reduceIte]
  exact hk
 rw [if_neg (by omega)] at hk
 obtain ⟨a,rfl⟩:∃ n:Nat,a=n:=⟨a.toNat,by omega⟩
 rw [Int.toNat_natCast] at hk
 rw [c_token_Next]
 refine zaa fun Y1 hY1 => ?_
 simp only [sxZ,z6,z7,z8,j5,j6,j7,j8,j9,x3,x4,x5,x6,x7,x8,x9,reduceCtorEq,↓reduceIte]
 subst hY1
 refine zaa fun Y1 hY1 => ?_
 simp only [c0,c1,sxZ,z6,z7,z8,j5,j6,j7,j8,j9,x3,x4,x5,x6,x7,x8,x9,reduceCtorEq,↓reduceIte]
 subst hY1
 refine zaa fun Y1 hY1 => ?_
 have hwl:=zeQ (s.drop a)
 rw [List.length_drop] at hwl
 refine zaM (fun o t => o=[.box 51 [.i .i64 0,.s [],.i .i64 0]] ∧ t.length=49 ∧ t[0]? = some (.s s) ∧ t[1]? = some (.i .i64 ((a + zaS (s.drop a):Nat):Int)) ∧ t[4]? = some (.p 0 0)) ?_ ?_
 ·simp only [sxZ,z6,z7,z8,j5,j6,j7,j8,j9,x3,x4,x5,x6,x7,x8,x9,reduceCtorEq,↓reduceIte]
  refine zaO (fun n objs tm => ∃ i:Nat,i ≤ s.length ∧ n=s.length - i ∧ objs=[.box 51 [.i .i64 0,.s [],.i .i64 0]] ∧ a + zaS (s.drop a)=i + zaS (s.drop i) ∧ tm.length=49 ∧ tm[0]? = some (.s s) ∧ tm[1]? = some (.i .i64 i) ∧ tm[4]? = some (.p 0 0)) (s.length - a) ⟨a,by omega,rfl,rfl,rfl,rfl,rfl,rfl,rfl⟩ ?_
  rintro n _ tm ⟨i,hil,rfl,rfl,hr,hlen,t0,t1,t4⟩
  by_cases hlt2:(i:Int) < s.length
  ·have hlt':i < s.length:=by omega
   have hg2:=zaz hlt'
   have hrn:=white_at s i hlt'
   simp only [sxZ,z6,z7,z8,j5,j6,j7,j8,j9,x3,x4,x5,x6,x7,x8,x9,reduceCtorEq,↓reduceIte,List.getElem?_set,hlen,t0,t1,t4,hlt2]
   refine ⟨by omega,?_⟩
   rw [hg2]
   refine zal (znE s[i] ?_)
   by_cases hd:zbs s[i]=true
   ·rw [if_pos hd] at hrn
    simp only [hd,sxZ,z6,z7,z8,j5,j6,j7,j8,j9,x3,x4,x5,x6,x7,x8,x9,reduceCtorEq,↓reduceIte,List.getElem?_set,hlen,t0,t1,t4]
    exact ⟨⟨by omega,by omega⟩,s.length - (i + 1),by omega,i + 1,by omega,rfl,by omega,rfl⟩
   ·rw [if_neg hd] at hrn
    simp only [Bool.not_eq_true] at hd
    simp only [hd,zbu,zab,sxZ,z6,z7,z8,j5,j6,j7,j8,j9,x3,x4,x5,x6,x7,x8,x9,reduceCtorEq,↓reduceIte,List.getElem?_set,hlen,t0,t1,t4]
    rw [hr,hrn]; rfl
  ·obtain rfl:i=s.length:=by omega
   have hw:zaS (s.drop s.length)=0:=by rw [List.drop_length]; rfl
   simp only [hlt2,zbu,zab,sxZ,z6,z7,z8,j5,j6,j7,j8,j9,x3,x4,x5,x6,x7,x8,x9,reduceCtorEq,↓reduceIte,List.getElem?_set,hlen,t0,t1,t4]
   rw [hr,hw]; rfl
 rintro _ tm ⟨rfl,hlen,t0,t1,t4⟩
 subst hY1
 have hwl:a + zaS (s.drop a) ≤ s.length:=by omega
 generalize a + zaS (s.drop a)=i at *
 simp only [sxZ,z6,z7,z8,j5,j6,j7,j8,j9,x3,x4,x5,x6,x7,x8,x9,reduceCtorEq,↓reduceIte,List.getElem?_set,hlen,t0,t1,t4]
 refine zal (read_k s i hs hwl (fun hR kd t b => ?_) (fun hR => ?_))
 ·rw [if_pos hR] at hk
  simp only [hR,sxZ,z6,z7,z8,j5,j6,j7,j8,j9,x3,x4,x5,x6,x7,x8,x9,reduceCtorEq,↓reduceIte,List.getElem?_set,hlen,t0,t1,t4]
  exact hk
 ·rw [if_neg (by rw [hR]; simp)] at hk
  simp only [sxZ,z6,z7,z8,j5,j6,j7,j8,j9,x3,x4,x5,x6,x7,x8,x9,reduceCtorEq,↓reduceIte,List.getElem?_set,hlen,t0,t1,t4]
  exact hk
end
theorem rn_condH {P:Program} [Tabs P] {C:Cx} {F:zaF} {k:List IT} {objs:List OB} {tm:List AV} {c:SV} {x y:SCode} (h:∀ X,X=x → run P C (.code (.cond c X y) :: k) objs tm F):run P C (.code (.cond c x y) :: k) objs tm F:=h x rfl
section
variable [Tabs Tryz.prog] {objs:List OB} {K:List OB → AV → Prop}
theorem zis (s:List UInt8) (a:Nat) (hk:K objs (.s (s.drop a))):zad Tryz.prog 68 [.s s,.i .i64 (a:Nat)] objs K:=by
 refine zbb is_ref13_tail rfl fun C _ => ?_
 by_cases c0:(s.length:Int) ≤ a
 ·rw [List.drop_of_length_le (by omega)] at hk
  simp only [c0,c_ref13_tail,sxZ,z6,z7,z8,j5,j6,j7,j8,j9,x3,x4,x5,x6,x7,x8,x9,reduceCtorEq,↓reduceIte]
  exact hk
 ·simp only [c0,c_ref13_tail,sxZ,z6,z7,z8,j5,j6,j7,j8,j9,x3,x4,x5,x6,x7,x8,x9,reduceCtorEq,↓reduceIte]
  exact ⟨by omega,hk⟩
theorem zlT (s:List UInt8) (hs:s.length ≤ 9000000000000000000) (hk:K objs (.i .i64 (zaL s:Nat))):zad Tryz.prog 90 [.s s] objs K:=by
 refine zbb is_ref13_run rfl fun C _ => ?_
 simp only [c_ref13_run,sxZ,z6,z7,z8,j5,j6,j7,j8,j9,x3,x4,x5,x6,x7,x8,x9,reduceCtorEq,↓reduceIte]
 refine zaO (fun n objs tm => ∃ i:Nat,i ≤ s.length ∧ n=s.length - i ∧ objs=[] ∧ zaL s=i + zaL (s.drop i) ∧ tm.length=17 ∧ tm[0]? = some (.s s) ∧ tm[3]? = some (.i .i64 i)) s.length ⟨0,Nat.zero_le _,rfl,rfl,by simp,rfl,rfl,rfl⟩ ?_
 rintro n _ tm ⟨i,hi,rfl,rfl,hr,hlen,t0,t3⟩
 by_cases hlt:(i:Int) < s.length
 ·have hlt':i < s.length:=by omega
  have hg:=zaz hlt'
  have hrn:=zlQ s i hlt'
  simp only [sxZ,z6,z7,z8,j5,j6,j7,j8,j9,x3,x4,x5,x6,x7,x8,x9,reduceCtorEq,↓reduceIte,List.getElem?_set,hlen,t0,t3,hlt]
  refine ⟨by omega,?_⟩
  rw [hg]
  refine zal (zhl s[i] ?_)
  by_cases hd:zai s[i]=true
  ·rw [if_pos hd] at hrn
   simp only [hd,sxZ,z6,z7,z8,j5,j6,j7,j8,j9,x3,x4,x5,x6,x7,x8,x9,reduceCtorEq,↓reduceIte,List.getElem?_set,hlen,t0,t3]
   exact ⟨⟨by omega,by omega⟩,s.length - (i + 1),by omega,i + 1,by omega,rfl,by omega,rfl⟩
  ·rw [if_neg hd] at hrn
   simp only [Bool.not_eq_true] at hd
   simp only [hd,sxZ,z6,z7,z8,j5,j6,j7,j8,j9,x3,x4,x5,x6,x7,x8,x9,reduceCtorEq,↓reduceIte,List.getElem?_set,hlen,t0,t3]
   rw [hr,hrn] at hk
   exact hk
 ·obtain rfl:i=s.length:=by omega
  simp only [sxZ,z6,z7,z8,j5,j6,j7,j8,j9,x3,x4,x5,x6,x7,x8,x9,reduceCtorEq,↓reduceIte,List.getElem?_set,hlen,t0,t3,hlt]
  rw [hr,zlP] at hk
  exact hk
set_option maxHeartbeats 4000000 in
theorem zkO (s:List UInt8) (hs:s.length ≤ 140737488351232) (hk:K objs (.i .i64 (zcW s:Nat))):zad Tryz.prog 65 [.s s] objs K:=by
 refine zbb is_ref13_numeral rfl fun C _ => ?_
 have hmx:=zbB
 rw [c_ref13_numeral]
 refine zaa fun Y1 hY1 => ?_
 simp only [sxZ,z6,z7,z8,j5,j6,j7,j8,j9,x3,x4,x5,x6,x7,x8,x9,reduceCtorEq,↓reduceIte]
 subst hY1
 refine zaa fun Y1 hY1 => ?_
 simp only [sxZ,z6,z7,z8,j5,j6,j7,j8,j9,x3,x4,x5,x6,x7,x8,x9,reduceCtorEq,↓reduceIte]
 subst hY1
 refine zaa fun Y1 hY1 => ?_
 refine zaM (fun o t => o=[] ∧ t.length=99 ∧ t[0]? = some (.s s) ∧ t[3]? = some (.i .i64 (zaY s:Nat))) ?_ ?_
 ·unfold zaY
  by_cases c1:(0:Int) < s.length
  ·have c1':0 < s.length:=by omega
   have hg:=zaz c1'
   have h45:s[0]? = some 45 ↔ ((s[0].toNat:Nat):Int)=45:=zem c1' 45 (by decide)
   by_cases c2:((s[0].toNat:Nat):Int)=45
   ·rw [if_pos (h45.2 c2)]
    simp only [c1,hg,c2,zab,sxZ,z6,z7,z8,j5,j6,j7,j8,j9,x3,x4,x5,x6,x7,x8,x9,reduceCtorEq,↓reduceIte]
    rfl
   ·rw [if_neg (fun h => c2 (h45.1 h))]
    simp only [c1,hg,c2,zab,sxZ,z6,z7,z8,j5,j6,j7,j8,j9,x3,x4,x5,x6,x7,x8,x9,reduceCtorEq,↓reduceIte]
    rfl
  ·rw [if_neg (zbg (by omega))]
   simp only [c1,zab,sxZ,z6,z7,z8,j5,j6,j7,j8,j9,x3,x4,x5,x6,x7,x8,x9,reduceCtorEq,↓reduceIte]
   rfl
 rintro _ tm ⟨rfl,hlen,t0,t3⟩
 subst hY1
 have hsg:zaY s ≤ s.length:=by
  unfold zaY
  split
  ·rename_i h
   have:=(List.getElem?_eq_some_iff.1 h).1
   omega
  ·omega
 refine zaa fun Y1 hY1 => ?_
 unfold zcW at hk
 have hw:zaA s=if s[zaY s]? = some 48 then zaY s + 1 else zaY s + zaL (s.drop (zaY s)):=rfl
 have hrl:0 < zaL (s.drop (zaY s)) → zaY s + zaL (s.drop (zaY s)) ≤ s.length:=zaH s _
 generalize zaY s=g at *
 by_cases c0:(g:Int)=s.length
 ·have hr0:zaL (s.drop g)=0:=by rw [List.drop_of_length_le (by omega)]; rfl
  rw [if_pos hr0] at hk
  simp only [c0,sxZ,z6,z7,z8,j5,j6,j7,j8,j9,x3,x4,x5,x6,x7,x8,x9,reduceCtorEq,↓reduceIte,List.getElem?_set,hlen,t0,t3]
  exact hk
 have c1':g < s.length:=by omega
 have hg:=zaz c1'
 have hrun:=zlQ s g c1'
 simp only [c0,hg,sxZ,z6,z7,z8,j5,j6,j7,j8,j9,x3,x4,x5,x6,x7,x8,x9,reduceCtorEq,↓reduceIte,List.getElem?_set,hlen,t0,t3]
 refine ⟨by omega,?_⟩
 refine zal (zhl s[g] ?_)
 by_cases c2:zai s[g]=true
 case neg =>
  rw [if_neg c2] at hrun
  rw [if_pos hrun] at hk
  simp only [Bool.not_eq_true] at c2
  simp only [c2,sxZ,z6,z7,z8,j5,j6,j7,j8,j9,x3,x4,x5,x6,x7,x8,x9,reduceCtorEq,↓reduceIte,List.getElem?_set,hlen,t0,t3]
  exact hk
 rw [if_pos c2] at hrun
 rw [if_neg (by omega)] at hk
 simp only [c2,sxZ,z6,z7,z8,j5,j6,j7,j8,j9,x3,x4,x5,x6,x7,x8,x9,reduceCtorEq,↓reduceIte,List.getElem?_set,hlen,t0,t3]
 subst hY1
 refine zaa fun Y1 hY1 => ?_
 refine zaM (fun o t => o=[] ∧ t.length=99 ∧ t[0]? = some (.s s) ∧ t[3]? = some (.i .i64 (zaA s:Nat))) ?_ ?_
 ·have h48:s[g]? = some 48 ↔ ((s[g].toNat:Nat):Int)=48:=zem c1' 48 (by decide)
  rw [hw]
  by_cases c3:((s[g].toNat:Nat):Int)=48
  ·rw [if_pos (h48.2 c3)]
   simp only [hg,c3,zab,sxZ,z6,z7,z8,j5,j6,j7,j8,j9,x3,x4,x5,x6,x7,x8,x9,reduceCtorEq,↓reduceIte,List.getElem?_set,hlen,t0,t3]
   and_intros <;> first | omega | exact iv (by omega) | rfl | assumption
  ·rw [if_neg (fun h => c3 (h48.1 h))]
   simp only [hg,c3,zab,sxZ,z6,z7,z8,j5,j6,j7,j8,j9,x3,x4,x5,x6,x7,x8,x9,reduceCtorEq,↓reduceIte,List.getElem?_set,hlen,t0,t3]
   refine ⟨by omega,by omega,?_⟩
   refine zal (zlT _ (by rw [List.length_drop]; omega) ?_)
   have:=hrl (by omega)
   simp only [zab,sxZ,z6,z7,z8,j5,j6,j7,j8,j9,x3,x4,x5,x6,x7,x8,x9,reduceCtorEq,↓reduceIte,List.getElem?_set,hlen,t0,t3]
   and_intros <;> first | omega | exact iv (by omega) | rfl | assumption
 rintro _ tm ⟨rfl,hlen,t0,t3⟩
 subst hY1
 refine zaa fun Y1 hY1 => ?_
 have hwl:zaA s ≤ s.length:=by
  rw [hw]
  have:=hrl (by omega)
  split <;> omega
 have hf:zbx s (zaA s)=if s[zaA s]? = some 46 ∧ 0 < zaL (s.drop (zaA s + 1)) then zaA s + 1 + zaL (s.drop (zaA s + 1)) else zaA s:=rfl
 generalize zaA s=w at *
 clear hw hrl hrun hg c2 c0 c1'
 refine zaM (fun o t => o=[] ∧ t.length=99 ∧ t[0]? = some (.s s) ∧ t[3]? = some (.i .i64 (zbx s w:Nat))) ?_ ?_
 ·rw [hf]
  simp only [sxZ,z6,z7,z8,j5,j6,j7,j8,j9,x3,x4,x5,x6,x7,x8,x9,reduceCtorEq,↓reduceIte,List.getElem?_set,hlen,t0,t3]
  refine ⟨by omega,?_⟩
  refine zal (zis s (w + 1) ?_)
  simp only [sxZ,z6,z7,z8,j5,j6,j7,j8,j9,x3,x4,x5,x6,x7,x8,x9,reduceCtorEq,↓reduceIte,List.getElem?_set,hlen,t0,t3]
  refine zal (zlT _ (by rw [List.length_drop]; omega) ?_)
  have hr:=zaH s (w + 1)
  generalize zaL (s.drop (w + 1))=r at *
  by_cases c1:(w:Int) < s.length
  ·have c1':w < s.length:=by omega
   have hg:=zaz c1'
   have h46:s[w]? = some 46 ↔ ((s[w].toNat:Nat):Int)=46:=zem c1' 46 (by decide)
   by_cases c2:((s[w].toNat:Nat):Int)=46
   ·by_cases c3:0 < r
    ·rw [if_pos ⟨h46.2 c2,c3⟩]
     have c3':(0:Int) < r:=by omega
     simp only [c1,hg,c2,c3',zab,sxZ,z6,z7,z8,j5,j6,j7,j8,j9,x3,x4,x5,x6,x7,x8,x9,reduceCtorEq,↓reduceIte,List.getElem?_set,hlen,t0,t3]
     and_intros <;> first | omega | exact iv (by omega) | rfl | assumption
    ·rw [if_neg (fun h => c3 h.2)]
     have c3':¬ (0:Int) < r:=by omega
     simp only [c1,hg,c2,c3',zab,sxZ,z6,z7,z8,j5,j6,j7,j8,j9,x3,x4,x5,x6,x7,x8,x9,reduceCtorEq,↓reduceIte,List.getElem?_set,hlen,t0,t3]
     and_intros <;> first | omega | exact iv (by omega) | rfl | assumption
   ·rw [if_neg (fun h => c2 (h46.1 h.1))]
    simp only [c1,hg,c2,zab,sxZ,z6,z7,z8,j5,j6,j7,j8,j9,x3,x4,x5,x6,x7,x8,x9,reduceCtorEq,↓reduceIte,List.getElem?_set,hlen,t0,t3]
    and_intros <;> first | omega | exact iv (by omega) | rfl | assumption
  ·rw [if_neg (fun h => zbg (by omega) h.1)]
   simp only [c1,zab,sxZ,z6,z7,z8,j5,j6,j7,j8,j9,x3,x4,x5,x6,x7,x8,x9,reduceCtorEq,↓reduceIte,List.getElem?_set,hlen,t0,t3]
 rintro _ tm ⟨rfl,hlen,t0,t3⟩
 subst hY1
 refine zaa fun Y1 hY1 => ?_
 have hfl:zbx s w ≤ s.length:=by
  rw [hf]
  split
  ·rename_i h
   have:=zaH s (w + 1) h.2
   omega
  ·exact hwl
 generalize zbx s w=f at *
 clear hf
 have hx:zaP s f=if s[f + 1]? = some 43 ∨ s[f + 1]? = some 45 then f + 2 else f + 1:=rfl
 have he:ziQ s f=if (s[f]? = some 101 ∨ s[f]? = some 69) ∧ 0 < zaL (s.drop (zaP s f)) then zaP s f + zaL (s.drop (zaP s f)) else f:=rfl
 have in2:∀ (i:Nat) (hi:i < s.length) (x y:UInt8),zbG s[i] [x,y]=decide (s[i]? = some x ∨ s[i]? = some y):=by
  intro i hi x y
  rw [List.getElem?_eq_getElem hi]
  simp [zbG,eq_comm]
 refine zaM (fun o t => o=[] ∧ t.length=99 ∧ t[3]? = some (.i .i64 (ziQ s f:Nat))) ?_ ?_
 ·refine zaa fun Y2 hY2 => ?_
  refine zaM (fun o t => o=[] ∧ t.length=99 ∧ t[0]? = some (.s s) ∧ t[3]? = some (.i .i64 (f:Nat)) ∧ t[74]? = some (.b (decide (s[f]? = some 101 ∨ s[f]? = some 69)))) ?_ ?_
  ·by_cases c1:(f:Int) < s.length
   ·have c1':f < s.length:=by omega
    have hg:=zaz c1'
    simp only [c1,hg,sxZ,z6,z7,z8,j5,j6,j7,j8,j9,x3,x4,x5,x6,x7,x8,x9,reduceCtorEq,↓reduceIte,List.getElem?_set,hlen,t0,t3]
    refine ⟨by omega,?_⟩
    refine zal (zmn _ _ (by decide) ?_)
    rw [in2 f c1']
    generalize decide (s[f]? = some 101 ∨ s[f]? = some 69)=E
    simp only [zab,sxZ,z6,z7,z8,j5,j6,j7,j8,j9,x3,x4,x5,x6,x7,x8,x9,reduceCtorEq,↓reduceIte,List.getElem?_set,hlen,t0,t3]
   ·have hE:¬ (s[f]? = some 101 ∨ s[f]? = some 69):=fun h => h.elim (zbg (by omega)) (zbg (by omega))
    simp only [c1,hE,zab,sxZ,z6,z7,z8,j5,j6,j7,j8,j9,x3,x4,x5,x6,x7,x8,x9,reduceCtorEq,↓reduceIte,List.getElem?_set,hlen,t0,t3]
  rintro _ tm ⟨rfl,hlen,t0,t3,t74⟩
  subst hY2
  refine rn_condH fun X hX => ?_
  by_cases hE:s[f]? = some 101 ∨ s[f]? = some 69
  case neg =>
   rw [he,if_neg (fun h => hE h.1)]
   simp only [hE,zab,sxZ,z6,z7,z8,j5,j6,j7,j8,j9,x3,x4,x5,x6,x7,x8,x9,reduceCtorEq,↓reduceIte,List.getElem?_set,hlen,t0,t3,t74]
  have c1':f < s.length:=by
   rcases hE with h | h
   all_goals exact (List.getElem?_eq_some_iff.1 h).1
  simp only [hE,sxZ,z6,z7,z8,j5,j6,j7,j8,j9,x3,x4,x5,x6,x7,x8,x9,reduceCtorEq,↓reduceIte,List.getElem?_set,hlen,t0,t3,t74]
  subst hX
  refine zaa fun Y2 hY2 => ?_
  refine zaM (fun o t => o=[] ∧ t.length=99 ∧ t[0]? = some (.s s) ∧ t[3]? = some (.i .i64 (f:Nat)) ∧ t[5]? = some (.i .i64 ((f:Int) + 1))) ?_ ?_
  ·simp only [zab,sxZ,z6,z7,z8,j5,j6,j7,j8,j9,x3,x4,x5,x6,x7,x8,x9,reduceCtorEq,↓reduceIte,List.getElem?_set,hlen,t0,t3]
   and_intros <;> first | omega | exact iv (by omega) | rfl | assumption
  rintro _ tm ⟨rfl,hlen,t0,t3,t5⟩
  subst hY2
  refine zaa fun Y2 hY2 => ?_
  refine zaM (fun o t => o=[] ∧ t.length=99 ∧ t[0]? = some (.s s) ∧ t[3]? = some (.i .i64 (f:Nat)) ∧ t[5]? = some (.i .i64 (zaP s f:Nat))) ?_ ?_
  ·rw [hx]
   by_cases d1:(f:Int) + 1 < s.length
   ·have d1':f + 1 < s.length:=by omega
    have hg2:=zaz d1'
    have e1:((f:Int) + 1).toNat=f + 1:=by omega
    simp only [d1,e1,hg2,sxZ,z6,z7,z8,j5,j6,j7,j8,j9,x3,x4,x5,x6,x7,x8,x9,reduceCtorEq,↓reduceIte,List.getElem?_set,hlen,t0,t3,t5]
    refine ⟨by omega,?_⟩
    refine zal (zmn _ _ (by decide) ?_)
    rw [in2 (f + 1) d1']
    by_cases c4:s[f + 1]? = some 43 ∨ s[f + 1]? = some 45
    ·rw [if_pos c4]
     simp only [c4,zab,sxZ,z6,z7,z8,j5,j6,j7,j8,j9,x3,x4,x5,x6,x7,x8,x9,reduceCtorEq,↓reduceIte,List.getElem?_set,hlen,t0,t3,t5]
     and_intros <;> first | omega | exact iv (by omega) | rfl | assumption
    ·rw [if_neg c4]
     simp only [c4,zab,sxZ,z6,z7,z8,j5,j6,j7,j8,j9,x3,x4,x5,x6,x7,x8,x9,reduceCtorEq,↓reduceIte,List.getElem?_set,hlen,t0,t3,t5]
     and_intros <;> first | omega | exact iv (by omega) | rfl | assumption
   ·rw [if_neg (fun h => h.elim (zbg (by omega)) (zbg (by omega)))]
    simp only [d1,zab,sxZ,z6,z7,z8,j5,j6,j7,j8,j9,x3,x4,x5,x6,x7,x8,x9,reduceCtorEq,↓reduceIte,List.getElem?_set,hlen,t0,t3,t5]
    and_intros <;> first | omega | exact iv (by omega) | rfl | assumption
  rintro _ tm ⟨rfl,hlen,t0,t3,t5⟩
  subst hY2
  have hxl:zaP s f ≤ s.length:=by
   rw [hx]
   split
   ·rename_i h
    rcases h with h | h
    all_goals
     have:=(List.getElem?_eq_some_iff.1 h).1
     omega
   ·omega
  have hrl:=zaH s (zaP s f)
  generalize zaP s f=x at *
  simp only [sxZ,z6,z7,z8,j5,j6,j7,j8,j9,x3,x4,x5,x6,x7,x8,x9,reduceCtorEq,↓reduceIte,List.getElem?_set,hlen,t0,t3,t5]
  refine zal (zis s x ?_)
  simp only [sxZ,z6,z7,z8,j5,j6,j7,j8,j9,x3,x4,x5,x6,x7,x8,x9,reduceCtorEq,↓reduceIte,List.getElem?_set,hlen,t0,t3,t5]
  refine zal (zlT _ (by rw [List.length_drop]; omega) ?_)
  generalize zaL (s.drop x)=r at *
  rw [he]
  by_cases c4:0 < r
  ·rw [if_pos ⟨hE,c4⟩]
   have c4':(0:Int) < r:=by omega
   simp only [c4',zab,sxZ,z6,z7,z8,j5,j6,j7,j8,j9,x3,x4,x5,x6,x7,x8,x9,reduceCtorEq,↓reduceIte,List.getElem?_set,hlen,t0,t3,t5]
   and_intros <;> first | omega | exact iv (by omega) | rfl | assumption
  ·rw [if_neg (fun h => c4 h.2)]
   have c4':¬ (0:Int) < r:=by omega
   simp only [c4',zab,sxZ,z6,z7,z8,j5,j6,j7,j8,j9,x3,x4,x5,x6,x7,x8,x9,reduceCtorEq,↓reduceIte,List.getElem?_set,hlen,t0,t3,t5]
 rintro _ tm ⟨rfl,hlen,t3⟩
 subst hY1
 simp only [sxZ,z6,z7,z8,j5,j6,j7,j8,j9,x3,x4,x5,x6,x7,x8,x9,reduceCtorEq,↓reduceIte,List.getElem?_set,hlen,t3]
 exact hk
end
end Go.Proofs.YthmdohgkmdkeeaaGreatDoor
namespace Go.Proofs.YthmdohgkmdkeeaaGreatDoor
open Go.RowKit
theorem read_quo {l:List UInt8} {e:Int} {x:List UInt8} {n:Nat} (h:zcy (l.length + 1) l [] 0=(e,x,n)):zaI (34 :: l)=if e ≠ 0 then (e,0,[],0) else (0,3,x,n + 1):=by
 rw [zaI,if_neg (by decide),if_pos rfl,h]
end Go.Proofs.YthmdohgkmdkeeaaGreatDoor
namespace Go.Proofs.YthmdohgkmdkeeaaGreatDoor
open Go.RowKit Sx
theorem zlt {p:NumS} (hp:p.Good):p.neg=decide (p.txt[0]? = some 45):=by
 obtain ⟨c,t,e1,e2⟩:=zbC hp.i0 hp.i1
 unfold NumS.txt
 cases p.neg with
 | true => rfl
 | false =>
  rw [e1]
  have:c ≠ 45:=zbd e2 rfl
  simp [sgT,this]
theorem num_uniq {p q:NumS} (hp:p.Good) (hq:q.Good) (h:p.txt=q.txt):p=q:=by
 have hn:p.neg=q.neg:=by rw [zlt hp,zlt hq,h]
 unfold NumS.txt at h
 rw [hn] at h
 have h:=List.append_cancel_left h
 have r1:=zb7 p.int _ hp.i1 (ze7 hp)
 have r2:=zb7 q.int _ hq.i1 (ze7 hq)
 rw [h,r2] at r1
 obtain ⟨hi,hR⟩:=List.append_inj h r1.symm
 have hx:p.fr=q.fr ∧ exT p.ex=exT q.ex:=by
  cases h1:p.fr with
  | nil =>
   cases h2:q.fr with
   | nil => rw [h1,h2] at hR; exact ⟨rfl,hR⟩
   | cons b u =>
    rw [h1,h2] at hR
    exfalso
    rcases zdY hp 46 (by rw [show exT p.ex=frT (b :: u) ++ exT q.ex from hR]; rfl) with h3 | h3 <;> cases h3
  | cons a t =>
   cases h2:q.fr with
   | nil =>
    rw [h1,h2] at hR
    exfalso
    rcases zdY hq 46 (by rw [show exT q.ex=frT (a :: t) ++ exT p.ex from hR.symm]; rfl) with h3 | h3 <;> cases h3
   | cons b u =>
    rw [h1,h2] at hR
    have hR:(46:UInt8) :: ((a :: t) ++ exT p.ex)=46 :: ((b :: u) ++ exT q.ex):=hR
    injection hR with _ hR
    have hd:∀ {r:NumS},r.Good → ∀ c,(exT r.ex)[0]? = some c → zai c=false:=fun hr c h => by
     rcases zdY hr c h with rfl | rfl <;> rfl
    have k1:=zb7 (a :: t) _ (by rw [← h1]; exact hp.f1) (hd hp)
    have k2:=zb7 (b :: u) _ (by rw [← h2]; exact hq.f1) (hd hq)
    rw [hR,k2] at k1
    exact List.append_inj hR k1.symm
 have he:p.ex=q.ex:=by
  have h3:=hx.2
  cases h1:p.ex with
  | none =>
   cases h2:q.ex with
   | none => rfl
   | some e => obtain ⟨c,s,d⟩:=e; rw [h1,h2] at h3; cases h3
  | some e =>
   obtain ⟨c,s,d⟩:=e
   cases h2:q.ex with
   | none => rw [h1,h2] at h3; cases h3
   | some e' =>
    obtain ⟨c',s',d'⟩:=e'
    have k1:=(ziR 0 hp h1).2
    have k2:=(ziR 0 hq h2).2
    rw [h1,h2] at h3
    have h3:c :: (s ++ d)=c' :: (s' ++ d'):=h3
    injection h3 with e1 e2
    rw [e2,k2] at k1
    subst k1
    rw [e1,List.append_cancel_right e2]
 obtain ⟨pn,pi,pf,pe⟩:=p
 obtain ⟨qn,qi,qf,qe⟩:=q
 simp only at hn hi hx he
 rw [hn,hi,hx.1,he]
section
variable [Tabs Tryz.prog] {objs:List OB} {K:List OB → AV → Prop}
end
end Go.Proofs.YthmdohgkmdkeeaaGreatDoor
namespace Go.Proofs.YthmdohgkmdkeeaaGreatDoor
open Nat renaming reduceAdd → z6, reduceSub → z7, reduceLeDiff → z8, reduceLT → j5, reduceMul → j6, reduceEqDiff → j7
open Int renaming reduceToNat → j8, reduceAdd → j9, reduceSub → x3, reduceMul → x4, reduceNeg → x5, reduceLT → x6, reduceLE → x7, reduceEq → x8, reduceNe → x9
open Go.RowKit Sx
theorem minV_at (c:Nat) (l:List UInt8) (i n:Nat) (h:i < l.length):ziE c (l.drop i) n=ziE c (l.drop (i + 1)) (min (n * 10 + (l[i].toNat - 48)) c):=by
 rw [List.drop_eq_getElem_cons h,ziE]
theorem zos {p:NumS} (hp:p.Good):zk3 p.body [101,69]=(p.int ++ frT p.fr).length:=by
 have hno:(p.int ++ frT p.fr).findIdx (fun c => zbG c [101,69])=(p.int ++ frT p.fr).length:=by
  rw [List.findIdx_eq_length]
  intro c hc
  rcases List.mem_append.1 hc with h | h
  ·exact (zbD (List.all_eq_true.1 hp.i1 c h)).2.1
  ·exact (ziP hp.f1 c h).2
 unfold zk3 NumS.body
 rw [← List.append_assoc,List.findIdx_append,hno,if_neg (by omega)]
 cases he:p.ex with
 | none => simp [exT]
 | some e =>
  obtain ⟨k,s,d⟩:=e
  have:(exT (some (k,s,d))).findIdx (fun c => zbG c [101,69])=0:=by
   unfold exT
   rw [List.findIdx_cons]
   rcases (hp.e1 k s d he).1 with rfl | rfl <;> rfl
  rw [this,Nat.zero_add]
theorem zh0 (p:NumS):p.body.take (p.int ++ frT p.fr).length=p.int ++ frT p.fr:=by
 unfold NumS.body
 rw [← List.append_assoc,List.take_left]
theorem body_exp {p:NumS} (hp:p.Good) (c:Nat):expC c (p.body.drop ((p.int ++ frT p.fr).length + 1))=zey c p.ex ∧ (zd9 (p.body.drop ((p.int ++ frT p.fr).length + 1))).all zai=true:=by
 have hd:p.body.drop ((p.int ++ frT p.fr).length + 1)=(exT p.ex).drop 1:=by
  unfold NumS.body
  rw [← List.append_assoc,← List.drop_drop,List.drop_left]
 rw [hd]
 cases he:p.ex with
 | none => exact ⟨rfl,rfl⟩
 | some e =>
  obtain ⟨k,s,d⟩:=e
  have h:=ziR c hp he
  have h4:=(hp.e1 k s d he).2.2.2
  rw [he] at h
  show expC c (s ++ d)=_ ∧ (zd9 (s ++ d)).all zai=true
  rw [h.2]
  exact ⟨h.1,h4⟩
theorem zR_last {l:List UInt8} (h:l ≠ []) (h2:l.getLast h ≠ 48):zR l=l:=by
 unfold zR
 rw [zL_id,List.reverse_reverse]
 intro c hc
 rw [← List.head?_eq_getElem?,List.head?_reverse,List.getLast?_eq_some_getLast h] at hc
 injection hc with hc
 rw [← hc]; exact h2
section
variable [Tabs Tryz.prog] {objs:List OB} {K:List OB → AV → Prop}
set_option maxHeartbeats 2000000 in
theorem zit (l:List UInt8) (hl:l.length ≤ 140737488351232) (hd:(zd9 l).all zai=true) (hk:K objs (.i .i64 (expC 1073741824 l))):zad Tryz.prog 67 [.s l] objs K:=by
 refine zbb is_ref13_exponent rfl fun C _ => ?_
 rw [c_ref13_exponent]
 refine zaa fun Y1 hY1 => ?_
 simp only [sxZ,z6,z7,z8,j5,j6,j7,j8,j9,x3,x4,x5,x6,x7,x8,x9,reduceCtorEq,↓reduceIte]
 subst hY1
 refine zaa fun Y1 hY1 => ?_
 refine zaM (fun o t => o=[] ∧ t.length=41 ∧ t[0]? = some (.s l) ∧ t[3]? = some (.b (negE l))) ?_ ?_
 ·unfold negE
  by_cases c0:l=[]
  ·subst c0
   simp [zab,sxZ,z6,z7,z8,j5,j6,j7,j8,j9,x3,x4,x5,x6,x7,x8,x9,reduceCtorEq,↓reduceIte]
  ·have l0:0 < l.length:=List.length_pos_iff.2 c0
   have g0:=zaz l0
   have h45:l[0]? = some 45 ↔ ((l[0].toNat:Nat):Int)=45:=zem l0 45 (by decide)
   simp only [c0,g0,zab,sxZ,z6,z7,z8,j5,j6,j7,j8,j9,x3,x4,x5,x6,x7,x8,x9,reduceCtorEq,↓reduceIte]
   refine ⟨by omega,?_⟩
   by_cases c1:((l[0].toNat:Nat):Int)=45
   ·rw [decide_eq_true c1,decide_eq_true (h45.2 c1)]
   ·rw [decide_eq_false c1,decide_eq_false (fun h => c1 (h45.1 h))]
 rintro _ tm ⟨rfl,hlen,t0,t3⟩
 subst hY1
 refine zaa fun Y1 hY1 => ?_
 refine zaM (fun o t => o=[] ∧ t.length=41 ∧ t[0]? = some (.s (zd9 l)) ∧ t[3]? = some (.b (negE l))) ?_ ?_
 ·unfold zd9
  by_cases c0:l=[]
  ·subst c0
   simp only [zab,sxZ,z6,z7,z8,j5,j6,j7,j8,j9,x3,x4,x5,x6,x7,x8,x9,reduceCtorEq,↓reduceIte,List.getElem?_set,hlen,t0,t3]
   rfl
  ·have l0:0 < l.length:=List.length_pos_iff.2 c0
   have g0:=zaz l0
   simp only [c0,g0,sxZ,z6,z7,z8,j5,j6,j7,j8,j9,x3,x4,x5,x6,x7,x8,x9,reduceCtorEq,↓reduceIte,List.getElem?_set,hlen,t0,t3]
   refine ⟨by omega,?_⟩
   refine zal (zmn _ _ (by decide) ?_)
   have hin:zbG l[0] [43,45]=decide (l[0]? = some 43 ∨ l[0]? = some 45):=by
    rw [List.getElem?_eq_getElem l0]
    simp [zbG,eq_comm]
   rw [hin]
   by_cases c1:l[0]? = some 43 ∨ l[0]? = some 45
   ·rw [if_pos c1]
    simp only [c1,zab,sxZ,z6,z7,z8,j5,j6,j7,j8,j9,x3,x4,x5,x6,x7,x8,x9,reduceCtorEq,↓reduceIte,List.getElem?_set,hlen,t0,t3]
    and_intros <;> first | omega | exact iv (by omega) | rfl | assumption
   ·rw [if_neg c1]
    simp only [c1,zab,sxZ,z6,z7,z8,j5,j6,j7,j8,j9,x3,x4,x5,x6,x7,x8,x9,reduceCtorEq,↓reduceIte,List.getElem?_set,hlen,t0,t3]
 rintro _ tm ⟨rfl,hlen,t0,t3⟩
 subst hY1
 have hsl:(zd9 l).length ≤ l.length:=by unfold zd9; split <;> simp
 unfold expC at hk
 generalize negE l=ng at *
 generalize zd9 l=d at *
 refine zaa fun Y1 hY1 => ?_
 simp only [sxZ,z6,z7,z8,j5,j6,j7,j8,j9,x3,x4,x5,x6,x7,x8,x9,reduceCtorEq,↓reduceIte,List.getElem?_set,hlen,t0,t3]
 subst hY1
 refine zaa fun Y1 hY1 => ?_
 refine zaM (fun o t => o=[] ∧ t.length=41 ∧ t[3]? = some (.b ng) ∧ t[4]? = some (.i .i64 (ziE 1073741824 d 0:Nat))) ?_ ?_
 ·simp only [sxZ,z6,z7,z8,j5,j6,j7,j8,j9,x3,x4,x5,x6,x7,x8,x9,reduceCtorEq,↓reduceIte,List.getElem?_set,hlen,t0,t3]
  refine zaO (fun k objs tm => ∃ (i n:Nat),i ≤ d.length ∧ k=d.length - i ∧ objs=[] ∧ n ≤ 1073741824 ∧ ziE 1073741824 d 0=ziE 1073741824 (d.drop i) n ∧ tm.length=41 ∧ tm[0]? = some (.s d) ∧ tm[3]? = some (.b ng) ∧ tm[4]? = some (.i .i64 (n:Nat)) ∧ tm[5]? = some (.i .i64 (i:Nat))) d.length
   ⟨0,0,Nat.zero_le _,rfl,rfl,by omega,rfl,by simp [hlen],by simp [t0],by simp [t3],by simp [hlen],by simp [hlen]⟩ ?_
  rintro k _ tm ⟨i,n,hi,rfl,rfl,hn,hm,hlen,t0,t3,t4,t5⟩
  by_cases hlt:(i:Int) < d.length
  ·have hlt':i < d.length:=by omega
   have hg:=zaz hlt'
   have hdi:=zgA (List.all_eq_true.1 hd _ (List.getElem_mem hlt'))
   have hmv:=minV_at 1073741824 d i n hlt'
   have hw:IntKind.u8.wrap (((d[i].toNat:Nat):Int) - 48)=((d[i].toNat - 48:Nat):Int):=by
    simp [IntKind.wrap,IntKind.bits,IntKind.signed]; omega
   have hw2:IntKind.i64.wrap ((d[i].toNat - 48:Nat):Int)=((d[i].toNat - 48:Nat):Int):=by rw [IntKind.wrap_i64]; omega
   simp only [hlt,hg,hw,hw2,sxZ,z6,z7,z8,j5,j6,j7,j8,j9,x3,x4,x5,x6,x7,x8,x9,reduceCtorEq,↓reduceIte,List.getElem?_set,hlen,t0,t3,t4,t5]
   have hv:d[i].toNat - 48 ≤ 9:=by omega
   generalize d[i].toNat - 48=v at *
   exact ⟨by omega,by omega,by omega,by omega,d.length - (i + 1),by omega,i + 1,min (n * 10 + v) 1073741824,by omega,rfl,by omega,by rw [hm,hmv],iv (by split <;> omega),iv (by omega)⟩
  ·obtain rfl:i=d.length:=by omega
   rw [List.drop_length,ziE] at hm
   simp only [hlt,zbu,zab,sxZ,z6,z7,z8,j5,j6,j7,j8,j9,x3,x4,x5,x6,x7,x8,x9,reduceCtorEq,↓reduceIte,List.getElem?_set,hlen,t0,t3,t4,t5]
   rw [hm]
 rintro _ tm ⟨rfl,hlen,t3,t4⟩
 subst hY1
 have hml:=minV_le 1073741824 d 0 (by omega)
 generalize ziE 1073741824 d 0=n at *
 cases ng with
 | true =>
  simp only [sxZ,z6,z7,z8,j5,j6,j7,j8,j9,x3,x4,x5,x6,x7,x8,x9,reduceCtorEq,↓reduceIte,List.getElem?_set,hlen,t3,t4]
  rw [if_pos rfl] at hk
  refine ⟨by omega,?_⟩
  rw [Int.zero_sub]
  exact hk
 | false =>
  simp only [sxZ,z6,z7,z8,j5,j6,j7,j8,j9,x3,x4,x5,x6,x7,x8,x9,reduceCtorEq,↓reduceIte,List.getElem?_set,hlen,t3,t4]
  rw [if_neg (by simp)] at hk
  exact hk
set_option maxHeartbeats 4000000 in
theorem zlW (s:List UInt8) (hs:s.length ≤ 140737488351232) (h1:(s=[] ∨ zcW s ≠ s.length) → K objs (.tup [.s [],.i .i64 130]))
  (h2:∀ p:NumS,p.Good → s=p.txt → K objs (.tup [.s (zop 1073741824 p).2,.i .i64 (zop 1073741824 p).1])):zad Tryz.prog 42 [.s s] objs K:=by
 refine zbb is_ref13_Number rfl fun C _ => ?_
 have hmx:=zbB
 by_cases c0:s=[]
 ·have h1:=h1 (.inl c0)
  simp only [c0,c_ref13_Number,sxZ,z6,z7,z8,j5,j6,j7,j8,j9,x3,x4,x5,x6,x7,x8,x9,reduceCtorEq,↓reduceIte]
  exact h1
 rw [c_ref13_Number]
 refine zaa fun Y1 hY1 => ?_
 simp only [sxZ,z6,z7,z8,j5,j6,j7,j8,j9,x3,x4,x5,x6,x7,x8,x9,reduceCtorEq,↓reduceIte]
 subst hY1
 refine zaa fun Y1 hY1 => ?_
 simp only [c0,sxZ,z6,z7,z8,j5,j6,j7,j8,j9,x3,x4,x5,x6,x7,x8,x9,reduceCtorEq,↓reduceIte]
 refine zal (zkO s hs ?_)
 by_cases c1:zcW s=s.length
 case neg =>
  have c1':¬ ((zcW s:Nat):Int)=s.length:=by omega
  simp only [c1',sxZ,z6,z7,z8,j5,j6,j7,j8,j9,x3,x4,x5,x6,x7,x8,x9,reduceCtorEq,↓reduceIte]
  exact h1 (.inr c1)
 clear h1
 obtain ⟨p,hp,rfl⟩:=zhv c0 c1
 have h2:=h2 p hp rfl
 simp only [c1,sxZ,z6,z7,z8,j5,j6,j7,j8,j9,x3,x4,x5,x6,x7,x8,x9,reduceCtorEq,↓reduceIte]
 subst hY1
 refine zaa fun Y1 hY1 => ?_
 simp only [sxZ,z6,z7,z8,j5,j6,j7,j8,j9,x3,x4,x5,x6,x7,x8,x9,reduceCtorEq,↓reduceIte]
 subst hY1
 refine zaa fun Y1 hY1 => ?_
 have hbl:p.body.length ≤ p.txt.length:=by unfold NumS.txt NumS.body; simp
 have htl:=zik p
 have hml:(p.int ++ frT p.fr).length ≤ p.txt.length:=by unfold NumS.txt; simp; omega
 refine zaM (fun o t => o=[] ∧ t.length=117 ∧ t[0]? = some (.s p.body) ∧ t[4]? = some (.s (sgT p.neg))) ?_ ?_
 ·obtain ⟨c,t,e1,e2⟩:=zbC hp.i0 hp.i1
  have n45:¬ ((c.toNat:Nat):Int)=45:=by have:=zgA e2; omega
  have hb:p.txt=sgT p.neg ++ p.body:=rfl
  have hpos:0 < p.txt.length:=List.length_pos_iff.2 c0
  cases hn:p.neg with
  | true =>
   have g1:(((p.txt.getD 0 0).toNat:Nat):Int)=45:=by rw [hb,hn]; rfl
   have g2:p.txt.drop 1=p.body:=by rw [hb,hn]; rfl
   generalize p.txt=W at *
   simp only [sgT,g1,g2,zab,sxZ,z6,z7,z8,j5,j6,j7,j8,j9,x3,x4,x5,x6,x7,x8,x9,reduceCtorEq,↓reduceIte]
   and_intros <;> first | omega | exact iv (by omega) | rfl | assumption
  | false =>
   have g1:(p.txt.getD 0 0)=c:=by rw [hb,hn]; unfold NumS.body; rw [e1]; rfl
   have g2:p.txt=p.body:=by rw [hb,hn]; rfl
   rw [g2] at g1 hpos ⊢
   generalize p.body=W at *
   simp only [sgT,g1,n45,zab,sxZ,z6,z7,z8,j5,j6,j7,j8,j9,x3,x4,x5,x6,x7,x8,x9,reduceCtorEq,↓reduceIte]
   and_intros <;> first | omega | exact iv (by omega) | rfl | assumption
 rintro _ tm ⟨rfl,hlen,t0,t4⟩
 subst hY1
 clear c0 c1
 have hbe:=body_exp hp 1073741824
 have hbt:=zh0 p
 have hil:(p.int ++ frT p.fr).length ≤ p.body.length:=by
  have h:=congrArg List.length (zh0 p)
  rw [List.length_take] at h; omega
 have hbi:=zos hp
 generalize hG:p.int ++ frT p.fr=G at *
 refine zaa fun Y1 hY1 => ?_
 simp only [sxZ,z6,z7,z8,j5,j6,j7,j8,j9,x3,x4,x5,x6,x7,x8,x9,reduceCtorEq,↓reduceIte,List.getElem?_set,hlen,t0,t4]
 refine zal (zju _ _ (by omega) (by decide) ?_)
 rw [hbi]
 simp only [sxZ,z6,z7,z8,j5,j6,j7,j8,j9,x3,x4,x5,x6,x7,x8,x9,reduceCtorEq,↓reduceIte,List.getElem?_set,hlen,t0,t4]
 subst hY1
 refine zaa fun Y1 hY1 => ?_
 refine zaM (fun o t => o=[] ∧ t.length=117 ∧ t[4]? = some (.s (sgT p.neg)) ∧ t[6]? = some (.i .i64 (zey 1073741824 p.ex)) ∧ t[7]? = some (.s G)) ?_ ?_
 ·simp only [sxZ,z6,z7,z8,j5,j6,j7,j8,j9,x3,x4,x5,x6,x7,x8,x9,reduceCtorEq,↓reduceIte,List.getElem?_set,hlen,t0,t4]
  refine ⟨by omega,?_⟩
  refine zff (zis p.body (G.length + 1) ⟨rfl,rfl⟩) ?_
  simp only [sxZ,z6,z7,z8,j5,j6,j7,j8,j9,x3,x4,x5,x6,x7,x8,x9,reduceCtorEq,↓reduceIte,List.getElem?_set,hlen,t0,t4]
  refine zff (zit _ (by rw [List.length_drop]; omega) hbe.2 ⟨rfl,rfl⟩) ?_
  simp only [hbe.1,hbt,zab,sxZ,z6,z7,z8,j5,j6,j7,j8,j9,x3,x4,x5,x6,x7,x8,x9,reduceCtorEq,↓reduceIte,List.getElem?_set,hlen,t0,t4]
  and_intros <;> first | omega | exact iv (by omega) | rfl | assumption
 rintro _ tm ⟨rfl,hlen,t4,t6,t7⟩
 subst hY1
 refine zaa fun Y1 hY1 => ?_
 have hei:=znP 1073741824 p.ex
 have hcp:=zhU hp
 rw [hG] at hcp
 have hi1:zk3 G [46]=p.int.length:=by rw [zj5,hcp]
 have hGt:G.take p.int.length=p.int:=by rw [← hG,List.take_left]
 have hGd:G.drop (p.int.length + 1)=p.fr:=by
  rw [← hG,← List.drop_drop,List.drop_left]
  cases p.fr <;> rfl
 have hGl:G.length=p.int.length + (frT p.fr).length:=by rw [← hG,List.length_append]
 refine zaM (fun o t => o=[] ∧ t.length=117 ∧ t[4]? = some (.s (sgT p.neg)) ∧ t[6]? = some (.i .i64 (zey 1073741824 p.ex - (p.fr.length:Int))) ∧ t[7]? = some (.s (p.int ++ p.fr))) ?_ ?_
 ·simp only [sxZ,z6,z7,z8,j5,j6,j7,j8,j9,x3,x4,x5,x6,x7,x8,x9,reduceCtorEq,↓reduceIte,List.getElem?_set,hlen,t4,t6,t7]
  refine zal (zju _ _ (by omega) (by decide) ?_)
  rw [hi1]
  cases hf:p.fr with
  | nil =>
   have c2:¬ ((p.int.length:Nat):Int) < G.length:=by rw [hf] at hGl; simp [frT] at hGl; omega
   have hG2:G=p.int:=by rw [← hG,hf]; simp [frT]
   simp only [c2,zab,sxZ,z6,z7,z8,j5,j6,j7,j8,j9,x3,x4,x5,x6,x7,x8,x9,reduceCtorEq,↓reduceIte,List.getElem?_set,hlen,t4,t6,t7]
   rw [hG2]
   and_intros <;> first | omega | exact iv (by omega) | rfl | assumption
  | cons a u =>
   rw [hf] at hGd
   have c2:((p.int.length:Nat):Int) < G.length:=by rw [hf] at hGl; simp [frT] at hGl; omega
   have hfl:G.length=p.int.length + (u.length + 1) + 1:=by rw [hf] at hGl; simp [frT] at hGl; omega
   have e1:(((p.int.length:Nat):Int) + 1).toNat=p.int.length + 1:=by omega
   simp only [c2,e1,hGt,hGd,zab,sxZ,z6,z7,z8,j5,j6,j7,j8,j9,x3,x4,x5,x6,x7,x8,x9,reduceCtorEq,↓reduceIte,List.getElem?_set,hlen,t4,t6,t7]
   and_intros <;> first | omega | exact iv (by omega) | rfl | assumption
 rintro _ tm ⟨rfl,hlen,t4,t6,t7⟩
 subst hY1
 clear hbe hbt hil hcp hbi hi1 hGt hGd hGl hG hml
 refine zaa fun Y1 hY1 => ?_
 have hzl:=zL_len (p.int ++ p.fr)
 rw [List.length_append] at hzl
 refine zaM (fun o t => o=[] ∧ t.length=117 ∧ t[4]? = some (.s (sgT p.neg)) ∧ t[6]? = some (.i .i64 (zey 1073741824 p.ex - (p.fr.length:Int))) ∧ t[7]? = some (.s (zcj p))) ?_ ?_
 ·simp only [sxZ,z6,z7,z8,j5,j6,j7,j8,j9,x3,x4,x5,x6,x7,x8,x9,reduceCtorEq,↓reduceIte]
  refine zaO (fun k o t => ∃ l:List UInt8,k=l.length ∧ o=[] ∧ zL l=zcj p ∧ t.length=117 ∧ t[4]? = some (.s (sgT p.neg)) ∧ t[6]? = some (.i .i64 (zey 1073741824 p.ex - (p.fr.length:Int))) ∧ t[7]? = some (.s l)) (p.int ++ p.fr).length ⟨p.int ++ p.fr,rfl,rfl,rfl,hlen,t4,t6,t7⟩ ?_
  rintro k _ tm ⟨l,rfl,rfl,hz,hlen,t4,t6,t7⟩
  cases l with
  | nil =>
   have z:¬ (0:Int) < ((0:Nat):Int):=by decide
   simp only [z,zbu,zab,sxZ,z6,z7,z8,j5,j6,j7,j8,j9,x3,x4,x5,x6,x7,x8,x9,reduceCtorEq,↓reduceIte,List.getElem?_set,hlen,t4,t6,t7]
   rw [← hz]; rfl
  | cons c u =>
   have hp1:(0:Int) < ((u.length + 1:Nat):Int):=by omega
   have hp2:(c :: u).getD 0 0=c:=rfl
   rw [zf2] at hz
   by_cases c1:((c.toNat:Nat):Int)=48
   ·have hc:c=48:=(zbL (by decide)).1 c1
    rw [if_pos hc] at hz
    simp only [hp1,hp2,c1,zbu,zab,sxZ,z6,z7,z8,j5,j6,j7,j8,j9,x3,x4,x5,x6,x7,x8,x9,reduceCtorEq,↓reduceIte,List.getElem?_set,hlen,t4,t6,t7]
    exact ⟨by omega,u.length,by omega,u,rfl,hz,rfl⟩
   ·have hc:¬ c=48:=fun h => c1 ((zbL (by decide)).2 h)
    rw [if_neg hc] at hz
    simp only [hp1,hp2,c1,zbu,zab,sxZ,z6,z7,z8,j5,j6,j7,j8,j9,x3,x4,x5,x6,x7,x8,x9,reduceCtorEq,↓reduceIte,List.getElem?_set,hlen,t4,t6,t7]
    rw [hz]
 rintro _ tm ⟨rfl,hlen,t4,t6,t7⟩
 subst hY1
 refine zaa fun Y1 hY1 => ?_
 have hmh:=zmW p
 unfold zop at h2
 unfold expX at h2
 by_cases c2:zcj p=[]
 ·rw [if_pos c2] at h2
  simp only [c2,sxZ,z6,z7,z8,j5,j6,j7,j8,j9,x3,x4,x5,x6,x7,x8,x9,reduceCtorEq,↓reduceIte,List.getElem?_set,hlen,t4,t6,t7]
  exact h2
 rw [if_neg c2] at h2
 have hml2:=zgq p
 simp only [c2,sxZ,z6,z7,z8,j5,j6,j7,j8,j9,x3,x4,x5,x6,x7,x8,x9,reduceCtorEq,↓reduceIte,List.getElem?_set,hlen,t4,t6,t7]
 subst hY1
 have hX:-(300000000000000:Int) ≤ zey 1073741824 p.ex - (p.fr.length:Int) ∧ zey 1073741824 p.ex - (p.fr.length:Int) ≤ 300000000000000:=by omega
 generalize zey 1073741824 p.ex - (p.fr.length:Int)=X at *
 generalize zcj p=M at *
 refine zaa fun Y1 hY1 => ?_
 refine zaM (fun o t => o=[] ∧ t.length=117 ∧ t[4]? = some (.s (sgT p.neg)) ∧ t[6]? = some (.i .i64 (X + ((M.length:Int) - (zR M).length))) ∧ t[7]? = some (.s (zR M))) ?_ ?_
 ·simp only [sxZ,z6,z7,z8,j5,j6,j7,j8,j9,x3,x4,x5,x6,x7,x8,x9,reduceCtorEq,↓reduceIte]
  refine zaO (fun k o t => ∃ (l:List UInt8) (j:Nat),k=l.length ∧ o=[] ∧ l ≠ [] ∧ M=l ++ List.replicate j 48 ∧ t.length=117 ∧ t[4]? = some (.s (sgT p.neg)) ∧ t[6]? = some (.i .i64 (X + (j:Nat))) ∧ t[7]? = some (.s l)) M.length ⟨M,0,rfl,rfl,c2,by simp,by simp [hlen],by simp [t4],by simp [t6],by simp [t7]⟩ ?_
  rintro k _ tm ⟨l,j,rfl,rfl,hl0,hM,hlen,t4,t6,t7⟩
  have hl1:0 < l.length:=List.length_pos_iff.2 hl0
  have hi:l.length - 1 < l.length:=by omega
  have hg:=zaz hi
  have e1:(((l.length:Nat):Int) - 1).toNat=l.length - 1:=by omega
  have hll:l.getLast hl0=l[l.length - 1]:=List.getLast_eq_getElem hl0
  have hMl:M.length=l.length + j:=by rw [hM]; simp
  by_cases c3:((l[l.length - 1].toNat:Nat):Int)=48
  ·have hc:l[l.length - 1]=48:=(zbL (by decide)).1 c3
   have hsp:l=l.take (l.length - 1) ++ [48]:=by
    have h:=List.dropLast_concat_getLast hl0
    rw [hll,hc,List.dropLast_eq_take] at h
    exact h.symm
   have hM2:M=l.take (l.length - 1) ++ List.replicate (j + 1) 48:=by
    conv => lhs; rw [hM,hsp]
    rw [List.append_assoc,List.replicate_succ]; rfl
   have hne:¬ l.take (l.length - 1)=[]:=by
    intro h
    rw [h,List.nil_append,List.replicate_succ] at hM2
    exact hmh 48 (by rw [hM2]; rfl) rfl
   have htk:(l.take (l.length - 1)).length=l.length - 1:=by rw [List.length_take]; omega
   simp only [e1,hg,c3,sxZ,z6,z7,z8,j5,j6,j7,j8,j9,x3,x4,x5,x6,x7,x8,x9,reduceCtorEq,↓reduceIte,List.getElem?_set,hlen,t4,t6,t7]
   exact ⟨by omega,by omega,by omega,by omega,by omega,(l.take (l.length - 1)).length,by omega,l.take (l.length - 1),j + 1,rfl,hne,hM2,iv (by omega),rfl⟩
  ·have hc:¬ l[l.length - 1]=48:=fun h => c3 ((zbL (by decide)).2 h)
   have hz:zR M=l:=by rw [hM,zR_rep,zR_last hl0 (by rw [hll]; exact hc)]
   simp only [e1,hg,c3,zbu,zab,sxZ,z6,z7,z8,j5,j6,j7,j8,j9,x3,x4,x5,x6,x7,x8,x9,reduceCtorEq,↓reduceIte,List.getElem?_set,hlen,t4,t6,t7]
   rw [hz]
   exact ⟨by omega,by omega,iv (by omega),rfl⟩
 rintro _ tm ⟨rfl,hlen,t4,t6,t7⟩
 subst hY1
 have hzr:=zlg M
 generalize X + ((M.length:Int) - ((zR M).length:Int))=x at *
 generalize zR M=m at *
 by_cases d1:(40:Int) < m.length
 ·rw [if_pos (.inl (by omega))] at h2
  simp only [d1,sxZ,z6,z7,z8,j5,j6,j7,j8,j9,x3,x4,x5,x6,x7,x8,x9,reduceCtorEq,↓reduceIte,List.getElem?_set,hlen,t4,t6,t7]
  exact h2
 by_cases d3:400 < x
 ·rw [if_pos (.inr (.inr d3))] at h2
  simp only [d1,d3,sxZ,z6,z7,z8,j5,j6,j7,j8,j9,x3,x4,x5,x6,x7,x8,x9,reduceCtorEq,↓reduceIte,List.getElem?_set,hlen,t4,t6,t7]
  exact h2
 by_cases d2:x < -400
 ·rw [if_pos (.inr (.inl d2))] at h2
  simp only [d1,d2,d3,sxZ,z6,z7,z8,j5,j6,j7,j8,j9,x3,x4,x5,x6,x7,x8,x9,reduceCtorEq,↓reduceIte,List.getElem?_set,hlen,t4,t6,t7]
  exact h2
 rw [if_neg (by omega)] at h2
 have hsg:(sgT p.neg).length ≤ 1:=by unfold sgT; split <;> simp
 unfold expS at h2
 generalize sgT p.neg=sg at *
 have hdl:(Lib.decDigits x.natAbs).length ≤ 20:=by rw [Lib.decDigits_length]; exact Lib.nDigits_le20 _ (by omega)
 by_cases d4:x < 0
 ·rw [if_neg (show ¬ x=0 by omega)] at h2
  have hw:IntKind.u64.wrap (0 - x)=((x.natAbs:Nat):Int):=by rw [zi2 _ (by omega) (by omega)]; omega
  have hit:=Lib.itoa_neg x.natAbs (by omega)
  rw [show -((x.natAbs:Nat):Int)=x by omega] at hit
  rw [hit] at h2
  simp only [d1,d2,d3,d4,hw,sxZ,z6,z7,z8,j5,j6,j7,j8,j9,x3,x4,x5,x6,x7,x8,x9,reduceCtorEq,↓reduceIte,List.getElem?_set,hlen,t4,t6,t7]
  (and_intros <;> try omega)
  refine zal (zfK _ (by omega) ?_)
  simp only [sxZ,z6,z7,z8,j5,j6,j7,j8,j9,x3,x4,x5,x6,x7,x8,x9,reduceCtorEq,↓reduceIte,List.getElem?_set,hlen,t4,t6,t7]
  (and_intros <;> try omega)
  simpa using h2
 by_cases d5:0 < x
 ·rw [if_neg (show ¬ x=0 by omega)] at h2
  have hw:IntKind.u64.wrap x=((x.natAbs:Nat):Int):=by rw [zi2 _ (by omega) (by omega)]; omega
  have hit:=Lib.itoa_nonneg x.natAbs
  rw [show ((x.natAbs:Nat):Int)=x by omega] at hit
  rw [hit] at h2
  simp only [d1,d2,d3,d4,d5,hw,sxZ,z6,z7,z8,j5,j6,j7,j8,j9,x3,x4,x5,x6,x7,x8,x9,reduceCtorEq,↓reduceIte,List.getElem?_set,hlen,t4,t6,t7]
  (and_intros <;> try omega)
  refine zal (zfK _ (by omega) ?_)
  simp only [sxZ,z6,z7,z8,j5,j6,j7,j8,j9,x3,x4,x5,x6,x7,x8,x9,reduceCtorEq,↓reduceIte,List.getElem?_set,hlen,t4,t6,t7]
  (and_intros <;> try omega)
  simpa using h2
 ·rw [if_pos (show x=0 by omega)] at h2
  simp only [d1,d2,d3,d4,d5,sxZ,z6,z7,z8,j5,j6,j7,j8,j9,x3,x4,x5,x6,x7,x8,x9,reduceCtorEq,↓reduceIte,List.getElem?_set,hlen,t4,t6,t7]
  (and_intros <;> try omega)
  simpa using h2
end
end Go.Proofs.YthmdohgkmdkeeaaGreatDoor
namespace Go.Proofs.YthmdohgkmdkeeaaGreatDoor
open Go.RowKit Sx
section
variable [Tabs Tryz.prog] {objs:List OB} {K:List OB → AV → Prop}
end
end Go.Proofs.YthmdohgkmdkeeaaGreatDoor
namespace Go.Proofs.YthmdohgkmdkeeaaGreatDoor
open Go.RowKit Sx
end Go.Proofs.YthmdohgkmdkeeaaGreatDoor
namespace Go.Proofs.YthmdohgkmdkeeaaGreatDoor
open Go.RowKit Sx
section
variable [Tabs Tryz.prog] {objs:List OB} {K:List OB → AV → Prop}
end
end Go.Proofs.YthmdohgkmdkeeaaGreatDoor
namespace Go.Proofs.YthmdohgkmdkeeaaGreatDoor
open Go.RowKit Sx
section
variable [Tabs Tryz.prog] {objs:List OB} {K:List OB → AV → Prop}
end
end Go.Proofs.YthmdohgkmdkeeaaGreatDoor
namespace Go.Proofs.YthmdohgkmdkeeaaGreatDoor
open Go.RowKit Sx
section
attribute [local irreducible] run
def intN (l:List UInt8):List UInt8:=if l[zaY l]? = some 48 then [48] else (l.drop (zaY l)).take (zaL (l.drop (zaY l)))
def frN (l:List UInt8) (t:Nat):List UInt8:=if l[t]? = some 46 ∧ 0 < zaL (l.drop (t + 1)) then (l.drop (t + 1)).take (zaL (l.drop (t + 1))) else []
def sgnX (l:List UInt8) (f:Nat):List UInt8:=if l[f + 1]? = some 43 then [43] else if l[f + 1]? = some 45 then [45] else []
def exN (l:List UInt8) (f:Nat):Option (UInt8 × List UInt8 × List UInt8) :=
 if (l[f]? = some 101 ∨ l[f]? = some 69) ∧ 0 < zaL (l.drop (zaP l f)) then some (if l[f]? = some 101 then 101 else 69,sgnX l f,l.drop (zaP l f)) else none
def zjz (l:List UInt8):NumS:=⟨decide (l[0]? = some 45),intN l,frN l (zaA l),exN l (zbx l (zaA l))⟩
theorem zmA {l:List UInt8} (h0:l ≠ []) (h:zcW l=l.length):(zjz l).Good ∧ l=(zjz l).txt:=by
 have hl:0 < l.length:=List.length_pos_iff.2 h0
 unfold zcW at h
 by_cases hr:zaL (l.drop (zaY l))=0
 ·rw [if_pos hr] at h; omega
 rw [if_neg hr] at h
 have hsg:l=sgT (decide (l[0]? = some 45)) ++ l.drop (zaY l):=by
  unfold zaY sgT
  by_cases hc:l[0]? = some 45
  ·rw [if_pos hc,if_pos (by rw [hc]; rfl)]
   conv => lhs; rw [← List.drop_zero (l:=l),zbh hc]
   rfl
  ·rw [if_neg hc,if_neg (by rw [decide_eq_false hc]; exact Bool.false_ne_true)]; simp
 have hrl:=zaH l (zaY l) (by omega)
 obtain ⟨I,hIe,hI0,hI1,hI2,hIl,hI⟩:∃ I:List UInt8,I=intN l ∧ I ≠ [] ∧ I.all zai=true ∧ (I[0]? = some 48 → I=[48]) ∧ zaA l ≤ l.length ∧ l.drop (zaY l)=I ++ l.drop (zaA l):=by
  have hd:=zec (l.drop (zaY l)) 0 (by omega)
  obtain ⟨c,hc1,hc2⟩:=hd
  rw [List.getElem?_drop,Nat.add_zero] at hc1
  have hdc:=zbh hc1
  unfold zaA
  by_cases hz:l[zaY l]? = some 48
  ·rw [if_pos hz]
   refine ⟨[48],by unfold intN; rw [if_pos hz],by simp,rfl,fun _ => rfl,?_,?_⟩
   ·have:=(List.getElem?_eq_some_iff.1 hz).1; omega
   ·exact zbh hz
  ·rw [if_neg hz]
   refine ⟨(l.drop (zaY l)).take (zaL (l.drop (zaY l))),by unfold intN; rw [if_neg hz],zgb (by omega) (zdq _),zb0 _,?_,hrl,?_⟩
   ·intro h1
    exfalso
    rw [List.getElem?_take,if_pos (by omega),List.getElem?_drop,Nat.add_zero] at h1
    exact hz h1
   ·have:=zeL l (show zaY l ≤ zaY l + zaL (l.drop (zaY l)) by omega)
    rw [show zaY l + zaL (l.drop (zaY l)) - zaY l=zaL (l.drop (zaY l)) by omega] at this
    exact this
 unfold zjz
 rw [← hIe]
 clear hIe
 generalize zaA l=t at *
 obtain ⟨F,hFe,hF1,hFl,hF⟩:∃ F:List UInt8,F=frN l t ∧ F.all zai=true ∧ zbx l t ≤ l.length ∧ l.drop t=frT F ++ l.drop (zbx l t):=by
  unfold zbx
  by_cases hc:l[t]? = some 46 ∧ 0 < zaL (l.drop (t + 1))
  ·rw [if_pos hc]
   have hb:=zaH l (t + 1) hc.2
   refine ⟨(l.drop (t + 1)).take (zaL (l.drop (t + 1))),by unfold frN; rw [if_pos hc],zb0 _,hb,?_⟩
   have h1:=zeL l (show t + 1 ≤ t + 1 + zaL (l.drop (t + 1)) by omega)
   rw [show t + 1 + zaL (l.drop (t + 1)) - (t + 1)=zaL (l.drop (t + 1)) by omega] at h1
   have hne:=zgb hc.2 (zdq (l.drop (t + 1)))
   rw [zbh hc.1]
   generalize (l.drop (t + 1)).take (zaL (l.drop (t + 1)))=F at *
   cases F with
   | nil => exact absurd rfl hne
   | cons a F =>
    show 46 :: l.drop (t + 1)=46 :: (a :: F ++ _)
    rw [← h1]
  ·rw [if_neg hc]
   exact ⟨[],by unfold frN; rw [if_neg hc],rfl,hIl,rfl⟩
 rw [← hFe]
 clear hFe
 generalize zbx l t=f at *
 obtain ⟨E,hEe,hE1,hE⟩:∃ E:Option (UInt8 × List UInt8 × List UInt8),E=exN l f ∧ (∀ c s d,E=some (c,s,d) → (c=101 ∨ c=69) ∧ (s=[] ∨ s=[43] ∨ s=[45]) ∧ d ≠ [] ∧ d.all zai=true) ∧ l.drop f=exT E:=by
  unfold ziQ at h
  by_cases hc:(l[f]? = some 101 ∨ l[f]? = some 69) ∧ 0 < zaL (l.drop (zaP l f))
  ·rw [if_pos hc] at h
   have hex:exN l f=some (if l[f]? = some 101 then 101 else 69,sgnX l f,l.drop (zaP l f)):=by unfold exN; rw [if_pos hc]
   obtain ⟨c,hc1,hc2,hc3⟩:∃ c,l[f]? = some c ∧ (c=101 ∨ c=69) ∧ (if l[f]? = some 101 then 101 else 69)=c:=by
    rcases hc.1 with h1 | h1
    ·exact ⟨_,h1,.inl rfl,by rw [if_pos h1]⟩
    ·exact ⟨_,h1,.inr rfl,by rw [h1]; rfl⟩
   rw [hc3] at hex
   have hdig:l.drop (zaP l f) ≠ [] ∧ (l.drop (zaP l f)).all zai=true:=by
    have h1:=zb0 (l.drop (zaP l f))
    have h2:zaL (l.drop (zaP l f))=(l.drop (zaP l f)).length:=by rw [List.length_drop]; omega
    rw [h2,List.take_length] at h1
    refine ⟨fun e => ?_,h1⟩
    rw [e] at hc
    exact absurd hc.2 (by simp [zaL])
   rw [zbh hc1]
   unfold zaP at hdig hc hex
   by_cases hs:l[f + 1]? = some 43 ∨ l[f + 1]? = some 45
   ·rw [if_pos hs] at hdig hex
    obtain ⟨s,hs1,hs2,hs3⟩:∃ s,l[f + 1]? = some s ∧ (s=43 ∨ s=45) ∧ sgnX l f=[s]:=by
     unfold sgnX
     rcases hs with h1 | h1
     ·exact ⟨_,h1,.inl rfl,by rw [if_pos h1]⟩
     ·exact ⟨_,h1,.inr rfl,by rw [h1]; rfl⟩
    refine ⟨some (c,[s],l.drop (f + 2)),by rw [hex,hs3],?_,?_⟩
    ·intro c' s' d' e
     injection e with e; injection e with e1 e2; injection e2 with e2 e3
     subst e1 e2 e3
     exact ⟨hc2,by rcases hs2 with rfl | rfl <;> simp,hdig.1,hdig.2⟩
    ·rw [zbh hs1]; rfl
   ·rw [if_neg hs] at hdig hex
    have hs3:sgnX l f=[]:=by
     unfold sgnX
     rw [if_neg (fun h => hs (.inl h)),if_neg (fun h => hs (.inr h))]
    refine ⟨some (c,[],l.drop (f + 1)),by rw [hex,hs3],?_,rfl⟩
    intro c' s' d' e
    injection e with e; injection e with e1 e2; injection e2 with e2 e3
    subst e1 e2 e3
    exact ⟨hc2,.inl rfl,hdig.1,hdig.2⟩
  ·rw [if_neg hc] at h
   subst h
   exact ⟨none,by unfold exN; rw [if_neg hc],fun _ _ _ e => (by cases e),by simp [exT]⟩
 rw [← hEe]
 refine ⟨⟨hI0,hI1,hI2,hF1,hE1⟩,?_⟩
 show l=sgT _ ++ (I ++ (frT F ++ exT E))
 rw [← hE,← hF,← hI,← hsg]
def zcF (l:List UInt8):Int × List UInt8:=if l=[] ∨ ¬ zcW l=l.length then (130,[]) else zop 1099511627776 (zjz l)
theorem zmR {p:NumS} (hp:p.Good):zcF p.txt=zop 1099511627776 p:=by
 obtain ⟨h1,h2⟩:=num_txt hp
 unfold zcF
 rw [if_neg (fun h => h.elim h2 (fun h => h h1))]
 obtain ⟨q1,q2⟩:=zmA h2 h1
 exact congrArg _ (num_uniq hp q1 q2).symm
theorem can_cut2 (p:NumS) (h:p.txt.length ≤ 100000):zop 1099511627776 p=zop 1073741824 p:=by
 have h1:=zik p
 have h2:=zgq p
 have h3:=zlg (zcj p)
 unfold zop
 by_cases hm:zcj p=[]
 ·rw [if_pos hm,if_pos hm]
 rw [if_neg hm,if_neg hm]
 by_cases he:zey 1099511627776 p.ex=zey 1073741824 p.ex
 ·have:expX 1099511627776 p=expX 1073741824 p:=by unfold expX; rw [he]
  rw [this]
 ·have key:(zey 1099511627776 p.ex < -1000000 ∧ zey 1073741824 p.ex < -1000000) ∨ (1000000 < zey 1099511627776 p.ex ∧ 1000000 < zey 1073741824 p.ex):=by
   cases hx:p.ex with
   | none => rw [hx] at he; exact absurd rfl he
   | some e =>
    obtain ⟨c,s,d⟩:=e
    rw [hx] at he
    simp only [zey] at he ⊢
    by_cases hs:s=[45]
    ·rw [if_pos hs,if_pos hs] at he ⊢; left; omega
    ·rw [if_neg hs,if_neg hs] at he ⊢; right; omega
  rw [if_pos,if_pos]
  ·unfold expX; omega
  ·unfold expX; omega
theorem zf9:∀ (n:Nat) (l out x:List UInt8) (k m:Nat),zcy n l out k=(0,x,m) → k < m ∧ m ≤ k + l.length ∧ x.length ≤ out.length + (m - k)
 | 0,l,out,x,k,m,h => by rw [zcy] at h; cases h
 | n + 1,[],out,x,k,m,h => by rw [zcy] at h; cases h
 | n + 1,c :: t,out,x,k,m,h => by
  rw [zcy] at h
  have hl:(c :: t).length=t.length + 1:=rfl
  split at h
  ·cases h; exact ⟨by omega,by omega,by omega⟩
  ·split at h
   ·split at h
    ·rename_i g; injection h with h _; exact absurd h g
    ·rename_i g
     have g:(zdx (c :: t)).1=0:=by simpa using g
     obtain ⟨⟨e,y,j⟩,hE⟩:∃ r,zdx (c :: t)=r:=⟨_,rfl⟩
     rw [hE] at h g
     simp only at g h
     subst g
     have hl2:=zkb hE
     have:=zf9 n _ _ _ _ _ h
     rw [List.length_drop,List.length_append] at this
     omega
   ·split at h
    ·cases h
    ·split at h
     ·cases h
     ·rename_i r j hd
      have hd':=za7 hd
      have:=zf9 n _ _ _ _ _ h
      rw [List.length_drop,List.length_append,List.length_take] at this
      omega
theorem zmi {l:List UInt8} (h:(zaI l).1=0):(zaI l).2.2.2 ≤ l.length ∧ (¬ (zaI l).2.1=1 → 1 ≤ (zaI l).2.2.2) ∧ ((zaI l).2.1=1 → l=[]) ∧ (zaI l).2.2.1.length ≤ l.length ∧ 1 ≤ (zaI l).2.1 ∧ (zaI l).2.1 ≤ 5:=by
 cases l with
 | nil => exact ⟨by simp [zaI],fun h => absurd rfl h,fun _ => rfl,by simp [zaI],by decide,by decide⟩
 | cons c t =>
  have hl:(c :: t).length=t.length + 1:=rfl
  rw [zaI] at h ⊢
  by_cases c1:zbG c [123,125,91,93,58,44]=true
  ·simp only [if_pos c1]
   exact ⟨by simp,fun _ => by simp,fun h => by simp at h,by simp,by decide,by decide⟩
  simp only [if_neg c1] at h ⊢
  by_cases c2:c=34
  ·simp only [if_pos c2] at h ⊢
   by_cases c3:(zcy (t.length + 1) t [] 0).1 ≠ 0
   ·simp only [if_pos c3] at h; exact absurd h c3
   ·simp only [if_neg c3] at h ⊢
    obtain ⟨⟨e,x,m⟩,hE⟩:∃ r,zcy (t.length + 1) t [] 0=r:=⟨_,rfl⟩
    have c3:e=0:=by rw [hE] at c3; simpa using c3
    subst c3
    have:=zf9 _ _ _ _ _ _ hE
    rw [List.length_nil] at this
    rw [hE]
    exact ⟨by show m + 1 ≤ _; omega,fun _ => by show 1 ≤ m + 1; omega,fun h => by simp at h,by show x.length ≤ _; omega,by decide,by decide⟩
  simp only [if_neg c2] at h ⊢
  by_cases c3:c=45 ∨ zai c=true
  ·simp only [if_pos c3] at h ⊢
   by_cases c4:zcW (c :: t)=0
   ·simp only [if_pos c4] at h; cases h
   ·simp only [if_neg c4] at h ⊢
    have:=ziC (c :: t)
    exact ⟨by show zcW (c :: t) ≤ _; omega,fun _ => by show 1 ≤ zcW (c :: t); omega,fun h => by simp at h,by show (List.take _ _).length ≤ _; rw [List.length_take]; omega,by decide,by decide⟩
  simp only [if_neg c3] at h ⊢
  split at h
  ·rename_i c4
   rw [if_pos c4]
   have hw:=zi5 (c :: t)
   refine ⟨hw,fun _ => ?_,fun h => by simp at h,by show (List.take _ _).length ≤ _; rw [List.length_take]; omega,by show (1:Int) ≤ 5; decide,by show (5:Int) ≤ 5; decide⟩
   show 1 ≤ za5 (c :: t)
   rcases Nat.eq_zero_or_pos (za5 (c :: t)) with h0 | h0
   ·rw [h0] at c4; simp at c4
   ·exact h0
  ·cases h
theorem zjJ {s:List UInt8} {a:Int} (h0:0 ≤ a) (h:(zaB s a).2.2=0) :
  (a ≤ (zaB s a).2.1 ∧ (zaB s a).2.1 ≤ s.length ∧ ((zaB s a).1.1 ≠ 1 → a < (zaB s a).2.1) ∧ ((zaB s a).1.1=1 → (zaB s a).2.1=s.length)) ∧ (zaB s a).1.2.1.length ≤ s.length ∧ 1 ≤ (zaB s a).1.1 ∧ (zaB s a).1.1 ≤ 5 ∧ 0 ≤ (zaB s a).1.2.2 ∧ (zaB s a).1.2.2 ≤ s.length:=by
 unfold zaB at h ⊢
 by_cases c1:a < 0 ∨ (s.length:Int) < a
 ·simp only [if_pos c1] at h; cases h
 simp only [if_neg c1] at h ⊢
 obtain ⟨x,hx⟩:=Int.eq_ofNat_of_zero_le h0
 subst hx
 simp only [Int.toNat_natCast] at h ⊢
 have hw:=zeQ (s.drop x)
 rw [List.length_drop] at hw
 generalize hA:x + zaS (s.drop x)=A at *
 by_cases c2:(zaI (s.drop A)).1 ≠ 0
 ·simp only [if_pos c2] at h; exact absurd h c2
 simp only [if_neg c2]
 have c2:(zaI (s.drop A)).1=0:=by simpa using c2
 obtain ⟨r1,r2,r3,r4,r5,r6⟩:=zmi c2
 rw [List.length_drop] at r1 r4
 refine ⟨⟨?_,?_,?_,?_⟩,?_,r5,r6,?_,?_⟩
 ·show (x:Int) ≤ ((A + _:Nat):Int); omega
 ·show ((A + _:Nat):Int) ≤ _; omega
 ·intro h; have:=r2 h; show (x:Int) < ((A + _:Nat):Int); omega
 ·intro h
  have h1:=r3 h
  have h2:=congrArg List.length h1
  rw [List.length_drop,List.length_nil] at h2
  show ((A + _:Nat):Int)=_; omega
 ·show (zaI (s.drop A)).2.2.1.length ≤ _; omega
 ·show (0:Int) ≤ ((A:Nat):Int); omega
 ·show ((A:Nat):Int) ≤ _; omega
theorem next_lt {s:List UInt8} {a:Int} (h0:0 ≤ a) (h:(zaB s a).2.2=0):a ≤ (zaB s a).2.1 ∧ (zaB s a).2.1 ≤ s.length ∧ ((zaB s a).1.1 ≠ 1 → a < (zaB s a).2.1) ∧ ((zaB s a).1.1=1 → (zaB s a).2.1=s.length):=(zjJ h0 h).1
section
variable [Tabs Tryz.prog] [Pow Tryz.prog] {objs:List OB} {K:List OB → AV → Prop}
theorem number_e (s:List UInt8) (hs:s.length ≤ 140737488351232) (hk:K objs (.tup [.s (zcF s).2,.i .i64 (zcF s).1])):zad Tryz.prog 61 [.s s] objs K :=
 number_k s hs (fun h => by unfold zcF at hk; rw [if_pos (by simpa using h)] at hk; exact hk) (fun p hp e => by subst e; rw [zmR hp] at hk; exact hk)
omit [Pow Tryz.prog] in
theorem zlX (s:List UInt8) (hs:s.length ≤ 100000) (hk:K objs (.tup [.s (zcF s).2,.i .i64 (zcF s).1])):zad Tryz.prog 42 [.s s] objs K :=
 zlW s (by omega) (fun h => by unfold zcF at hk; rw [if_pos (by simpa using h)] at hk; exact hk) (fun p hp e => by subst e; rw [zmR hp,can_cut2 p hs] at hk; exact hk)
end
end
end Go.Proofs.YthmdohgkmdkeeaaGreatDoor
namespace Go.Proofs.YthmdohgkmdkeeaaGreatDoor
open Go.RowKit Sx
section
attribute [local irreducible] run
inductive JV where
 | mk (k:Int) (t:List UInt8) (ks:List (List UInt8)) (its:List JV)
def jvZ:JV:=.mk 0 [] [] []
abbrev Tk:=Int × List UInt8 × Int
def tkZ:Tk:=(0,[],0)
def isP (t:Tk) (c:UInt8):Bool:=decide (t.1=2) && decide (t.2.1=[c])
def zeR:List UInt8:=[116,114,117,101]
def zc1:List UInt8:=[102,97,108,115,101]
def zf7 (l:List UInt8):Int:=if l=zeR then 3 else if l=zc1 then 2 else 1
def vkE (t:Tk):Int :=
 if t.1=3 then 5 else if t.1=4 then 4 else if isP t 91=true then 6 else if isP t 123=true then 7 else if ¬ t.1=5 then 0 else zf7 t.2.1
structure Fr where
 obj:Bool
 ks:List (List UInt8)
 its:List JV
structure Ms where
 st:Int
 stk:List Fr
 nodes:Nat
 root:JV
def ms0:Ms:=⟨0,[],0,jvZ⟩
def zcN (σ:Ms) (v:JV):Ms:=match σ.stk with
 | [] => ⟨6,[],σ.nodes,v⟩
 | f :: r => ⟨5,⟨f.obj,f.ks,f.its ++ [v]⟩ :: r,σ.nodes,σ.root⟩
def Fr.val (f:Fr):JV:=.mk (if f.obj=true then 7 else 6) [] f.ks f.its
def zcw (σ:Ms):Ms:=match σ.stk with
 | [] => σ
 | f :: r => zcN ⟨σ.st,r,σ.nodes,σ.root⟩ f.val
def zbK (σ:Ms) (o:Bool):Ms:=⟨if o=true then 3 else 1,⟨o,[],[]⟩ :: σ.stk,σ.nodes + 1,σ.root⟩
def zga (t:Tk):Int × List UInt8:=if vkE t=4 then zcF t.2.1 else (0,if vkE t=5 then t.2.1 else [])
def zaN (σ:Ms) (t:Tk):Int × Ms :=
 if vkE t=0 then (140,σ)
 else if vkE t=6 ∨ vkE t=7 then
  (if 64 ≤ σ.stk.length then (141,σ) else if 20000 ≤ σ.nodes then (142,σ) else (0,zbK σ (decide (vkE t=7))))
 else if ¬ (zga t).1=0 then ((zga t).1,σ)
 else if 20000 ≤ σ.nodes then (142,σ)
 else (0,zcN ⟨σ.st,σ.stk,σ.nodes + 1,σ.root⟩ (.mk (vkE t) (zga t).2 [] []))
def zdv (σ:Ms) (t:Tk):Bool:=match σ.stk with
 | [] => false
 | f :: _ => isP t (if f.obj=true then 125 else 93)
def zhC (σ:Ms) (t:Tk):Int × Ms:=match σ.stk with
 | [] => (140,σ)
 | f :: r => if ¬ t.1=3 then (140,σ) else if t.2.1 ∈ f.ks then (143,σ) else (0,⟨4,⟨f.obj,f.ks ++ [t.2.1],f.its⟩ :: r,σ.nodes,σ.root⟩)
def onM (σ:Ms) (t:Tk):Int × Ms:=match σ.stk with
 | [] => (140,σ)
 | f :: r => if zdv σ t=true then (0,zcw σ) else if isP t 44=false then (140,σ) else (0,⟨if f.obj=true then 2 else 0,σ.stk,σ.nodes,σ.root⟩)
def zar (σ:Ms) (t:Tk):Int × Ms :=
 if σ.st=0 then zaN σ t
 else if σ.st=1 then (if zdv σ t=true then (0,zcw σ) else zaN σ t)
 else if σ.st=3 then (if zdv σ t=true then (0,zcw σ) else zhC σ t)
 else if σ.st=2 then zhC σ t
 else if σ.st=4 then (if isP t 58=true then (0,⟨0,σ.stk,σ.nodes,σ.root⟩) else (140,σ))
 else if σ.st=5 then onM σ t
 else if σ.st=6 then (if t.1=1 then (0,⟨7,σ.stk,σ.nodes,σ.root⟩) else (140,σ))
 else (140,σ)
inductive MRes (s:List UInt8):Int → Ms → JV × Int × Int → Prop
 | fin {a:Int} {σ:Ms}:σ.st=7 → MRes s a σ (σ.root,a,0)
 | tok {a:Int} {σ:Ms}:¬ σ.st=7 → ¬ (zaB s a).2.2=0 → MRes s a σ (jvZ,a,(zaB s a).2.2)
 | bad {a:Int} {σ:Ms}:¬ σ.st=7 → (zaB s a).2.2=0 → ¬ (zar σ (zaB s a).1).1=0 → MRes s a σ (jvZ,(zaB s a).1.2.2,(zar σ (zaB s a).1).1)
 | step {a:Int} {σ:Ms} {R:JV × Int × Int}:¬ σ.st=7 → (zaB s a).2.2=0 → (zar σ (zaB s a).1).1=0 → MRes s (zaB s a).2.1 (zar σ (zaB s a).1).2 R → MRes s a σ R
structure Rs where
 pos:Int
 nodes:Nat
 fail:Int
 wh:Int
def zbq (ρ:Rs) (a e:Int):Rs:=if ρ.fail=0 then ⟨ρ.pos,ρ.nodes,e,a⟩ else ρ
def zaC (s:List UInt8) (ρ:Rs):Tk × Rs :=
 if ¬ ρ.fail=0 then (tkZ,ρ)
 else if ¬ (zaB s ρ.pos).2.2=0 then (tkZ,zbq ρ ρ.pos (zaB s ρ.pos).2.2)
 else ((zaB s ρ.pos).1,⟨(zaB s ρ.pos).2.1,ρ.nodes,ρ.fail,ρ.wh⟩)
def zdj (ρ:Rs) (t:Tk) (c:UInt8):Rs:=if ρ.fail=0 ∧ isP t c=false then zbq ρ t.2.2 140 else ρ
def zee (s:List UInt8) (val:Rs → Tk → JV × Rs):Nat → Rs → Tk → List JV → List JV × Rs
 | 0,ρ,_,acc => (acc,ρ)
 | n + 1,ρ,t,acc =>
  if ¬ ρ.fail=0 then (acc,ρ) else
  let a:=val ρ t
  let b:=zaC s a.2
  if isP b.1 93=true then (acc ++ [a.1],b.2) else
  let c:=zaC s (zdj b.2 b.1 44)
  zee s val n c.2 c.1 (acc ++ [a.1])
def rkey (ρ:Rs) (t:Tk) (ks:List (List UInt8)):Rs :=
 let ρ:=if ¬ t.1=3 then zbq ρ t.2.2 140 else ρ
 if t.2.1 ∈ ks then zbq ρ t.2.2 143 else ρ
def zdK (s:List UInt8) (val:Rs → Tk → JV × Rs):Nat → Rs → Tk → List (List UInt8) → List JV → (List (List UInt8) × List JV) × Rs
 | 0,ρ,_,ks,its => ((ks,its),ρ)
 | n + 1,ρ,t,ks,its =>
  if ¬ ρ.fail=0 then ((ks,its),ρ) else
  let a:=zaC s (rkey ρ t ks)
  let b:=zaC s (zdj a.2 a.1 58)
  let v:=val b.2 b.1
  let c:=zaC s v.2
  if isP c.1 125=true then ((ks ++ [t.2.1],its ++ [v.1]),c.2) else
  let d:=zaC s (zdj c.2 c.1 44)
  zdK s val n d.2 d.1 (ks ++ [t.2.1]) (its ++ [v.1])
def zmm (s:List UInt8) (val:Rs → Tk → JV × Rs) (ρ:Rs):JV × Rs :=
 let a:=zaC s ρ
 if isP a.1 93=true then (.mk 6 [] [] [],a.2) else
 let b:=zee s val (s.length + 2) a.2 a.1 []
 (.mk 6 [] [] b.1,b.2)
def zlV (s:List UInt8) (val:Rs → Tk → JV × Rs) (ρ:Rs):JV × Rs :=
 let a:=zaC s ρ
 if isP a.1 125=true then (.mk 7 [] [] [],a.2) else
 let b:=zdK s val (s.length + 2) a.2 a.1 [] []
 (.mk 7 [] b.1.1 b.1.2,b.2)
def zbN (ρ:Rs) (t:Tk):Rs :=
 let ρ:=if t.1=4 ∧ ¬ (zcF t.2.1).1=0 then zbq ρ t.2.2 (zcF t.2.1).1 else ρ
 if 20000 < ρ.nodes + 1 then zbq ⟨ρ.pos,ρ.nodes + 1,ρ.fail,ρ.wh⟩ t.2.2 142 else ⟨ρ.pos,ρ.nodes + 1,ρ.fail,ρ.wh⟩
def zdJ (s:List UInt8):Nat → Rs → Tk → Nat → JV × Rs
 | 0,ρ,_,_ => (jvZ,ρ)
 | f + 1,ρ,t,d =>
  if ¬ ρ.fail=0 then (jvZ,ρ)
  else if vkE t=0 then (jvZ,zbq ρ t.2.2 140)
  else if t.1=2 ∧ d=64 then (jvZ,zbq ρ t.2.2 141)
  else if t.1=5 then (.mk (zf7 t.2.1) [] [] [],zbN ρ t)
  else if isP t 91=true then zmm s (fun ρ t => zdJ s f ρ t (d + 1)) (zbN ρ t)
  else if isP t 123=true then zlV s (fun ρ t => zdJ s f ρ t (d + 1)) (zbN ρ t)
  else if t.1=4 then (.mk 4 (zcF t.2.1).2 [] [],zbN ρ t)
  else (.mk 5 t.2.1 [] [],zbN ρ t)
def rs0:Rs:=⟨0,0,0,0⟩
def za8 (s:List UInt8):JV × Int × Int :=
 if 1048576 < s.length then (jvZ,0,142) else
 let a:=zaC s rs0
 let v:=zdJ s 65 a.2 a.1 0
 let b:=zaC s v.2
 let ρ:=if b.2.fail=0 ∧ ¬ b.1.1=1 then zbq b.2 b.1.2.2 140 else b.2
 if ¬ ρ.fail=0 then (jvZ,ρ.wh,ρ.fail) else (v.1,s.length,0)
def zh5 (ρ ρ':Rs):Prop:=¬ ρ.fail=0 → ρ'.fail=ρ.fail ∧ ρ'.wh=ρ.wh
theorem zh5.refl (ρ:Rs):zh5 ρ ρ:=fun _ => ⟨rfl,rfl⟩
theorem zh5.trans {a b c:Rs} (h:zh5 a b) (k:zh5 b c):zh5 a c:=fun ha => by
 obtain ⟨h1,h2⟩:=h ha
 obtain ⟨k1,k2⟩:=k (by rw [h1]; exact ha)
 exact ⟨k1.trans h1,k2.trans h2⟩
theorem zkM (ρ:Rs) (a e:Int):zh5 ρ (zbq ρ a e):=fun h => by unfold zbq; rw [if_neg h]; exact ⟨rfl,rfl⟩
theorem zat (s:List UInt8) (ρ:Rs):zh5 ρ (zaC s ρ).2:=fun h => by unfold zaC; rw [if_pos h]; exact ⟨rfl,rfl⟩
theorem zbA (ρ:Rs) (t:Tk) (c:UInt8):zh5 ρ (zdj ρ t c):=by
 unfold zdj; split
 ·exact zkM _ _ _
 ·exact zh5.refl _
theorem ze4 (s:List UInt8) (f:Nat) (ρ:Rs) (t:Tk) (d:Nat):zh5 ρ (zdJ s f ρ t d).2:=fun h => by
 cases f with
 | zero => exact ⟨rfl,rfl⟩
 | succ f => rw [zdJ,if_pos h]; exact ⟨rfl,rfl⟩
theorem zbU (s:List UInt8) (val:Rs → Tk → JV × Rs) (n:Nat) (ρ:Rs) (t:Tk) (acc:List JV):zh5 ρ (zee s val n ρ t acc).2:=fun h => by
 cases n with
 | zero => exact ⟨rfl,rfl⟩
 | succ f => rw [zee,if_pos h]; exact ⟨rfl,rfl⟩
theorem zbT (s:List UInt8) (val:Rs → Tk → JV × Rs) (n:Nat) (ρ:Rs) (t:Tk) (ks:List (List UInt8)) (its:List JV):zh5 ρ (zdK s val n ρ t ks its).2:=fun h => by
 cases n with
 | zero => exact ⟨rfl,rfl⟩
 | succ f => rw [zdK,if_pos h]; exact ⟨rfl,rfl⟩
def AT (s:List UInt8) (t:Tk) (to:Int) (σ:Ms) (R:JV × Int × Int):Prop :=
 (¬ (zar σ t).1=0 ∧ R=(jvZ,t.2.2,(zar σ t).1)) ∨ ((zar σ t).1=0 ∧ MRes s to (zar σ t).2 R)
theorem mres_inv {s:List UInt8} {a:Int} {σ:Ms} {R:JV × Int × Int} (h:MRes s a σ R) (h7:¬ σ.st=7) :
  (¬ (zaB s a).2.2=0 ∧ R=(jvZ,a,(zaB s a).2.2)) ∨ ((zaB s a).2.2=0 ∧ AT s (zaB s a).1 (zaB s a).2.1 σ R):=by
 cases h with
 | fin h => exact absurd h h7
 | tok _ h => exact .inl ⟨h,rfl⟩
 | bad _ h1 h2 => exact .inr ⟨h1,.inl ⟨h2,rfl⟩⟩
 | step _ h1 h2 h3 => exact .inr ⟨h1,.inr ⟨h2,h3⟩⟩
def Bad (ρ:Rs) (R:JV × Int × Int):Prop:=¬ ρ.fail=0 ∧ R=(jvZ,ρ.wh,ρ.fail)
theorem Bad.froz {ρ ρ':Rs} {R:JV × Int × Int} (h:Bad ρ R) (k:zh5 ρ ρ'):Bad ρ' R:=by
 obtain ⟨k1,k2⟩:=k h.1
 exact ⟨by rw [k1]; exact h.1,by rw [k1,k2]; exact h.2⟩
theorem zbF {s:List UInt8} {ρ:Rs} {σ:Ms} {R:JV × Int × Int} (h:MRes s ρ.pos σ R) (h7:¬ σ.st=7) (hf:ρ.fail=0) (h0:0 ≤ ρ.pos) :
  (Bad (zaC s ρ).2 R) ∨ ((zaC s ρ).2.fail=0 ∧ (zaC s ρ).2.nodes=ρ.nodes ∧ AT s (zaC s ρ).1 (zaC s ρ).2.pos σ R ∧ ρ.pos ≤ (zaC s ρ).2.pos ∧ (zaC s ρ).2.pos ≤ s.length ∧ ((zaC s ρ).1.1 ≠ 1 → ρ.pos < (zaC s ρ).2.pos) ∧ ((zaC s ρ).1.1=1 → (zaC s ρ).2.pos=s.length)):=by
 have e1:¬ ¬ ρ.fail=0:=fun h => h hf
 unfold zaC
 rw [if_neg e1]
 rcases mres_inv h h7 with ⟨h1,h2⟩ | ⟨h1,h2⟩
 ·rw [if_pos h1]
  left
  unfold zbq
  rw [if_pos hf]
  exact ⟨h1,h2⟩
 ·rw [if_neg (fun h => h h1)]
  have:=next_lt h0 h1
  exact .inr ⟨hf,rfl,h2,this⟩
theorem zfy {s:List UInt8} {t:Tk} {to:Int} {σ σ':Ms} {R:JV × Int × Int} (h:AT s t to σ R) (e:zar σ t=(0,σ')):MRes s to σ' R:=by
 unfold AT at h; rw [e] at h
 rcases h with ⟨h,_⟩ | ⟨_,h⟩
 ·exact absurd rfl h
 ·exact h
theorem zc5 {s:List UInt8} {t:Tk} {to e:Int} {σ σ':Ms} {R:JV × Int × Int} (h:AT s t to σ R) (h1:zar σ t=(e,σ')) (he:¬ e=0):R=(jvZ,t.2.2,e):=by
 unfold AT at h; rw [h1] at h
 rcases h with ⟨_,h⟩ | ⟨h,_⟩
 ·exact h
 ·exact absurd h he
theorem vk_val (t:Tk):vkE t=0 ∨ vkE t=1 ∨ vkE t=2 ∨ vkE t=3 ∨ vkE t=4 ∨ vkE t=5 ∨ vkE t=6 ∨ vkE t=7:=by
 unfold vkE zf7
 repeat' split
 all_goals simp
theorem vk_kind {t:Tk}:(vkE t=5 ↔ t.1=3) ∧ (vkE t=4 ↔ t.1=4) ∧ ((vkE t=1 ∨ vkE t=2 ∨ vkE t=3) ↔ t.1=5) ∧ (vkE t=6 ↔ isP t 91=true) ∧ (vkE t=7 ↔ isP t 123=true) ∧ (t.1=5 → vkE t=zf7 t.2.1):=by
 have e1:∀ c,isP t c=true ↔ t.1=2 ∧ t.2.1=[c]:=fun c => by simp [isP]
 have hw:zf7 t.2.1=1 ∨ zf7 t.2.1=2 ∨ zf7 t.2.1=3:=by
  unfold zf7
  by_cases a1:t.2.1=zeR
  ·rw [if_pos a1]; exact .inr (.inr rfl)
  ·rw [if_neg a1]
   by_cases a2:t.2.1=zc1
   ·rw [if_pos a2]; exact .inr (.inl rfl)
   ·rw [if_neg a2]; exact .inl rfl
 unfold vkE
 simp only [e1]
 by_cases h3:t.1=3
 ·simp [h3]
 by_cases h4:t.1=4
 ·simp [h4]
 by_cases h6:t.1=2 ∧ t.2.1=[91]
 ·simp [h6]
 by_cases h7:t.1=2 ∧ t.2.1=[123]
 ·simp [h7]
 by_cases h5:t.1=5
 ·simp only [h5]
  rcases hw with h | h | h <;> simp [h]
 ·simp only [h3,h4,h6,h7,h5]
  simp
theorem zbH (x y:Int) (S:List Fr) (n:Nat) (r:JV) (v:JV):zcN ⟨x,S,n,r⟩ v=zcN ⟨y,S,n,r⟩ v:=by unfold zcN; cases S <;> rfl
theorem zhj {ρ:Rs} {t:Tk} (hf:ρ.fail=0):(Bad (zbN ρ t) (jvZ,t.2.2,if t.1=4 ∧ ¬ (zcF t.2.1).1=0 then (zcF t.2.1).1 else 142) ∧ (t.1=4 ∧ ¬ (zcF t.2.1).1=0 ∨ 20000 ≤ ρ.nodes)) ∨ (zbN ρ t=⟨ρ.pos,ρ.nodes + 1,0,ρ.wh⟩ ∧ ¬ (t.1=4 ∧ ¬ (zcF t.2.1).1=0) ∧ ¬ 20000 ≤ ρ.nodes):=by
 unfold zbN
 by_cases h1:t.1=4 ∧ ¬ (zcF t.2.1).1=0
 ·left
  refine ⟨?_,.inl h1⟩
  simp only [if_pos h1]
  unfold zbq Bad
  simp only [if_pos hf]
  by_cases h2:20000 < ρ.nodes + 1
  ·simp only [if_pos h2,if_neg h1.2]
   exact ⟨h1.2,trivial⟩
  ·simp only [if_neg h2]
   exact ⟨h1.2,trivial⟩
 ·simp only [if_neg h1]
  by_cases h2:20000 < ρ.nodes + 1
  ·left
   simp only [if_pos h2]
   unfold zbq Bad
   simp only [if_pos hf]
   exact ⟨⟨by decide,trivial⟩,.inr (by omega)⟩
  ·right
   simp only [if_neg h2]
   exact ⟨by rw [hf],h1,by omega⟩
def zh3 (s:List UInt8) (val:Rs → Tk → JV × Rs) (d:Nat):Prop :=
 ∀ (ρ:Rs) (t:Tk) (σ:Ms) (R:JV × Int × Int),ρ.fail=0 → 0 ≤ ρ.pos → ρ.pos ≤ s.length → σ.stk.length=d → σ.nodes=ρ.nodes → zar σ t=zaN σ t → AT s t ρ.pos σ R →
  Bad (val ρ t).2 R ∨ ((val ρ t).2.fail=0 ∧ ρ.pos ≤ (val ρ t).2.pos ∧ (val ρ t).2.pos ≤ s.length ∧ MRes s (val ρ t).2.pos (zcN ⟨σ.st,σ.stk,(val ρ t).2.nodes,σ.root⟩ (val ρ t).1) R)
def zfz (val:Rs → Tk → JV × Rs):Prop:=∀ ρ t,zh5 ρ (val ρ t).2
theorem ze3 {ρ:Rs} {t:Tk} {c:UInt8} (hf:ρ.fail=0):(isP t c=true ∧ zdj ρ t c=ρ) ∨ (isP t c=false ∧ (zdj ρ t c).fail=140 ∧ (zdj ρ t c).wh=t.2.2):=by
 unfold zdj
 cases h:isP t c
 ·right
  refine ⟨rfl,?_⟩
  rw [if_pos ⟨hf,rfl⟩]
  unfold zbq
  rw [if_pos hf]
  exact ⟨rfl,rfl⟩
 ·left
  refine ⟨rfl,?_⟩
  rw [if_neg (fun h => by cases h.2)]
theorem zde {t:Tk} {c:UInt8} (h:isP t c=true):t.1=2 ∧ t.2.1=[c]:=by
 simpa [isP] using h
theorem zhk {s:List UInt8} {val:Rs → Tk → JV × Rs} {d:Nat} (hv:zh3 s val (d + 1)) (hz:zfz val):∀ (n:Nat) (ρ:Rs) (t:Tk) (acc:List JV) (σ:Ms) (S:List Fr) (R:JV × Int × Int),
  ρ.fail=0 → 0 ≤ ρ.pos → ρ.pos ≤ s.length → s.length + 1 < n + ρ.pos → S.length=d → σ.stk=⟨false,[],acc⟩ :: S → σ.nodes=ρ.nodes → zar σ t=zaN σ t → AT s t ρ.pos σ R →
  Bad (zee s val n ρ t acc).2 R ∨ ((zee s val n ρ t acc).2.fail=0 ∧ ρ.pos ≤ (zee s val n ρ t acc).2.pos ∧ (zee s val n ρ t acc).2.pos ≤ s.length ∧ MRes s (zee s val n ρ t acc).2.pos (zcN ⟨σ.st,S,(zee s val n ρ t acc).2.nodes,σ.root⟩ (.mk 6 [] [] (zee s val n ρ t acc).1)) R)
 | 0,ρ,t,acc,σ,S,R,hf,h0,hl,hn,hS,hσ,hc,hb,hA => by omega
 | n + 1,ρ,t,acc,σ,S,R,hf,h0,hl,hn,hS,hσ,hc,hb,hA => by
  rw [zee,if_neg (fun h => h hf)]
  dsimp only
  have frz:∀ (p:JV × Rs),Bad p.2 R → Bad (if isP (zaC s p.2).1 93=true then (acc ++ [p.1],(zaC s p.2).2) else zee s val n (zaC s (zdj (zaC s p.2).2 (zaC s p.2).1 44)).2 (zaC s (zdj (zaC s p.2).2 (zaC s p.2).1 44)).1 (acc ++ [p.1])).2 R:=by
   intro p hp
   split
   ·exact hp.froz (zat _ _)
   ·exact hp.froz ((zat _ _).trans ((zbA _ _ _).trans ((zat _ _).trans (zbU _ _ _ _ _ _))))
  have h1:=hv ρ t σ R hf h0 hl (by rw [hσ,List.length_cons,hS]) hc hb hA
  generalize val ρ t=a at h1 ⊢
  rcases h1 with h1 | ⟨f1,p1,q1,m1⟩
  ·exact .inl (frz a h1)
  simp only [hσ,zcN] at m1
  have h2:=zbF m1 (by simp) f1 (by omega)
  generalize zaC s a.2=b at h2 ⊢
  rcases h2 with h2 | ⟨f2,c2,a2,p2,q2,r2,_⟩
  ·left
   split
   ·exact h2
   ·exact h2.froz ((zbA _ _ _).trans ((zat _ _).trans (zbU _ _ _ _ _ _)))
  by_cases hcl:isP b.1 93=true
  ·rw [if_pos hcl]
   right
   have e:zar ⟨5,⟨false,[],acc ++ [a.1]⟩ :: S,a.2.nodes,σ.root⟩ b.1=(0,zcN ⟨5,S,a.2.nodes,σ.root⟩ (.mk 6 [] [] (acc ++ [a.1]))):=by
    simp [zar,onM,zdv,hcl,zcw,Fr.val]
   have m2:=zfy a2 e
   refine ⟨f2,by show ρ.pos ≤ b.2.pos; omega,q2,?_⟩
   show MRes s b.2.pos (zcN ⟨σ.st,S,b.2.nodes,σ.root⟩ _) R
   rw [c2,show zcN ⟨σ.st,S,a.2.nodes,σ.root⟩ (.mk 6 [] [] (acc ++ [a.1]))=zcN ⟨5,S,a.2.nodes,σ.root⟩ (.mk 6 [] [] (acc ++ [a.1])) from zbH _ _ _ _ _ _]
   exact m2
  ·rw [if_neg hcl]
   rcases ze3 (t:=b.1) (c:=44) f2 with ⟨h3,h4⟩ | ⟨h3,h4,h5⟩
   ·have e:zar ⟨5,⟨false,[],acc ++ [a.1]⟩ :: S,a.2.nodes,σ.root⟩ b.1=(0,⟨0,⟨false,[],acc ++ [a.1]⟩ :: S,a.2.nodes,σ.root⟩):=by
     simp [zar,onM,zdv,hcl,h3]
    have m2:=zfy a2 e
    simp only [h4]
    have h6:=zbF m2 (by simp) f2 (by omega)
    generalize zaC s b.2=c at h6 ⊢
    rcases h6 with h6 | ⟨f3,c3,a3,p3,q3,r3,_⟩
    ·exact .inl (h6.froz (zbU _ _ _ _ _ _))
    have r2:=r2 (by rw [(zde h3).1]; decide)
    have ih:=zhk hv hz n c.2 c.1 (acc ++ [a.1]) _ S R f3 (by omega) q3 (by omega) hS rfl (c2.symm.trans c3.symm) rfl a3
    rcases ih with ih | ⟨g1,g2,g3,g4⟩
    ·exact .inl ih
    ·right
     refine ⟨g1,by omega,g3,?_⟩
     rw [zbH σ.st 0]
     exact g4
   ·have e:zar ⟨5,⟨false,[],acc ++ [a.1]⟩ :: S,a.2.nodes,σ.root⟩ b.1=(140,⟨5,⟨false,[],acc ++ [a.1]⟩ :: S,a.2.nodes,σ.root⟩):=by
     simp [zar,onM,zdv,hcl,h3]
    have hR:=zc5 a2 e (by decide)
    left
    refine Bad.froz (ρ:=zdj b.2 b.1 44) ⟨by rw [h4]; decide,by rw [h4,h5]; exact hR⟩ ((zat _ _).trans (zbU _ _ _ _ _ _))
theorem rkey_sim {ρ:Rs} {t:Tk} {ks:List (List UInt8)} (hf:ρ.fail=0):(t.1=3 ∧ t.2.1 ∉ ks ∧ rkey ρ t ks=ρ) ∨ (¬ t.1=3 ∧ (rkey ρ t ks).fail=140 ∧ (rkey ρ t ks).wh=t.2.2) ∨ (t.1=3 ∧ t.2.1 ∈ ks ∧ (rkey ρ t ks).fail=143 ∧ (rkey ρ t ks).wh=t.2.2):=by
 unfold rkey
 by_cases h1:t.1=3
 ·have e:¬ ¬ t.1=3:=fun h => h h1
  simp only [if_neg e]
  by_cases h2:t.2.1 ∈ ks
  ·right; right
   simp only [if_pos h2]
   unfold zbq
   simp only [if_pos hf]
   exact ⟨h1,h2,trivial,trivial⟩
  ·left
   simp only [if_neg h2]
   exact ⟨h1,h2,trivial⟩
 ·right; left
  simp only [if_pos h1]
  have e2:zbq ρ t.2.2 140=⟨ρ.pos,ρ.nodes,140,t.2.2⟩:=by unfold zbq; rw [if_pos hf]
  rw [e2]
  by_cases h2:t.2.1 ∈ ks
  ·simp only [if_pos h2]
   unfold zbq
   exact ⟨h1,rfl,rfl⟩
  ·simp only [if_neg h2]
   exact ⟨h1,trivial,trivial⟩
theorem zhc {s:List UInt8} {val:Rs → Tk → JV × Rs} {d:Nat} (hv:zh3 s val (d + 1)) (hz:zfz val):∀ (n:Nat) (ρ:Rs) (t:Tk) (ks:List (List UInt8)) (its:List JV) (σ:Ms) (S:List Fr) (R:JV × Int × Int),
  ρ.fail=0 → 0 ≤ ρ.pos → ρ.pos ≤ s.length → s.length + 1 < n + ρ.pos → S.length=d → σ.stk=⟨true,ks,its⟩ :: S → σ.nodes=ρ.nodes → zar σ t=zhC σ t → AT s t ρ.pos σ R →
  Bad (zdK s val n ρ t ks its).2 R ∨ ((zdK s val n ρ t ks its).2.fail=0 ∧ ρ.pos ≤ (zdK s val n ρ t ks its).2.pos ∧ (zdK s val n ρ t ks its).2.pos ≤ s.length ∧ MRes s (zdK s val n ρ t ks its).2.pos (zcN ⟨σ.st,S,(zdK s val n ρ t ks its).2.nodes,σ.root⟩ (.mk 7 [] (zdK s val n ρ t ks its).1.1 (zdK s val n ρ t ks its).1.2)) R)
 | 0,ρ,t,ks,its,σ,S,R,hf,h0,hl,hn,hS,hσ,hc,hb,hA => by omega
 | n + 1,ρ,t,ks,its,σ,S,R,hf,h0,hl,hn,hS,hσ,hc,hb,hA => by
  rw [zdK,if_neg (fun h => h hf)]
  dsimp only
  have key:zar σ t=if ¬ t.1=3 then (140,σ) else if t.2.1 ∈ ks then (143,σ) else (0,⟨4,⟨true,ks ++ [t.2.1],its⟩ :: S,σ.nodes,σ.root⟩):=by
   rw [hb]; unfold zhC; rw [hσ]
  have last:∀ (v:JV × Rs),Bad v.2 R → Bad (if isP (zaC s v.2).1 125=true then ((ks ++ [t.2.1],its ++ [v.1]),(zaC s v.2).2) else zdK s val n (zaC s (zdj (zaC s v.2).2 (zaC s v.2).1 44)).2 (zaC s (zdj (zaC s v.2).2 (zaC s v.2).1 44)).1 (ks ++ [t.2.1]) (its ++ [v.1])).2 R:=by
   intro p hp
   split
   ·exact hp.froz (zat _ _)
   ·exact hp.froz ((zat _ _).trans ((zbA _ _ _).trans ((zat _ _).trans (zbT _ _ _ _ _ _ _))))
  rcases rkey_sim (t:=t) (ks:=ks) hf with ⟨k1,k2,k3⟩ | ⟨k1,k2,k3⟩ | ⟨k1,k2,k3,k4⟩
  rotate_left
  ·rw [if_pos k1] at key
   have hR:=zc5 hA key (by decide)
   left
   refine last _ (Bad.froz (ρ:=rkey ρ t ks) ⟨by rw [k2]; decide,by rw [k2,k3]; exact hR⟩ ?_)
   exact (zat _ _).trans ((zbA _ _ _).trans ((zat _ _).trans (hz _ _)))
  ·rw [if_neg (fun h => h k1),if_pos k2] at key
   have hR:=zc5 hA key (by decide)
   left
   refine last _ (Bad.froz (ρ:=rkey ρ t ks) ⟨by rw [k3]; decide,by rw [k3,k4]; exact hR⟩ ?_)
   exact (zat _ _).trans ((zbA _ _ _).trans ((zat _ _).trans (hz _ _)))
  rw [if_neg (fun h => h k1),if_neg k2] at key
  have m0:=zfy hA key
  rw [k3]
  have h1:=zbF m0 (by simp) hf h0
  generalize zaC s ρ=a at h1 ⊢
  rcases h1 with h1 | ⟨f1,c1,a1,p1,q1,r1,_⟩
  ·exact .inl (last _ (h1.froz ((zbA _ _ _).trans ((zat _ _).trans (hz _ _)))))
  rcases ze3 (t:=a.1) (c:=58) f1 with ⟨h3,h4⟩ | ⟨h3,h4,h5⟩
  rotate_left
  ·have e:zar ⟨4,⟨true,ks ++ [t.2.1],its⟩ :: S,σ.nodes,σ.root⟩ a.1=(140,⟨4,⟨true,ks ++ [t.2.1],its⟩ :: S,σ.nodes,σ.root⟩):=by
    simp [zar,h3]
   have hR:=zc5 a1 e (by decide)
   left
   exact last _ (Bad.froz (ρ:=zdj a.2 a.1 58) ⟨by rw [h4]; decide,by rw [h4,h5]; exact hR⟩ ((zat _ _).trans (hz _ _)))
  have e:zar ⟨4,⟨true,ks ++ [t.2.1],its⟩ :: S,σ.nodes,σ.root⟩ a.1=(0,⟨0,⟨true,ks ++ [t.2.1],its⟩ :: S,σ.nodes,σ.root⟩):=by
   simp [zar,h3]
  have m1:=zfy a1 e
  rw [h4]
  have h2:=zbF m1 (by simp) f1 (by omega)
  generalize zaC s a.2=b at h2 ⊢
  rcases h2 with h2 | ⟨f2,c2,a2,p2,q2,_,_⟩
  ·exact .inl (last _ (h2.froz (hz _ _)))
  have hV:=hv b.2 b.1 _ R f2 (by omega) q2 (by simp [hS]) (by show σ.nodes=_; omega) rfl a2
  generalize val b.2 b.1=v at hV ⊢
  rcases hV with hV | ⟨f3,p3,q3,m3⟩
  ·exact .inl (last v hV)
  simp only [zcN] at m3
  have h6:=zbF m3 (by simp) f3 (by omega)
  generalize zaC s v.2=c at h6 ⊢
  rcases h6 with h6 | ⟨f4,c4,a4,p4,q4,r4,_⟩
  ·left
   split
   ·exact h6
   ·exact h6.froz ((zbA _ _ _).trans ((zat _ _).trans (zbT _ _ _ _ _ _ _)))
  by_cases hcl:isP c.1 125=true
  ·rw [if_pos hcl]
   right
   have e:zar ⟨5,⟨true,ks ++ [t.2.1],its ++ [v.1]⟩ :: S,v.2.nodes,σ.root⟩ c.1=(0,zcN ⟨5,S,v.2.nodes,σ.root⟩ (.mk 7 [] (ks ++ [t.2.1]) (its ++ [v.1]))):=by
    simp [zar,onM,zdv,hcl,zcw,Fr.val]
   have m2:=zfy a4 e
   refine ⟨f4,by show ρ.pos ≤ c.2.pos; omega,q4,?_⟩
   show MRes s c.2.pos (zcN ⟨σ.st,S,c.2.nodes,σ.root⟩ _) R
   rw [c4,zbH σ.st 5]
   exact m2
  ·rw [if_neg hcl]
   rcases ze3 (t:=c.1) (c:=44) f4 with ⟨g3,g4⟩ | ⟨g3,g4,g5⟩
   ·have e:zar ⟨5,⟨true,ks ++ [t.2.1],its ++ [v.1]⟩ :: S,v.2.nodes,σ.root⟩ c.1=(0,⟨2,⟨true,ks ++ [t.2.1],its ++ [v.1]⟩ :: S,v.2.nodes,σ.root⟩):=by
     simp [zar,onM,zdv,hcl,g3]
    have m2:=zfy a4 e
    simp only [g4]
    have h6:=zbF m2 (by simp) f4 (by omega)
    generalize zaC s c.2=x at h6 ⊢
    rcases h6 with h6 | ⟨f5,c5,a5,p5,q5,_,_⟩
    ·exact .inl (h6.froz (zbT _ _ _ _ _ _ _))
    have r4:=r4 (by rw [(zde g3).1]; decide)
    have ih:=zhc hv hz n x.2 x.1 (ks ++ [t.2.1]) (its ++ [v.1]) _ S R f5 (by omega) q5 (by omega) hS rfl (c4.symm.trans c5.symm) rfl a5
    rcases ih with ih | ⟨i1,i2,i3,i4⟩
    ·exact .inl ih
    ·right
     refine ⟨i1,by omega,i3,?_⟩
     rw [zbH σ.st 2]
     exact i4
   ·have e:zar ⟨5,⟨true,ks ++ [t.2.1],its ++ [v.1]⟩ :: S,v.2.nodes,σ.root⟩ c.1=(140,⟨5,⟨true,ks ++ [t.2.1],its ++ [v.1]⟩ :: S,v.2.nodes,σ.root⟩):=by
     simp [zar,onM,zdv,hcl,g3]
    have hR:=zc5 a4 e (by decide)
    left
    exact Bad.froz (ρ:=zdj c.2 c.1 44) ⟨by rw [g4]; decide,by rw [g4,g5]; exact hR⟩ ((zat _ _).trans (zbT _ _ _ _ _ _ _))
theorem rarr_sim {s:List UInt8} {val:Rs → Tk → JV × Rs} {d:Nat} (hv:zh3 s val (d + 1)) (hz:zfz val) (ρ:Rs) (σ:Ms) (R:JV × Int × Int) (hf:ρ.fail=0) (h0:0 ≤ ρ.pos) (hl:ρ.pos ≤ s.length) (hS:σ.stk.length=d)
  (hc:σ.nodes + 1=ρ.nodes) (hm:MRes s ρ.pos (zbK σ false) R) :
  Bad (zmm s val ρ).2 R ∨ ((zmm s val ρ).2.fail=0 ∧ ρ.pos ≤ (zmm s val ρ).2.pos ∧ (zmm s val ρ).2.pos ≤ s.length ∧ MRes s (zmm s val ρ).2.pos (zcN ⟨σ.st,σ.stk,(zmm s val ρ).2.nodes,σ.root⟩ (zmm s val ρ).1) R):=by
 unfold zmm
 dsimp only
 have h1:=zbF hm (by simp [zbK]) hf h0
 generalize zaC s ρ=a at h1 ⊢
 rcases h1 with h1 | ⟨f1,c1,a1,p1,q1,r1,_⟩
 ·left
  split
  ·exact h1
  ·exact h1.froz (zbU _ _ _ _ _ _)
 by_cases hcl:isP a.1 93=true
 ·rw [if_pos hcl]
  right
  have e:zar (zbK σ false) a.1=(0,zcN ⟨1,σ.stk,σ.nodes + 1,σ.root⟩ (.mk 6 [] [] [])):=by
   simp [zar,zbK,zdv,hcl,zcw,Fr.val]
  have m2:=zfy a1 e
  refine ⟨f1,p1,q1,?_⟩
  show MRes s a.2.pos (zcN ⟨σ.st,σ.stk,a.2.nodes,σ.root⟩ _) R
  rw [c1,← hc,zbH σ.st 1]
  exact m2
 ·rw [if_neg hcl]
  have e:zar (zbK σ false) a.1=zaN (zbK σ false) a.1:=by
   simp [zar,zbK,zdv,hcl]
  have hL:=zhk hv hz (s.length + 2) a.2 a.1 [] (zbK σ false) σ.stk R f1 (by omega) q1 (by omega) hS rfl (by rw [c1,← hc]; rfl) e a1
  rcases hL with hL | ⟨g1,g2,g3,g4⟩
  ·exact .inl hL
  ·right
   refine ⟨g1,Int.le_trans p1 g2,g3,?_⟩
   show MRes s _ (zcN ⟨σ.st,σ.stk,_,σ.root⟩ _) R
   rw [zbH σ.st (zbK σ false).st]
   exact g4
theorem robj_sim {s:List UInt8} {val:Rs → Tk → JV × Rs} {d:Nat} (hv:zh3 s val (d + 1)) (hz:zfz val) (ρ:Rs) (σ:Ms) (R:JV × Int × Int) (hf:ρ.fail=0) (h0:0 ≤ ρ.pos) (hl:ρ.pos ≤ s.length) (hS:σ.stk.length=d)
  (hc:σ.nodes + 1=ρ.nodes) (hm:MRes s ρ.pos (zbK σ true) R) :
  Bad (zlV s val ρ).2 R ∨ ((zlV s val ρ).2.fail=0 ∧ ρ.pos ≤ (zlV s val ρ).2.pos ∧ (zlV s val ρ).2.pos ≤ s.length ∧ MRes s (zlV s val ρ).2.pos (zcN ⟨σ.st,σ.stk,(zlV s val ρ).2.nodes,σ.root⟩ (zlV s val ρ).1) R):=by
 unfold zlV
 dsimp only
 have h1:=zbF hm (by simp [zbK]) hf h0
 generalize zaC s ρ=a at h1 ⊢
 rcases h1 with h1 | ⟨f1,c1,a1,p1,q1,r1,_⟩
 ·left
  split
  ·exact h1
  ·exact h1.froz (zbT _ _ _ _ _ _ _)
 by_cases hcl:isP a.1 125=true
 ·rw [if_pos hcl]
  right
  have e:zar (zbK σ true) a.1=(0,zcN ⟨3,σ.stk,σ.nodes + 1,σ.root⟩ (.mk 7 [] [] [])):=by
   simp [zar,zbK,zdv,hcl,zcw,Fr.val]
  have m2:=zfy a1 e
  refine ⟨f1,p1,q1,?_⟩
  show MRes s a.2.pos (zcN ⟨σ.st,σ.stk,a.2.nodes,σ.root⟩ _) R
  rw [c1,← hc,zbH σ.st 3]
  exact m2
 ·rw [if_neg hcl]
  have e:zar (zbK σ true) a.1=zhC (zbK σ true) a.1:=by
   simp [zar,zbK,zdv,hcl]
  have hL:=zhc hv hz (s.length + 2) a.2 a.1 [] [] (zbK σ true) σ.stk R f1 (by omega) q1 (by omega) hS rfl (by rw [c1,← hc]; rfl) e a1
  rcases hL with hL | ⟨g1,g2,g3,g4⟩
  ·exact .inl hL
  ·right
   refine ⟨g1,Int.le_trans p1 g2,g3,?_⟩
   show MRes s _ (zcN ⟨σ.st,σ.stk,_,σ.root⟩ _) R
   rw [zbH σ.st (zbK σ true).st]
   exact g4
theorem zml (s:List UInt8) (val:Rs → Tk → JV × Rs) (ρ:Rs):zh5 ρ (zmm s val ρ).2:=by
 unfold zmm
 dsimp only
 split
 ·exact zat _ _
 ·exact (zat _ _).trans (zbU _ _ _ _ _ _)
theorem zlU (s:List UInt8) (val:Rs → Tk → JV × Rs) (ρ:Rs):zh5 ρ (zlV s val ρ).2:=by
 unfold zlV
 dsimp only
 split
 ·exact zat _ _
 ·exact (zat _ _).trans (zbT _ _ _ _ _ _ _)
theorem zea (s:List UInt8):∀ (f d:Nat),f + d=65 → d ≤ 64 → zh3 s (fun ρ t => zdJ s f ρ t d) d
 | 0,d,hd,hd2 => by omega
 | f + 1,d,hd,hd2 => by
  intro ρ t σ R hf h0 hl hS hc hb hA
  obtain ⟨k5,k4,kw,k6,k7,kw2⟩:=vk_kind (t:=t)
  have hz:zfz (fun ρ t => zdJ s f ρ t (d + 1)):=fun ρ t => ze4 s f ρ t (d + 1)
  dsimp only
  rw [zdJ,if_neg (fun h => h hf)]
  by_cases c0:vkE t=0
  ·rw [if_pos c0]
   have e:zar σ t=(140,σ):=by rw [hb]; unfold zaN; rw [if_pos c0]
   have hR:=zc5 hA e (by decide)
   left
   unfold zbq; rw [if_pos hf]
   exact ⟨by simp,hR⟩
  rw [if_neg c0]
  have hv:=vk_val t
  by_cases c1:t.1=2 ∧ d=64
  ·rw [if_pos c1]
   have hk:vkE t=6 ∨ vkE t=7:=by
    have n3:¬ vkE t=5:=fun h => by have:=k5.1 h; omega
    have n4:¬ vkE t=4:=fun h => by have:=k4.1 h; omega
    have nw:¬ (vkE t=1 ∨ vkE t=2 ∨ vkE t=3):=fun h => by have:=kw.1 h; omega
    omega
   have e:zar σ t=(141,σ):=by rw [hb]; unfold zaN; rw [if_neg c0,if_pos hk,if_pos (by omega)]
   have hR:=zc5 hA e (by decide)
   left
   unfold zbq; rw [if_pos hf]
   exact ⟨by simp,hR⟩
  rw [if_neg c1]
  have leaf:∀ (k:Int) (x:List UInt8),vkE t=k → ¬ (k=6 ∨ k=7) → zga t=((if t.1=4 then (zcF t.2.1).1 else 0),x) →
    Bad (zbN ρ t) R ∨ ((zbN ρ t).fail=0 ∧ ρ.pos ≤ (zbN ρ t).pos ∧ (zbN ρ t).pos ≤ s.length ∧ MRes s (zbN ρ t).pos (zcN ⟨σ.st,σ.stk,(zbN ρ t).nodes,σ.root⟩ (.mk k x [] [])) R):=by
   intro k x hk hn hx
   have hb':=hb
   unfold zaN at hb'
   rw [if_neg c0,if_neg (by rw [hk]; exact hn),hx] at hb'
   simp only at hb'
   rcases zhj (t:=t) hf with ⟨q1,q2⟩ | ⟨q1,q2,q3⟩
   ·left
    have q3:R=(jvZ,t.2.2,if t.1=4 ∧ ¬ (zcF t.2.1).1=0 then (zcF t.2.1).1 else 142):=by
     by_cases c4:t.1=4 ∧ ¬ (zcF t.2.1).1=0
     ·rw [if_pos c4]
      rw [if_pos c4.1,if_pos c4.2] at hb'
      exact zc5 hA hb' c4.2
     ·rw [if_neg c4]
      have:¬ ¬ (if t.1=4 then (zcF t.2.1).1 else 0)=0:=by
       intro h
       by_cases c5:t.1=4
       ·rw [if_pos c5] at h; exact c4 ⟨c5,h⟩
       ·rw [if_neg c5] at h; exact h rfl
      rcases q2 with q2 | q2
      ·exact absurd q2 c4
      ·rw [if_neg this,if_pos (by omega)] at hb'
       exact zc5 hA hb' (by decide)
    rw [q3]
    exact q1
   ·right
    have:¬ ¬ (if t.1=4 then (zcF t.2.1).1 else 0)=0:=by
     intro h
     by_cases c5:t.1=4
     ·rw [if_pos c5] at h; exact q2 ⟨c5,h⟩
     ·rw [if_neg c5] at h; exact h rfl
    rw [if_neg this,if_neg (by omega)] at hb'
    have m:=zfy hA hb'
    rw [q1]
    refine ⟨rfl,Int.le_refl _,hl,?_⟩
    rw [← hc,← hk]
    exact m
  have open_:∀ (b:Bool),vkE t=(if b=true then 7 else 6) → Bad (zbN ρ t) R ∨ (zbN ρ t=⟨ρ.pos,ρ.nodes + 1,0,ρ.wh⟩ ∧ MRes s ρ.pos (zbK σ b) R):=by
   intro b hk
   have hk':vkE t=6 ∨ vkE t=7:=by cases b <;> simp at hk <;> simp [hk]
   have n4:¬ t.1=4:=fun h => by have:=k4.2 h; omega
   have h2:t.1=2:=by
    rcases hk' with h | h
    ·exact (zde (k6.1 h)).1
    ·exact (zde (k7.1 h)).1
   have hb':=hb
   unfold zaN at hb'
   rw [if_neg c0,if_pos hk',if_neg (by omega)] at hb'
   rcases zhj (t:=t) hf with ⟨q1,q2⟩ | ⟨q1,q2,q3⟩
   ·left
    rcases q2 with q2 | q2
    ·exact absurd q2.1 n4
    rw [if_pos (by omega)] at hb'
    rw [if_neg (fun h => n4 h.1)] at q1
    rw [zc5 hA hb' (by decide)]
    exact q1
   ·right
    rw [if_neg (by omega)] at hb'
    refine ⟨q1,?_⟩
    have m:=zfy hA hb'
    have:decide (vkE t=7)=b:=by cases b <;> simp at hk <;> simp [hk]
    rw [this] at m
    exact m
  by_cases c5:t.1=5
  ·rw [if_pos c5]
   have hk:=kw.2 c5
   exact leaf _ _ (kw2 c5) (by rw [← kw2 c5]; omega) (by unfold zga; rw [if_neg (by omega),if_neg (by omega),if_neg (by omega)])
  rw [if_neg c5]
  by_cases c6:isP t 91=true
  ·rw [if_pos c6]
   have hk:=k6.2 c6
   have h2:=(zde c6).1
   rcases open_ false hk with h | ⟨h1,h3⟩
   ·exact .inl (h.froz (zml _ _ _))
   ·rw [h1]
    exact rarr_sim (zea s f (d + 1) (by omega) (by omega)) hz ⟨ρ.pos,ρ.nodes + 1,0,ρ.wh⟩ σ R rfl h0 hl hS (by show σ.nodes + 1=ρ.nodes + 1; omega) h3
  rw [if_neg c6]
  by_cases c7:isP t 123=true
  ·rw [if_pos c7]
   have hk:=k7.2 c7
   have h2:=(zde c7).1
   rcases open_ true hk with h | ⟨h1,h3⟩
   ·exact .inl (h.froz (zlU _ _ _))
   ·rw [h1]
    exact robj_sim (zea s f (d + 1) (by omega) (by omega)) hz ⟨ρ.pos,ρ.nodes + 1,0,ρ.wh⟩ σ R rfl h0 hl hS (by show σ.nodes + 1=ρ.nodes + 1; omega) h3
  rw [if_neg c7]
  by_cases c4:t.1=4
  ·rw [if_pos c4]
   have hk:=k4.2 c4
   exact leaf 4 _ hk (by omega) (by unfold zga; rw [if_pos hk,if_pos c4])
  ·rw [if_neg c4]
   have hk:vkE t=5:=by
    have n4:¬ vkE t=4:=fun h => c4 (k4.1 h)
    have nw:¬ (vkE t=1 ∨ vkE t=2 ∨ vkE t=3):=fun h => c5 (kw.1 h)
    have n6:¬ vkE t=6:=fun h => c6 (k6.1 h)
    have n7:¬ vkE t=7:=fun h => c7 (k7.1 h)
    omega
   exact leaf 5 _ hk (by omega) (by unfold zga; rw [if_neg (by omega),if_pos hk,if_neg c4])
theorem zdQ {s:List UInt8} {R:JV × Int × Int} (hs:s.length ≤ 1048576) (h:MRes s 0 ms0 R):R=za8 s:=by
 unfold za8
 rw [if_neg (by omega)]
 dsimp only
 have h1:=zbF (ρ:=rs0) h (by decide) rfl (by decide)
 generalize zaC s rs0=a at h1 ⊢
 have bad:∀ (ρ:Rs) (p:JV × Rs) (b:Tk × Rs),b=zaC s p.2 → Bad p.2 R → R=if ¬ (if b.2.fail=0 ∧ ¬ b.1.1=1 then zbq b.2 b.1.2.2 140 else b.2).fail=0 then (jvZ,(if b.2.fail=0 ∧ ¬ b.1.1=1 then zbq b.2 b.1.2.2 140 else b.2).wh,(if b.2.fail=0 ∧ ¬ b.1.1=1 then zbq b.2 b.1.2.2 140 else b.2).fail) else (p.1,(s.length:Int),0):=by
  intro ρ p b hb hp
  subst hb
  have h2:=hp.froz (zat s p.2)
  have e:(if (zaC s p.2).2.fail=0 ∧ ¬ (zaC s p.2).1.1=1 then zbq (zaC s p.2).2 (zaC s p.2).1.2.2 140 else (zaC s p.2).2)=(zaC s p.2).2:=if_neg (fun h => h2.1 h.1)
  rw [e,if_pos h2.1]
  exact h2.2
 rcases h1 with h1 | ⟨f1,c1,a1,p1,q1,_,_⟩
 ·exact bad a.2 _ _ rfl (h1.froz (ze4 _ _ _ _ _))
 have h0:(0:Int) ≤ a.2.pos:=p1
 have h2:=zea s 65 0 rfl (by omega) a.2 a.1 ms0 R f1 h0 q1 rfl (by rw [c1]; rfl) rfl a1
 dsimp only at h2
 generalize zdJ s 65 a.2 a.1 0=v at h2 ⊢
 rcases h2 with h2 | ⟨f2,p2,q2,m2⟩
 ·exact bad a.2 v _ rfl h2
 simp only [ms0,zcN] at m2
 have h3:=zbF m2 (by simp) f2 (by omega)
 have hb:=bad a.2 v (zaC s v.2) rfl
 generalize zaC s v.2=b at h3 hb ⊢
 rcases h3 with h3 | ⟨f3,c3,a3,p3,q3,r3,e3⟩
 ·have e:(if b.2.fail=0 ∧ ¬ b.1.1=1 then zbq b.2 b.1.2.2 140 else b.2)=b.2:=if_neg (fun h => h3.1 h.1)
  rw [e,if_pos h3.1]
  exact h3.2
 by_cases c1:b.1.1=1
 ·have e:zar ⟨6,[],v.2.nodes,v.1⟩ b.1=(0,⟨7,[],v.2.nodes,v.1⟩):=by simp [zar,c1]
  have m3:=zfy a3 e
  have e2:(if b.2.fail=0 ∧ ¬ b.1.1=1 then zbq b.2 b.1.2.2 140 else b.2)=b.2:=if_neg (fun h => h.2 c1)
  rw [e2,if_neg (fun h => h f3),← e3 c1]
  cases m3 with
  | fin _ => rfl
  | tok g _ => exact absurd rfl g
  | bad g _ _ => exact absurd rfl g
  | step g _ _ _ => exact absurd rfl g
 ·have e:zar ⟨6,[],v.2.nodes,v.1⟩ b.1=(140,⟨6,[],v.2.nodes,v.1⟩):=by simp [zar,c1]
  have hR:=zc5 a3 e (by decide)
  have e2:(if b.2.fail=0 ∧ ¬ b.1.1=1 then zbq b.2 b.1.2.2 140 else b.2)=⟨b.2.pos,b.2.nodes,140,b.1.2.2⟩:=by
   rw [if_pos ⟨f3,c1⟩]; unfold zbq; rw [if_pos f3]
  rw [e2,if_pos (by simp)]
  exact hR
end
end Go.Proofs.YthmdohgkmdkeeaaGreatDoor
namespace Go.Proofs.YthmdohgkmdkeeaaGreatDoor.Sx
open Go.RowKit
def zci (b gen n:Nat) (xs:List AV):AV → AV
 | .orow b' g' => if b'=b ∧ g'=gen then .row n xs else .orow b' g'
 | x => x
def zg0 (b gen n:Nat) (xs:List AV):OB → OB
 | .box T cs => .box T (cs.map (zci b gen n xs))
 | x => x
def pubO (objs:List OB) (b gen n:Nat) (xs:List AV):List OB:=(objs.map (zg0 b gen n xs)).set b .dead
def zhn (G:Gh) (b gen:Nat):Gh:=⟨G.blk,fun x => if x=b then some (gen + 1,.slice none 0 0) else G.cur x⟩
theorem zix {G:Gh} {b gen:Nat} {v:Value} (h:G.cur b=some (gen,v)):G.le (zhn G b gen) where
 blk:=fun _ _ h => h
 cur:=fun x n w hx => by
  by_cases hb:x=b
  ·subst hb
   rw [h] at hx; injection hx with hx; injection hx with h1 h2
   exact ⟨gen + 1,.slice none 0 0,by simp [zhn],.inr (by omega)⟩
  ·exact ⟨n,w,by simp [zhn,hb,hx],.inl ⟨rfl,rfl⟩⟩
theorem zdO {G:Gh} {b gen:Nat} (hb:G.blk b=none) {x g:Nat} (h:(zhn G b gen).own x=some g):x ≠ b ∧ G.own x=some g:=by
 by_cases hx:x=b
 ·subst hx
  exfalso
  unfold Gh.own zhn at h
  simp only [hb] at h
  simp [Value.ownBlock] at h
 ·refine ⟨hx,?_⟩
  unfold Gh.own zhn at h
  simp only [if_neg hx] at h
  exact h
def zle (I:Imm) (G:Gh) (b:Nat) (w:World):Imm:=fun g o v => I g o v ∨ (w.cell? ⟨g,o,none⟩=some v ∧ G.own b=some g)
theorem zob {G:Gh} {I:Imm} {objs:List OB} {w:World} (hm:MemOk G I objs w) {b E sz gen n:Nat} {xs:List AV} (hb:objs[b]? = some (.orow E sz gen n xs)) (x:AV) (y:Value) (h:Den G I x y):Den (zhn G b gen) (zle I G b w) (zci b gen n xs x) y:=by
 obtain ⟨v',vs,m1,m2,m3,m4,m5⟩:=hm.row b E sz gen n xs hb
 have hG:=zix m1
 have hI:Imm.le I (zle I G b w):=fun _ _ _ h => .inl h
 have other:zci b gen n xs x=x → Den (zhn G b gen) (zle I G b w) (zci b gen n xs x) y:=fun e => by rw [e]; exact Den.mono hG hI x y h
 cases x with
 | orow b' g' =>
  by_cases hh:b'=b ∧ g'=gen
  ·obtain ⟨rfl,rfl⟩:=hh
   have e:zci b' g' n xs (.orow b' g')=.row n xs:=by simp [zci]
   rw [e]
   simp only [Den] at h ⊢
   obtain ⟨g0,v,k1,k2,k3,_⟩:=h
   rw [k1] at m1; injection m1 with m1; injection m1 with m1 m6
   have hv:=k3 m1.symm
   subst m1 m6 hv
   have hown:=zbl m5 k1
   have q1:=zae.mono hG hI xs vs m3
   rcases m2.2 with ⟨rfl,rfl⟩ | ⟨g,cap,cur,rfl,hx1,hx2,hx3,hx4⟩
   ·have hvs:vs=[]:=List.eq_nil_of_length_eq_zero (by simpa using m2.1)
    subst hvs
    exact ⟨none,0,[],rfl,⟨Nat.le_refl _,by intro _ e; cases e⟩,q1,by simp,by simp⟩
   ·refine ⟨some ⟨g,0,none⟩,cap,vs,rfl,⟨hx3,by rintro _ ⟨⟩ _; rfl⟩,q1,m4,fun j u hj => ⟨g,0,rfl,.inr ⟨?_,hown⟩⟩⟩
    have:=m2.cells (g:=g) rfl j u hj
    rwa [zav] at this
  ·exact other (by simp only [zci,if_neg hh])
 | _ => exact other rfl
theorem zgB {G:Gh} {I:Imm} {objs:List OB} {w:World} (hm:MemOk G I objs w) {b E sz gen n:Nat} {xs:List AV} (hb:objs[b]? = some (.orow E sz gen n xs)):∀ (l:List AV) (ys:List Value),zae G I l ys → zae (zhn G b gen) (zle I G b w) (l.map (zci b gen n xs)) ys
 | [],ys,h => by simpa [zae] using h
 | x :: l,ys,h => by
  simp only [zae] at h
  obtain ⟨y,ys',rfl,h1,h2⟩:=h
  exact zae.cons (zob hm hb x y h1) (zgB hm hb l ys' h2)
theorem mem_pub {P:Program} [Tabs P] {C:Cx} {G:Gh} {I:Imm} {w:World} {objs:List OB} {b E sz gen n:Nat} {xs:List AV} (hb:objs[b]? = some (.orow E sz gen n xs)) (hin:In C G I w) (hm:MemOk G I objs w) :
  In C (zhn G b gen) (zle I G b w) w ∧ MemOk (zhn G b gen) (zle I G b w) (pubO objs b gen n xs) w:=by
 obtain ⟨v',vs,m1,m2,m3,m4,m5⟩:=hm.row b E sz gen n xs hb
 have hlt:b < objs.length:=by
  by_cases h:b < objs.length
  ·exact h
  ·rw [List.getElem?_eq_none (by omega)] at hb; cases hb
 have hG:=zix m1
 have hI:Imm.le I (zle I G b w):=fun _ _ _ h => .inl h
 have hin':In C (zhn G b gen) (zle I G b w) w:={
  os:=hin.os,tape:=hin.tape,output:=hin.output,size:=hin.size,block:=hin.block
  imm:=fun g o v h => .inl (hin.imm g o v h)
  news:=fun g o v h => by
   rcases h with h | ⟨_,h⟩
   ·exact hin.news g o v h
   ·exact .inr (hin.blk b g h)
  blk:=fun x g h => hin.blk x g (zdO m5 h).2
  gh:=hin.gh.trans hG }
 have hat:∀ x o,(pubO objs b gen n xs)[x]? = some o → o=.dead ∨ (x ≠ b ∧ ∃ o',objs[x]? = some o' ∧ zg0 b gen n xs o'=o):=by
  intro x o h
  unfold pubO at h
  by_cases hx:x=b
  ·subst hx
   rw [List.getElem?_set_self (by simpa using hlt)] at h
   injection h with h; exact .inl h.symm
  ·rw [List.getElem?_set_ne (Ne.symm hx),List.getElem?_map] at h
   obtain ⟨o',h1,h2⟩:=Option.map_eq_some_iff.1 h
   exact .inr ⟨hx,o',h1,h2⟩
 have hm':MemOk (zhn G b gen) (zle I G b w) (pubO objs b gen n xs) w:={
  imm:=fun g o v h => by
   rcases h with h | ⟨h,_⟩
   ·exact hm.imm g o v h
   ·exact h
  box:=fun x T cs h => by
   rcases hat x _ h with h | ⟨hx,o',h1,h2⟩
   ·cases h
   ·cases o' with
    | box T' cs' =>
     injection h2 with e1 e2
     subst e1 e2
     obtain ⟨g,ys,k1,k2,k3,k4⟩:=hm.box x _ _ h1
     exact ⟨g,ys,k1,k2,zgB hm hb _ _ k3,k4⟩
    | orow => cases h2
    | mp => cases h2
    | dead => cases h2
  row:=fun x E' sz' gen' n' xs' h => by
   rcases hat x _ h with h | ⟨hx,o',h1,h2⟩
   ·cases h
   ·cases o' with
    | box T' cs' => cases h2
    | orow =>
     injection h2 with e1 e2 e3 e4 e5
     subst e1 e2 e3 e4 e5
     obtain ⟨v,ys,k1,k2,k3,k4,k5⟩:=hm.row x _ _ _ _ _ h1
     exact ⟨v,ys,by simp [zhn,hx,k1],k2,zae.mono hG hI _ _ k3,k4,k5⟩
    | mp => cases h2
    | dead => cases h2
  map:=fun x es h => by
   rcases hat x _ h with h | ⟨hx,o',h1,h2⟩
   ·cases h
   ·cases o' with
    | box T' cs' => cases h2
    | orow => cases h2
    | mp =>
     injection h2 with e1
     subst e1
     obtain ⟨g,en,ck,k1,k2,k3⟩:=hm.map x _ h1
     exact ⟨g,en,ck,k1,k2,k3.mono hG hI⟩
    | dead => cases h2
  inj:=fun x x' g h h' => hm.inj x x' g (zdO m5 h).2 (zdO m5 h').2
  lt:=fun x g h => hm.lt x g (zdO m5 h).2
  apart:=fun x g o v h h' => by
   obtain ⟨hx,h1⟩:=zdO m5 h
   rcases h' with h' | ⟨_,h'⟩
   ·exact hm.apart x g o v h1 h'
   ·exact hx (hm.inj x b g h1 h')
  fresh:=fun x hx => by
   have hx':objs.length ≤ x:=by simpa [pubO] using hx
   obtain ⟨k1,k2⟩:=hm.fresh x hx'
   exact ⟨k1,by simp [zhn,k2]; omega⟩ }
 exact ⟨hin',hm'⟩
end Go.Proofs.YthmdohgkmdkeeaaGreatDoor.Sx
namespace Go.Proofs.YthmdohgkmdkeeaaGreatDoor.Sx
open Go.RowKit
section
variable {P:Program} [Tabs P] {C:Cx} [On P C] {F:zaF} {objs:List OB} {tm:List AV}
end
section
variable {P:Program} [Tabs P]
end
end Go.Proofs.YthmdohgkmdkeeaaGreatDoor.Sx
namespace Go.Proofs.YthmdohgkmdkeeaaGreatDoor
open Go.RowKit Sx
section
variable [Tabs Tryz.prog] {objs:List OB} {K:List OB → AV → Prop}
end
end Go.Proofs.YthmdohgkmdkeeaaGreatDoor
namespace Go.Proofs.YthmdohgkmdkeeaaGreatDoor
open Go.RowKit Sx
section
attribute [local irreducible] run
mutual
/-- a JSON value, cell for cell -/
def zaq:JV → List AV
 | .mk k t ks its => [.i .i64 k,.s t,.row ks.length (ks.map .s),.row its.length (zac its)]
def zac:List JV → List AV
 | [] => []
 | v :: l => zaq v ++ zac l
end
def JV.kind:JV → Int | .mk k _ _ _ => k
def JV.text:JV → List UInt8 | .mk _ t _ _ => t
def JV.keys:JV → List (List UInt8) | .mk _ _ ks _ => ks
def JV.items:JV → List JV | .mk _ _ _ its => its
theorem zap (v:JV):zaq v=[.i .i64 v.kind,.s v.text,.row v.keys.length (v.keys.map .s),.row v.items.length (zac v.items)]:=by cases v; rw [zaq]; rfl
theorem zau:zac []=[]:=by rw [zac]
theorem zay (v:JV) (l:List JV):zac (v :: l)=zaq v ++ zac l:=by rw [zac]
theorem zei (v:JV):(zaq v).length=4:=by rw [zap]; rfl
theorem zaV (l:List JV):(zac l).length=l.length * 4:=by
 induction l with
 | nil => rw [zau]; rfl
 | cons v l ih => rw [zay,List.length_append,zei,ih,List.length_cons]; omega
theorem zdu (a b:List JV):zac (a ++ b)=zac a ++ zac b:=by
 induction a with
 | nil => rw [zau]; rfl
 | cons v l ih => rw [List.cons_append,zay,zay,ih,List.append_assoc]
theorem ziI:∀ {l:List JV} {i:Nat} (hi:i < l.length),((zac l).drop (i * 4)).take 4=zaq l[i]
 | a :: l,0,hi => by
  rw [zay,Nat.zero_mul,List.drop_zero]
  exact List.take_left' (zei a)
 | a :: l,i + 1,hi => by
  rw [zay,show (i + 1) * 4=4 + i * 4 by omega,← List.drop_drop,List.drop_left' (zei a)]
  simpa using ziI (l:=l) (i:=i) (by simpa using hi)
theorem zaJ (l:List (List UInt8)):zam (l.map AV.s)=true:=by
 induction l with
 | nil => rfl
 | cons a l ih => simp [zam,AV.plain,ih]
theorem ziG (a b:List AV):zam (a ++ b)=(zam a && zam b):=by
 induction a with
 | nil => simp [zam]
 | cons x a ih => simp [zam,ih,Bool.and_assoc]
mutual
theorem zbr:∀ v:JV,zam (zaq v)=true
 | .mk k t ks its => by
  rw [zaq]
  simp only [zam,AV.plain,zaJ,zcX its,Bool.and_self]
theorem zcX:∀ l:List JV,zam (zac l)=true
 | [] => by rw [zac]; rfl
 | v :: l => by rw [zac,ziG,zbr v,zcX l]; rfl
end
mutual
/-- how many values there are in a value -/
def JV.size:JV → Nat
 | .mk _ _ _ its => JV.sizes its + 1
def JV.sizes:List JV → Nat
 | [] => 0
 | v :: l => JV.size v + JV.sizes l
end
theorem zlK:∀ {l:List JV} {i:Nat} (hi:i < l.length),JV.size l[i] ≤ JV.sizes l
 | a :: l,0,hi => by rw [JV.sizes]; simp
 | a :: l,i + 1,hi => by
  rw [JV.sizes]
  have:=zlK (l:=l) (i:=i) (by simpa using hi)
  simp only [List.getElem_cons_succ]
  omega
theorem zcp {v:JV} {i:Nat} (hi:i < v.items.length):JV.size v.items[i] < JV.size v:=by
 cases v with
 | mk k t ks its =>
  have:=zlK (l:=its) (i:=i) hi
  rw [JV.size.eq_def (.mk k t ks its)]
  show JV.size its[i] < _
  simp only
  omega
def zaE {α:Type} (L:List (Nat × α)) (o:List α):Prop:=(L.map (·.1)).Nodup ∧ ∀ x ∈ L,o[x.1]? = some x.2
theorem zaE.get {α:Type} {L:List (Nat × α)} {o:List α} (h:zaE L o) {i:Nat} {x:α} (hx:(i,x) ∈ L):o[i]? = some x:=h.2 _ hx
theorem zaE.perm {α:Type} {L L':List (Nat × α)} {o:List α} (h:zaE L o) (p:L.Perm L'):zaE L' o :=
 ⟨(p.map _).nodup_iff.1 h.1,fun x hx => h.2 x (p.mem_iff.2 hx)⟩
theorem zaE.sub {α:Type} {L L':List (Nat × α)} {o:List α} (h:zaE L o) (p:L'.Sublist L):zaE L' o :=
 ⟨(p.map _).nodup h.1,fun x hx => h.2 x (p.subset hx)⟩
theorem zaE.set {α:Type} {A B:List (Nat × α)} {o:List α} {i:Nat} {x:α} (y:α) (h:zaE (A ++ (i,x) :: B) o):zaE (A ++ (i,y) :: B) (o.set i y):=by
 obtain ⟨h1,h2⟩:=h
 simp only [List.map_append,List.map_cons] at h1
 have hi:o[i]? = some x:=h2 (i,x) (by simp)
 have hlt:=(List.getElem?_eq_some_iff.1 hi).1
 have hne:∀ z ∈ A ++ B,z.1 ≠ i:=by
  intro z hz e
  rw [List.nodup_append] at h1
  obtain ⟨n1,n2,n3⟩:=h1
  rcases List.mem_append.1 hz with hz | hz
  ·exact n3 z.1 (List.mem_map_of_mem hz) i (by simp) e
  ·rw [List.nodup_cons] at n2
   exact n2.1 (e ▸ List.mem_map_of_mem hz)
 refine ⟨by simpa only [List.map_append,List.map_cons] using h1,fun z hz => ?_⟩
 rcases List.mem_append.1 hz with hz | hz
 ·rw [List.getElem?_set_ne (hne z (List.mem_append_left _ hz)).symm]
  exact h2 z (List.mem_append_left _ hz)
 ·rcases List.mem_cons.1 hz with rfl | hz
  ·exact List.getElem?_set_self hlt
  ·rw [List.getElem?_set_ne (hne z (List.mem_append_right _ hz)).symm]
   exact h2 z (List.mem_append_right _ (List.mem_cons_of_mem _ hz))
theorem zaE.lt {α:Type} {L:List (Nat × α)} {o:List α} (h:zaE L o) {i:Nat} {x:α} (hx:(i,x) ∈ L):i < o.length:=(List.getElem?_eq_some_iff.1 (h.get hx)).1
theorem zaE.app {α:Type} {L:List (Nat × α)} {o:List α} (h:zaE L o) (more:List α):zaE L (o ++ more) :=
 ⟨h.1,fun x hx => by rw [List.getElem?_append_left (h.lt (i:=x.1) (x:=x.2) hx)]; exact h.2 x hx⟩
theorem zaE.new {α:Type} {L:List (Nat × α)} {o:List α} (h:zaE L o) (x:α):zaE ((o.length,x) :: L) (o ++ [x]):=by
 refine ⟨?_,fun z hz => ?_⟩
 ·rw [List.map_cons,List.nodup_cons]
  refine ⟨fun hm => ?_,h.1⟩
  obtain ⟨z,hz,e⟩:=List.mem_map.1 hm
  have:=h.lt (i:=z.1) (x:=z.2) hz
  simp only at e
  omega
 ·rcases List.mem_cons.1 hz with rfl | hz
  ·simp
  ·exact (h.app [x]).2 z hz
theorem zaE.mapset {α:Type} {L:List (Nat × α)} {o:List α} {b:Nat} {x d:α} (f:α → α) (h:zaE ((b,x) :: L) o) (hf:∀ z ∈ L,f z.2=z.2):zaE L ((o.map f).set b d):=by
 obtain ⟨h1,h2⟩:=h
 rw [List.map_cons,List.nodup_cons] at h1
 refine ⟨h1.2,fun z hz => ?_⟩
 have hne:¬ b=z.1:=fun e => h1.1 (by show b ∈ _; rw [e]; exact List.mem_map_of_mem hz)
 rw [List.getElem?_set_ne hne,List.getElem?_map,h2 z (List.mem_cons_of_mem _ hz),Option.map_some,hf z hz]
theorem jweak {P:Program} [Tabs P] {f:FuncId} {args args':List AV} {objs:List OB} {K:List OB → AV → Prop} (h:∀ G I ys,zae G I args ys → zae G I args' ys) (hc:zad P f args' objs K):zad P f args objs K :=
 fun C _ G I w hin hm ys hd => hc C G I w hin hm ys (h G I ys hd)
theorem zdV {G:Gh} {I:Imm} {y:Value} (h:Den G I .nil y):Den G I (.row 0 []) y:=by
 simp only [Den] at h ⊢
 exact ⟨none,0,[],h,⟨Nat.le_refl _,fun ad h => by cases h⟩,zae.nil,by simp,by simp⟩
def subD (b gen n:Nat) (xs:List AV):AV → AV
 | .agg cs => .agg (cs.map (zci b gen n xs))
 | x => zci b gen n xs x
theorem den_subD {G:Gh} {I:Imm} {objs:List OB} {w:World} (hm:MemOk G I objs w) {b E sz gen n:Nat} {xs:List AV} (hb:objs[b]? = some (.orow E sz gen n xs)) (x:AV) (y:Value) (h:Den G I x y):Den (zhn G b gen) (zle I G b w) (subD b gen n xs x) y:=by
 cases x with
 | agg cs =>
  simp only [Den,subD] at h ⊢
  obtain ⟨ys,h1,h2,h3⟩:=h
  exact ⟨ys,h1,zgB hm hb _ _ h2,h3⟩
 | _ => exact zob hm hb _ _ h
theorem zhR {G:Gh} {I:Imm} {objs:List OB} {w:World} (hm:MemOk G I objs w) {b E sz gen n:Nat} {xs:List AV} (hb:objs[b]? = some (.orow E sz gen n xs)):∀ (l:List AV) (ys:List Value),zae G I l ys → zae (zhn G b gen) (zle I G b w) (l.map (subD b gen n xs)) ys
 | [],ys,h => by simpa [zae] using h
 | x :: l,ys,h => by
  simp only [zae] at h
  obtain ⟨y,ys',rfl,h1,h2⟩:=h
  exact zae.cons (den_subD hm hb x y h1) (zhR hm hb l ys' h2)
theorem zfv {P:Program} [Tabs P] {f:FuncId} {args:List AV} {objs:List OB} {K:List OB → AV → Prop} {b E sz gen n:Nat} {xs:List AV} (hb:objs[b]? = some (.orow E sz gen n xs)) (hc:zad P f (args.map (subD b gen n xs)) (pubO objs b gen n xs) K):zad P f args objs K:=by
 intro C _ G I w hin hm ys hd
 obtain ⟨v',vs,m1,m2,m3,m4,m5⟩:=hm.row b E sz gen n xs hb
 have hG:=zix m1
 have hI:Imm.le I (zle I G b w):=fun _ _ _ h => .inl h
 obtain ⟨hin',hm'⟩:=mem_pub (P:=P) hb hin hm
 refine (hc C _ _ w hin' hm' ys (zhR hm hb _ _ hd)).mono ?_
 rintro e w' ⟨y,objs',r,G',I',he,hk,h1,h2,h3,h4,hy⟩
 exact ⟨y,objs',r,G',I',he,hk,hG.trans h1,fun g o v h => h2 g o v (hI g o v h),h3,h4,hy⟩
theorem zcS {b gen n:Nat} {xs:List AV} {x:AV} (h:x.plain=true):zci b gen n xs x=x:=by
 cases x <;> first | rfl | (simp [AV.plain] at h)
end
end Go.Proofs.YthmdohgkmdkeeaaGreatDoor
namespace Go.Proofs.YthmdohgkmdkeeaaGreatDoor.Sx
open Go.RowKit Go.WideShapes Go.ChangeShapes Go.ChangeAt
inductive TT where
 | s
 | b
 | i (k:IntKind)
 | st (ts:List TT)
 | sl (t:TT)
 | rv
inductive RV where
 | mk (k:Int) (t:List UInt8) (ks:List (List UInt8)) (its:List RV)
mutual
def zfL:RV → List AV
 | .mk k t ks its => [.i .i64 k,.s t,.row ks.length (ks.map .s),.row its.length (ze9 its)]
def ze9:List RV → List AV
 | [] => []
 | v :: l => zfL v ++ ze9 l
end
mutual
def RVok:RV → Prop
 | .mk k t ks its => (Lit.int .i64 k).wf=true ∧ t.length ≤ 140737488351232 ∧ ks.length ≤ 140737488351232 ∧ (∀ k ∈ ks,k.length ≤ 140737488351232) ∧ its.length ≤ 140737488351232 ∧ zoH its
def zoH:List RV → Prop
 | [] => True
 | v :: l => RVok v ∧ zoH l
end
mutual
def ShT:TT → List AV → Prop
 | .s,xs => ∃ l:List UInt8,xs=[.s l] ∧ l.length ≤ 140737488351232
 | .b,xs => ∃ b,xs=[.b b]
 | .i k,xs => ∃ n,xs=[.i k n] ∧ (Lit.int k n).wf=true
 | .st ts,xs => ShTs ts xs
 | .sl t,xs => ∃ gs:List (List AV),xs=[.row gs.length gs.flatten] ∧ gs.length ≤ 140737488351232 ∧ ∀ g ∈ gs,ShT t g
 | .rv,xs => ∃ r:RV,xs=zfL r ∧ RVok r
def ShTs:List TT → List AV → Prop
 | [],xs => xs=[]
 | t :: ts,xs => ∃ a b,xs=a ++ b ∧ ShT t a ∧ ShTs ts b
end
def ShA:TT → AV → Prop
 | .st ts,x => ∃ cs,x=.agg cs ∧ ShTs ts cs
 | .rv,x => ∃ r:RV,x=.agg (zfL r) ∧ RVok r
 | t,x => ShT t [x]
def ShAs:List TT → List AV → Prop
 | [],xs => xs=[]
 | t :: ts,xs => ∃ x ys,xs=x :: ys ∧ ShA t x ∧ ShAs ts ys
def trTs (P:Program) (rc:TypeId → Option TT):Nat → List Field → Option (List TT)
 | o,[] => some []
 | o,f :: fs => match rc f.type,trTs P rc (o + P.cellsOf f.type) fs with
  | some t,some ts => if f.offset=o then some (t :: ts) else none
  | _,_ => none
def zfu (P:Program):List Field → Nat
 | [] => 0
 | f :: fs => P.cellsOf f.type + zfu P fs
def isRV (P:Program) (t:TypeId):List Field → Bool
 | [a,b,c,d] => (a.offset == 0 && b.offset == 1 && c.offset == 2 && d.offset == 3) && (P.cellsOf t == 4 && P.cellsOf a.type == 1 && P.cellsOf b.type == 1 && P.cellsOf c.type == 1 && P.cellsOf d.type == 1) && decide (0 < P.bytesOf t) && (match P.underlying a.type,P.underlying b.type,P.underlying c.type,P.underlying d.type with
  | some (.int .i64),some .string,some (.slice e),some (.slice f) => f == t && P.cellsOf e == 1 && decide (0 < P.bytesOf e) && (match P.underlying e with | some .string => true | _ => false)
  | _,_,_,_ => false)
 | _ => false
def trT (P:Program):Nat → TypeId → Option TT
 | 0,_ => none
 | d + 1,t => match P.underlying t with
  | some .string => some .s
  | some .bool => some .b
  | some (.int k) => some (.i k)
  | some (.struct fs) => if isRV P t fs.toList=true then some .rv else if P.cellsOf t=zfu P fs.toList then (trTs P (trT P d) 0 fs.toList).map .st else none
  | some (.slice e) => if 0 < P.cellsOf e ∧ 0 < P.bytesOf e then (trT P d e).map .sl else none
  | _ => none
theorem zcP {H:Type} {P:Program} {e:TypeId}:∀ {ds:List (DataW H)} {d:DataW H},d ∈ ds → ∀ n ∈ d.weights P e,n ∈ DataW.weightsAll P e ds
 | [],d,hd,n,hn => by cases hd
 | d0 :: ds,d,hd,n,hn => by
  simp only [DataW.weightsAll,List.mem_append]
  rcases List.mem_cons.1 hd with rfl | hd
  ·exact .inl hn
  ·exact .inr (zcP hd n hn)
theorem zjh {w:World} {G:Gh} {I:Imm} {t:TT} (a:Addr) (c:Nat) (hI:∀ g o v,w.cell? ⟨g,o,none⟩=some v → I g o v):∀ k:Nat,
  (∀ i,i < k → ∃ (g:List AV) (ys:List Value),ys.length=c ∧ (∀ j,j < c → w.cell? ((a.add (i * c)).add j)=ys[j]?) ∧ zae G I g ys ∧ ShT t g ∧ ∀ u ∈ ys,u.oneCell'=true) →
  ∃ (gs:List (List AV)) (ys:List Value),gs.length=k ∧ ys.length=k * c ∧ zae G I gs.flatten ys ∧ (∀ g ∈ gs,ShT t g) ∧ (∀ u ∈ ys,u.oneCell'=true) ∧ ∀ j,j < k * c → w.cell? (a.add j)=ys[j]?
 | 0,_ => ⟨[],[],rfl,by simp,zae.nil,by simp,by simp,fun j hj => by simp at hj⟩
 | k + 1,h => by
  obtain ⟨gs,ys,h1,h2,h3,h4,h5,h6⟩:=zjh a c hI k (fun i hi => h i (by omega))
  obtain ⟨g,zs,k1,k2,k3,k4,k5⟩:=h k (by omega)
  have hm:(k + 1) * c=k * c + c:=Nat.succ_mul k c
  refine ⟨gs ++ [g],ys ++ zs,by simp [h1],by rw [List.length_append,h2,k1,hm],?_,?_,?_,?_⟩
  ·rw [List.flatten_append,List.flatten_cons,List.flatten_nil,List.append_nil]
   exact zae.append h3 k3
  ·intro x hx
   rcases List.mem_append.1 hx with hx | hx
   ·exact h4 x hx
   ·rw [List.mem_singleton] at hx; subst hx; exact k4
  ·intro u hu
   rcases List.mem_append.1 hu with hu | hu
   ·exact h5 u hu
   ·exact k5 u hu
  ·intro j hj
   by_cases hjk:j < k * c
   ·rw [h6 j hjk,List.getElem?_append_left (by omega)]
   ·have:=k2 (j - k * c) (by omega)
    rw [Addr.add_add,show k * c + (j - k * c)=j by omega] at this
    rw [this,List.getElem?_append_right (by omega),h2]
theorem add_flat {a:Addr} {j:Nat} (ha:a.spot=none):a.add j=⟨a.block,a.off + j,none⟩:=by
 cases a
 simp only at ha
 subst ha
 unfold Addr.add
 split
 ·rename_i h; subst h; rfl
 ·rfl
section
variable {H:Type} {enc:TypeId × Value → H} {P:Program} {w:World} {base:Nat} {spare:Nat → Bool} {held:Bool} {G:Gh} {I:Imm}
theorem zfN (d:Nat) (ih:∀ (t:TypeId) (tt:TT) (fuel:Nat) (cs:List Value) (x:DataW H × List MemPlace),trT P d t=some tt → DataW.trod enc P w base spare held fuel t cs=some x → (∀ n ∈ x.1.weights P t,n ≤ reachBytes) → ∃ xs,zae G I xs cs ∧ ShT tt xs ∧ ∀ u ∈ cs,u.oneCell'=true) (n:Nat) :
  ∀ (fs:List Field) (ts:List TT) (o:Nat) (cs:List Value),trTs P (trT P d) o fs=some ts → cs.length=o + zfu P fs → (∀ f ∈ fs,∃ x,DataW.trod enc P w base spare held n f.type ((cs.drop f.offset).take (P.cellsOf f.type))=some x ∧ ∀ m ∈ x.1.weights P f.type,m ≤ reachBytes) →
   ∃ xs,zae G I xs (cs.drop o) ∧ ShTs ts xs ∧ ∀ u ∈ cs.drop o,u.oneCell'=true
 | [],ts,o,cs,ht,hl,hf => by
  simp only [trTs,Option.some.injEq] at ht; subst ht
  have:cs.drop o=[]:=List.drop_eq_nil_of_le (by simp [zfu] at hl; omega)
  rw [this]
  exact ⟨[],zae.nil,rfl,by simp⟩
 | f :: fs,ts,o,cs,ht,hl,hf => by
  simp only [trTs] at ht
  split at ht
  ·rename_i t ts' h1 h2
   split at ht
   ·rename_i ho
    injection ht with ht; subst ht
    obtain ⟨x,hx,hxw⟩:=hf f (List.mem_cons_self ..)
    rw [ho] at hx
    obtain ⟨xs,k1,k2,k3⟩:=ih _ _ _ _ _ h1 hx hxw
    simp only [zfu] at hl
    obtain ⟨ys,m1,m2,m3⟩:=zfN d ih n fs ts' (o + P.cellsOf f.type) cs h2 (by omega) (fun f' hf' => hf f' (List.mem_cons_of_mem _ hf'))
    have e:cs.drop o=(cs.drop o).take (P.cellsOf f.type) ++ cs.drop (o + P.cellsOf f.type):=by
     rw [← List.drop_drop,List.take_append_drop]
    refine ⟨xs ++ ys,?_,?_,?_⟩
    ·rw [e]; exact zae.append k1 m1
    ·exact ⟨xs,ys,rfl,k2,m2⟩
    ·rw [e]; intro u hu
     rcases List.mem_append.1 hu with hu | hu
     ·exact k3 u hu
     ·exact m3 u hu
   ·cases ht
  ·cases ht
theorem zeg (hI:∀ g o v,w.cell? ⟨g,o,none⟩=some v → I g o v) (hspa:∀ b,spare b=true) {t e:TypeId} {te:TT} {fuel:Nat} {cs:List Value} {x:DataW H × List MemPlace} (hu:P.underlying t=some (.slice e)) (hc:0 < P.cellsOf e ∧ 0 < P.bytesOf e)
  (ih:∀ (n:Nat) (ys:List Value) (x:DataW H × List MemPlace),n < fuel → DataW.trod enc P w base spare held n e ys=some x → (∀ n ∈ x.1.weights P e,n ≤ reachBytes) → ∃ g,zae G I g ys ∧ ShT te g ∧ ∀ u ∈ ys,u.oneCell'=true)
  (h:DataW.trod enc P w base spare held fuel t cs=some x) (hwt:∀ n ∈ x.1.weights P t,n ≤ reachBytes):∃ xs,zae G I xs cs ∧ ShT (.sl te) xs ∧ ∀ u ∈ cs,u.oneCell'=true:=by
 rcases DataW.trod_slice hu h with ⟨rfl,rfl⟩ | ⟨a,len,cap,elems,rest,n,hfu,rfl,rfl,hb,hl,hm,hlen,hel,hsr,_⟩
 ·exact ⟨[.row 0 []],zae.cons (by simp only [Den]; exact ⟨none,0,[],rfl,⟨Nat.le_refl _,fun ad h => by cases h⟩,zae.nil,by simp,by simp⟩) zae.nil,⟨[],rfl,by simp,by simp⟩,by simp; rfl⟩
 ·have hw2:(elems.length + rest.length) * P.bytesOf e ≤ reachBytes:=by
   have:=hwt ((elems.map (·.1)).length + (rest.map (·.1)).length |> (· * P.bytesOf e)) (by simp [DataW.weights,hu])
   simpa using this
  have hel2:elems.length ≤ 140737488351232:=by
   have h1:elems.length * 1 ≤ (elems.length + rest.length) * P.bytesOf e:=Nat.mul_le_mul (by omega) hc.2
   have:reachBytes=140737488351232:=rfl
   omega
  have hel3:∀ i,i < len → ∃ (g:List AV) (ys:List Value),ys.length=P.cellsOf e ∧ (∀ j,j < P.cellsOf e → w.cell? ((a.add (i * P.cellsOf e)).add j)=ys[j]?) ∧ zae G I g ys ∧ ShT te g ∧ ∀ u ∈ ys,u.oneCell'=true:=by
   intro i hi
   have h1:=hel i hi
   have hil:i < elems.length:=by omega
   rw [List.getElem?_eq_getElem hil,Option.bind_eq_some_iff] at h1
   obtain ⟨ys,y1,y2⟩:=h1
   obtain ⟨_,z1,z2⟩:=World.cells?_some y1
   obtain ⟨g,g1,g2,g3⟩:=ih n ys _ (by omega) y2 (fun m hm => hwt m (by
    simp only [DataW.weights,hu,List.mem_cons,List.mem_append]
    exact .inr (.inl (zcP (List.mem_map.2 ⟨_,List.getElem_mem hil,rfl⟩) m hm))))
   exact ⟨g,ys,z1,z2,g1,g2,g3⟩
  obtain ⟨gs,ys,k1,k2,k3,k4,k5,k6⟩:=zjh (G:=G) a (P.cellsOf e) hI len hel3
  have hsp0:cap ≠ 0 → a.spot=none:=by
   intro hcap
   by_cases hl0:0 < len
   ·have hp:0 < len * P.cellsOf e:=Nat.mul_pos hl0 hc.1
    have h2:=k6 0 hp
    rw [List.getElem?_eq_getElem (by omega)] at h2
    have:=World.cell?_spot h2
    simpa [Addr.add] using this
   ·have hr:=(hsr (hspa _)).2 0 (by omega)
    have hrl:=(hsr (hspa _)).1
    rw [List.getElem?_eq_getElem (by omega),Option.bind_eq_some_iff] at hr
    obtain ⟨zs,y1,_⟩:=hr
    obtain ⟨_,z1,z2⟩:=World.cells?_some y1
    have h2:=z2 0 hc.1
    rw [List.getElem?_eq_getElem (by omega)] at h2
    have:=World.cell?_spot h2
    have hl1:len=0:=by omega
    subst hl1
    simpa [Addr.add] using this
  refine ⟨[.row gs.length gs.flatten],zae.cons ?_ zae.nil,⟨gs,rfl,by omega,k4⟩,by simp; rfl⟩
  simp only [Den]
  refine ⟨some a,cap,ys,by rw [k1],⟨by omega,fun ad h hc0 => by injection h with h; subst h; exact hsp0 hc0⟩,k3,k5,fun j u hj => ?_⟩
  have hjl:=(List.getElem?_eq_some_iff.1 hj).1
  have hlp:len ≠ 0:=by rintro rfl; rw [k2,Nat.zero_mul] at hjl; omega
  have hs:=hsp0 (by omega)
  refine ⟨a.block,a.off,by cases a; simp only at hs; subst hs; rfl,hI _ _ _ ?_⟩
  have h2:=k6 j (k2 ▸ hjl)
  rw [add_flat hs] at h2
  rw [h2,hj]
theorem isRV_of {t:TypeId} {fs:List Field} (h:isRV P t fs=true):∃ a b c d e,fs=[a,b,c,d] ∧ (a.offset=0 ∧ b.offset=1 ∧ c.offset=2 ∧ d.offset=3) ∧ (P.cellsOf t=4 ∧ P.cellsOf a.type=1 ∧ P.cellsOf b.type=1 ∧ P.cellsOf c.type=1 ∧ P.cellsOf d.type=1) ∧ 0 < P.bytesOf t ∧
  P.underlying a.type=some (.int .i64) ∧ P.underlying b.type=some .string ∧ P.underlying c.type=some (.slice e) ∧ P.underlying d.type=some (.slice t) ∧ P.cellsOf e=1 ∧ 0 < P.bytesOf e ∧ P.underlying e=some .string:=by
 unfold isRV at h
 split at h
 ·rename_i a b c d
  simp only [Bool.and_eq_true,beq_iff_eq,decide_eq_true_eq] at h
  obtain ⟨⟨⟨h1,h2⟩,h3⟩,h4⟩:=h
  split at h4
  ·rename_i e f u1 u2 u3 u4
   simp only [Bool.and_eq_true,beq_iff_eq,decide_eq_true_eq] at h4
   obtain ⟨⟨⟨k1,k2⟩,k3⟩,k4⟩:=h4
   subst k1
   split at k4
   ·rename_i u5
    exact ⟨a,b,c,d,e,rfl,⟨h1.1.1.1,h1.1.1.2,h1.1.2,h1.2⟩,⟨h2.1.1.1.1,h2.1.1.1.2,h2.1.1.2,h2.1.2,h2.2⟩,h3,u1,u2,u3,u4,k2,k3,u5⟩
   ·cases k4
  ·cases h4
 ·cases h
theorem zlO:∀ gs:List (List AV),(∀ g ∈ gs,ShT .s g) → ∃ ks:List (List UInt8),gs.flatten=ks.map .s ∧ ks.length=gs.length ∧ ∀ k ∈ ks,k.length ≤ 140737488351232
 | [],_ => ⟨[],rfl,rfl,by simp⟩
 | g :: gs,h => by
  obtain ⟨ks,h1,h2,h3⟩:=zlO gs (fun g hg => h g (List.mem_cons_of_mem _ hg))
  obtain ⟨l,hl,hl2⟩:=h g (List.mem_cons_self ..)
  refine ⟨l :: ks,by rw [List.flatten_cons,hl,h1]; rfl,by simp [h2],fun k hk => ?_⟩
  rcases List.mem_cons.1 hk with rfl | hk
  ·exact hl2
  ·exact h3 k hk
theorem zjg:∀ gs:List (List AV),(∀ g ∈ gs,ShT .rv g) → ∃ rs:List RV,gs.flatten=ze9 rs ∧ rs.length=gs.length ∧ zoH rs
 | [],_ => ⟨[],by rw [ze9]; rfl,rfl,by rw [zoH]; trivial⟩
 | g :: gs,h => by
  obtain ⟨rs,h1,h2,h3⟩:=zjg gs (fun g hg => h g (List.mem_cons_of_mem _ hg))
  obtain ⟨r,hr,hr2⟩:=h g (List.mem_cons_self ..)
  exact ⟨r :: rs,by rw [List.flatten_cons,hr,h1,ze9],by simp [h2],by rw [zoH]; exact ⟨hr2,h3⟩⟩
theorem open_rv (hI:∀ g o v,w.cell? ⟨g,o,none⟩=some v → I g o v) (hspa:∀ b,spare b=true) {t:TypeId} {fs:Array Field} (hu:P.underlying t=some (.struct fs)) (hrv:isRV P t fs.toList=true):∀ (m fuel:Nat) (cs:List Value) (x:DataW H × List MemPlace),fuel < m → DataW.trod enc P w base spare held fuel t cs=some x → (∀ n ∈ x.1.weights P t,n ≤ reachBytes) → ∃ xs,zae G I xs cs ∧ ShT .rv xs ∧ ∀ u ∈ cs,u.oneCell'=true:=by
 intro m
 induction m with
 | zero => intro fuel cs x hm; omega
 | succ m ih =>
  intro fuel cs x hm h hwt
  obtain ⟨a,b,c,d,e,hfs,⟨o1,o2,o3,o4⟩,⟨c0,c1,c2,c3,c4⟩,hb,u1,u2,u3,u4,e1,e2,e3⟩:=isRV_of hrv
  obtain ⟨xs,n,hfu,rfl,hlen,hxl,hf⟩:=DataW.trod_struct hu h
  have hsz:fs.size=4:=by rw [← Array.length_toList,hfs]; rfl
  have gf:∀ j,fs[j]? = [a,b,c,d][j]?:=fun j => by rw [← hfs,Array.getElem?_toList]
  have hall:∀ (j:Nat) (f:Field),[a,b,c,d][j]? = some f → ∃ x,DataW.trod enc P w base spare held n f.type ((cs.drop f.offset).take (P.cellsOf f.type))=some x ∧ ∀ m ∈ x.1.weights P f.type,m ≤ reachBytes:=by
   intro j f hj
   have h1:=hf j f (by rw [gf]; exact hj)
   have hjl:j < xs.length:=by
    rw [hxl,hsz]
    exact (List.getElem?_eq_some_iff.1 hj).1
   rw [List.getElem?_eq_getElem hjl] at h1
   refine ⟨_,h1,fun m hm => hwt m ?_⟩
   have hj2:(fs.toList.map (·.type))[j]? = some f.type:=by rw [List.getElem?_map,hfs,hj]; rfl
   have:=DataW.weights_mem_each hj2 (show (xs.map (·.1))[j]? = some xs[j].1 by rw [List.getElem?_map,List.getElem?_eq_getElem hjl]; rfl) m hm
   simpa [DataW.weights,hu] using this
  obtain ⟨xa,ha,wa⟩:=hall 0 a rfl
  obtain ⟨xb,hb',wb⟩:=hall 1 b rfl
  obtain ⟨xc,hc',wc⟩:=hall 2 c rfl
  obtain ⟨xd,hd',wd⟩:=hall 3 d rfl
  rw [o1,c1] at ha
  rw [o2,c2] at hb'
  rw [o3,c3] at hc'
  rw [o4,c4] at hd'
  rw [c0] at hlen
  obtain ⟨v0,v1,v2,v3,rfl⟩:∃ v0 v1 v2 v3,cs=[v0,v1,v2,v3]:=by
   match cs,hlen with
   | [v0,v1,v2,v3],_ => exact ⟨v0,v1,v2,v3,rfl⟩
  simp only [List.drop_zero,List.drop_succ_cons,List.take_succ_cons,List.take_zero] at ha hb' hc' hd'
  obtain ⟨i0,r0,_,w0⟩:=DataW.trod_int u1 ha
  injection r0 with r0 _
  obtain ⟨s0,r1,rx1,_⟩:=DataW.trod_string u2 hb'
  injection r1 with r1 _
  subst r0 r1
  obtain ⟨ys2,d2,⟨g2,q2,l2,m2⟩,oc2⟩:=zeg (te:=.s) (G:=G) (I:=I) hI hspa u3 ⟨by omega,e2⟩ (fun n' ys y hn' hy hyw => by
   obtain ⟨s,rfl,rfl,hs⟩:=DataW.trod_string e3 hy
   exact ⟨[.s s.data.toList],zae.cons (by simp [Den]) zae.nil,⟨_,rfl,hyw _ (by simp [DataW.weights])⟩,by simp; rfl⟩) hc' wc
  obtain ⟨ys3,d3,⟨g3,q3,l3,m3⟩,oc3⟩:=zeg (te:=.rv) (G:=G) (I:=I) hI hspa u4 ⟨by omega,hb⟩ (fun n' ys y hn' hy hyw => ih n' ys y (by omega) hy hyw) hd' wd
  subst q2 q3
  obtain ⟨ks,k1,k2,k3⟩:=zlO g2 m2
  obtain ⟨rs,j1,j2,j3⟩:=zjg g3 m3
  refine ⟨zfL (.mk i0 s0.data.toList ks rs),?_,⟨_,rfl,?_⟩,?_⟩
  ·rw [zfL,k2,j2,← k1,← j1]
   exact zae.cons (by simp [Den]) (zae.cons (by simp [Den]) (zae.append d2 d3))
  ·rw [RVok]
   refine ⟨w0,?_,by omega,k3,by omega,j3⟩
   subst rx1
   exact wb _ (by simp [DataW.weights])
  ·intro u hu'
   simp only [List.mem_cons,List.not_mem_nil,or_false] at hu'
   rcases hu' with rfl | rfl | rfl | rfl
   ·rfl
   ·rfl
   ·exact oc2 _ (by simp)
   ·exact oc3 _ (by simp)
theorem zmH (hI:∀ g o v,w.cell? ⟨g,o,none⟩=some v → I g o v) (hspa:∀ b,spare b=true):∀ (d:Nat) (t:TypeId) (tt:TT) (fuel:Nat) (cs:List Value) (x:DataW H × List MemPlace),trT P d t=some tt → DataW.trod enc P w base spare held fuel t cs=some x → (∀ n ∈ x.1.weights P t,n ≤ reachBytes) → ∃ xs,zae G I xs cs ∧ ShT tt xs ∧ ∀ u ∈ cs,u.oneCell'=true:=by
 intro d
 induction d with
 | zero => intro t tt fuel cs x ht; simp [trT] at ht
 | succ d ih =>
  intro t tt fuel cs x ht h hwt
  simp only [trT] at ht
  split at ht
  ·rename_i hu
   injection ht with ht; subst ht
   obtain ⟨s,rfl,rfl,hs⟩:=DataW.trod_string hu h
   refine ⟨[.s s.data.toList],zae.cons (by simp [Den]) zae.nil,⟨_,rfl,?_⟩,by simp; rfl⟩
   exact hwt _ (by simp [DataW.weights])
  ·rename_i hu
   injection ht with ht; subst ht
   obtain ⟨b,rfl,_⟩:=DataW.trod_bool hu h
   exact ⟨[.b b],zae.cons (by simp [Den]) zae.nil,⟨_,rfl⟩,by simp; rfl⟩
  ·rename_i k hu
   injection ht with ht; subst ht
   obtain ⟨n,rfl,_,hw⟩:=DataW.trod_int hu h
   exact ⟨[.i k n],zae.cons (by simp [Den]) zae.nil,⟨_,rfl,hw⟩,by simp; rfl⟩
  ·rename_i fs hu
   split at ht
   ·rename_i hrv
    injection ht with ht; subst ht
    exact open_rv hI hspa hu hrv (fuel + 1) fuel cs x (by omega) h hwt
   split at ht
   ·rename_i hc
    cases hts:trTs P (trT P d) 0 fs.toList with
    | none => rw [hts] at ht; cases ht
    | some ts =>
     rw [hts] at ht; injection ht with ht; subst ht
     obtain ⟨xs,n,_,rfl,hlen,hxl,hf⟩:=DataW.trod_struct hu h
     have hall:∀ f ∈ fs.toList,∃ x,DataW.trod enc P w base spare held n f.type ((cs.drop f.offset).take (P.cellsOf f.type))=some x ∧ ∀ m ∈ x.1.weights P f.type,m ≤ reachBytes:=by
      intro f hfm
      obtain ⟨j,hj⟩:=List.mem_iff_getElem?.1 hfm
      have h1:=hf j f (by simpa using hj)
      have hjl:j < xs.length:=by
       rw [hxl]
       have:=(List.getElem?_eq_some_iff.1 hj).1
       simpa using this
      rw [List.getElem?_eq_getElem hjl] at h1
      refine ⟨_,h1,fun m hm => hwt m ?_⟩
      have hj2:(fs.toList.map (·.type))[j]? = some f.type:=by rw [List.getElem?_map,hj]; rfl
      have:=DataW.weights_mem_each hj2 (show (xs.map (·.1))[j]? = some xs[j].1 by rw [List.getElem?_map,List.getElem?_eq_getElem hjl]; rfl) m hm
      simpa [DataW.weights,hu] using this
     obtain ⟨ys,k1,k2,k3⟩:=zfN d ih n fs.toList ts 0 cs hts (by rw [hlen,hc]; omega) hall
     exact ⟨ys,by simpa using k1,k2,by simpa using k3⟩
   ·cases ht
  ·rename_i e hu
   split at ht
   ·rename_i hc
    cases hte:trT P d e with
    | none => rw [hte] at ht; cases ht
    | some te =>
     rw [hte] at ht; injection ht with ht; subst ht
     exact zeg hI hspa hu hc (fun n ys y _ hy hyw => ih e te n ys y hte hy hyw) h hwt
   ·cases ht
  ·cases ht
theorem open_arg (hI:∀ g o v,w.cell? ⟨g,o,none⟩=some v → I g o v) (hspa:∀ b,spare b=true) {r:Reach} {b0:Nat} {t:TypeId} {tt:TT} {v:Value} {dd:DataW H} {ps:List MemPlace} (ht:trT P 20 t=some tt) (hv:Value.okWide P w r b0 t v) (h:DataW.Trod enc P w base spare held t v dd ps) (hwt:∀ n ∈ dd.weights P t,n ≤ reachBytes):∃ x,Den G I x v ∧ ShA tt x:=by
 obtain ⟨fuel,hf⟩:=h
 obtain ⟨xs,h1,h2,h3⟩:=zmH hI hspa 20 t tt fuel _ _ ht hf hwt
 have ht':=ht
 unfold trT at ht
 cases tt with
 | st ts =>
  split at ht <;> first | (injection ht with ht; cases ht; done) | skip
  ·rename_i fs hu
   obtain ⟨cs,rfl,_⟩:=okWide_struct hu hv
   refine ⟨.agg xs,?_,⟨xs,rfl,h2⟩⟩
   simp only [Den]
   exact ⟨cs.toList,by simp,h1,h3⟩
  ·split at ht
   ·cases hq:trT P 19 _ with
    | none => rw [hq] at ht; cases ht
    | some q => rw [hq] at ht; injection ht with ht; cases ht
   ·cases ht
  ·cases ht
 | rv =>
  split at ht <;> first | (injection ht with ht; cases ht; done) | skip
  ·rename_i fs hu
   obtain ⟨cs,rfl,_⟩:=okWide_struct hu hv
   obtain ⟨r,rfl,hr⟩:=h2
   refine ⟨.agg (zfL r),?_,⟨r,rfl,hr⟩⟩
   simp only [Den]
   exact ⟨cs.toList,by simp,h1,h3⟩
  ·split at ht
   ·cases hq:trT P 19 _ with
    | none => rw [hq] at ht; cases ht
    | some q => rw [hq] at ht; injection ht with ht; cases ht
   ·cases ht
  ·cases ht
 | sl t =>
  split at ht <;> first | (injection ht with ht; cases ht; done) | skip
  ·split at ht
   ·injection ht with ht; cases ht
   split at ht
   ·cases hq:trTs P (trT P 19) 0 _ with
    | none => rw [hq] at ht; cases ht
    | some q => rw [hq] at ht; injection ht with ht; cases ht
   ·cases ht
  ·rename_i e hu
   obtain ⟨a,len,cap,rfl⟩:=okWide_slice hu hv
   obtain ⟨gs,rfl,hl,hg⟩:=h2
   simp only [zae] at h1
   obtain ⟨y,ys,e1,k1,k2⟩:=h1
   subst k2
   have e2:[Value.slice a len cap]=[y]:=e1
   injection e2 with e2 _
   subst e2
   exact ⟨.row gs.length gs.flatten,k1,⟨gs,rfl,hl,hg⟩⟩
  ·cases ht
 | s =>
  split at ht <;> first | (injection ht with ht; cases ht; done) | skip
  ·rename_i hu
   obtain ⟨s,rfl⟩:=okWide_string hu hv
   obtain ⟨l,rfl,hl⟩:=h2
   simp only [zae] at h1
   obtain ⟨y,ys,e,k1,k2⟩:=h1
   subst k2
   have e2:[Value.string s]=[y]:=e
   injection e2 with e2 _
   subst e2
   exact ⟨.s l,k1,⟨l,rfl,hl⟩⟩
  ·split at ht
   ·injection ht with ht; cases ht
   split at ht
   ·cases hq:trTs P (trT P 19) 0 _ with
    | none => rw [hq] at ht; cases ht
    | some q => rw [hq] at ht; injection ht with ht; cases ht
   ·cases ht
  ·split at ht
   ·cases hq:trT P 19 _ with
    | none => rw [hq] at ht; cases ht
    | some q => rw [hq] at ht; injection ht with ht; cases ht
   ·cases ht
  ·cases ht
 | b =>
  split at ht <;> first | (injection ht with ht; cases ht; done) | skip
  ·rename_i hu
   obtain ⟨s,rfl⟩:=okWide_bool hu hv
   obtain ⟨l,rfl⟩:=h2
   simp only [zae] at h1
   obtain ⟨y,ys,e,k1,k2⟩:=h1
   subst k2
   have e2:[Value.bool s]=[y]:=e
   injection e2 with e2 _
   subst e2
   exact ⟨.b l,k1,⟨l,rfl⟩⟩
  ·split at ht
   ·injection ht with ht; cases ht
   split at ht
   ·cases hq:trTs P (trT P 19) 0 _ with
    | none => rw [hq] at ht; cases ht
    | some q => rw [hq] at ht; injection ht with ht; cases ht
   ·cases ht
  ·split at ht
   ·cases hq:trT P 19 _ with
    | none => rw [hq] at ht; cases ht
    | some q => rw [hq] at ht; injection ht with ht; cases ht
   ·cases ht
  ·cases ht
 | i k =>
  split at ht <;> first | (injection ht with ht; cases ht; done) | skip
  ·rename_i k' hu
   injection ht with ht; injection ht with ht; subst ht
   obtain ⟨s,rfl⟩:=okWide_int hu hv
   obtain ⟨l,rfl,hl⟩:=h2
   simp only [zae] at h1
   obtain ⟨y,ys,e,k1,k2⟩:=h1
   subst k2
   have e2:[Value.int _ s]=[y]:=e
   injection e2 with e2 _
   subst e2
   exact ⟨.i _ l,k1,⟨l,rfl,hl⟩⟩
  ·split at ht
   ·injection ht with ht; cases ht
   split at ht
   ·cases hq:trTs P (trT P 19) 0 _ with
    | none => rw [hq] at ht; cases ht
    | some q => rw [hq] at ht; injection ht with ht; cases ht
   ·cases ht
  ·split at ht
   ·cases hq:trT P 19 _ with
    | none => rw [hq] at ht; cases ht
    | some q => rw [hq] at ht; injection ht with ht; cases ht
   ·cases ht
  ·cases ht
theorem open_args (hI:∀ g o v,w.cell? ⟨g,o,none⟩=some v → I g o v) (hspa:∀ b,spare b=true) {r:Reach} {b0:Nat}:∀ (ts:List TypeId) (tts:List TT) (vs:List Value) (ds:List (DataW H)) (ps:List MemPlace),ts.mapM (trT P 20)=some tts → (∀ (j:Nat) t v,ts[j]? = some t → vs[j]? = some v → Value.okWide P w r b0 t v) → DataW.TrodAll enc P w base spare held ts vs ds ps → (∀ n ∈ DataW.weightsEach P ts ds,n ≤ reachBytes) → ∃ xs,zae G I xs vs ∧ ShAs tts xs
 | [],tts,vs,ds,ps,ht,hv,h,hwt => by
  simp at ht; subst ht
  obtain ⟨rfl,_,_⟩:=trodAll_nil h
  exact ⟨[],zae.nil,rfl⟩
 | t :: ts,tts,vs,ds,ps,ht,hv,h,hwt => by
  simp only [List.mapM_cons,Option.bind_eq_bind,Option.pure_def] at ht
  cases h1:trT P 20 t with
  | none => simp [h1] at ht
  | some tt =>
   cases h2:ts.mapM (trT P 20) with
   | none => simp [h1,h2] at ht
   | some tts' =>
    simp [h1,h2] at ht
    subst ht
    obtain ⟨v,vs',d,ds',p,q,rfl,rfl,rfl,k1,k2⟩:=trodAll_cons h
    obtain ⟨x,x1,x2⟩:=open_arg (G:=G) (I:=I) hI hspa h1 (hv 0 t v rfl rfl) k1 (fun n hn => hwt n (by simp only [DataW.weightsEach,List.mem_append]; exact .inl hn))
    obtain ⟨xs,y1,y2⟩:=open_args hI hspa ts tts' vs' ds' q h2 (fun j t v hj hv' => hv (j + 1) t v (by simpa using hj) (by simpa using hv')) k2 (fun n hn => hwt n (by simp only [DataW.weightsEach,List.mem_append]; exact .inr hn))
    exact ⟨x :: xs,zae.cons x1 y1,⟨x,xs,rfl,x2,y2⟩⟩
theorem zdG (hl:laidOutB P=true) {W W':World} {sp':Nat → Bool}:∀ (ts:List TypeId) (vs:List Value) (ds:List (DataW H)) (ps:List MemPlace),(∀ t ∈ ts,P.readableRec t=true ∧ t < P.types.size) → DataW.TrodAll enc P W 0 (fun _ => true) true ts vs ds ps → Below W.heap.size W W' → (∀ p ∈ ps,p.block < W.heap.size) → (∀ p ∈ ps,sp' p.block=true) → DataW.TrodAll enc P W' 0 sp' true ts vs ds ps
 | [],vs,ds,ps,hr,h,hb,hlt,hs => by
  obtain ⟨rfl,rfl,rfl⟩:=trodAll_nil h
  exact trodAll_mk0
 | t :: ts,vs,ds,ps,hr,h,hb,hlt,hs => by
  obtain ⟨v,vs',d,ds',p,q,rfl,rfl,rfl,k1,k2⟩:=trodAll_cons h
  have h1:=hr t (List.mem_cons_self ..)
  exact trodAll_cons_mk (WideElems.Trod_stays hl h1.1 h1.2 k1 (fun x hx => hb.same (hlt x (List.mem_append_left _ hx))) (fun x hx => hs x (List.mem_append_left _ hx)))
   (zdG hl ts vs' ds' q (fun t ht => hr t (List.mem_cons_of_mem _ ht)) k2 hb (fun x hx => hlt x (List.mem_append_right _ hx)) (fun x hx => hs x (List.mem_append_right _ hx)))
end
theorem post_true {H:Type} {enc:TypeId × Value → H} {P:Program} {f:Func} {s:ChangeSpec} {apart fresh handsOn again:Bool} {W W':World} {args:Array Value} {ds gs:List (DataW H)} {before:List MemPlace}
  (hl:laidOutB P=true) (hts:∀ t ∈ f.params.toList,P.readableRec t=true ∧ t < P.types.size) {tb:TypeId} (hrt:f.resultTypes=#[tb]) (hub:P.underlying tb=some .bool) (hsv:s.vars=[])
  (hW:DataW.Whole enc P f.params.toList s.vars apart W args.toList ds gs before) (hfn:s.fn H (ds ++ gs)={ results:=[.lit (.bool true)],args:=ds }) (hb:Below W.heap.size W W'):s.post enc P f apart fresh handsOn again W args (.bool true) W':=by
 have hlt:∀ p ∈ before,p.block < W.heap.size:=fun p hp => hW.lt p hp
 have hold:∀ p ∈ before,(fun b => decide (b < W.heap.size)) p.block=true:=fun p hp => by simpa using hlt p hp
 have hW':=hW
 obtain ⟨p,q,hA,hV,rfl,hz,hn⟩:=hW'
 rw [hsv] at hV
 have hvars:gs=[] ∧ q=[]:=by
  cases gs with
  | nil => exact ⟨rfl,hV⟩
  | cons g gs => exact hV.elim
 obtain ⟨rfl,rfl⟩:=hvars
 simp only [List.append_nil] at *
 have hres:∀ (b:Nat) (sp:Nat → Bool) (hd:Bool),DataW.TrodAll enc P W' b sp hd f.resultTypes.toList ((Value.bool true).resultList f.resultTypes.size) (s.fn H ds).results []:=by
  intro b sp hd
  rw [hfn,hrt]
  exact trodAll_cons_mk (shut_bool hub _) trodAll_mk0
 have hargs:∀ sp:Nat → Bool,(∀ x ∈ p,sp x.block=true) → DataW.TrodAll enc P W' 0 sp true f.params.toList args.toList (s.fn H ds).args p:=by
  intro sp hsp
  rw [hfn]
  exact zdG hl _ _ _ _ hts hA hb hlt hsp
 have hvs:∀ sp:Nat → Bool,DataW.TrodVars enc P W' sp s.vars (s.fn H ds).vars []:=by
  intro sp
  rw [hsv,hfn]; rfl
 refine ⟨ds,[],p,[],p,[],hW,by simpa using hres _ _ _,by simpa using hargs _ hold,by simpa using hvs _,World.keptBut_mono (fun x hx => ⟨hx,?_⟩) (hb.frame (· ∈ p)),fun _ => ?_⟩
 ·exact Or.inr (Or.inl hx)
 ·refine ⟨?_,_,_,([] ++ p) ++ [],⟨[] ++ p,[],trodAll_append (by simpa using hargs _ (fun _ _ => rfl)) (by simpa using hres _ _ _),by simpa using hvs _,rfl,?_,?_⟩,?_⟩
  ·intro j t r hj hr
   rw [hrt] at hj hr
   cases j with
   | zero =>
    simp at hj; subst hj
    have:r=.bool true:=by simpa [Value.resultList] using hr.symm
    subst this
    exact okWide_bool_mk hub _
   | succ j => simp at hj
  ·intro b off hp
   have hin:MemPlace.cell b off ∈ p:=by simpa using hp
   rw [hb.frozen (hlt _ hin)]
   exact hz b off hin
  ·intro ha
   simpa using hn ha
  ·intro x hx _
   simpa using hx
section
variable {H:Type} {enc:TypeId × Value → H}
end
end Go.Proofs.YthmdohgkmdkeeaaGreatDoor.Sx
namespace Go.Proofs.YthmdohgkmdkeeaaGreatDoor
open Go.RowKit Sx
section
attribute [local irreducible] run
mutual
def JOk:JV → Prop
 | .mk k t ks its => (Lit.int .i64 k).wf=true ∧ t.length ≤ 140737488351232 ∧ ks.length ≤ 140737488351232 ∧ (∀ k ∈ ks,k.length ≤ 140737488351232) ∧ its.length ≤ 140737488351232 ∧ zh9 its
def zh9:List JV → Prop
 | [] => True
 | v :: l => JOk v ∧ zh9 l
end
theorem znw:∀ {l:List JV} (h:zh9 l) {i:Nat} (hi:i < l.length),JOk l[i]
 | a :: l,h,0,hi => by rw [zh9] at h; exact h.1
 | a :: l,h,i + 1,hi => by rw [zh9] at h; exact znw h.2 (by simpa using hi)
theorem JOk.its {v:JV} (h:JOk v) {i:Nat} (hi:i < v.items.length):JOk v.items[i]:=by
 cases v with
 | mk k t ks its => rw [JOk] at h; exact znw h.2.2.2.2.2 hi
theorem JOk.lens {v:JV} (h:JOk v):v.keys.length ≤ 140737488351232 ∧ v.items.length ≤ 140737488351232 ∧ v.text.length ≤ 140737488351232 ∧ ∀ k ∈ v.keys,k.length ≤ 140737488351232:=by
 cases v with
 | mk k t ks its => rw [JOk] at h; exact ⟨h.2.2.1,h.2.2.2.2.1,h.2.1,h.2.2.2.1⟩
mutual
/-- not too many keys and items, wherever -/
def JBd:JV → Prop
 | .mk k t ks its => ks.length ≤ 1099511627780 ∧ its.length ≤ 1099511627776 ∧ zia its
def zia:List JV → Prop
 | [] => True
 | v :: l => JBd v ∧ zia l
end
theorem znC:∀ {l:List JV},(∀ (i:Nat) (h:i < l.length),JBd l[i]) → zia l
 | [],_ => by rw [zia]; trivial
 | v :: l,h => by
  rw [zia]
  exact ⟨h 0 (by simp),znC fun i hi => by have:=h (i + 1) (by simpa using hi); simpa only [List.getElem_cons_succ] using this⟩
theorem znD:∀ {l:List JV} (h:zia l) {i:Nat} (hi:i < l.length),JBd l[i]
 | a :: l,h,0,hi => by rw [zia] at h; exact h.1
 | a :: l,h,i + 1,hi => by rw [zia] at h; exact znD h.2 (by simpa using hi)
theorem JBd.lens {v:JV} (h:JBd v):v.keys.length ≤ 1099511627780 ∧ v.items.length ≤ 1099511627776:=by
 cases v; rw [JBd] at h; exact ⟨h.1,h.2.1⟩
theorem JBd.its {v:JV} (h:JBd v) {i:Nat} (hi:i < v.items.length):JBd v.items[i]:=by
 cases v with
 | mk k t ks its => rw [JBd] at h; exact znD h.2.2 hi
theorem JBd.of {v:JV} (h1:v.keys.length ≤ 1099511627780) (h2:v.items.length ≤ 1099511627776) (h3:∀ (i:Nat) (h:i < v.items.length),JBd v.items[i]):JBd v:=by
 cases v; rw [JBd]; exact ⟨h1,h2,znC h3⟩
theorem size_eq (v:JV):v.size=JV.sizes v.items + 1:=by cases v; rw [JV.size]; rfl
mutual
/-- short texts, not too many keys and items, wherever -/
def JKp:JV → Prop
 | .mk k t ks its => ks.length ≤ 1099511627780 ∧ its.length ≤ 1099511627776 ∧ t.length ≤ 300 ∧ (∀ k ∈ ks,k.length ≤ 300) ∧ zd3 its
def zd3:List JV → Prop
 | [] => True
 | v :: l => JKp v ∧ zd3 l
end
theorem zny:∀ {l:List JV},(∀ (i:Nat) (h:i < l.length),JKp l[i]) → zd3 l
 | [],_ => by rw [zd3]; trivial
 | v :: l,h => by
  rw [zd3]
  exact ⟨h 0 (by simp),zny fun i hi => by have:=h (i + 1) (by simpa using hi); simpa only [List.getElem_cons_succ] using this⟩
theorem znz:∀ {l:List JV} (h:zd3 l) {i:Nat} (hi:i < l.length),JKp l[i]
 | a :: l,h,0,hi => by rw [zd3] at h; exact h.1
 | a :: l,h,i + 1,hi => by rw [zd3] at h; exact znz h.2 (by simpa using hi)
theorem JKp.lens {v:JV} (h:JKp v):v.keys.length ≤ 1099511627780 ∧ v.items.length ≤ 1099511627776 ∧ v.text.length ≤ 300 ∧ ∀ k ∈ v.keys,k.length ≤ 300:=by
 cases v; rw [JKp] at h; exact ⟨h.1,h.2.1,h.2.2.1,h.2.2.2.1⟩
theorem JKp.its {v:JV} (h:JKp v) {i:Nat} (hi:i < v.items.length):JKp v.items[i]:=by
 cases v with
 | mk k t ks its => rw [JKp] at h; exact znz h.2.2.2.2 hi
theorem JKp.of {v:JV} (h1:v.keys.length ≤ 1099511627780) (h2:v.items.length ≤ 1099511627776) (h3:v.text.length ≤ 300) (h4:∀ k ∈ v.keys,k.length ≤ 300) (h5:∀ (i:Nat) (h:i < v.items.length),JKp v.items[i]):JKp v:=by
 cases v; rw [JKp]; exact ⟨h1,h2,h3,h4,zny h5⟩
mutual
theorem JKp.bd:∀ {v:JV},JKp v → JBd v
 | .mk k t ks its,h => by rw [JKp] at h; rw [JBd]; exact ⟨h.1,h.2.1,zd3.bd h.2.2.2.2⟩
theorem zd3.bd:∀ {l:List JV},zd3 l → zia l
 | [],_ => by rw [zia]; trivial
 | v :: l,h => by rw [zd3] at h; rw [zia]; exact ⟨JKp.bd h.1,zd3.bd h.2⟩
end
mutual
/-- no slice too long, wherever -/
def JLn:JV → Prop
 | .mk k t ks its => ks.length ≤ 140737488351232 ∧ its.length ≤ 140737488351232 ∧ zoI its
def zoI:List JV → Prop
 | [] => True
 | v :: l => JLn v ∧ zoI l
end
mutual
theorem JOk.ln:∀ {v:JV},JOk v → JLn v
 | .mk k t ks its,h => by rw [JOk] at h; rw [JLn]; exact ⟨h.2.2.1,h.2.2.2.2.1,zh9.ln h.2.2.2.2.2⟩
theorem zh9.ln:∀ {l:List JV},zh9 l → zoI l
 | [],_ => by rw [zoI]; trivial
 | v :: l,h => by rw [zh9] at h; rw [zoI]; exact ⟨JOk.ln h.1,zh9.ln h.2⟩
end
mutual
theorem JBd.ln:∀ {v:JV},JBd v → JLn v
 | .mk k t ks its,h => by rw [JBd] at h; rw [JLn]; exact ⟨by omega,by omega,zia.ln h.2.2⟩
theorem zia.ln:∀ {l:List JV},zia l → zoI l
 | [],_ => by rw [zoI]; trivial
 | v :: l,h => by rw [zia] at h; rw [zoI]; exact ⟨JBd.ln h.1,zia.ln h.2⟩
end
theorem znx:∀ {l:List JV} (h:zoI l) {i:Nat} (hi:i < l.length),JLn l[i]
 | a :: l,h,0,hi => by rw [zoI] at h; exact h.1
 | a :: l,h,i + 1,hi => by rw [zoI] at h; exact znx h.2 (by simpa using hi)
theorem JLn.its {v:JV} (h:JLn v) {i:Nat} (hi:i < v.items.length):JLn v.items[i]:=by
 cases v with
 | mk k t ks its => rw [JLn] at h; exact znx h.2.2 hi
theorem JLn.lens {v:JV} (h:JLn v):v.keys.length ≤ 140737488351232 ∧ v.items.length ≤ 140737488351232:=by
 cases v with
 | mk k t ks its => rw [JLn] at h; exact ⟨h.1,h.2.1⟩
section
variable [Tabs Tryz.prog]
end
end
end Go.Proofs.YthmdohgkmdkeeaaGreatDoor
namespace Go.Proofs.YthmdohgkmdkeeaaGreatDoor
open Nat renaming reduceAdd → z6, reduceSub → z7, reduceLeDiff → z8, reduceLT → j5, reduceMul → j6, reduceEqDiff → j7
open Int renaming reduceToNat → j8, reduceAdd → j9, reduceSub → x3, reduceMul → x4, reduceNeg → x5, reduceLT → x6, reduceLE → x7, reduceEq → x8, reduceNe → x9
open Go.RowKit Sx
section
attribute [local irreducible] run
def zew (key:List UInt8):List (List UInt8) → Nat
 | [] => 0
 | k :: l => if k=key then 0 else zew key l + 1
theorem ziL {key:List UInt8}:∀ {l:List (List UInt8)},zew key l < l.length → l[zew key l]? = some key
 | [],h => by simp [zew] at h
 | k :: l,h => by
  unfold zew at h ⊢
  by_cases c:k=key
  ·rw [if_pos c,c]; rfl
  ·rw [if_neg c] at h ⊢
   simpa using ziL (l:=l) (by simpa using h)
theorem znJ {key:List UInt8}:∀ {l:List (List UInt8)} {i:Nat},l[i]? = some key → zew key l ≤ i
 | [],i,h => by simp at h
 | k :: l,0,h => by
  simp only [List.getElem?_cons_zero,Option.some.injEq] at h
  unfold zew; rw [if_pos h]; omega
 | k :: l,i + 1,h => by
  unfold zew
  split
  ·omega
  ·have:=znJ (l:=l) (i:=i) (by simpa using h)
   omega
def zfU (v:JV) (key:List UInt8):JV × Bool :=
 if v.kind=7 ∧ zew key v.keys < v.keys.length then (match v.items[zew key v.keys]? with | some x => (x,true) | none => (jvZ,false)) else (jvZ,false)
def zhJ (R:JV × Bool):AV:=.tup [.agg (zaq R.1),.b R.2]
theorem znL {v:JV} {key:List UInt8} (h:¬ v.kind=7):zfU v key=(jvZ,false):=by unfold zfU; rw [if_neg (fun k => h k.1)]
theorem getJ_at {v:JV} {key:List UInt8} {i:Nat} (h:v.kind=7) (hk:v.keys[i]? = some key) (hi:i < v.items.length) (hall:∀ j,j < i → v.keys[j]? ≠ some key ∨ v.items.length ≤ j):zfU v key=(v.items[i],true):=by
 have hl:=(List.getElem?_eq_some_iff.1 hk).1
 have h1:=znJ hk
 have h2:zew key v.keys=i:=by
  rcases Nat.lt_or_ge (zew key v.keys) i with h3 | h3
  ·have h4:=ziL (l:=v.keys) (key:=key) (by omega)
   rcases hall _ h3 with h5 | h5
   ·exact absurd h4 h5
   ·omega
  ·omega
 unfold zfU
 rw [if_pos ⟨h,by omega⟩,h2,List.getElem?_eq_getElem hi]
theorem getJ_no {v:JV} {key:List UInt8} (hall:∀ j,j < v.keys.length → v.keys[j]? ≠ some key ∨ v.items.length ≤ j):zfU v key=(jvZ,false):=by
 unfold zfU
 split
 ·rename_i h
  have h4:=ziL h.2
  rcases hall _ h.2 with h5 | h5
  ·exact absurd h4 h5
  ·rw [List.getElem?_eq_none h5]
 ·rfl
theorem den_zv2 {b:Bool} {G:Gh} {I:Imm} {y:Value} (h:Den G I (.tup [.agg [.i .i64 0,.s [],.nil,.nil],.b b]) y):Den G I (zhJ (jvZ,b)) y:=by
 unfold zhJ jvZ
 rw [zaq,zau]
 simp only [zae,Den] at h ⊢
 obtain ⟨ys,h1,y0,l0,rfl,⟨zs,rfl,⟨z0,m0,rfl,q0,z1,m1,rfl,q1,z2,m2,rfl,q2,z3,m3,rfl,q3,q4⟩,hz⟩,h2⟩:=h
 refine ⟨_,h1,_,_,rfl,⟨_,rfl,⟨_,_,rfl,q0,_,_,rfl,q1,_,_,rfl,?_,_,_,rfl,?_,q4⟩,hz⟩,h2⟩
 ·exact ⟨none,0,[],q2,⟨Nat.le_refl _,fun ad h => by cases h⟩,rfl,by simp,by simp⟩
 ·exact ⟨none,0,[],q3,⟨Nat.le_refl _,fun ad h => by cases h⟩,rfl,by simp,by simp⟩
theorem jres2 {P:Program} [Tabs P] {f:FuncId} {args:List AV} {objs:List OB} {K:List OB → AV → Prop} (r':AV) (hc:zad P f args objs (fun o r => (∀ G I y,Den G I r y → Den G I r' y) ∧ K o r')):zad P f args objs K:=by
 intro C _ G I w hin hm ys hd
 refine (hc C G I w hin hm ys hd).mono ?_
 rintro e w' ⟨y,objs',r,G',I',he,⟨hr,hk⟩,h1,h2,h3,h4,hy⟩
 exact ⟨y,objs',r',G',I',he,hk,h1,h2,h3,h4,hr _ _ _ hy⟩
section
variable [Tabs Tryz.prog] {objs:List OB} {K:List OB → AV → Prop}
theorem zkQ (v:JV) (key:List UInt8) (hv:JOk v) (hk:K objs (zhJ (zfU v key))):zad Tryz.prog 15 [.agg (zaq v),.s key] objs K:=by
 obtain ⟨l1,l2,l3,l4⟩:=hv.lens
 refine jres2 (zhJ (zfU v key)) ?_
 refine zbb is_ref14_Get (by simp only [zam,AV.plain,zbr,Bool.and_self]) fun C _ => ?_
 have fin:∀ {o:List OB},zfU v key=(jvZ,false) → ((∀ G I y,Den G I (.tup [.agg [.i .i64 0,.s [],.nil,.nil],.b false]) y → Den G I (zhJ (zfU v key)) y) ∧ K objs (zhJ (zfU v key))):=fun {o} h => ⟨fun G I y hy => by rw [h]; exact den_zv2 hy,hk⟩
 rw [c_ref14_Get]
 refine zaa fun Y hY => ?_
 simp only [sxZ,z6,z7,z8,j5,j6,j7,j8,j9,x3,x4,x5,x6,x7,x8,x9,reduceCtorEq,↓reduceIte]
 have e0:OB.box 26 (zaq v)=OB.box 26 [.i .i64 v.kind,.s v.text,.row v.keys.length (v.keys.map .s),.row v.items.length (zac v.items)]:=by rw [zap]
 rw [e0]
 subst hY
 refine zaa fun Y hY => ?_
 by_cases c1:v.kind=7
 rotate_left
 ·simp only [sxZ,z6,z7,z8,j5,j6,j7,j8,j9,x3,x4,x5,x6,x7,x8,x9,reduceCtorEq,↓reduceIte,c1,decide_false,Bool.not_false]
  exact fin (o:=[]) (znL c1)
 simp only [sxZ,z6,z7,z8,j5,j6,j7,j8,j9,x3,x4,x5,x6,x7,x8,x9,reduceCtorEq,↓reduceIte,c1,decide_true,Bool.not_true]
 subst hY
 refine zaa fun Y hY => ?_
 simp only [sxZ,z6,z7,z8,j5,j6,j7,j8,j9,x3,x4,x5,x6,x7,x8,x9,reduceCtorEq,↓reduceIte]
 refine zaO (fun n o tm => ∃ i:Nat,i ≤ v.keys.length ∧ n=v.keys.length - i ∧ o=[OB.box 26 [.i .i64 7,.s v.text,.row v.keys.length (v.keys.map .s),.row v.items.length (zac v.items)],OB.box 26 [.i .i64 0,.s [],.nil,.nil]] ∧ (∀ j,j < i → v.keys[j]? ≠ some key ∨ v.items.length ≤ j) ∧ tm.length=38 ∧ tm[1]? = some (.s key) ∧ tm[2]? = some (.p 0 0) ∧ tm[4]? = some (.p 1 0) ∧ tm[13]? = some (.i .i64 (v.keys.length:Int)) ∧ tm[14]? = some (.i .i64 (i:Int))) v.keys.length ⟨0,Nat.zero_le _,rfl,rfl,fun j h => by omega,rfl,rfl,rfl,rfl,rfl,rfl⟩ ?_
 rintro n _ tm ⟨i,hi,rfl,rfl,hall,hlen,t1,t2,t4,t13,t14⟩
 refine zaa fun Z hZ => ?_
 by_cases hlt:(i:Int) < (v.keys.length:Int)
 ·have hi':i < v.keys.length:=by omega
  have kv:(v.keys.map AV.s)[i * 1]? = some (.s v.keys[i]):=by rw [Nat.mul_one,List.getElem?_map,List.getElem?_eq_getElem hi']; rfl
  have kv2:v.keys[i]? = some v.keys[i]:=List.getElem?_eq_getElem hi'
  generalize v.keys[i]=x at kv kv2
  simp only [sxZ,z6,z7,z8,j5,j6,j7,j8,j9,x3,x4,x5,x6,x7,x8,x9,reduceCtorEq,↓reduceIte,List.getElem?_set,hlen,t1,t2,t4,t13,t14,hlt]
  subst hZ
  refine zaa fun Z hZ => ?_
  simp only [sxZ,z6,z7,z8,j5,j6,j7,j8,j9,x3,x4,x5,x6,x7,x8,x9,reduceCtorEq,↓reduceIte,List.getElem?_set,hlen]
  subst hZ
  refine zaa fun W hW => ?_
  rw [zaX]
  refine zaa fun Z hZ => ?_
  simp only [sxZ,z6,z7,z8,j5,j6,j7,j8,j9,x3,x4,x5,x6,x7,x8,x9,reduceCtorEq,↓reduceIte,List.getElem?_set,hlen,t14]
  subst hZ
  refine zaa fun Z hZ => ?_
  have next:(x=key → v.items.length ≤ i) → ∀ j,j < i + 1 → v.keys[j]? ≠ some key ∨ v.items.length ≤ j:=by
   intro h j hj
   by_cases e:j=i
   ·subst e
    by_cases ex:x=key
    ·exact .inr (h ex)
    ·left; rw [kv2]; intro h; injection h with h; exact ex h
   ·exact hall j (by omega)
  by_cases c2:x=key
  ·by_cases c3:(i:Int) < v.items.length
   ·have hi2:i < v.items.length:=by omega
    have hg:=getJ_at c1 (by rw [kv2,c2]) hi2 hall
    have jv:=ziI hi2
    have jvl:=zaV v.items
    have hq:=zap v.items[i]
    rw [hq] at jv
    simp only [sxZ,z6,z7,z8,j5,j6,j7,j8,j9,x3,x4,x5,x6,x7,x8,x9,reduceCtorEq,↓reduceIte,List.getElem?_set,hlen,t1,t2,kv,List.length_map,c2,c3,decide_true]
    refine ⟨by omega,?_⟩
    subst hZ
    simp only [sxZ,z6,z7,z8,j5,j6,j7,j8,j9,x3,x4,x5,x6,x7,x8,x9,reduceCtorEq,↓reduceIte,List.getElem?_set,hlen,t1,t2,t4,jv]
    refine ⟨by omega,by omega,?_⟩
    simp only [pub,AV.plain,zaJ,zcX,sxZ,z6,z7,z8,j5,j6,j7,j8,j9,x3,x4,x5,x6,x7,x8,x9,reduceCtorEq,↓reduceIte]
    refine ⟨fun G I y hy => ?_,hk⟩
    rw [hg,zhJ,hq]
    exact hy
   ·simp only [sxZ,z6,z7,z8,j5,j6,j7,j8,j9,x3,x4,x5,x6,x7,x8,x9,reduceCtorEq,↓reduceIte,List.getElem?_set,hlen,t1,t2,kv,List.length_map,c2,c3,decide_true,decide_false]
    refine ⟨by omega,?_⟩
    subst hZ
    simp only [sxZ,z6,z7,z8,j5,j6,j7,j8,j9,x3,x4,x5,x6,x7,x8,x9,reduceCtorEq,↓reduceIte,List.getElem?_set,hlen,t1,t2,t4]
    subst hW
    simp only [sxZ,z6,z7,z8,j5,j6,j7,j8,j9,x3,x4,x5,x6,x7,x8,x9,reduceCtorEq,↓reduceIte,List.getElem?_set,hlen,t1,t2,t4,t13,t14]
    exact ⟨by omega,v.keys.length - (i + 1),by omega,i + 1,by omega,rfl,next (fun _ => by omega),rfl⟩
  ·simp only [sxZ,z6,z7,z8,j5,j6,j7,j8,j9,x3,x4,x5,x6,x7,x8,x9,reduceCtorEq,↓reduceIte,List.getElem?_set,hlen,t1,t2,kv,List.length_map,c2,decide_false]
   refine ⟨by omega,?_⟩
   subst hZ
   simp only [sxZ,z6,z7,z8,j5,j6,j7,j8,j9,x3,x4,x5,x6,x7,x8,x9,reduceCtorEq,↓reduceIte,List.getElem?_set,hlen,t1,t2,t4]
   subst hW
   simp only [sxZ,z6,z7,z8,j5,j6,j7,j8,j9,x3,x4,x5,x6,x7,x8,x9,reduceCtorEq,↓reduceIte,List.getElem?_set,hlen,t1,t2,t4,t13,t14]
   exact ⟨by omega,v.keys.length - (i + 1),by omega,i + 1,by omega,rfl,next (fun h => absurd h c2),rfl⟩
 simp only [sxZ,z6,z7,z8,j5,j6,j7,j8,j9,x3,x4,x5,x6,x7,x8,x9,reduceCtorEq,↓reduceIte,List.getElem?_set,hlen,t1,t2,t4,t13,t14,hlt]
 subst hZ
 subst hY
 simp only [sxZ,z6,z7,z8,j5,j6,j7,j8,j9,x3,x4,x5,x6,x7,x8,x9,reduceCtorEq,↓reduceIte,List.getElem?_set,hlen,t1,t2,t4,t13,t14,hlt]
 exact fin (o:=[]) (getJ_no fun j hj => hall j (by omega))
end
end
end Go.Proofs.YthmdohgkmdkeeaaGreatDoor
namespace Go.Proofs.YthmdohgkmdkeeaaGreatDoor
open Go.RowKit Sx
section
attribute [local irreducible] run
theorem zfb:∀ (ks:List (List UInt8)) (o:List OB) (d:Nat),zfM o (d + 1) (ks.map AV.s)=some (ks.map AV.s)
 | [],o,d => by simp only [List.map_nil,zfM]
 | k :: ks,o,d => by simp only [List.map_cons,zfM,pub,AV.plain,if_true,zfb ks o d]
theorem ziv:∀ (l:List JV) (o:List OB) (d:Nat),zfM o (d + 1) (zac l)=some (zac l)
 | [],o,d => by rw [zau]; simp only [zfM]
 | v :: l,o,d => by
  rw [zay,zap]
  simp only [List.cons_append,List.nil_append,zfM,pub,AV.plain,zaJ,zcX,if_true,ziv l o d]
section
variable [Tabs Tryz.prog] {objs:List OB} {K:List OB → AV → Prop}
end
end
end Go.Proofs.YthmdohgkmdkeeaaGreatDoor
namespace Go.Proofs.YthmdohgkmdkeeaaGreatDoor
open Go.RowKit Sx
section
attribute [local irreducible] run
structure WfM (σ:Ms) (a:Nat):Prop where
 top:(σ.st=1 ∨ σ.st=2 ∨ σ.st=3 ∨ σ.st=4 ∨ σ.st=5) → σ.stk ≠ []
 obj:(σ.st=2 ∨ σ.st=3 ∨ σ.st=4) → ∀ f r,σ.stk=f :: r → f.obj=true
 len:∀ f ∈ σ.stk,f.ks.length ≤ a ∧ f.its.length ≤ a
 deep:σ.stk.length ≤ 64
 few:σ.nodes ≤ 20000
theorem wf0 (a:Nat):WfM ms0 a:=⟨fun h => by simp [ms0] at h,fun h => by simp [ms0] at h,fun f h => by simp [ms0] at h,by simp [ms0],by simp [ms0]⟩
theorem wf_add {σ:Ms} {a:Nat} (v:JV) (hl:∀ f ∈ σ.stk,f.ks.length ≤ a ∧ f.its.length ≤ a) (hd:σ.stk.length ≤ 64) (hn:σ.nodes ≤ 20000):WfM (zcN σ v) (a + 1):=by
 unfold zcN
 split
 ·exact ⟨fun h => by simp at h,fun h => by simp at h,fun f h => by simp at h,by simp,hn⟩
 ·rename_i f r hs
  rw [hs] at hl hd
  refine ⟨fun _ => by simp,fun h => by simp at h,fun f' h => ?_,by simpa using hd,hn⟩
  rcases List.mem_cons.1 h with rfl | h
  ·have:=hl f (by simp)
   simp only [List.length_append,List.length_cons,List.length_nil]
   omega
  ·have:=hl f' (by simp [h])
   omega
theorem zf8 {σ:Ms} {a:Nat} (h:WfM σ a):WfM (zcw σ) (a + 1):=by
 unfold zcw
 split
 ·exact ⟨h.top,h.obj,fun f hf => by have:=h.len f hf; omega,h.deep,h.few⟩
 ·rename_i f r hs
  refine wf_add _ (fun f' hf => h.len f' (by rw [hs]; exact List.mem_cons_of_mem _ hf)) ?_ h.few
  have:=h.deep
  rw [hs,List.length_cons] at this
  show r.length ≤ 64
  omega
theorem zi7 {σ:Ms} {a:Nat} {t:Tk} (h:WfM σ a) (h0:(zaN σ t).1=0):WfM (zaN σ t).2 (a + 1):=by
 unfold zaN at h0 ⊢
 by_cases c0:vkE t=0
 ·rw [if_pos c0] at h0; cases h0
 rw [if_neg c0] at h0 ⊢
 by_cases c1:vkE t=6 ∨ vkE t=7
 ·rw [if_pos c1] at h0 ⊢
  by_cases c2:64 ≤ σ.stk.length
  ·rw [if_pos c2] at h0; cases h0
  rw [if_neg c2] at h0 ⊢
  by_cases c3:20000 ≤ σ.nodes
  ·rw [if_pos c3] at h0; cases h0
  rw [if_neg c3]
  unfold zbK
  refine ⟨fun _ => by simp,fun hs f r hr => ?_,fun f hf => ?_,by simp; omega,by show σ.nodes + 1 ≤ _; omega⟩
  ·injection hr with hr _
   subst hr
   cases hb:decide (vkE t=7)
   ·simp [hb] at hs
   ·rfl
  ·rcases List.mem_cons.1 hf with rfl | hf
   ·simp
   ·have:=h.len f hf; omega
 ·rw [if_neg c1] at h0 ⊢
  by_cases c2:¬ (zga t).1=0
  ·rw [if_pos c2] at h0; exact absurd h0 c2
  rw [if_neg c2] at h0 ⊢
  by_cases c3:20000 ≤ σ.nodes
  ·rw [if_pos c3] at h0; cases h0
  rw [if_neg c3]
  exact wf_add _ h.len h.deep (by show σ.nodes + 1 ≤ _; omega)
theorem wf_key {σ:Ms} {a:Nat} {t:Tk} (h:WfM σ a) (ho:∀ f r,σ.stk=f :: r → f.obj=true) (h0:(zhC σ t).1=0):WfM (zhC σ t).2 (a + 1):=by
 unfold zhC at h0 ⊢
 split
 ·rename_i hs; rw [hs] at h0; cases h0
 ·rename_i f r hs
  rw [hs] at h0
  simp only at h0
  by_cases c1:¬ t.1=3
  ·rw [if_pos c1] at h0; cases h0
  rw [if_neg c1] at h0 ⊢
  by_cases c2:t.2.1 ∈ f.ks
  ·rw [if_pos c2] at h0; cases h0
  rw [if_neg c2]
  have hd:=h.deep
  rw [hs] at hd
  refine ⟨fun _ => by simp,fun _ f' r' hr => ?_,fun f' hf => ?_,by simpa using hd,h.few⟩
  ·injection hr with hr _
   subst hr
   exact ho f r hs
  ·rcases List.mem_cons.1 hf with rfl | hf
   ·have:=h.len f (by rw [hs]; simp)
    simp only [List.length_append,List.length_cons,List.length_nil]
    omega
   ·have:=h.len f' (by rw [hs]; exact List.mem_cons_of_mem _ hf)
    omega
theorem wf_take {σ:Ms} {a:Nat} {t:Tk} (h:WfM σ a) (h0:(zar σ t).1=0):WfM (zar σ t).2 (a + 1):=by
 have more:∀ f ∈ σ.stk,f.ks.length ≤ a + 1 ∧ f.its.length ≤ a + 1:=fun f hf => by have:=h.len f hf; omega
 unfold zar at h0 ⊢
 by_cases c0:σ.st=0
 ·rw [if_pos c0] at h0 ⊢; exact zi7 h h0
 rw [if_neg c0] at h0 ⊢
 by_cases c1:σ.st=1
 ·rw [if_pos c1] at h0 ⊢
  by_cases d:zdv σ t=true
  ·rw [if_pos d]; exact zf8 h
  ·rw [if_neg d] at h0 ⊢; exact zi7 h h0
 rw [if_neg c1] at h0 ⊢
 by_cases c3:σ.st=3
 ·rw [if_pos c3] at h0 ⊢
  by_cases d:zdv σ t=true
  ·rw [if_pos d]; exact zf8 h
  ·rw [if_neg d] at h0 ⊢; exact wf_key h (h.obj (.inr (.inl c3))) h0
 rw [if_neg c3] at h0 ⊢
 by_cases c2:σ.st=2
 ·rw [if_pos c2] at h0 ⊢; exact wf_key h (h.obj (.inl c2)) h0
 rw [if_neg c2] at h0 ⊢
 by_cases c4:σ.st=4
 ·rw [if_pos c4] at h0 ⊢
  by_cases d:isP t 58=true
  ·rw [if_pos d]
   exact ⟨fun h => by simp at h,fun h => by simp at h,more,h.deep,h.few⟩
  ·rw [if_neg d] at h0; cases h0
 rw [if_neg c4] at h0 ⊢
 by_cases c5:σ.st=5
 ·rw [if_pos c5] at h0 ⊢
  have hne:=h.top (by omega)
  unfold onM at h0 ⊢
  split
  ·rename_i hs; exact absurd hs hne
  ·rename_i f r hs
   rw [hs] at h0
   simp only at h0
   by_cases d:zdv σ t=true
   ·rw [if_pos d]; exact zf8 h
   rw [if_neg d] at h0 ⊢
   by_cases d2:isP t 44=false
   ·rw [if_pos d2] at h0; cases h0
   rw [if_neg d2]
   refine ⟨fun _ => hne,fun hst f' r' hr => ?_,more,h.deep,h.few⟩
   rw [hs] at hr
   injection hr with hr _
   subst hr
   cases hb:f.obj
   ·simp [hb] at hst
   ·rfl
 rw [if_neg c5] at h0 ⊢
 by_cases c6:σ.st=6
 ·rw [if_pos c6] at h0 ⊢
  by_cases d:t.1=1
  ·rw [if_pos d]
   exact ⟨fun h => by simp at h,fun h => by simp at h,more,h.deep,h.few⟩
  ·rw [if_neg d] at h0; cases h0
 ·rw [if_neg c6] at h0; cases h0
end
end Go.Proofs.YthmdohgkmdkeeaaGreatDoor
namespace Go.Proofs.YthmdohgkmdkeeaaGreatDoor
open Nat renaming reduceAdd → z6, reduceSub → z7, reduceLeDiff → z8, reduceLT → j5, reduceMul → j6, reduceEqDiff → j7
open Int renaming reduceToNat → j8, reduceAdd → j9, reduceSub → x3, reduceMul → x4, reduceNeg → x5, reduceLT → x6, reduceLE → x7, reduceEq → x8, reduceNe → x9
open Go.RowKit Sx
section
attribute [local irreducible] run
def tkC (t:Tk):List AV:=[.i .i64 t.1,.s t.2.1,.i .i64 t.2.2]
def zgN (t:Tk):AV:=.agg (tkC t)
def SlO (E sz n:Nat) (xs:List AV) (X:AV) (L:List (Nat × OB)):Prop :=
 (n=0 ∧ xs=[] ∧ X=.nil ∧ L=[]) ∨ ∃ b g,X=.orow b g ∧ L=[(b,.orow E sz g n xs)]
def MpO (f:Fr) (X:AV) (L:List (Nat × OB)):Prop :=
 (f.obj=false ∧ X=.o (.map none) ∧ L=[]) ∨ (f.obj=true ∧ ∃ b,X=.m b ∧ L=[(b,.mp (f.ks.map fun k => (k,AV.b true)))])
def kdF (f:Fr):Int:=if f.obj=true then 7 else 6
def FrO (f:Fr) (cs:List AV) (L:List (Nat × OB)):Prop :=
 ∃ kx ix mx Lk Li Lm,cs=[.i .i64 (kdF f),.s [],kx,ix,mx] ∧ SlO 9 1 f.ks.length (f.ks.map .s) kx Lk ∧ SlO 26 4 f.its.length (zac f.its) ix Li ∧ MpO f mx Lm ∧ L=Lk ++ (Li ++ Lm)
def StkO (M:List (Nat × OB)):List Fr → List AV → List (Nat × OB) → Prop
 | [],cs,L => cs=[] ∧ L=M
 | f :: r,cs,L => ∃ c0 c1 L0 L1,FrO f c1 L1 ∧ StkO M r c0 L0 ∧ cs=c0 ++ c1 ∧ L=L1 ++ L0
theorem zlC {M:List (Nat × OB)}:∀ {S:List Fr} {cs:List AV} {L:List (Nat × OB)},StkO M S cs L → cs.length=S.length * 5
 | [],cs,L,h => by rw [h.1]; rfl
 | f :: r,cs,L,h => by
  obtain ⟨c0,c1,L0,L1,⟨_,_,_,_,_,_,rfl,_⟩,h2,rfl,_⟩:=h
  rw [List.length_append,zlC h2,List.length_cons]
  simp only [List.length_cons,List.length_nil]
  omega
def StX (M:List (Nat × OB)) (S:List Fr) (X:AV) (L:List (Nat × OB)):Prop :=
 (S=[] ∧ X=.nil ∧ L=M) ∨ ∃ r g cs L',X=.orow r g ∧ StkO M S cs L' ∧ L=(r,.orow 90 5 g S.length cs) :: L'
def prB (st:Int) (X:AV) (nodes:Nat) (r0 r1 r2 r3:AV):OB:=.box 49 [.i .i64 st,X,.i .i64 (nodes:Int),r0,r1,r2,r3]
def PrO (M:List (Nat × OB)) (p:Nat) (σ:Ms) (o:List OB):Prop :=
 ∃ X r0 r1 r2 r3 L,zaE ((p,prB σ.st X σ.nodes r0 r1 r2 r3) :: L) o ∧ StX M σ.stk X L ∧ zam [r0,r1,r2,r3]=true ∧ ((σ.st=6 ∨ σ.st=7) → [r0,r1,r2,r3]=zaq σ.root)
theorem zhp {M:List (Nat × OB)} {p:Nat} {σ:Ms} {f:Fr} {r:List Fr} {o:List OB} (hP:PrO M p σ o) (hs:σ.stk=f :: r):∃ (rr g:Nat) (r0 r1 r2 r3 kx ix mx:AV) (c0:List AV) (L0 Lk Li Lm:List (Nat × OB)),
  zaE ((p,prB σ.st (.orow rr g) σ.nodes r0 r1 r2 r3) :: (rr,.orow 90 5 g (r.length + 1) (c0 ++ [.i .i64 (kdF f),.s [],kx,ix,mx])) :: (Lk ++ (Li ++ Lm) ++ L0)) o ∧
  SlO 9 1 f.ks.length (f.ks.map .s) kx Lk ∧ SlO 26 4 f.its.length (zac f.its) ix Li ∧ MpO f mx Lm ∧ StkO M r c0 L0 ∧ c0.length=r.length * 5 ∧ zam [r0,r1,r2,r3]=true:=by
 obtain ⟨X,r0,r1,r2,r3,L,hO,hX,hpl,hr⟩:=hP
 rw [hs] at hX
 rcases hX with ⟨h,_⟩ | ⟨rr,g,cs,L',rfl,⟨c0,c1,L0,L1,⟨kx,ix,mx,Lk,Li,Lm,rfl,h1,h2,h3,rfl⟩,h4,rfl,rfl⟩,rfl⟩
 ·cases h
 ·exact ⟨rr,g,r0,r1,r2,r3,kx,ix,mx,c0,L0,Lk,Li,Lm,hO,h1,h2,h3,h4,zlC h4,hpl⟩
theorem zkU {M:List (Nat × OB)} {p:Nat} {st:Int} {nodes:Nat} {root:JV} {f:Fr} {r:List Fr} {o:List OB} {rr g:Nat} {r0 r1 r2 r3 kx ix mx:AV} {c0:List AV} {L0 Lk Li Lm:List (Nat × OB)}
  (hO:zaE ((p,prB st (.orow rr g) nodes r0 r1 r2 r3) :: (rr,.orow 90 5 g (r.length + 1) (c0 ++ [.i .i64 (kdF f),.s [],kx,ix,mx])) :: (Lk ++ (Li ++ Lm) ++ L0)) o)
  (h1:SlO 9 1 f.ks.length (f.ks.map .s) kx Lk) (h2:SlO 26 4 f.its.length (zac f.its) ix Li) (h3:MpO f mx Lm) (h4:StkO M r c0 L0) (hpl:zam [r0,r1,r2,r3]=true) (h5:¬ (st=6 ∨ st=7)):PrO M p ⟨st,f :: r,nodes,root⟩ o :=
 ⟨_,r0,r1,r2,r3,_,hO,.inr ⟨rr,g,_,_,rfl,⟨c0,_,L0,_,⟨kx,ix,mx,Lk,Li,Lm,rfl,h1,h2,h3,rfl⟩,h4,rfl,rfl⟩,rfl⟩,hpl,fun h => absurd h h5⟩
theorem pr_app {M:List (Nat × OB)} {p:Nat} {σ:Ms} {o:List OB} (hP:PrO M p σ o) (more:List OB):PrO M p σ (o ++ more):=by
 obtain ⟨X,r0,r1,r2,r3,L,hO,hX,hpl,hr⟩:=hP
 exact ⟨X,r0,r1,r2,r3,L,hO.app more,hX,hpl,hr⟩
theorem perm_inK {α:Type} (a b:List α) (x:α):(x :: (a ++ b)).Perm (a ++ x :: b):=List.perm_middle.symm
theorem zg2 {M:List (Nat × OB)}:∀ {S:List Fr} {cs:List AV} {L:List (Nat × OB)},StkO M S cs L → ∃ A,L=A ++ M ∧ ∀ M',StkO M' S cs (A ++ M')
 | [],cs,L,h => ⟨[],by rw [h.2]; rfl,fun M' => ⟨h.1,rfl⟩⟩
 | f :: r,cs,L,h => by
  obtain ⟨c0,c1,L0,L1,h1,h2,rfl,rfl⟩:=h
  obtain ⟨A,rfl,hA⟩:=zg2 h2
  exact ⟨L1 ++ A,by rw [List.append_assoc],fun M' => ⟨c0,c1,A ++ M',L1,h1,hA M',rfl,by rw [List.append_assoc]⟩⟩
theorem zlB {M:List (Nat × OB)} {S:List Fr} {X:AV} {L:List (Nat × OB)} (h:StX M S X L):∃ A,L=A ++ M ∧ ∀ M',StX M' S X (A ++ M'):=by
 rcases h with ⟨h1,h2,h3⟩ | ⟨r,g,cs,L',h1,h2,h3⟩
 ·exact ⟨[],by rw [h3]; rfl,fun M' => .inl ⟨h1,h2,rfl⟩⟩
 ·obtain ⟨A,rfl,hA⟩:=zg2 h2
  exact ⟨_ :: A,by rw [h3]; rfl,fun M' => .inr ⟨r,g,cs,A ++ M',h1,hA M',rfl⟩⟩
theorem zdP {M:List (Nat × OB)} {p:Nat} {σ:Ms} {o:List OB} (hP:PrO M p σ o):∃ B A,zaE ((p,B) :: (A ++ M)) o ∧ ∀ M' o',zaE ((p,B) :: (A ++ M')) o' → PrO M' p σ o':=by
 obtain ⟨X,r0,r1,r2,r3,L,hO,hX,hpl,hr⟩:=hP
 obtain ⟨A,rfl,hA⟩:=zlB hX
 exact ⟨_,A,hO,fun M' o' h => ⟨X,r0,r1,r2,r3,_,h,hA M',hpl,hr⟩⟩
theorem zb1 {M:List (Nat × OB)} {p:Nat} {σ:Ms} {o:List OB} (hP:PrO M p σ o) {i:Nat} {x:OB} (h:(i,x) ∈ M):o[i]? = some x:=by
 obtain ⟨B,A,hO,_⟩:=zdP hP
 exact hO.get (by simp [h])
theorem pr_lt {M:List (Nat × OB)} {p:Nat} {σ:Ms} {o:List OB} (hP:PrO M p σ o) {i:Nat} {x:OB} (h:(i,x) ∈ M):i < o.length:=(List.getElem?_eq_some_iff.1 (zb1 hP h)).1
theorem zhq {M:List (Nat × OB)} {p:Nat} {σ:Ms} {o:List OB} (hP:PrO M p σ o) (x:OB):PrO ((o.length,x) :: M) p σ (o ++ [x]):=by
 obtain ⟨B,A,hO,hM⟩:=zdP hP
 exact hM _ _ ((hO.new x).perm (perm_inK (_ :: A) M _))
theorem zaw {M:List (Nat × OB)} {z:Nat × OB} {p:Nat} {σ:Ms} {o:List OB} (hP:PrO (z :: M) p σ o):PrO M p σ o:=by
 obtain ⟨B,A,hO,hM⟩:=zdP hP
 exact hM _ _ (hO.sub (((List.sublist_cons_self z M).append_left A).cons_cons _))
theorem pr_set {M:List (Nat × OB)} {i p:Nat} {x:OB} {σ:Ms} {o:List OB} (hP:PrO ((i,x) :: M) p σ o) (y:OB):PrO ((i,y) :: M) p σ (o.set i y):=by
 obtain ⟨B,A,hO,hM⟩:=zdP hP
 exact hM _ _ (zaE.set (A:=_ :: A) y hO)
theorem c5_at (c0 l:List AV) (n j:Nat) (h:c0.length=n * 5):(c0 ++ l)[n * 5 + j]? = l[j]?:=by
 rw [List.getElem?_append_right (by omega),show n * 5 + j - c0.length=j by omega]
theorem c5_at0 (c0 l:List AV) (n:Nat) (h:c0.length=n * 5):(c0 ++ l)[n * 5]? = l[0]?:=c5_at c0 l n 0 h
section
variable [Tabs Tryz.prog] {objs:List OB} {K:List OB → AV → Prop}
theorem zdX (t:Tk) (c:UInt8) (hk:K objs (.b (isP t c))):zad Tryz.prog 39 [zgN t,.s [c]] objs K:=by
 refine zbb is_jsondoc_isPunct rfl fun C _ => ?_
 unfold isP at hk
 by_cases c1:t.1=2
 ·by_cases c2:t.2.1=[c]
  ·simp only [c1,c2,decide_true,Bool.and_self] at hk
   simp only [c_jsondoc_isPunct,zgN,tkC,sxZ,z6,z7,z8,j5,j6,j7,j8,j9,x3,x4,x5,x6,x7,x8,x9,reduceCtorEq,↓reduceIte,c1,c2]
   exact hk
  ·simp only [c1,c2,decide_true,decide_false,Bool.and_false] at hk
   simp only [c_jsondoc_isPunct,zgN,tkC,sxZ,z6,z7,z8,j5,j6,j7,j8,j9,x3,x4,x5,x6,x7,x8,x9,reduceCtorEq,↓reduceIte,c1,c2]
   exact hk
 ·simp only [c1,decide_false,Bool.false_and] at hk
  simp only [c_jsondoc_isPunct,zgN,tkC,sxZ,z6,z7,z8,j5,j6,j7,j8,j9,x3,x4,x5,x6,x7,x8,x9,reduceCtorEq,↓reduceIte,c1]
  exact hk
theorem zig (t:Tk) (hk:K objs (.i .i64 (vkE t))):zad Tryz.prog 60 [zgN t] objs K:=by
 have e:∀ (o:List OB) (K:List OB → AV → Prop) (c:UInt8),K o (.b (isP t c)) → zad Tryz.prog 39 [.agg [.i .i64 t.1,.s t.2.1,.i .i64 t.2.2],.s [c]] o K:=fun o K c h => zdX t c h
 refine zbb is_jsondoc_valueKind rfl fun C _ => ?_
 unfold vkE zf7 zeR zc1 at hk
 rw [c_jsondoc_valueKind]
 refine zaa fun Y hY => ?_
 simp only [zgN,tkC,sxZ,z6,z7,z8,j5,j6,j7,j8,j9,x3,x4,x5,x6,x7,x8,x9,reduceCtorEq,↓reduceIte]
 subst hY
 by_cases c1:t.1=3
 ·rw [if_pos c1] at hk
  simp only [sxZ,z6,z7,z8,j5,j6,j7,j8,j9,x3,x4,x5,x6,x7,x8,x9,reduceCtorEq,↓reduceIte,c1]
  exact hk
 rw [if_neg c1] at hk
 by_cases c2:t.1=4
 ·rw [if_pos c2] at hk
  simp only [sxZ,z6,z7,z8,j5,j6,j7,j8,j9,x3,x4,x5,x6,x7,x8,x9,reduceCtorEq,↓reduceIte,c1,c2]
  exact hk
 rw [if_neg c2] at hk
 simp only [sxZ,z6,z7,z8,j5,j6,j7,j8,j9,x3,x4,x5,x6,x7,x8,x9,reduceCtorEq,↓reduceIte,c1,c2]
 refine zal (e _ _ 91 ?_)
 cases c3:isP t 91
 rotate_left
 ·rw [if_pos c3] at hk
  simp only [sxZ,z6,z7,z8,j5,j6,j7,j8,j9,x3,x4,x5,x6,x7,x8,x9,reduceCtorEq,↓reduceIte]
  exact hk
 rw [if_neg (by rw [c3]; exact Bool.false_ne_true)] at hk
 simp only [sxZ,z6,z7,z8,j5,j6,j7,j8,j9,x3,x4,x5,x6,x7,x8,x9,reduceCtorEq,↓reduceIte]
 refine zal (e _ _ 123 ?_)
 cases c4:isP t 123
 rotate_left
 ·rw [if_pos c4] at hk
  simp only [sxZ,z6,z7,z8,j5,j6,j7,j8,j9,x3,x4,x5,x6,x7,x8,x9,reduceCtorEq,↓reduceIte]
  exact hk
 rw [if_neg (by rw [c4]; exact Bool.false_ne_true)] at hk
 by_cases c5:t.1=5
 rotate_left
 ·rw [if_pos c5] at hk
  simp only [sxZ,z6,z7,z8,j5,j6,j7,j8,j9,x3,x4,x5,x6,x7,x8,x9,reduceCtorEq,↓reduceIte,c5]
  exact hk
 rw [if_neg (fun h => h c5)] at hk
 by_cases c6:t.2.1=[116,114,117,101]
 ·rw [if_pos c6] at hk
  simp only [sxZ,z6,z7,z8,j5,j6,j7,j8,j9,x3,x4,x5,x6,x7,x8,x9,reduceCtorEq,↓reduceIte,c5,c6]
  exact hk
 rw [if_neg c6] at hk
 by_cases c7:t.2.1=[102,97,108,115,101]
 ·rw [if_pos c7] at hk
  have n1:¬ ([102,97,108,115,101]:List UInt8)=[116,114,117,101]:=by decide
  simp only [sxZ,z6,z7,z8,j5,j6,j7,j8,j9,x3,x4,x5,x6,x7,x8,x9,reduceCtorEq,↓reduceIte,c5,c7,n1]
  exact hk
 rw [if_neg c7] at hk
 simp only [sxZ,z6,z7,z8,j5,j6,j7,j8,j9,x3,x4,x5,x6,x7,x8,x9,reduceCtorEq,↓reduceIte,c5,c6,c7]
 exact hk
theorem zlv {p r g n:Nat} {st:Int} {nodes:Nat} {r0 r1 r2 r3:AV} {cs:List AV} (hb:objs[p]? = some (prB st (.orow r g) nodes r0 r1 r2 r3)) (hr:objs[r]? = some (.orow 90 5 g (n + 1) cs)) (hn:n ≤ 1000000)
  (hk:K objs (.porow r g (n * 5))):zad Tryz.prog 64 [.p p 0] objs K:=by
 refine zcL is_jsondoc_parser_top fun C _ => ?_
 unfold prB at hb
 simp only [c_jsondoc_parser_top,sxZ,z6,z7,z8,j5,j6,j7,j8,j9,x3,x4,x5,x6,x7,x8,x9,reduceCtorEq,↓reduceIte,hb,hr]
 refine ⟨⟨by omega,by omega⟩,⟨by omega,by omega⟩,?_⟩
 rw [show ((n + 1:Nat):Int) - 1=(n:Int) by omega,Int.toNat_natCast]
 exact hk
theorem zfj {M:List (Nat × OB)} {p:Nat} {σ:Ms} {f:Fr} {r:List Fr} (hP:PrO M p σ objs) (hs:σ.stk=f :: r) (hd:r.length ≤ 1000000) (t:Tk) (hk:∀ o,PrO M p σ o → K o (.b (zdv σ t))):zad Tryz.prog 36 [.p p 0,zgN t] objs K:=by
 obtain ⟨rr,g,r0,r1,r2,r3,kx,ix,mx,c0,L0,Lk,Li,Lm,hO,h1,h2,h3,h4,h5,h6⟩:=zhp hP hs
 have hO1:=hO.new (.box 51 (tkC t))
 have hP1:=hk _ (pr_app hP [.box 51 (tkC t)])
 refine zcL is_jsondoc_parser_isClose fun C _ => ?_
 rw [c_jsondoc_parser_isClose]
 refine zaa fun Y hY => ?_
 simp only [zgN,sxZ,z6,z7,z8,j5,j6,j7,j8,j9,x3,x4,x5,x6,x7,x8,x9,reduceCtorEq,↓reduceIte]
 generalize objs ++ [OB.box 51 (tkC t)]=o1 at hO1 hP1 ⊢
 have e0:=hO1.get (i:=objs.length) (x:=.box 51 (tkC t)) (by simp)
 have e1:=hO1.get (i:=p) (x:=prB σ.st (.orow rr g) σ.nodes r0 r1 r2 r3) (by simp)
 have e2:=hO1.get (i:=rr) (x:=.orow 90 5 g (r.length + 1) (c0 ++ [.i .i64 (kdF f),.s [],kx,ix,mx])) (by simp)
 have e3:=c5_at0 c0 [.i .i64 (kdF f),.s [],kx,ix,mx] r.length h5
 subst hY
 refine zaa fun Y hY => ?_
 simp only [sxZ,z6,z7,z8,j5,j6,j7,j8,j9,x3,x4,x5,x6,x7,x8,x9,reduceCtorEq,↓reduceIte]
 refine zal (zlv e1 e2 hd ?_)
 simp only [sxZ,z6,z7,z8,j5,j6,j7,j8,j9,x3,x4,x5,x6,x7,x8,x9,reduceCtorEq,↓reduceIte,e2,Nat.add_zero,e3]
 have ht:∀ c,zad Tryz.prog 39 [zgN t,.s [c]] o1 (fun o r => o=o1 ∧ r=.b (isP t c)):=fun c => zdX t c ⟨rfl,rfl⟩
 unfold zdv at hP1
 rw [hs] at hP1
 simp only at hP1
 unfold zgN tkC at ht
 unfold tkC at e0
 cases hf:f.obj
 ·simp only [hf,Bool.false_eq_true,if_false] at hP1
  have hkd:kdF f=6:=by unfold kdF; rw [hf]; rfl
  simp only [sxZ,z6,z7,z8,j5,j6,j7,j8,j9,x3,x4,x5,x6,x7,x8,x9,reduceCtorEq,↓reduceIte,hkd]
  subst hY
  simp only [sxZ,z6,z7,z8,j5,j6,j7,j8,j9,x3,x4,x5,x6,x7,x8,x9,reduceCtorEq,↓reduceIte,e0]
  refine zal ((ht 93).mono ?_)
  rintro o x ⟨rfl,rfl⟩
  simp only [sxZ,z6,z7,z8,j5,j6,j7,j8,j9,x3,x4,x5,x6,x7,x8,x9,reduceCtorEq,↓reduceIte]
  exact hP1
 ·simp only [hf,if_true] at hP1
  have hkd:kdF f=7:=by unfold kdF; rw [hf]; rfl
  simp only [sxZ,z6,z7,z8,j5,j6,j7,j8,j9,x3,x4,x5,x6,x7,x8,x9,reduceCtorEq,↓reduceIte,hkd,e0]
  refine zal ((ht 125).mono ?_)
  rintro o x ⟨rfl,rfl⟩
  simp only [sxZ,z6,z7,z8,j5,j6,j7,j8,j9,x3,x4,x5,x6,x7,x8,x9,reduceCtorEq,↓reduceIte]
  exact hP1
end
end
end Go.Proofs.YthmdohgkmdkeeaaGreatDoor
