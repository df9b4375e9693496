/- The texts that the proofs of these statements reach, in their order, as few files. -/
import Derived.Lib.IndexAny
import Derived.Shelf.Strings.IndexAnyAll
import Derived.Lib.OthersKept
import Derived.ProofKit
import Derived.OpenShut
import Derived.ShutString
import Derived.Carry
import Derived.WideKeyArgs
import Derived.SizedLaws
import Derived.Test.YtadhjoggdbhkgaaGreatDoorJn4
set_option linter.unusedVariables false
set_option linter.unusedSimpArgs false
set_option maxRecDepth 100000
namespace Go.Proofs.YtadhjoggdbhkgaaGreatDoor
open Go.RowKit
theorem zpK (q:Int) (h0:0 ≤ q) (h:q ≤ 4503599627370496):bits .and .i64 q 63=q % 64:=by
 obtain ⟨n,rfl⟩:=Int.eq_ofNat_of_zero_le h0
 exact zlx n (by omega)
theorem znQ (q:Int) (h0:0 ≤ q) (h:q < 64):bits .or .i64 128 q=128 + q:=by
 obtain ⟨n,rfl⟩:=Int.eq_ofNat_of_zero_le h0
 exact or128 n (by omega)
theorem zde (r:Int) (w:World) :
  Calls Tryz.prog 129 #[.int .i64 r] w fun e w' => e=.returned (resV (zhm r)) ∧ Qb w w':=by
 rcases hp:cpB r with _ | _
 ·have he:zhm r=(4,[]):=by unfold zhm; rw [hp]; rfl
  rw [he]
  go_enter Tryz.func129,Tryz.ntmps129
  go_wp2_with (go_at_call 145; refine (zcL _ _).mono ?_; rintro e w1 ⟨rfl,rfl⟩)
  go_ret2
  exact ⟨rfl,Qb.refl _⟩
 ·obtain ⟨n,rfl,hn⟩:=cpB_nat hp
  have a0:=zpK (n:Int) (by omega) (by omega)
  have a1:=zpK ((n:Int) / 64) (by omega) (by omega)
  have a2:=zpK ((n:Int) / 4096) (by omega) (by omega)
  have o0:=znQ ((n:Int) % 64) (by omega) (by omega)
  have o1:=znQ ((n:Int) / 64 % 64) (by omega) (by omega)
  have o2:=znQ ((n:Int) / 4096 % 64) (by omega) (by omega)
  by_cases h1:n < 128
  ·rw [encV_1 hp h1]
   have hst:=zei w [(n:Int)] 1 rfl
   simp only [List.map_cons,List.map_nil] at hst
   go_enter Tryz.func129,Tryz.ntmps129
   go_wp2_with (go_at_call 145; refine (zcL _ _).mono ?_; rintro e w1 ⟨rfl,rfl⟩)
   go_ret2
   exact ⟨rfl,(Qb.refl _).alloc _⟩
  ·by_cases h2:n < 2048
   ·rw [encV_2 hp h1 h2]
    have hst:=zei w [192 + (n:Int) / 64,128 + (n:Int) % 64] 2 rfl
    simp only [List.map_cons,List.map_nil] at hst
    have ho:bits .or .i64 192 ((n:Int) / 64)=192 + (n:Int) / 64:=or192 (n / 64) (by omega)
    go_enter Tryz.func129,Tryz.ntmps129
    go_wp2_with (go_at_call 145; refine (zcL _ _).mono ?_; rintro e w1 ⟨rfl,rfl⟩)
    go_ret2
    exact ⟨rfl,(Qb.refl _).alloc _⟩
   ·by_cases h3:n < 65536
    ·rw [encV_3 hp h2 h3]
     have hst:=zei w [224 + (n:Int) / 4096,128 + (n:Int) / 64 % 64,128 + (n:Int) % 64] 3 rfl
     simp only [List.map_cons,List.map_nil] at hst
     have ho:bits .or .i64 224 ((n:Int) / 4096)=224 + (n:Int) / 4096:=or224 (n / 4096) (by omega)
     have hb3:decide ((n:Int) < 65536)=true:=decide_eq_true (by omega)
     have hb1:decide ((n:Int) < 128)=false:=decide_eq_false (by omega)
     have hb2:decide ((n:Int) < 2048)=false:=decide_eq_false (by omega)
     have H3:=Lib.hid h3
     have nb:(n:Int) / 4096 < 16:=by omega
     clear h1 h2 h3
     go_enter Tryz.func129,Tryz.ntmps129
     go_wp2_with (go_at_call 145; refine (zcL _ _).mono ?_; rintro e w1 ⟨rfl,rfl⟩)
     go_ret2
     exact ⟨rfl,(Qb.refl _).alloc _⟩
    ·rw [encV_4 hp h3]
     have hst:=zei w [240 + (n:Int) / 262144,128 + (n:Int) / 4096 % 64,128 + (n:Int) / 64 % 64,128 + (n:Int) % 64] 4 rfl
     simp only [List.map_cons,List.map_nil] at hst
     have ho:bits .or .i64 240 ((n:Int) / 262144)=240 + (n:Int) / 262144:=or240 (n / 262144) (by omega)
     have hb3:decide ((n:Int) < 65536)=false:=decide_eq_false (by omega)
     have nb:(n:Int) / 262144 < 8:=by omega
     have hb1:decide ((n:Int) < 128)=false:=decide_eq_false (by omega)
     have hb2:decide ((n:Int) < 2048)=false:=decide_eq_false (by omega)
     have H3:=Lib.hid h3
     clear h1 h2 h3
     go_enter Tryz.func129,Tryz.ntmps129
     go_wp2_with (go_at_call 145; refine (zcL _ _).mono ?_; rintro e w1 ⟨rfl,rfl⟩)
     go_ret2
     exact ⟨rfl,(Qb.refl _).alloc _⟩
def zeT:List UInt8 → Nat → Nat
 | [],r => r
 | c :: t,r => zeT t (r * 64 + c.toNat % 64)
def zeL:List UInt8 → Nat
 | [] => 0
 | c :: t => zeT t (zbL c (t.length + 1))
theorem pow4 (i:Nat):4 * 64 ^ (i + 1)=64 * (4 * 64 ^ i):=by rw [Nat.pow_succ]; omega
theorem zjk {i:Nat} (h:i ≤ 4):4 * 64 ^ i ≤ 67108864:=by
 have:i=0 ∨ i=1 ∨ i=2 ∨ i=3 ∨ i=4:=by omega
 rcases this with rfl | rfl | rfl | rfl | rfl <;> decide
theorem zlL (s:ByteArray) (h1:1 ≤ s.size) (h4:s.size ≤ 4) (w:World) :
  Calls Tryz.prog 128 #[.string s] w fun e w' => e=.returned (.int .i64 (zeL s.data.toList)) ∧ Qb w w':=by
 have hd:=zbH s 0 (by omega)
 rw [List.drop_zero] at hd
 have hv:zeL s.data.toList=zeT (s.data.toList.drop 1) (zbL s[0] s.size):=by
  conv => lhs; rw [hd]
  rw [zeL,List.length_drop,zaj,show s.size - 1 + 1=s.size from by omega]
 have HV:=Lib.hid hv
 clear hd hv
 have hc:=s[0].toNat_lt
 have a1:bits .and .i64 (s[0].toNat:Int) 31=((s[0].toNat % 32:Nat):Int):=by rw [← and31]; exact zbu s[0].toNat 31 (by omega) (by omega)
 have a2:bits .and .i64 (s[0].toNat:Int) 15=((s[0].toNat % 16:Nat):Int):=by rw [← and15]; exact zbu s[0].toNat 15 (by omega) (by omega)
 have a3:bits .and .i64 (s[0].toNat:Int) 7=((s[0].toNat % 8:Nat):Int):=by rw [← and7]; exact zbu s[0].toNat 7 (by omega) (by omega)
 have H:=Lib.hid (And.intro a1 (And.intro a2 a3))
 clear a1 a2 a3
 have hn:s.size=1 ∨ s.size=2 ∨ s.size=3 ∨ s.size=4:=by omega
 rcases hn with hz | hz | hz | hz
 ·have HE:Hid (zeL s.data.toList=s[0].toNat):=Lib.hid (by rw [HV.out,List.drop_of_length_le (by rw [zaj]; omega),hz]; rfl)
  go_enter Tryz.func128,Tryz.ntmps128
  go_wp2_with fail
  go_ret
  exact ⟨zbs (by rw [HE.out]),Qb.refl _⟩
 ·have HE:Hid (zeL s.data.toList=zeT (s.data.toList.drop 1) (s[0].toNat % 32)):=Lib.hid (by rw [HV.out,hz]; rfl)
  have HA:Hid (bits .and .i64 (s[0].toNat:Int) 31=((s[0].toNat % 32:Nat):Int)):=Lib.hid H.out.1
  go_enter Tryz.func128,Tryz.ntmps128
  go_wp2_with fail
  go_quiet (fail)
  go_wp2_with fail
  rw [HA.out]
  go_loop [3,4] (fun r x => ∃ i q:Nat,1 ≤ i ∧ i ≤ s.size ∧ x=.int .i64 i ∧ r=.int .i64 q ∧ q < 4 * 64 ^ i ∧ Hid (zeL s.data.toList=zeT (s.data.toList.drop i) q)) (fun _ x => s.size - (intOf x).toNat)
  case atStart => exact ⟨1,s[0].toNat % 32,Nat.le_refl _,h1,rfl,rfl,by omega,HE⟩
  case round =>
   obtain ⟨i,q,hi1,hi,rfl,rfl,hq,HR⟩:=hrel
   have hp:=zjk (show i ≤ 4 by omega)
   have hq2:q < 67108864:=by omega
   have HP:=Lib.hid (pow4 i)
   have Hq:=Lib.hid hq
   clear hp hq
   by_cases hlt:i < s.size
   ·have hcc:=s[i].toNat_lt
    have HO:Hid (bits .or .i64 ((q:Int) * 64) (bits .and .i64 (s[i].toNat:Int) 63)=((q * 64 + s[i].toNat % 64:Nat):Int)):=Lib.hid (by rw [zlx s[i].toNat (by omega)]; exact or64 q (s[i].toNat % 64) (by omega) (by omega))
    have HN:Hid (zeL s.data.toList=zeT (s.data.toList.drop (i + 1)) (q * 64 + s[i].toNat % 64)):=Lib.hid (by rw [HR.out,zbH s i hlt]; rfl)
    go_wp2_with fail
    go_round
    case rel =>
     refine ⟨i + 1,q * 64 + s[i].toNat % 64,by omega,by omega,by go_num,by rw [HO.out],?_,HN⟩
     rw [HP.out]
     have:=Hq.out
     generalize 4 * 64 ^ i=P at *
     omega
    case measure => simp [intOf]; omega
   ·have HN:Hid (zeL s.data.toList=q):=Lib.hid (by rw [HR.out,List.drop_of_length_le (by rw [zaj]; omega)]; rfl)
    go_wp2_with fail
    go_ret
    exact ⟨zbs (by rw [HN.out]),(Qb.refl _).drewN _⟩
 ·have HE:Hid (zeL s.data.toList=zeT (s.data.toList.drop 1) (s[0].toNat % 16)):=Lib.hid (by rw [HV.out,hz]; rfl)
  have HA:Hid (bits .and .i64 (s[0].toNat:Int) 15=((s[0].toNat % 16:Nat):Int)):=Lib.hid H.out.2.1
  go_enter Tryz.func128,Tryz.ntmps128
  go_wp2_with fail
  go_quiet (fail)
  go_wp2_with fail
  rw [HA.out]
  go_loop [3,4] (fun r x => ∃ i q:Nat,1 ≤ i ∧ i ≤ s.size ∧ x=.int .i64 i ∧ r=.int .i64 q ∧ q < 4 * 64 ^ i ∧ Hid (zeL s.data.toList=zeT (s.data.toList.drop i) q)) (fun _ x => s.size - (intOf x).toNat)
  case atStart => exact ⟨1,s[0].toNat % 16,Nat.le_refl _,h1,rfl,rfl,by omega,HE⟩
  case round =>
   obtain ⟨i,q,hi1,hi,rfl,rfl,hq,HR⟩:=hrel
   have hp:=zjk (show i ≤ 4 by omega)
   have hq2:q < 67108864:=by omega
   have HP:=Lib.hid (pow4 i)
   have Hq:=Lib.hid hq
   clear hp hq
   by_cases hlt:i < s.size
   ·have hcc:=s[i].toNat_lt
    have HO:Hid (bits .or .i64 ((q:Int) * 64) (bits .and .i64 (s[i].toNat:Int) 63)=((q * 64 + s[i].toNat % 64:Nat):Int)):=Lib.hid (by rw [zlx s[i].toNat (by omega)]; exact or64 q (s[i].toNat % 64) (by omega) (by omega))
    have HN:Hid (zeL s.data.toList=zeT (s.data.toList.drop (i + 1)) (q * 64 + s[i].toNat % 64)):=Lib.hid (by rw [HR.out,zbH s i hlt]; rfl)
    go_wp2_with fail
    go_round
    case rel =>
     refine ⟨i + 1,q * 64 + s[i].toNat % 64,by omega,by omega,by go_num,by rw [HO.out],?_,HN⟩
     rw [HP.out]
     have:=Hq.out
     generalize 4 * 64 ^ i=P at *
     omega
    case measure => simp [intOf]; omega
   ·have HN:Hid (zeL s.data.toList=q):=Lib.hid (by rw [HR.out,List.drop_of_length_le (by rw [zaj]; omega)]; rfl)
    go_wp2_with fail
    go_ret
    exact ⟨zbs (by rw [HN.out]),(Qb.refl _).drewN _⟩
 ·have HE:Hid (zeL s.data.toList=zeT (s.data.toList.drop 1) (s[0].toNat % 8)):=Lib.hid (by rw [HV.out,hz]; rfl)
  have HA:Hid (bits .and .i64 (s[0].toNat:Int) 7=((s[0].toNat % 8:Nat):Int)):=Lib.hid H.out.2.2
  go_enter Tryz.func128,Tryz.ntmps128
  go_wp2_with fail
  go_quiet (fail)
  go_wp2_with fail
  rw [HA.out]
  go_loop [3,4] (fun r x => ∃ i q:Nat,1 ≤ i ∧ i ≤ s.size ∧ x=.int .i64 i ∧ r=.int .i64 q ∧ q < 4 * 64 ^ i ∧ Hid (zeL s.data.toList=zeT (s.data.toList.drop i) q)) (fun _ x => s.size - (intOf x).toNat)
  case atStart => exact ⟨1,s[0].toNat % 8,Nat.le_refl _,h1,rfl,rfl,by omega,HE⟩
  case round =>
   obtain ⟨i,q,hi1,hi,rfl,rfl,hq,HR⟩:=hrel
   have hp:=zjk (show i ≤ 4 by omega)
   have hq2:q < 67108864:=by omega
   have HP:=Lib.hid (pow4 i)
   have Hq:=Lib.hid hq
   clear hp hq
   by_cases hlt:i < s.size
   ·have hcc:=s[i].toNat_lt
    have HO:Hid (bits .or .i64 ((q:Int) * 64) (bits .and .i64 (s[i].toNat:Int) 63)=((q * 64 + s[i].toNat % 64:Nat):Int)):=Lib.hid (by rw [zlx s[i].toNat (by omega)]; exact or64 q (s[i].toNat % 64) (by omega) (by omega))
    have HN:Hid (zeL s.data.toList=zeT (s.data.toList.drop (i + 1)) (q * 64 + s[i].toNat % 64)):=Lib.hid (by rw [HR.out,zbH s i hlt]; rfl)
    go_wp2_with fail
    go_round
    case rel =>
     refine ⟨i + 1,q * 64 + s[i].toNat % 64,by omega,by omega,by go_num,by rw [HO.out],?_,HN⟩
     rw [HP.out]
     have:=Hq.out
     generalize 4 * 64 ^ i=P at *
     omega
    case measure => simp [intOf]; omega
   ·have HN:Hid (zeL s.data.toList=q):=Lib.hid (by rw [HR.out,List.drop_of_length_le (by rw [zaj]; omega)]; rfl)
    go_wp2_with fail
    go_ret
    exact ⟨zbs (by rw [HN.out]),(Qb.refl _).drewN _⟩
end Go.Proofs.YtadhjoggdbhkgaaGreatDoor
namespace Go.Proofs.YtadhjoggdbhkgaaGreatDoor
open Go.RowKit
theorem valN_enc {r:Nat} (h:cpB (r:Int)=true):zeL (zdz r)=r:=by
 have hr:=(of_decide_eq_true h).2.1
 unfold zdz
 by_cases h1:r < 128
 ·rw [if_pos h1]
  show (u8b r).toNat=r
  exact zaE (by omega)
 rw [if_neg h1]
 by_cases h2:r < 2048
 ·rw [if_pos h2]
  show (u8b (192 + r / 64)).toNat % 32 * 64 + (u8b (128 + r % 64)).toNat % 64=r
  rw [zaE (by omega),zaE (by omega)]; omega
 rw [if_neg h2]
 by_cases h3:r < 65536
 ·rw [if_pos h3]
  show ((u8b (224 + r / 4096)).toNat % 16 * 64 + (u8b (128 + r / 64 % 64)).toNat % 64) * 64 + (u8b (128 + r % 64)).toNat % 64=r
  rw [zaE (by omega),zaE (by omega),zaE (by omega)]; omega
 ·rw [if_neg h3]
  show (((u8b (240 + r / 262144)).toNat % 8 * 64 + (u8b (128 + r / 4096 % 64)).toNat % 64) * 64 + (u8b (128 + r / 64 % 64)).toNat % 64) * 64 + (u8b (128 + r % 64)).toNat % 64=r
  rw [zaE (by omega),zaE (by omega),zaE (by omega),zaE (by omega)]; omega
def zjy (l:List UInt8):Bool:=decide ((zhm (zeL l)).1=0) && ((zhm (zeL l)).2 == l)
theorem zoH {l:List UInt8} {n:Nat} (hn:n ≤ l.length) (h:zjy (l.take n)=true):zbK l=some (zeL (l.take n),n):=by
 unfold zjy at h
 rw [Bool.and_eq_true,decide_eq_true_eq,beq_iff_eq] at h
 rcases hc:cpB (zeL (l.take n):Int) with _ | _
 ·have:=h.1
  unfold zhm at this
  rw [hc,if_neg Bool.false_ne_true] at this
  exact absurd this (by decide)
 ·have h2:=h.2
  unfold zhm at h2
  rw [hc,if_pos rfl,Int.toNat_natCast] at h2
  exact zfS hc h2 hn
theorem isEnc_no {l:List UInt8} {n r:Nat} (h:zbK l=some (r,n)):zjy (l.take n)=true:=by
 have hb:=za7 h
 have hv:zeL (l.take n)=r:=by rw [← hb.2.1]; exact valN_enc hb.1
 unfold zjy zhm
 rw [hv,hb.1,if_pos rfl,Int.toNat_natCast,hb.2.1]
 simp
theorem zij (s:ByteArray) (a:Int) (w:World) (hs:s.size ≤ 140737488351232) :
  Calls Tryz.prog 103 #[.string s,.int .i64 a] w fun e w' => e=.returned (triV (zcg s.data.toList a)) ∧ Qb w w':=by
 by_cases h:a < 0 ∨ (s.size:Int) ≤ a
 ·rw [zgA (by rw [zaj]; exact h)]
  by_cases h0:a < 0
  ·clear h
   go_enter Tryz.func103,Tryz.ntmps103
   go_wp2_with fail
   go_ret3
   exact ⟨rfl,Qb.refl _⟩
  ·have h1:(s.size:Int) ≤ a:=by omega
   clear h
   go_enter Tryz.func103,Tryz.ntmps103
   go_wp2_with fail
   go_ret3
   exact ⟨rfl,Qb.refl _⟩
 ·obtain ⟨k,rfl⟩:=Int.eq_ofNat_of_zero_le (show 0 ≤ a by omega)
  have hk:k < s.size:=by omega
  clear h
  have hb0:decide ((k:Int) < 0)=false:=decide_eq_false (by omega)
  have hbs:decide (s.size ≤ k)=false:=decide_eq_false (by omega)
  go_enter Tryz.func103,Tryz.ntmps103
  go_wp2_with fail
  go_loopw [7,8,9,10] (fun x _ _ _ wr => ∃ n:Nat,1 ≤ n ∧ n ≤ 5 ∧ x=.int .i64 n ∧ Hid (∀ r m,zbK (s.data.toList.drop k)=some (r,m) → n ≤ m) ∧ Qb w wr) (fun x _ _ _ _ => 5 - (intOf x).toNat)
  case atStart => exact ⟨1,Nat.le_refl _,by omega,rfl,Lib.hid fun r m hd => (za7 hd).2.2.2.1,Qb.refl w⟩
  case round =>
   obtain ⟨n,h1,h5,rfl,HM,hq⟩:=hrel
   by_cases hlt:n ≤ 4 ∧ k + n ≤ s.size
   ·obtain ⟨h4,hle⟩:=hlt
    have hx:Hid ((s.extract k (k + n)).data.toList=(s.data.toList.drop k).take n):=Lib.hid (by rw [Lib.extract_data,Nat.add_sub_cancel_left])
    have hsz:=size_extract s k (k + n) hle
    have hz1:1 ≤ (s.extract k (k + n)).size:=by omega
    have hz4:(s.extract k (k + n)).size ≤ 4:=by omega
    clear hsz
    go_wp2_with fail
    refine (zlL _ hz1 hz4 _).mono ?_
    rintro e w1 ⟨rfl,hq1⟩
    rw [hx.out]
    rcases hi:zjy ((s.data.toList.drop k).take n) with _ | _
    ·have HN:Hid (∀ r m,zbK (s.data.toList.drop k)=some (r,m) → n + 1 ≤ m):=Lib.hid fun r m hd => by
      have h6:=HM.out r m hd
      have h7:n ≠ m:=by
       rintro rfl
       rw [isEnc_no hd] at hi; cases hi
      omega
     obtain ⟨er,eb,hres,hor⟩:∃ er eb,resV (zhm (zeL ((s.data.toList.drop k).take n)))=.tuple #[.string eb,.int .i64 er] ∧ ((er == 0)=false ∨ (eb.toList == (s.extract k (k + n)).toList)=false):=by
      refine ⟨_,_,rfl,?_⟩
      unfold zjy at hi
      rw [Bool.and_eq_false_iff,decide_eq_false_iff_not,beq_eq_false_iff_ne] at hi
      rcases hi with hi | hi
      ·exact .inl (beq_eq_false_iff_ne.2 hi)
      ·refine .inr (beq_eq_false_iff_ne.2 fun e => hi ?_)
       rw [ByteArray.toList_eq,ByteArray.toList_eq,hx.out] at e
       exact e
     have HR:=Lib.hid hres
     clear hres hi
     generalize zeL ((s.data.toList.drop k).take n)=q at *
     go_wp2_with fail
     refine (zde _ _).mono ?_
     rintro e w2 ⟨rfl,hq2⟩
     rw [HR.out]
     rcases hor with ho | ho
     ·go_wp2_with fail
      go_roundw
      case rel => exact ⟨n + 1,by omega,by omega,by go_num,HN,(hq.trans hq1).trans hq2⟩
      case measure => simp [intOf]; omega
     ·by_cases he:er=0
      ·subst he
       go_wp2_with fail
       go_roundw
       case rel => exact ⟨n + 1,by omega,by omega,by go_num,HN,(hq.trans hq1).trans hq2⟩
       case measure => simp [intOf]; omega
      ·have he1:(er == 0)=false:=beq_eq_false_iff_ne.2 he
       clear he
       go_wp2_with fail
       go_roundw
       case rel => exact ⟨n + 1,by omega,by omega,by go_num,HN,(hq.trans hq1).trans hq2⟩
       case measure => simp [intOf]; omega
    ·have HD:=Lib.hid (zoH (by rw [List.length_drop,zaj]; omega) hi)
     have hres:resV (zhm (zeL ((s.data.toList.drop k).take n)))=.tuple #[.string (s.extract k (k + n)),.int .i64 0]:=by
      unfold zjy at hi
      rw [Bool.and_eq_true,decide_eq_true_eq,beq_iff_eq] at hi
      unfold resV
      rw [hi.1,hi.2,← hx.out]
     have HR:=Lib.hid hres
     clear hres hi
     generalize zeL ((s.data.toList.drop k).take n)=q at *
     go_wp2_with fail
     refine (zde _ _).mono ?_
     rintro e w2 ⟨rfl,hq2⟩
     rw [HR.out]
     go_wp2_with fail
     go_ret3
     exact ⟨by rw [zdS (by rw [zaj]; exact hk) HD.out]; rfl,(hq.trans hq1).trans hq2⟩
   ·have HN:Hid (zbK (s.data.toList.drop k)=none):=Lib.hid (by
     rcases hd:zbK (s.data.toList.drop k) with _ | ⟨r,m⟩
     ·rfl
     ·have h6:=HM.out r m hd
      have hb:=za7 hd
      have hb1:=hb.2.2.1
      rw [List.length_drop,zaj] at hb1
      omega)
    by_cases h4:n ≤ 4
    ·have hgt:s.size < k + n:=by omega
     clear hlt
     go_wp2_with fail
     go_ret3
     exact ⟨by rw [zbv (by rw [zaj]; exact hk) HN.out]; rfl,hq⟩
    ·clear hlt
     go_wp2_with fail
     go_ret3
     exact ⟨by rw [zbv (by rw [zaj]; exact hk) HN.out]; rfl,hq⟩
end Go.Proofs.YtadhjoggdbhkgaaGreatDoor
namespace Go.Proofs.YtadhjoggdbhkgaaGreatDoor
open Go.RowKit
end Go.Proofs.YtadhjoggdbhkgaaGreatDoor
namespace Go.Proofs.YtadhjoggdbhkgaaGreatDoor
open Go.RowKit Sx
class Utf (P:Program) [Tabs P]:Prop where
 ut:∀ w:World,Tabs.T (P:=P) w → UTabs w
section
variable [Tabs Tryz.prog] {objs:List OB} {K:List OB → AV → Prop}
theorem zlM (s:List UInt8) (a:Int) (hs:s.length ≤ 140737488351232) (hk:K objs (.tup [.i .i64 (zcg s a).1,.i .i64 (zcg s a).2.1,.i .i64 (zcg s a).2.2])):zah Tryz.prog 103 [.s s,.i .i64 a] objs K :=
 conv (vs:=[.string (S s),.int .i64 a]) rfl rfl (fun w => zij (S s) a w (by rw [zci]; exact hs)) hk
theorem zgQ [Utf Tryz.prog] (s:List UInt8) (hs:s.length ≤ 140737488351232) (hk:K objs (.b (zay s))):zah Tryz.prog 42 [.s s] objs K :=
 convT (vs:=[.string (S s)]) rfl rfl (fun w hT => zpN (S s) w (by rw [zci]; exact hs) (Utf.ut w hT)) hk
end
end Go.Proofs.YtadhjoggdbhkgaaGreatDoor
namespace Go.Proofs.YtadhjoggdbhkgaaGreatDoor.Sx
open Go.RowKit
theorem zhx {k:IntKind} {r:Int} {K K':Int → Prop} (hk:∀ v,K v → K' v) (h:arK k r K):arK k r K':=by
 cases k
 all_goals first | exact hk _ h | exact ⟨h.1,hk _ h.2⟩
theorem zpB {op:BinOp} {x y:AV} {K K':AV → Prop} (hk:∀ v,K v → K' v) (h:binK op x y K):binK op x y K':=by
 unfold binK at h ⊢
 split at h
 ·refine ⟨h.1,?_⟩
  replace h:=h.2
  cases op
  all_goals first
   | exact h.elim
   | exact zhx (fun _ g => hk _ g) h
   | exact ⟨h.1,zhx (fun _ g => hk _ g) h.2⟩
   | exact ⟨h.1,hk _ h.2⟩
   | exact hk _ h
 all_goals
  revert h
  cases op
  all_goals first
   | exact fun h => h.elim
   | exact fun h => ⟨h.1,hk _ h.2⟩
   | exact fun h => hk _ h
section
variable {P:Program} [Tabs P] {C:Cx}
theorem zeX {so:SOp} {objs:List OB} {tm:List AV} {K K':List OB → AV → Prop} (hk:∀ o v,K o v → K' o v) (h:wpS P so objs tm K):wpS P so objs tm K':=by
 cases so
 all_goals simp only [wpS] at h ⊢
 all_goals try exact hk _ _ h
 all_goals try exact ⟨h.1,hk _ _ h.2⟩
 all_goals try exact zpB (fun _ g => hk _ _ g) h
 all_goals try exact h.mono hk
 all_goals try exact ⟨h.1,h.2.mono fun _ _ g => ⟨g.1,hk _ _ g.2⟩⟩
 all_goals
  revert h
  repeat' split
  all_goals first
   | exact fun h => h.elim
   | exact fun h => hk _ _ h
   | exact fun h => ⟨h.1,hk _ _ h.2⟩
   | exact fun h => zhx (fun _ g => hk _ _ g) h
   | exact fun h => ⟨fun e => hk _ _ (h.1 e),fun e => hk _ _ (h.2 e)⟩
   | exact fun ⟨v,h1,h2⟩ => ⟨v,h1,hk _ _ h2⟩
   | exact fun ⟨h0,l,h1,h2⟩ => ⟨h0,l,h1,hk _ _ h2⟩
   | exact fun h => ⟨h.1,h.2.mono hk⟩
theorem zbm:∀ {l:List SO} {objs:List OB} {tm:List AV} {K K':List OB → List AV → Prop},(∀ o t,K o t → K' o t) → wpR P l objs tm K → wpR P l objs tm K'
 | [],_,_,_,_,hk,h => hk _ _ h
 | ⟨dst,op,none⟩ :: r,_,_,_,_,hk,h => zeX (fun _ _ g => zbm hk g) h
 | ⟨dst,op,some (t,want)⟩ :: r,objs,tm,K,K',hk,h => by
  simp only [wpR] at h ⊢
  revert h
  split
  ·exact fun h => ⟨fun e => zeX (fun _ _ g => zbm hk g) (h.1 e),fun e => zbm hk (h.2 e)⟩
  ·exact fun h => zbm hk h
  ·exact fun h => h.elim
theorem zcW:∀ {l:List SO} {objs:List OB} {tm:List AV} {K K':List OB → List AV → Prop},(∀ o t,K o t → K' o t) → wpD P l objs tm K → wpD P l objs tm K'
 | [],_,_,_,_,hk,h => hk _ _ h
 | ⟨dst,op,none⟩ :: r,_,_,_,_,hk,h => by
  simp only [wpD] at h ⊢
  revert h
  split
  ·exact fun ⟨v,h1,h2⟩ => ⟨v,h1,zcW hk h2⟩
  ·exact fun h => zeX (fun _ _ g => zcW hk g) h
 | ⟨dst,op,some (t,want)⟩ :: r,objs,tm,K,K',hk,h => by
  simp only [wpD] at h ⊢
  revert h
  split
  ·refine fun h => ⟨fun e => ?_,fun e => zcW hk (h.2 e)⟩
   have h1:=h.1 e
   revert h1
   split
   ·exact fun ⟨v,h1,h2⟩ => ⟨v,h1,zcW hk h2⟩
   ·exact fun h => zeX (fun _ _ g => zcW hk g) h
  ·exact fun h => zcW hk h
  ·exact fun h => h.elim
theorem zlF {N N':List OB → List AV → Prop} {K K':zaN} (hn:∀ o t,N o t → N' o t) (hk:∀ e o t,K e o t → K' e o t):∀ e o t,zeR N K e o t → zeR N' K' e o t:=by
 intro e o t h
 cases e <;> first | exact hn _ _ h | exact hk _ _ _ h
theorem zpA {id:Nat} {K K':zaN} (hk:∀ e o t,K e o t → K' e o t):∀ e o t,blkK id K e o t → blkK id K' e o t:=by
 intro e o t h
 cases e
 all_goals try exact hk _ _ _ h
 rename_i i
 unfold blkK at h ⊢
 simp only at h ⊢
 split at h
 ·rename_i g; rw [if_pos g]; exact hk _ _ _ h
 ·rename_i g; rw [if_neg g]; exact hk _ _ _ h
theorem zjR:∀ (st:List (List SO × SO)) (h:List (List SO × List AV × List AV)) (last:List SO) (o:List OB) (t:List AV) {K K':List OB → List AV → Prop},(∀ o t,K o t → K' o t) → wpT P st h last o t K → wpT P st h last o t K'
 | [],h,last,o,t,K,K',hk,g => zbm hk g
 | (L,c) :: st,h,last,o,t,K,K',hk,g => zbm (fun _ _ g => zbm (fun _ _ g => ⟨g.1,zjR st _ last _ _ hk g.2⟩) g) g
theorem zdr:∀ (c:SCode) {K K':zaN} {objs:List OB} {tm:List AV},(∀ e o t,K e o t → K' e o t) → wpC P C c K objs tm → wpC P C c K' objs tm
 | .skip,_,_,_,_,hk,h => hk _ _ _ h
 | .reg l,_,_,_,_,hk,h => zbm (fun _ _ g => hk _ _ _ g) h
 | .drw l k ap,_,_,_,_,hk,h => zcW (fun _ _ g => ⟨g.1,zbm (fun _ _ g => hk _ _ _ g) g.2⟩) h
 | .crg pre cl post,_,_,_,_,hk,h => zbm (fun _ _ g => zbm (fun _ _ g => ⟨g.1,zbm (fun _ _ g => hk _ _ _ g) g.2⟩) g) h
 | .crs st last,_,_,_,_,hk,h => zjR st [] last _ _ (fun _ _ g => hk _ _ _ g) h
 | .seq x y,_,_,_,_,hk,h => zdr x (zlF (fun _ _ g => zdr y hk g) hk) h
 | .cond c x y,_,_,_,_,hk,h => by
  simp only [wpC] at h ⊢
  revert h
  split
  ·exact fun h => ⟨fun e => zdr x hk (h.1 e),fun e => zdr y hk (h.2 e)⟩
  ·exact fun h => h.elim
 | .blk id c,_,_,_,_,hk,h => zdr c (zpA hk) h
 | .loop c,_,_,_,_,hk,h => fun c hc => WP.mono (fun e o t g => by cases e <;> first | exact hk _ _ _ g | exact g) (h c hc)
 | .exit id,_,_,_,_,hk,h => hk _ _ _ h
 | .ret,_,_,_,_,hk,h => hk _ _ _ h
 | .dead,_,_,_,_,hk,h => h.elim
def cutF (P:Program) [Tabs P] (C:Cx) (J:List OB → List AV → Prop) (k:List IT) (F:zaN):zaN:=zeR J (zc8 P C F k)
variable {F:zaN} {k:List IT} {objs:List OB} {tm:List AV}
theorem zab (J:List OB → List AV → Prop):cutF P C J k F .normal objs tm=J objs tm:=Eq.trans rfl rfl
theorem zbI (J:List OB → List AV → Prop) (id:Nat):cutF P C J k F (.exit id) objs tm=xit P C id k objs tm F:=Eq.trans rfl rfl
theorem zaw {x:SCode} (J:List OB → List AV → Prop) (h:run P C [.code x] objs tm (cutF P C J k F)) (hJ:∀ o t,J o t → run P C k o t F):run P C (.code x :: k) objs tm F :=
 zdr x (fun e o t g => by
  cases e
  ·exact hJ _ _ g
  all_goals exact g) h
theorem kC_cut {x y:SCode} {t:Bool} (J:List OB → List AV → Prop) (h1:t=true → run P C [.code x] objs tm (cutF P C J k F)) (h2:t=false → run P C [.code y] objs tm (cutF P C J k F)) (hJ:∀ o t,J o t → run P C k o t F):kC P C (.b t) x y k objs tm F :=
 ⟨fun e => zaw J (h1 e) hJ,fun e => zaw J (h2 e) hJ⟩
end
end Go.Proofs.YtadhjoggdbhkgaaGreatDoor.Sx
namespace Go.Proofs.YtadhjoggdbhkgaaGreatDoor.Sx
open Go.RowKit
section
variable {P:Program} [Tabs P] {C:Cx} {F:zaN} {k:List IT} {objs:List OB} {tm:List AV}
theorem zaa {x y:SCode} (h:∀ Y,Y=y → run P C (.code x :: .code Y :: k) objs tm F):run P C (.code (.seq x y) :: k) objs tm F:=h y rfl
theorem zbR (J:List AV → Prop) (h:J tm) (hk:∀ t,J t → run P C k objs t F):run P C k objs tm F:=hk tm h
end
end Go.Proofs.YtadhjoggdbhkgaaGreatDoor.Sx
namespace Go.Proofs.YtadhjoggdbhkgaaGreatDoor
open Nat renaming reduceAdd → z6, reduceSub → z7, reduceLeDiff → z8, reduceLT → j4, reduceMul → j5, reduceEqDiff → j6
open Int renaming reduceToNat → j7, reduceAdd → j8, reduceSub → j9, reduceMul → x4, reduceNeg → x5, reduceLT → x6, reduceLE → x7, reduceEq → x8, reduceNe → x9
open Go.RowKit Sx
theorem iv {k:IntKind} {x y:Int} (h:x=y):some (AV.i k x)=some (AV.i k y):=by rw [h]
theorem zmU (s:List UInt8) (i:Nat) (h:i < s.length):zaW (s.drop i)=if zai s[i]=true then zaW (s.drop (i + 1)) + 1 else 0:=by
 rw [List.drop_eq_getElem_cons h,zaW]
theorem zmT (s:List UInt8):zaW (s.drop s.length)=0:=by rw [List.drop_length]; rfl
theorem get_some {s:List UInt8} {i:Nat} (h:i < s.length) {c:UInt8}:(s[i]? = some c) ↔ s[i]=c:=by
 rw [List.getElem?_eq_getElem h,Option.some.injEq]
theorem zbo {s:List UInt8} {i:Nat} (h:¬ i < s.length) {c:UInt8}:¬ s[i]? = some c:=by
 rw [List.getElem?_eq_none (by omega)]; simp
theorem zd2 {c:UInt8} {k:Nat} (hk:k < 256):(((c.toNat:Nat):Int)=((k:Nat):Int)) ↔ c=UInt8.ofNat k:=by
 constructor
 ·intro h
  have h2:c.toNat=k:=by omega
  rw [← h2]; simp
 ·rintro rfl
  rw [UInt8.toNat_ofNat']; omega
theorem zeH {s:List UInt8} {i:Nat} (h:i < s.length) (k:Nat) (hk:k < 256):s[i]? = some (UInt8.ofNat k) ↔ ((s[i].toNat:Nat):Int)=((k:Nat):Int):=by
 rw [get_some h]
 exact (zd2 hk).symm
theorem zcA (s:List UInt8) (a i:Nat):(s.drop a)[i]? = s[a + i]?:=List.getElem?_drop
theorem zhn (s:List UInt8) (a i:Nat):(s.drop a).drop i=s.drop (a + i):=List.drop_drop
section
variable [Tabs Tryz.prog] {objs:List OB} {K:List OB → AV → Prop}
theorem zdQ (s:List UInt8) (a:Nat) (ha:a ≤ s.length) (hs:s.length ≤ 9000000000000000000) (hk:K objs (.i .i64 ((a + zaW (s.drop a):Nat):Int))):zah Tryz.prog 87 [.s s,.i .i64 (a:Nat)] objs K:=by
 refine zbk is_token_digitsEnd rfl fun C _ => ?_
 simp only [c_token_digitsEnd,sxZ,z6,z7,z8,j4,j5,j6,j7,j8,j9,x4,x5,x6,x7,x8,x9,reduceCtorEq,↓reduceIte]
 refine zaQ (fun n objs tm => ∃ i:Nat,i ≤ s.length ∧ n=s.length - i ∧ objs=[] ∧ a + zaW (s.drop a)=i + zaW (s.drop i) ∧ tm.length=18 ∧ tm[0]? = some (.s s) ∧ tm[1]? = some (.i .i64 i)) (s.length - a) ⟨a,ha,rfl,rfl,rfl,rfl,rfl,rfl⟩ ?_
 rintro n _ tm ⟨i,hi,rfl,rfl,hr,hlen,t0,t1⟩
 by_cases hlt:(i:Int) < s.length
 ·have hlt':i < s.length:=by omega
  have hg:=zaH hlt'
  have hrn:=zmU s i hlt'
  simp only [sxZ,z6,z7,z8,j4,j5,j6,j7,j8,j9,x4,x5,x6,x7,x8,x9,reduceCtorEq,↓reduceIte,List.getElem?_set,hlen,t0,t1,hlt]
  refine ⟨by omega,?_⟩
  rw [hg]
  generalize s[i]=c at *
  refine zam (aDigit_k c ?_)
  by_cases hd:zai c=true
  ·rw [if_pos hd] at hrn
   simp only [hd,sxZ,z6,z7,z8,j4,j5,j6,j7,j8,j9,x4,x5,x6,x7,x8,x9,reduceCtorEq,↓reduceIte,List.getElem?_set,hlen,t0,t1]
   exact ⟨⟨by omega,by omega⟩,s.length - (i + 1),by omega,i + 1,by omega,rfl,by omega,rfl⟩
  ·rw [if_neg hd] at hrn
   simp only [Bool.not_eq_true] at hd
   simp only [hd,sxZ,z6,z7,z8,j4,j5,j6,j7,j8,j9,x4,x5,x6,x7,x8,x9,reduceCtorEq,↓reduceIte,List.getElem?_set,hlen,t0,t1]
   rw [hr,hrn] at hk
   exact hk
 ·obtain rfl:i=s.length:=by omega
  simp only [sxZ,z6,z7,z8,j4,j5,j6,j7,j8,j9,x4,x5,x6,x7,x8,x9,reduceCtorEq,↓reduceIte,List.getElem?_set,hlen,t0,t1,hlt]
  rw [hr,zmT] at hk
  exact hk
end
section
variable [Tabs Tryz.prog] {objs:List OB} {K:List OB → AV → Prop}
set_option maxHeartbeats 4000000 in
theorem zjo (s:List UInt8) (a:Nat) (ha:a ≤ s.length) (hs:s.length ≤ 9000000000000000000) (hk:K objs (.i .i64 ((a + zcU (s.drop a):Nat):Int))):zah Tryz.prog 57 [.s s,.i .i64 (a:Nat)] objs K:=by
 refine zbk is_token_numberEnd rfl fun C _ => ?_
 rw [c_token_numberEnd]
 refine zaa fun Y1 hY1 => ?_
 simp only [sxZ,z6,z7,z8,j4,j5,j6,j7,j8,j9,x4,x5,x6,x7,x8,x9,reduceCtorEq,↓reduceIte]
 subst hY1
 refine zaa fun Y1 hY1 => ?_
 simp only [sxZ,z6,z7,z8,j4,j5,j6,j7,j8,j9,x4,x5,x6,x7,x8,x9,reduceCtorEq,↓reduceIte]
 subst hY1
 refine zaa fun Y1 hY1 => ?_
 refine zaw (fun o t => o=[] ∧ t.length=99 ∧ t[0]? = some (.s s) ∧ t[1]? = some (.i .i64 (a:Nat)) ∧ t[5]? = some (.i .i64 ((a + za8 (s.drop a):Nat):Int))) ?_ ?_
 ·unfold za8
  rw [zcA,Nat.add_zero]
  by_cases c1:(a:Int) < s.length
  ·have c1':a < s.length:=by omega
   have hg:=zaH c1'
   have h45:s[a]? = some 45 ↔ ((s[a].toNat:Nat):Int)=45:=zeH c1' 45 (by decide)
   by_cases c2:((s[a].toNat:Nat):Int)=45
   ·rw [if_pos (h45.2 c2)]
    simp only [c1,hg,c2,zab,sxZ,z6,z7,z8,j4,j5,j6,j7,j8,j9,x4,x5,x6,x7,x8,x9,reduceCtorEq,↓reduceIte]
    and_intros <;> first | omega | exact iv (by omega) | rfl | assumption
   ·rw [if_neg (fun h => c2 (h45.1 h))]
    simp only [c1,hg,c2,zab,sxZ,z6,z7,z8,j4,j5,j6,j7,j8,j9,x4,x5,x6,x7,x8,x9,reduceCtorEq,↓reduceIte]
    exact ⟨by omega,rfl⟩
  ·rw [if_neg (zbo (by omega))]
   simp only [c1,zab,sxZ,z6,z7,z8,j4,j5,j6,j7,j8,j9,x4,x5,x6,x7,x8,x9,reduceCtorEq,↓reduceIte]
   rfl
 rintro _ tm ⟨rfl,hlen,t0,t1,t5⟩
 subst hY1
 have hsg:a + za8 (s.drop a) ≤ s.length:=by
  unfold za8
  split
  ·rename_i h
   have:=(List.getElem?_eq_some_iff.1 h).1
   rw [List.length_drop] at this; omega
  ·omega
 refine zaa fun Y1 hY1 => ?_
 simp only [sxZ,z6,z7,z8,j4,j5,j6,j7,j8,j9,x4,x5,x6,x7,x8,x9,reduceCtorEq,↓reduceIte,List.getElem?_set,hlen,t0,t1,t5]
 refine zam (zdQ s _ hsg hs ?_)
 simp only [sxZ,z6,z7,z8,j4,j5,j6,j7,j8,j9,x4,x5,x6,x7,x8,x9,reduceCtorEq,↓reduceIte,List.getElem?_set,hlen,t0,t1,t5]
 subst hY1
 refine zaa fun Y1 hY1 => ?_
 unfold zcU at hk
 rw [zhn] at hk
 have hw:zaF (s.drop a)=if s[a + za8 (s.drop a)]? = some 48 then za8 (s.drop a) + 1 else za8 (s.drop a) + zaW (s.drop (a + za8 (s.drop a))):=by unfold zaF; rw [zcA,zhn]
 have hrl:0 < zaW (s.drop (a + za8 (s.drop a))) → a + za8 (s.drop a) + zaW (s.drop (a + za8 (s.drop a))) ≤ s.length:=zaV s _
 generalize za8 (s.drop a)=g at *
 by_cases c0:zaW (s.drop (a + g))=0
 ·rw [if_pos c0] at hk
  simp only [c0,Nat.add_zero,sxZ,z6,z7,z8,j4,j5,j6,j7,j8,j9,x4,x5,x6,x7,x8,x9,reduceCtorEq,↓reduceIte,List.getElem?_set,hlen,t0,t1,t5]
  exact hk
 rw [if_neg c0] at hk
 have c0':¬ ((a + g + zaW (s.drop (a + g)):Nat):Int)=((a + g:Nat):Int):=by omega
 simp only [c0',sxZ,z6,z7,z8,j4,j5,j6,j7,j8,j9,x4,x5,x6,x7,x8,x9,reduceCtorEq,↓reduceIte,List.getElem?_set,hlen,t0,t1,t5]
 subst hY1
 refine zaa fun Y1 hY1 => ?_
 refine zaw (fun o t => o=[] ∧ t.length=99 ∧ t[0]? = some (.s s) ∧ t[6]? = some (.i .i64 ((a + zaF (s.drop a):Nat):Int))) ?_ ?_
 ·have c1':a + g < s.length:=by have:=hrl (by omega); omega
  have hg:=zaH c1'
  have h48:s[a + g]? = some 48 ↔ ((s[a + g].toNat:Nat):Int)=48:=zeH c1' 48 (by decide)
  rw [hw]
  by_cases c2:((s[a + g].toNat:Nat):Int)=48
  ·rw [if_pos (h48.2 c2)]
   simp only [hg,c2,zab,sxZ,z6,z7,z8,j4,j5,j6,j7,j8,j9,x4,x5,x6,x7,x8,x9,reduceCtorEq,↓reduceIte,List.getElem?_set,hlen,t0,t1,t5]
   and_intros <;> first | omega | exact iv (by omega) | rfl | assumption
  ·rw [if_neg (fun h => c2 (h48.1 h))]
   simp only [hg,c2,zab,sxZ,z6,z7,z8,j4,j5,j6,j7,j8,j9,x4,x5,x6,x7,x8,x9,reduceCtorEq,↓reduceIte,List.getElem?_set,hlen,t0,t1,t5]
   and_intros <;> first | omega | exact iv (by omega) | rfl | assumption
 rintro _ tm ⟨rfl,hlen,t0,t6⟩
 subst hY1
 refine zaa fun Y1 hY1 => ?_
 have hwl:a + zaF (s.drop a) ≤ s.length:=by
  rw [hw]
  have:=hrl (by omega)
  split <;> omega
 have hf:zbJ (s.drop a) (zaF (s.drop a))=if s[a + zaF (s.drop a)]? = some 46 ∧ 0 < zaW (s.drop (a + zaF (s.drop a) + 1)) then zaF (s.drop a) + 1 + zaW (s.drop (a + zaF (s.drop a) + 1)) else zaF (s.drop a):=by unfold zbJ; rw [zcA,zhn,Nat.add_assoc a]
 generalize zaF (s.drop a)=w at *
 clear hw hrl
 refine zaw (fun o t => o=[] ∧ t.length=99 ∧ t[0]? = some (.s s) ∧ t[6]? = some (.i .i64 ((a + zbJ (s.drop a) w:Nat):Int))) ?_ ?_
 ·rw [hf]
  by_cases c1:((a + w:Nat):Int) < s.length
  ·have c1':a + w < s.length:=by omega
   have hg:=zaH c1'
   have h46:s[a + w]? = some 46 ↔ ((s[a + w].toNat:Nat):Int)=46:=zeH c1' 46 (by decide)
   by_cases c2:((s[a + w].toNat:Nat):Int)=46
   ·simp only [c1,hg,c2,zab,sxZ,z6,z7,z8,j4,j5,j6,j7,j8,j9,x4,x5,x6,x7,x8,x9,reduceCtorEq,↓reduceIte,List.getElem?_set,hlen,t0,t6]
    refine ⟨by omega,⟨by omega,by omega⟩,?_⟩
    refine zam (zdQ s (a + w + 1) (by omega) hs ?_)
    have hr:=zaV s (a + w + 1)
    generalize zaW (s.drop (a + w + 1))=r at *
    by_cases c3:0 < r
    ·rw [if_pos ⟨h46.2 c2,c3⟩]
     have c3':((a + w:Nat):Int) + 1 < ((a + w + 1 + r:Nat):Int):=by omega
     simp only [c3',zab,sxZ,z6,z7,z8,j4,j5,j6,j7,j8,j9,x4,x5,x6,x7,x8,x9,reduceCtorEq,↓reduceIte,List.getElem?_set,hlen,t0,t6]
     and_intros <;> first | omega | exact iv (by omega) | rfl | assumption
    ·rw [if_neg (fun h => c3 h.2)]
     have c3':¬ ((a + w:Nat):Int) + 1 < ((a + w + 1 + r:Nat):Int):=by omega
     simp only [c3',zab,sxZ,z6,z7,z8,j4,j5,j6,j7,j8,j9,x4,x5,x6,x7,x8,x9,reduceCtorEq,↓reduceIte,List.getElem?_set,hlen,t0,t6]
     and_intros <;> first | omega | exact iv (by omega) | rfl | assumption
   ·rw [if_neg (fun h => c2 (h46.1 h.1))]
    simp only [c1,hg,c2,zab,sxZ,z6,z7,z8,j4,j5,j6,j7,j8,j9,x4,x5,x6,x7,x8,x9,reduceCtorEq,↓reduceIte,List.getElem?_set,hlen,t0,t6]
    and_intros <;> first | omega | exact iv (by omega) | rfl | assumption
  ·rw [if_neg (fun h => zbo (by omega) h.1)]
   simp only [c1,zab,sxZ,z6,z7,z8,j4,j5,j6,j7,j8,j9,x4,x5,x6,x7,x8,x9,reduceCtorEq,↓reduceIte,List.getElem?_set,hlen,t0,t6]
 rintro _ tm ⟨rfl,hlen,t0,t6⟩
 subst hY1
 refine zaa fun Y1 hY1 => ?_
 have hfl:a + zbJ (s.drop a) w ≤ s.length:=by
  rw [hf]
  split
  ·rename_i h
   have:=zaV s (a + w + 1) h.2
   omega
  ·exact hwl
 generalize zbJ (s.drop a) w=f at *
 clear hf
 have hx:zaZ (s.drop a) f=if s[a + f + 1]? = some 43 ∨ s[a + f + 1]? = some 45 then f + 2 else f + 1:=by unfold zaZ; rw [zcA,Nat.add_assoc a]
 have he:zjC (s.drop a) f=if (s[a + f]? = some 101 ∨ s[a + f]? = some 69) ∧ 0 < zaW (s.drop (a + zaZ (s.drop a) f)) then zaZ (s.drop a) f + zaW (s.drop (a + zaZ (s.drop a) f)) else f:=by unfold zjC; rw [zcA,zhn]
 refine zaw (fun o t => o=[] ∧ t.length=99 ∧ t[6]? = some (.i .i64 ((a + zjC (s.drop a) f:Nat):Int))) ?_ ?_
 ·refine zaa fun Y2 hY2 => ?_
  refine zaw (fun o t => o=[] ∧ t.length=99 ∧ t[0]? = some (.s s) ∧ t[6]? = some (.i .i64 ((a + f:Nat):Int)) ∧ t[70]? = some (.b (decide (s[a + f]? = some 101 ∨ s[a + f]? = some 69)))) ?_ ?_
  ·by_cases c1:((a + f:Nat):Int) < s.length
   ·have c1':a + f < s.length:=by omega
    have hg:=zaH c1'
    have h101:s[a + f]? = some 101 ↔ ((s[a + f].toNat:Nat):Int)=101:=zeH c1' 101 (by decide)
    have h69:s[a + f]? = some 69 ↔ ((s[a + f].toNat:Nat):Int)=69:=zeH c1' 69 (by decide)
    by_cases c2:((s[a + f].toNat:Nat):Int)=101
    ·have hE:s[a + f]? = some 101 ∨ s[a + f]? = some 69:=.inl (h101.2 c2)
     simp only [c1,hg,c2,hE,zab,sxZ,z6,z7,z8,j4,j5,j6,j7,j8,j9,x4,x5,x6,x7,x8,x9,reduceCtorEq,↓reduceIte,List.getElem?_set,hlen,t0,t6]
     and_intros <;> first | omega | exact iv (by omega) | rfl | assumption
    ·by_cases c3:((s[a + f].toNat:Nat):Int)=69
     ·have hE:s[a + f]? = some 101 ∨ s[a + f]? = some 69:=.inr (h69.2 c3)
      simp only [c1,hg,c2,c3,hE,zab,sxZ,z6,z7,z8,j4,j5,j6,j7,j8,j9,x4,x5,x6,x7,x8,x9,reduceCtorEq,↓reduceIte,List.getElem?_set,hlen,t0,t6]
      and_intros <;> first | omega | exact iv (by omega) | rfl | assumption
     ·have hE:¬ (s[a + f]? = some 101 ∨ s[a + f]? = some 69):=fun h => h.elim (fun h => c2 (h101.1 h)) (fun h => c3 (h69.1 h))
      simp only [c1,hg,c2,c3,hE,zab,sxZ,z6,z7,z8,j4,j5,j6,j7,j8,j9,x4,x5,x6,x7,x8,x9,reduceCtorEq,↓reduceIte,List.getElem?_set,hlen,t0,t6]
      and_intros <;> first | omega | exact iv (by omega) | rfl | assumption
   ·have hE:¬ (s[a + f]? = some 101 ∨ s[a + f]? = some 69):=fun h => h.elim (zbo (by omega)) (zbo (by omega))
    simp only [c1,hE,zab,sxZ,z6,z7,z8,j4,j5,j6,j7,j8,j9,x4,x5,x6,x7,x8,x9,reduceCtorEq,↓reduceIte,List.getElem?_set,hlen,t0,t6]
  rintro _ tm ⟨rfl,hlen,t0,t6,t70⟩
  subst hY2
  simp only [sxZ,z6,z7,z8,j4,j5,j6,j7,j8,j9,x4,x5,x6,x7,x8,x9,reduceCtorEq,↓reduceIte,List.getElem?_set,hlen,t70]
  refine kC_split (fun hE => ?_) (fun hE => ?_)
  ·have hE:=of_decide_eq_true hE
   have c1':a + f < s.length:=by
    rcases hE with h | h
    all_goals exact (List.getElem?_eq_some_iff.1 h).1
   refine zaa fun Y3 hY3 => ?_
   simp only [sxZ,z6,z7,z8,j4,j5,j6,j7,j8,j9,x4,x5,x6,x7,x8,x9,reduceCtorEq,↓reduceIte,List.getElem?_set,hlen,t0,t6]
   refine ⟨by omega,?_⟩
   subst hY3
   refine zaa fun Y3 hY3 => ?_
   refine zaw (fun o t => o=[] ∧ t.length=99 ∧ t[0]? = some (.s s) ∧ t[6]? = some (.i .i64 ((a + f:Nat):Int)) ∧ t[8]? = some (.i .i64 ((a + zaZ (s.drop a) f:Nat):Int))) ?_ ?_
   ·rw [hx]
    by_cases d1:((a + f:Nat):Int) + 1 < s.length
    ·have d1':a + f + 1 < s.length:=by omega
     have hg:=zaH d1'
     have h43:s[a + f + 1]? = some 43 ↔ ((s[a + f + 1].toNat:Nat):Int)=43:=zeH d1' 43 (by decide)
     have h45:s[a + f + 1]? = some 45 ↔ ((s[a + f + 1].toNat:Nat):Int)=45:=zeH d1' 45 (by decide)
     have e1:(((a + f:Nat):Int) + 1).toNat=a + f + 1:=by omega
     by_cases c2:((s[a + f + 1].toNat:Nat):Int)=43
     ·rw [if_pos (.inl (h43.2 c2))]
      simp only [d1,e1,hg,c2,zab,sxZ,z6,z7,z8,j4,j5,j6,j7,j8,j9,x4,x5,x6,x7,x8,x9,reduceCtorEq,↓reduceIte,List.getElem?_set,hlen,t0,t6]
      and_intros <;> first | omega | exact iv (by omega) | rfl | assumption
     ·by_cases c3:((s[a + f + 1].toNat:Nat):Int)=45
      ·rw [if_pos (.inr (h45.2 c3))]
       simp only [d1,e1,hg,c2,c3,zab,sxZ,z6,z7,z8,j4,j5,j6,j7,j8,j9,x4,x5,x6,x7,x8,x9,reduceCtorEq,↓reduceIte,List.getElem?_set,hlen,t0,t6]
       and_intros <;> first | omega | exact iv (by omega) | rfl | assumption
      ·rw [if_neg (fun h => h.elim (fun h => c2 (h43.1 h)) (fun h => c3 (h45.1 h)))]
       simp only [d1,e1,hg,c2,c3,zab,sxZ,z6,z7,z8,j4,j5,j6,j7,j8,j9,x4,x5,x6,x7,x8,x9,reduceCtorEq,↓reduceIte,List.getElem?_set,hlen,t0,t6]
       and_intros <;> first | omega | exact iv (by omega) | rfl | assumption
    ·rw [if_neg (fun h => h.elim (zbo (by omega)) (zbo (by omega)))]
     simp only [d1,zab,sxZ,z6,z7,z8,j4,j5,j6,j7,j8,j9,x4,x5,x6,x7,x8,x9,reduceCtorEq,↓reduceIte,List.getElem?_set,hlen,t0,t6]
     and_intros <;> first | omega | exact iv (by omega) | rfl | assumption
   rintro _ tm ⟨rfl,hlen,t0,t6,t8⟩
   subst hY3
   have hxl:a + zaZ (s.drop a) f ≤ s.length:=by
    rw [hx]
    split
    ·rename_i h
     rcases h with h | h
     all_goals
      have:=(List.getElem?_eq_some_iff.1 h).1
      omega
    ·omega
   generalize zaZ (s.drop a) f=x at *
   simp only [sxZ,z6,z7,z8,j4,j5,j6,j7,j8,j9,x4,x5,x6,x7,x8,x9,reduceCtorEq,↓reduceIte,List.getElem?_set,hlen,t0,t6,t8]
   refine zam (zdQ s _ hxl hs ?_)
   generalize zaW (s.drop (a + x))=r at *
   rw [he]
   by_cases c4:0 < r
   ·rw [if_pos ⟨hE,c4⟩]
    have c4':((a + x:Nat):Int) < ((a + x + r:Nat):Int):=by omega
    simp only [c4',zab,sxZ,z6,z7,z8,j4,j5,j6,j7,j8,j9,x4,x5,x6,x7,x8,x9,reduceCtorEq,↓reduceIte,List.getElem?_set,hlen,t0,t6,t8]
    and_intros <;> first | omega | exact iv (by omega) | rfl | assumption
   ·rw [if_neg (fun h => c4 h.2)]
    have c4':¬ ((a + x:Nat):Int) < ((a + x + r:Nat):Int):=by omega
    simp only [c4',zab,sxZ,z6,z7,z8,j4,j5,j6,j7,j8,j9,x4,x5,x6,x7,x8,x9,reduceCtorEq,↓reduceIte,List.getElem?_set,hlen,t0,t6,t8]
  ·have hE:=of_decide_eq_false hE
   rw [he,if_neg (fun h => hE h.1)]
   simp only [zab,sxZ,z6,z7,z8,j4,j5,j6,j7,j8,j9,x4,x5,x6,x7,x8,x9,reduceCtorEq,↓reduceIte,List.getElem?_set,hlen,t0,t6]
 rintro _ tm ⟨rfl,hlen,t6⟩
 subst hY1
 simp only [sxZ,z6,z7,z8,j4,j5,j6,j7,j8,j9,x4,x5,x6,x7,x8,x9,reduceCtorEq,↓reduceIte,List.getElem?_set,hlen,t6]
 exact hk
end
end Go.Proofs.YtadhjoggdbhkgaaGreatDoor
namespace Go.Proofs.YtadhjoggdbhkgaaGreatDoor
open Go.RowKit Sx
theorem zpE:∀ w,(zeroValue 111).run Tryz.prog w=.ok (.agg (Array.replicate 256 (.bool false))) w:=(zero_of_info (n:=256) (by kernel_rfl)).1
set_option maxHeartbeats 8000000 in
set_option maxRecDepth 1000000 in
theorem ziz (s chars:ByteArray) (w:World) (h8:8 < s.size) (hs:s.size ≤ 9000000000000000000) (h2:chars.size=2) (h0:chars.data.toList=[101,69]) :
  Calls Tryz.prog 89 #[.string s,.string chars] w fun e w' => e=.returned (.int .i64 (Lib.indexAny s.data.toList [101,69])) ∧ Qb w w':=by
 have hM:=Tryz.strings_makeASCIISet zpE chars w (by omega) (fun j b hb => by
  have:∀ c ∈ chars.data.toList,c.toNat < 128:=by rw [h0]; decide
  exact this _ (List.mem_of_getElem? hb))
 rw [h0] at hM
 have hemp:chars.toList.isEmpty=false:=by rw [Lib.toList_data,h0]; rfl
 clear h0
 have hn1:((chars.size:Int) == 1)=false:=beq_eq_false_iff_ne.2 (by omega)
 have h8z:decide ((8:Int) < (s.size:Int))=true:=decide_eq_true (by omega)
 have hsc:(storeCells ⟨w.heap.size + 1,0,none⟩ (Lib.setCells [101,69]).toList 0).run Tryz.prog ((w.alloc (.cells (Lib.setCells [101,69]) 111)).alloc (.cells (Array.replicate 256 (.bool false)) 111))=.ok () ((w.alloc (.cells (Lib.setCells [101,69]) 111)).alloc (.cells (Lib.setCells [101,69]) 111)):=by
  have:=run_storeCells_new (P:=Tryz.prog) (w.alloc (.cells (Lib.setCells [101,69]) 111)) 111 (Array.replicate 256 (.bool false)) (Lib.setCells [101,69]) (by rw [Lib.setCells_size]; kernel_rfl) (by rw [Lib.setCells_size,Array.size_replicate]) (Lib.setCells_one _)
  simpa using this
 have hsz:=Lib.setCells_size [101,69]
 have HC:Hid (∀ x:UInt8,((w.alloc (.cells (Lib.setCells [101,69]) 111)).alloc (.cells (Lib.setCells [101,69]) 111)).cell? ⟨w.heap.size + 1,x.toNat,none⟩=some (.bool (([101,69]:List UInt8).contains x))):=Lib.hid (fun x => by
  rw [World.cell?_alloc_at _ _ _ _ (by simp),Lib.setCells_at])
 go_enter Tryz.func89,Tryz.ntmps89
 go_wp2_with fail
 refine (Tryz.strings_shouldUseASCIISet _ _).mono ?_
 rintro e w1 ⟨rfl,rfl⟩
 rw [h8z]
 go_wp2_with fail
 refine hM.mono ?_
 rintro e w2 ⟨rfl,rfl⟩
 go_wp2_with fail
 have hz:Tryz.zeroCells111=Array.replicate 256 (.bool false):=by kernel_rfl
 rw [hz,hsc]
 simp only [Result.andThen]
 rw [Oper.upon_skip]
 clear hM hsc hz
 go_wp2_with fail
 go_loopg [8] s.size (fun g s8 wx => ∃ i:Nat,i + g=s.size ∧ s8=.int .i64 i ∧ wx=((w1.alloc (.cells (Lib.setCells [101,69]) 111)).alloc (.cells (Lib.setCells [101,69]) 111)) ∧ Hid (Lib.NoAny s.data.toList [101,69] i))
 case atStart => exact ⟨0,by omega,rfl,rfl,Lib.hid (Lib.NoAny.zero _ _)⟩
 case round =>
  obtain ⟨i,hig,rfl,rfl,HN⟩:=hrel
  have hq:Qb w1 ((w1.alloc (.cells (Lib.setCells [101,69]) 111)).alloc (.cells (Lib.setCells [101,69]) 111)):=((Qb.refl _).alloc _).alloc _
  cases gk with
  | zero =>
   obtain rfl:i=s.size:=by omega
   have hiz:¬ ((s.size:Int) < (s.size:Int)):=by omega
   go_wp2_with fail
   go_ret
   exact ⟨by rw [Lib.indexAny_none (by rw [← Lib.size_eq]; exact HN.out)]; rfl,hq⟩
  | succ g =>
   have hi:i < s.size:=by omega
   have hiz:(i:Int) < (s.size:Int):=by omega
   obtain ⟨x,hx⟩:∃ x:UInt8,s[i]'hi=x:=⟨_,rfl⟩
   have Hx:Hid (s.data.toList[i]? = some x):=Lib.hid (by rw [← hx]; exact Lib.data_getElem? s i hi)
   have hcx:=HC.out x
   cases hin:([101,69]:List UInt8).contains x <;> rw [hin] at hcx
   ·go_wp2_with fail
    refine (Tryz.asciiSet_contains _ x _ _ hcx).mono ?_
    rintro e w' ⟨rfl,hw⟩
    rw [hw]
    go_wp2_with fail
    go_roundg g
    case measure => omega
    case rel => exact ⟨i + 1,by omega,by first | rfl | simp,rfl,Lib.hid (HN.out.succ Hx.out hin)⟩
   ·go_wp2_with fail
    refine (Tryz.asciiSet_contains _ x _ _ hcx).mono ?_
    rintro e w' ⟨rfl,hw⟩
    rw [hw]
    go_wp2_with fail
    go_ret
    exact ⟨by rw [Lib.indexAny_hit HN.out Hx.out hin]; rfl,hq⟩
theorem zlK [Tabs Tryz.prog] {objs:List OB} {K:List OB → AV → Prop} (s:List UInt8) (hs:s.length ≤ 9000000000000000000) (ha:∀ c ∈ s,c.toNat < 128) (hk:K objs (.i .i64 (Lib.indexAny s [101,69]))):zah Tryz.prog 89 [.s s,.s [101,69]] objs K :=
 conv (vs:=[.string (S s),.string (S [101,69])]) rfl rfl (fun w => by
  by_cases h8:8 < s.length
  ·exact ziz (S s) (S [101,69]) w (by rw [zci]; exact h8) (by rw [zci]; exact hs) (by decide) rfl
  ·refine (Tryz.strings_IndexAny_laid (S s) (S [101,69]) w (by rw [zci]; omega) (by decide) (fun j b hb => ha b (List.mem_of_getElem? hb)) (fun j b hb => ?_)).mono fun e w' ⟨h1,h2⟩ => ⟨h1,h2⟩
   have:∀ c ∈ (S [101,69]).data.toList,c.toNat < 128:=by decide
   exact this _ (List.mem_of_getElem? hb)) hk
end Go.Proofs.YtadhjoggdbhkgaaGreatDoor
namespace Go.Proofs.YtadhjoggdbhkgaaGreatDoor
open Nat renaming reduceAdd → z6, reduceSub → z7, reduceLeDiff → z8, reduceLT → j4, reduceMul → j5, reduceEqDiff → j6
open Int renaming reduceToNat → j7, reduceAdd → j8, reduceSub → j9, reduceMul → x4, reduceNeg → x5, reduceLT → x6, reduceLE → x7, reduceEq → x8, reduceNe → x9
open Go.RowKit Sx
theorem zgv (cs v:List UInt8):∀ u:List UInt8,(∀ c ∈ u,cs.contains c=false) → Lib.indexAny (u ++ v) cs=if Lib.indexAny v cs=-1 then -1 else u.length + Lib.indexAny v cs
 | [],_ => by
  rw [List.nil_append]
  split
  ·rename_i h; exact h
  ·simp
 | c :: u,h => by
  rw [List.cons_append,Lib.indexAny,if_neg (by rw [h c (by simp)]; simp),zgv cs v u (fun x hx => h x (by simp [hx]))]
  by_cases hv:Lib.indexAny v cs=-1
  ·rw [if_pos hv,if_pos hv]; rfl
  ·have:=Lib.indexAny_ge cs v
   rw [if_neg hv,if_neg hv,if_neg (by rw [beq_iff_eq]; omega),List.length_cons]
   omega
theorem zbP {c:UInt8} (h:zai c=true):c.toNat < 128 ∧ ([101,69]:List UInt8).contains c=false ∧ c ≠ 46:=by
 have:=zhp h
 refine ⟨by omega,?_,?_⟩
 ·have h1:c ≠ 101:=fun e => by subst e; exact absurd this (by decide)
  have h2:c ≠ 69:=fun e => by subst e; exact absurd this (by decide)
  simp [h1,h2]
 ·rintro rfl; exact absurd this (by decide)
def NumS.body (p:NumS):List UInt8:=p.int ++ (frT p.fr ++ exT p.ex)
theorem zjB {f:List UInt8} (hf:f.all zai=true):∀ c ∈ frT f,c.toNat < 128 ∧ ([101,69]:List UInt8).contains c=false:=by
 intro c hc
 cases f with
 | nil => cases hc
 | cons a t =>
  have hc:c=46 ∨ c ∈ a :: t:=by simpa [frT] using hc
  rcases hc with rfl | hc
  ·exact ⟨by decide,by decide⟩
  ·have:=zbP (List.all_eq_true.1 hf c hc)
   exact ⟨this.1,this.2.1⟩
theorem zmc {p:NumS} (hp:p.Good):∀ c ∈ p.body,c.toNat < 128:=by
 intro c hc
 unfold NumS.body at hc
 rcases List.mem_append.1 hc with h | h
 ·exact (zbP (List.all_eq_true.1 hp.i1 c h)).1
 rcases List.mem_append.1 h with h | h
 ·exact (zjB hp.f1 c h).1
 cases he:p.ex with
 | none => rw [he] at h; cases h
 | some e =>
  obtain ⟨k,s,d⟩:=e
  obtain ⟨h1,h2,h3,h4⟩:=hp.e1 k s d he
  rw [he] at h
  have h:c=k ∨ c ∈ s ∨ c ∈ d:=by simpa [exT] using h
  rcases h with rfl | h | h
  ·rcases h1 with rfl | rfl <;> decide
  ·rcases h2 with rfl | rfl | rfl
   ·cases h
   ·simp only [List.mem_singleton] at h; subst h; decide
   ·simp only [List.mem_singleton] at h; subst h; decide
  ·exact (zbP (List.all_eq_true.1 h4 c h)).1
theorem body_idx {p:NumS} (hp:p.Good):Lib.indexAny p.body [101,69]=match p.ex with | none => -1 | some _ => ((p.int ++ frT p.fr).length:Int):=by
 have hno:∀ c ∈ p.int ++ frT p.fr,([101,69]:List UInt8).contains c=false:=by
  intro c hc
  rcases List.mem_append.1 hc with h | h
  ·exact (zbP (List.all_eq_true.1 hp.i1 c h)).2.1
  ·exact (zjB hp.f1 c h).2
 unfold NumS.body
 rw [← List.append_assoc,zgv _ _ _ hno]
 cases he:p.ex with
 | none => rw [if_pos (by rfl)]
 | some e =>
  obtain ⟨k,s,d⟩:=e
  obtain ⟨h1,_,_,_⟩:=hp.e1 k s d he
  have h0:Lib.indexAny (exT (some (k,s,d))) [101,69]=0:=by
   unfold exT
   rw [Lib.indexAny,if_pos]
   rcases h1 with rfl | rfl <;> decide
  rw [h0,if_neg (by decide)]
  simp
theorem zbc (c x:UInt8) (t:List UInt8):Lib.trimPrefix (x :: t) [c]=(if x=c then t else x :: t) ∧ Lib.hasPrefix (x :: t) [c]=decide (x=c):=by
 have h:Lib.hasPrefix (x :: t) [c]=decide (x=c):=by
  rw [pre_take]
  by_cases h:x=c
  ·subst h; simp
  ·rw [decide_eq_false h]; simp [h]
 refine ⟨?_,h⟩
 unfold Lib.trimPrefix
 rw [h]
 by_cases hx:x=c
 ·subst hx; simp
 ·simp [hx]
theorem zmN {p:NumS} (hp:p.Good) {k:UInt8} {s d:List UInt8} (he:p.ex=some (k,s,d)):Lib.trimPrefix (Lib.trimPrefix (s ++ d) [45]) [43]=d ∧ Lib.hasPrefix (s ++ d) [45]=decide (s=[45]):=by
 obtain ⟨_,h2,h3,h4⟩:=hp.e1 k s d he
 obtain ⟨c,t,e1,e2⟩:=zbO h3 h4
 have n45:c ≠ 45:=zbl e2 rfl
 have n43:c ≠ 43:=zbl e2 rfl
 rcases h2 with rfl | rfl | rfl
 ·rw [List.nil_append,e1,(zbc 45 c t).1,if_neg n45,(zbc 43 c t).1,if_neg n43,(zbc 45 c t).2]
  exact ⟨rfl,by simp [n45]⟩
 ·rw [show [43] ++ d=43 :: d from rfl,(zbc 45 43 d).1,if_neg (by decide),(zbc 43 43 d).1,if_pos rfl,(zbc 45 43 d).2]
  exact ⟨rfl,by decide⟩
 ·rw [show [45] ++ d=45 :: d from rfl,(zbc 45 45 d).1,if_pos rfl,(zbc 45 45 d).2,e1,(zbc 43 c t).1,if_neg n43]
  exact ⟨rfl,by decide⟩
theorem ziM {p:NumS} (hp:p.Good):zf3 46 (p.int ++ frT p.fr)=(p.int,p.fr,!p.fr.isEmpty):=by
 have key:∀ (u v:List UInt8),(∀ c ∈ u,c ≠ 46) → zf3 46 (u ++ v)=(u ++ (zf3 46 v).1,(zf3 46 v).2.1,(zf3 46 v).2.2):=by
  intro u v
  induction u with
  | nil => intro _; rfl
  | cons c u ih =>
   intro h
   rw [List.cons_append,zfT,if_neg (h c (by simp)),ih (fun x hx => h x (by simp [hx]))]
   rfl
 rw [key _ _ (fun c hc => (zbP (List.all_eq_true.1 hp.i1 c hc)).2.2)]
 cases hf:p.fr with
 | nil => simp [frT,zf3]
 | cons a t => simp [frT,zfT]
section
variable [Tabs Tryz.prog] {objs:List OB} {K:List OB → AV → Prop}
theorem zhu (p:NumS) (hp:p.Good) (hs:p.body.length ≤ 140737488351232) (hk:K objs (.tup [.s (p.int ++ frT p.fr),.i .i64 (zem 1099511627776 p.ex)])):zah Tryz.prog 59 [.s p.body] objs K:=by
 refine zbk is_token_cutExponent rfl fun C _ => ?_
 simp only [c_token_cutExponent,sxZ,z6,z7,z8,j4,j5,j6,j7,j8,j9,x4,x5,x6,x7,x8,x9,reduceCtorEq,↓reduceIte]
 refine zam (zlK _ (by omega) (zmc hp) ?_)
 have hi:=body_idx hp
 cases he:p.ex with
 | none =>
  rw [he] at hi hk
  rw [hi]
  simp only [sxZ,z6,z7,z8,j4,j5,j6,j7,j8,j9,x4,x5,x6,x7,x8,x9,reduceCtorEq,↓reduceIte]
  have:p.body=p.int ++ frT p.fr:=by unfold NumS.body; rw [he]; simp [exT]
  rw [this]
  exact hk
 | some e =>
  obtain ⟨k,s,d⟩:=e
  rw [he] at hi hk
  simp only at hi
  rw [hi]
  obtain ⟨g1,g2,g3,g4⟩:=hp.e1 k s d he
  have hb:p.body=(p.int ++ frT p.fr) ++ k :: (s ++ d):=by unfold NumS.body; rw [he]; simp [exT]
  have hst:=zmN hp he
  rw [hb] at hs ⊢
  generalize p.int ++ frT p.fr=u at *
  have n0:¬ ((u.length:Nat):Int) < 0:=by omega
  have e1:(((u.length:Nat):Int) + 1).toNat=u.length + 1:=by omega
  have e2:(u ++ k :: (s ++ d)).drop (u.length + 1)=s ++ d:=by rw [← List.drop_drop,List.drop_left]; rfl
  have e3:(u ++ k :: (s ++ d)).take u.length=u:=List.take_left
  have e4:(u ++ k :: (s ++ d)).length=u.length + (s.length + d.length + 1):=by simp
  generalize u ++ k :: (s ++ d)=W at *
  simp only [n0,e1,e2,sxZ,z6,z7,z8,j4,j5,j6,j7,j8,j9,x4,x5,x6,x7,x8,x9,reduceCtorEq,↓reduceIte]
  (and_intros <;> try omega)
  refine zam (zeN _ _ ?_)
  simp only [sxZ,z6,z7,z8,j4,j5,j6,j7,j8,j9,x4,x5,x6,x7,x8,x9,reduceCtorEq,↓reduceIte]
  refine zam (zgU _ _ ?_)
  simp only [hst.1,hst.2,sxZ,z6,z7,z8,j4,j5,j6,j7,j8,j9,x4,x5,x6,x7,x8,x9,reduceCtorEq,↓reduceIte]
  refine zam (nParse_k d 1099511627776 (by rw [zcM]; omega) (by decide) ?_)
  have hnum:=zlY 1099511627776 g3 g4
  simp only [zem] at hk
  by_cases c1:zhE d 0 ≤ 1099511627776
  ·have hw:IntKind.i64.wrap ((zhE d 0:Nat):Int)=zhE d 0:=by rw [IntKind.wrap_i64]; omega
   rw [Nat.min_eq_left c1] at hk
   rw [if_pos c1] at hnum
   by_cases c2:s=[45]
   ·rw [if_pos c2] at hk
    simp only [hnum,hw,c2,e3,sxZ,z6,z7,z8,j4,j5,j6,j7,j8,j9,x4,x5,x6,x7,x8,x9,reduceCtorEq,↓reduceIte]
    refine ⟨by omega,by omega,?_⟩
    rw [Int.zero_sub]
    exact hk
   ·rw [if_neg c2] at hk
    simp only [hnum,hw,c2,e3,sxZ,z6,z7,z8,j4,j5,j6,j7,j8,j9,x4,x5,x6,x7,x8,x9,reduceCtorEq,↓reduceIte]
    exact ⟨by omega,hk⟩
  ·rw [Nat.min_eq_right (by omega)] at hk
   rw [if_neg c1] at hnum
   by_cases c2:s=[45]
   ·rw [if_pos c2] at hk
    simp only [hnum,c2,e3,sxZ,z6,z7,z8,j4,j5,j6,j7,j8,j9,x4,x5,x6,x7,x8,x9,reduceCtorEq,↓reduceIte]
    refine ⟨by omega,?_⟩
    exact hk
   ·rw [if_neg c2] at hk
    simp only [hnum,c2,e3,sxZ,z6,z7,z8,j4,j5,j6,j7,j8,j9,x4,x5,x6,x7,x8,x9,reduceCtorEq,↓reduceIte]
    exact ⟨by omega,hk⟩
set_option maxHeartbeats 4000000 in
theorem number_k [Pow Tryz.prog] (s:List UInt8) (hs:s.length ≤ 140737488351232) (h1:(s=[] ∨ zcU s ≠ s.length) → K objs (.tup [.s [],.i .i64 130]))
  (h2:∀ p:NumS,p.Good → s=p.txt → K objs (.tup [.s (zgE 1099511627776 p).2,.i .i64 (zgE 1099511627776 p).1])):zah Tryz.prog 41 [.s s] objs K:=by
 refine zbk is_token_Number rfl fun C _ => ?_
 have hmx:=zcM
 by_cases c0:s=[]
 ·have h1:=h1 (.inl c0)
  simp only [c0,c_token_Number,sxZ,z6,z7,z8,j4,j5,j6,j7,j8,j9,x4,x5,x6,x7,x8,x9,reduceCtorEq,↓reduceIte]
  exact h1
 rw [c_token_Number]
 refine zaa fun Y1 hY1 => ?_
 simp only [sxZ,z6,z7,z8,j4,j5,j6,j7,j8,j9,x4,x5,x6,x7,x8,x9,reduceCtorEq,↓reduceIte]
 subst hY1
 refine zaa fun Y1 hY1 => ?_
 simp only [c0,sxZ,z6,z7,z8,j4,j5,j6,j7,j8,j9,x4,x5,x6,x7,x8,x9,reduceCtorEq,↓reduceIte]
 refine zam (zjo s 0 (Nat.zero_le _) (by omega) ?_)
 rw [List.drop_zero,Nat.zero_add]
 by_cases c1:zcU s=s.length
 case neg =>
  have c1':¬ ((zcU s:Nat):Int)=s.length:=by omega
  simp only [c1',sxZ,z6,z7,z8,j4,j5,j6,j7,j8,j9,x4,x5,x6,x7,x8,x9,reduceCtorEq,↓reduceIte]
  exact h1 (.inr c1)
 clear h1
 obtain ⟨p,hp,rfl⟩:=zfF c0 c1
 have h2:=h2 p hp rfl
 simp only [c1,sxZ,z6,z7,z8,j4,j5,j6,j7,j8,j9,x4,x5,x6,x7,x8,x9,reduceCtorEq,↓reduceIte]
 subst hY1
 refine zaa fun Y1 hY1 => ?_
 simp only [sxZ,z6,z7,z8,j4,j5,j6,j7,j8,j9,x4,x5,x6,x7,x8,x9,reduceCtorEq,↓reduceIte]
 refine zam (zeN _ _ ?_)
 have hcp:Lib.trimPrefix p.txt [45]=p.body ∧ Lib.hasPrefix p.txt [45]=p.neg:=by
  obtain ⟨c,t,e1,e2⟩:=zbO hp.i0 hp.i1
  have n45:c ≠ 45:=zbl e2 rfl
  unfold NumS.txt NumS.body
  cases p.neg with
  | true =>
   have:=zbc 45 45 (p.int ++ (frT p.fr ++ exT p.ex))
   rw [if_pos rfl] at this
   exact ⟨this.1,this.2⟩
  | false =>
   have:=zbc 45 c (t ++ (frT p.fr ++ exT p.ex))
   rw [if_neg n45,decide_eq_false n45] at this
   rw [e1]
   exact this
 have hbl:p.body.length ≤ p.txt.length:=by unfold NumS.txt NumS.body; simp
 simp only [hcp.1,hcp.2,sxZ,z6,z7,z8,j4,j5,j6,j7,j8,j9,x4,x5,x6,x7,x8,x9,reduceCtorEq,↓reduceIte]
 subst hY1
 refine zaa fun Y1 hY1 => ?_
 simp only [sxZ,z6,z7,z8,j4,j5,j6,j7,j8,j9,x4,x5,x6,x7,x8,x9,reduceCtorEq,↓reduceIte]
 refine zam (zhu p hp (by omega) ?_)
 simp only [sxZ,z6,z7,z8,j4,j5,j6,j7,j8,j9,x4,x5,x6,x7,x8,x9,reduceCtorEq,↓reduceIte]
 subst hY1
 refine zaa fun Y1 hY1 => ?_
 simp only [sxZ,z6,z7,z8,j4,j5,j6,j7,j8,j9,x4,x5,x6,x7,x8,x9,reduceCtorEq,↓reduceIte]
 have hml:(p.int ++ frT p.fr).length ≤ p.txt.length:=by unfold NumS.txt; simp; omega
 refine zam (sCut_k _ 46 (by omega) ?_)
 rw [ziM hp]
 simp only [sxZ,z6,z7,z8,j4,j5,j6,j7,j8,j9,x4,x5,x6,x7,x8,x9,reduceCtorEq,↓reduceIte]
 subst hY1
 refine zaa fun Y1 hY1 => ?_
 simp only [sxZ,z6,z7,z8,j4,j5,j6,j7,j8,j9,x4,x5,x6,x7,x8,x9,reduceCtorEq,↓reduceIte]
 have htl:=zi5 p
 refine ⟨by omega,?_⟩
 refine zam (zja _ 48 (by decide) ?_)
 have hzl:Lib.trimLeftB (p.int ++ p.fr) 48=zbA p:=rfl
 have hml2:=ze6 p
 have hzr:=zjN (zbA p)
 have hei:=zoU 1099511627776 p.ex
 rw [hzl]
 unfold zgE at h2
 unfold zgw at h2
 simp only [sxZ,z6,z7,z8,j4,j5,j6,j7,j8,j9,x4,x5,x6,x7,x8,x9,reduceCtorEq,↓reduceIte]
 subst hY1
 refine zaa fun Y1 hY1 => ?_
 by_cases c2:zbA p=[]
 ·rw [if_pos c2] at h2
  simp only [c2,sxZ,z6,z7,z8,j4,j5,j6,j7,j8,j9,x4,x5,x6,x7,x8,x9,reduceCtorEq,↓reduceIte]
  exact h2
 rw [if_neg c2] at h2
 generalize zem 1099511627776 p.ex=E at *
 simp only [c2,sxZ,z6,z7,z8,j4,j5,j6,j7,j8,j9,x4,x5,x6,x7,x8,x9,reduceCtorEq,↓reduceIte]
 subst hY1
 refine zaa fun Y1 hY1 => ?_
 simp only [sxZ,z6,z7,z8,j4,j5,j6,j7,j8,j9,x4,x5,x6,x7,x8,x9,reduceCtorEq,↓reduceIte]
 refine zam (zh2 _ 48 (by decide) (by omega) ?_)
 have hzr2:Lib.trimRightB (zbA p) 48=zR (zbA p):=rfl
 rw [hzr2]
 simp only [sxZ,z6,z7,z8,j4,j5,j6,j7,j8,j9,x4,x5,x6,x7,x8,x9,reduceCtorEq,↓reduceIte]
 subst hY1
 refine zaa fun Y1 hY1 => ?_
 simp only [sxZ,z6,z7,z8,j4,j5,j6,j7,j8,j9,x4,x5,x6,x7,x8,x9,reduceCtorEq,↓reduceIte]
 (and_intros <;> try omega)
 subst hY1
 refine zaa fun Y1 hY1 => ?_
 generalize E - (p.fr.length:Int) + (((zbA p).length:Int) - ((zR (zbA p)).length:Int))=x at *
 generalize zR (zbA p)=m at *
 by_cases d1:(40:Int) < m.length
 ·rw [if_pos (.inl (by omega))] at h2
  simp only [d1,sxZ,z6,z7,z8,j4,j5,j6,j7,j8,j9,x4,x5,x6,x7,x8,x9,reduceCtorEq,↓reduceIte]
  exact h2
 by_cases d2:x < -400
 ·rw [if_pos (.inr (.inl d2))] at h2
  simp only [d1,d2,sxZ,z6,z7,z8,j4,j5,j6,j7,j8,j9,x4,x5,x6,x7,x8,x9,reduceCtorEq,↓reduceIte]
  exact h2
 by_cases d3:400 < x
 ·rw [if_pos (.inr (.inr d3))] at h2
  simp only [d1,d2,d3,sxZ,z6,z7,z8,j4,j5,j6,j7,j8,j9,x4,x5,x6,x7,x8,x9,reduceCtorEq,↓reduceIte]
  exact h2
 rw [if_neg (by omega)] at h2
 simp only [d1,d2,d3,sxZ,z6,z7,z8,j4,j5,j6,j7,j8,j9,x4,x5,x6,x7,x8,x9,reduceCtorEq,↓reduceIte]
 subst hY1
 refine zaa fun Y1 hY1 => ?_
 have hit:=Lib.itoa_length_le x (by omega) (by omega)
 unfold expS sgT at h2
 cases hn:p.neg with
 | true =>
  rw [hn] at h2
  simp only [sxZ,z6,z7,z8,j4,j5,j6,j7,j8,j9,x4,x5,x6,x7,x8,x9,reduceCtorEq,↓reduceIte]
  (and_intros <;> try omega)
  subst hY1
  by_cases d4:x=0
  ·subst d4
   simp only [sxZ,z6,z7,z8,j4,j5,j6,j7,j8,j9,x4,x5,x6,x7,x8,x9,reduceCtorEq,↓reduceIte]
   simpa using h2
  ·rw [if_neg d4] at h2
   simp only [d4,sxZ,z6,z7,z8,j4,j5,j6,j7,j8,j9,x4,x5,x6,x7,x8,x9,reduceCtorEq,↓reduceIte]
   refine zam (zfM x (by omega) (by omega) ?_)
   simp only [sxZ,z6,z7,z8,j4,j5,j6,j7,j8,j9,x4,x5,x6,x7,x8,x9,reduceCtorEq,↓reduceIte]
   (and_intros <;> try omega)
   simpa using h2
 | false =>
  rw [hn] at h2
  simp only [sxZ,z6,z7,z8,j4,j5,j6,j7,j8,j9,x4,x5,x6,x7,x8,x9,reduceCtorEq,↓reduceIte]
  subst hY1
  by_cases d4:x=0
  ·subst d4
   simp only [sxZ,z6,z7,z8,j4,j5,j6,j7,j8,j9,x4,x5,x6,x7,x8,x9,reduceCtorEq,↓reduceIte]
   simpa using h2
  ·rw [if_neg d4] at h2
   simp only [d4,sxZ,z6,z7,z8,j4,j5,j6,j7,j8,j9,x4,x5,x6,x7,x8,x9,reduceCtorEq,↓reduceIte]
   refine zam (zfM x (by omega) (by omega) ?_)
   simp only [sxZ,z6,z7,z8,j4,j5,j6,j7,j8,j9,x4,x5,x6,x7,x8,x9,reduceCtorEq,↓reduceIte]
   (and_intros <;> try omega)
   simpa using h2
end
end Go.Proofs.YtadhjoggdbhkgaaGreatDoor
namespace Go.Proofs.YtadhjoggdbhkgaaGreatDoor
open Go.RowKit
theorem znB {c:UInt8} (h:128 ≤ c.toNat):zcf c=[c]:=by
 have n:∀ k:UInt8,k.toNat < 128 → c ≠ k:=fun k hk e => by subst e; omega
 unfold zcf
 rw [if_neg (by rintro (e | e); exact n 34 (by decide) e; exact n 92 (by decide) e),if_neg (n 8 (by decide)),if_neg (n 12 (by decide)),if_neg (n 10 (by decide)),if_neg (n 13 (by decide)),if_neg (n 9 (by decide)),if_neg (by omega)]
theorem zpn {c:UInt8} {t:List UInt8} {r n:Nat} (h:zbK (c :: t)=some (r,n)) (hc:128 ≤ c.toNat):∀ x ∈ (c :: t).take n,128 ≤ x.toNat:=by
 have hb:∀ k,(u8b (128 + k % 64)).toNat=128 + k % 64:=fun k => zaE (by omega)
 obtain ⟨h1,h2,h3,_⟩:=za7 h
 have hr:(r:Int) ≤ 1114111:=(of_decide_eq_true h1).2.1
 rw [← h2]
 have h0:¬ r < 128:=by
  intro hlt
  have:(zdz r).head? = some c:=by rw [h2]; cases n with | zero => omega | succ n => rfl
  unfold zdz at this
  rw [if_pos hlt] at this
  simp only [List.head?_cons,Option.some.injEq] at this
  rw [← this,zaE (by omega)] at hc
  omega
 unfold zdz
 rw [if_neg h0]
 intro x hx
 split at hx
 ·simp only [List.mem_cons,List.not_mem_nil,or_false] at hx
  rcases hx with rfl | rfl
  ·rw [zaE (by omega)]; omega
  ·rw [hb]; omega
 split at hx
 ·simp only [List.mem_cons,List.not_mem_nil,or_false] at hx
  rcases hx with rfl | rfl | rfl
  ·rw [zaE (by omega)]; omega
  ·rw [hb]; omega
  ·rw [hb]; omega
 ·simp only [List.mem_cons,List.not_mem_nil,or_false] at hx
  rcases hx with rfl | rfl | rfl | rfl
  ·rw [zaE (by omega)]; omega
  ·rw [hb]; omega
  ·rw [hb]; omega
  ·rw [hb]; omega
theorem zkk:∀ l:List UInt8,(∀ x ∈ l,128 ≤ x.toNat) → l.flatMap zcf=l
 | [],_ => rfl
 | c :: t,h => by
  rw [List.flatMap_cons,znB (h c (by simp)),zkk t (fun x hx => h x (by simp [hx]))]; rfl
theorem quo_step (n:Nat) {c:UInt8} (hc:c.toNat < 128) (r out:List UInt8) (k:Nat):zb4 (n + 1) (zcf c ++ r) out k=zb4 n r (out ++ [c]) (k + (zcf c).length):=by
 have key:∀ m:Fin 128,zcf (UInt8.ofNat m.val)=[UInt8.ofNat m.val] ∧ UInt8.ofNat m.val ≠ 34 ∧ UInt8.ofNat m.val ≠ 92 ∧ 32 ≤ (UInt8.ofNat m.val).toNat ∨
   (∃ d,zcf (UInt8.ofNat m.val)=[92,d] ∧ zcI d=some (UInt8.ofNat m.val)) ∨
   (zcf (UInt8.ofNat m.val)=[92,117,48,48,zfK (m.val / 16),zfK (m.val % 16)] ∧ zbY zbF 16 65535 [48,48,zfK (m.val / 16),zfK (m.val % 16)]=(0,m.val) ∧ zdz m.val=[UInt8.ofNat m.val] ∧ m.val < 32):=by
  intro m
  by_cases h:zcf (UInt8.ofNat m.val)=[UInt8.ofNat m.val]
  ·refine .inl ⟨h,?_⟩
   revert h; revert m; decide +kernel
  ·by_cases h2:m.val=34 ∨ m.val=92 ∨ m.val=8 ∨ m.val=12 ∨ m.val=10 ∨ m.val=13 ∨ m.val=9
   ·refine .inr (.inl ?_)
    obtain ⟨v,hv⟩:=m
    simp only at h2 ⊢
    rcases h2 with rfl | rfl | rfl | rfl | rfl | rfl | rfl
    ·exact ⟨34,by decide,by decide⟩
    ·exact ⟨92,by decide,by decide⟩
    ·exact ⟨98,by decide,by decide⟩
    ·exact ⟨102,by decide,by decide⟩
    ·exact ⟨110,by decide,by decide⟩
    ·exact ⟨114,by decide,by decide⟩
    ·exact ⟨116,by decide,by decide⟩
   ·refine .inr (.inr ?_)
    revert h h2; revert m; decide +kernel
 have hk:=key ⟨c.toNat,hc⟩
 simp only [UInt8.ofNat_toNat] at hk
 rcases hk with ⟨h1,h2,h3,h4⟩ | ⟨d,h1,h2⟩ | ⟨h1,h2,h3,h4⟩
 ·rw [h1]
  show zb4 (n + 1) (c :: r) out k=_
  have hd:zbK (c :: r)=some (c.toNat,1):=by rw [zbK,if_pos hc]
  rw [zb4,if_neg h2,if_neg h3,if_neg (by omega),hd]
  rfl
 ·rw [h1]
  show zb4 (n + 1) (92 :: d :: r) out k=_
  have he:zc3 (92 :: d :: r)=(0,[c],2):=by
   unfold zc3
   simp only [List.getElem?_cons_succ,List.getElem?_cons_zero,Option.bind_some,h2]
  rw [zb4,if_neg (by decide),if_pos rfl,he]
  rfl
 ·rw [h1]
  show zb4 (n + 1) (92 :: 117 :: 48 :: 48 :: zfK (c.toNat / 16) :: zfK (c.toNat % 16) :: r) out k=_
  have hu:zck (92 :: 117 :: 48 :: 48 :: zfK (c.toNat / 16) :: zfK (c.toNat % 16) :: r)=some c.toNat:=by
   unfold zck
   rw [if_neg (by simp)]
   show (if (zbY zbF 16 65535 [48,48,zfK (c.toNat / 16),zfK (c.toNat % 16)]).1=0 then some (zbY zbF 16 65535 [48,48,zfK (c.toNat / 16),zfK (c.toNat % 16)]).2 else none)=_
   rw [h2,if_pos rfl]
  have he:zc3 (92 :: 117 :: 48 :: 48 :: zfK (c.toNat / 16) :: zfK (c.toNat % 16) :: r)=(0,[c],6):=by
   unfold zc3
   have hs:zcI 117=none:=by decide
   simp only [List.getElem?_cons_succ,List.getElem?_cons_zero,Option.bind_some,hs,hu]
   rw [if_pos (by omega),h3]
  rw [zb4,if_neg (by decide),if_pos rfl,he]
  rfl
theorem quo_len (c:UInt8):1 ≤ (zcf c).length:=by
 unfold zcf
 repeat' split
 all_goals simp
theorem quo_back (r:List UInt8):∀ (m:Nat) (l out:List UInt8) (n k:Nat),l.length ≤ m → 0 ≤ zf4 l → l.length < n → zb4 n (l.flatMap zcf ++ 34 :: r) out k=(0,out ++ l,k + (l.flatMap zcf).length + 1):=by
 intro m
 induction m with
 | zero =>
  intro l out n k hl _ hn
  have e:l=[]:=List.length_eq_zero_iff.1 (by omega)
  subst e
  cases n with
  | zero => omega
  | succ n => show zb4 (n + 1) (34 :: r) out k=_; rw [zb4,if_pos rfl]; simp
 | succ m ih =>
  intro l out n k hl hv hn
  cases l with
  | nil =>
   cases n with
   | zero => omega
   | succ n => show zb4 (n + 1) (34 :: r) out k=_; rw [zb4,if_pos rfl]; simp
  | cons c t =>
   cases n with
   | zero => omega
   | succ n =>
    simp only [List.length_cons] at hl hn
    cases hd:zbK (c :: t) with
    | none => rw [zfU (by simp) hd] at hv; omega
    | some p =>
     obtain ⟨u,j⟩:=p
     rw [zdn hd] at hv
     obtain ⟨g1,g2,g3,g4,g5⟩:=za7 hd
     have hv2:0 ≤ zf4 ((c :: t).drop j):=by
      have:=zfV ((c :: t).drop j)
      unfold zlz at hv
      split at hv
      ·omega
      ·omega
     by_cases hc:c.toNat < 128
     ·have hj:j=1:=by rw [zbK,if_pos hc] at hd; injection hd with hd; injection hd with _ hd; exact hd.symm
      subst hj
      rw [List.flatMap_cons,List.append_assoc,quo_step n hc,ih t _ n _ (by omega) hv2 (by omega)]
      simp only [List.append_assoc,List.cons_append,List.nil_append,List.length_append,Prod.mk.injEq,true_and]
      omega
     ·have hh:=zpn hd (by omega)
      have hsp:(c :: t).flatMap zcf=(c :: t).take j ++ ((c :: t).drop j).flatMap zcf:=by
       conv => lhs; rw [← List.take_append_drop j (c :: t)]
       rw [List.flatMap_append,zkk _ hh]
      have hl2:((c :: t).drop j).length ≤ m:=by rw [List.length_drop,List.length_cons]; omega
      have hn2:((c :: t).drop j).length < n:=by rw [List.length_drop,List.length_cons]; omega
      have hD:zbK ((c :: t).take j ++ (((c :: t).drop j).flatMap zcf ++ 34 :: r))=some (u,j):=by
       rw [← g2]
       have:=zdR g1 (((c :: t).drop j).flatMap zcf ++ 34 :: r)
       rw [this,g2,List.length_take,Nat.min_eq_left g3]
      have hjl:((c :: t).take j).length=j:=by rw [List.length_take,Nat.min_eq_left g3]
      rw [hsp,List.append_assoc]
      obtain ⟨q,hq⟩:∃ q,(c :: t).take j=c :: q:=by
       cases j with
       | zero => omega
       | succ j => exact ⟨_,rfl⟩
      have h34:¬ c=34:=fun e => by subst e; exact absurd hc (by decide)
      have h92:¬ c=92:=fun e => by subst e; exact absurd hc (by decide)
      rw [hq] at hD hjl ⊢
      show zb4 (n + 1) (c :: (q ++ (((c :: t).drop j).flatMap zcf ++ 34 :: r))) out k=_
      have hD2:zbK (c :: (q ++ (((c :: t).drop j).flatMap zcf ++ 34 :: r)))=some (u,j):=hD
      rw [zb4,if_neg h34,if_neg h92,if_neg (by omega),hD2]
      simp only
      have e1:(c :: (q ++ (((c :: t).drop j).flatMap zcf ++ 34 :: r))).drop j=((c :: t).drop j).flatMap zcf ++ 34 :: r:=by
       show ((c :: q) ++ (((c :: t).drop j).flatMap zcf ++ 34 :: r)).drop j=_
       rw [List.drop_left' hjl]
      have e2:(c :: (q ++ (((c :: t).drop j).flatMap zcf ++ 34 :: r))).take j=c :: q:=by
       show ((c :: q) ++ (((c :: t).drop j).flatMap zcf ++ 34 :: r)).take j=_
       rw [List.take_left' hjl]
      rw [e1,e2,ih _ _ n _ hl2 hv2 hn2]
      have e3:out ++ (c :: q) ++ (c :: t).drop j=out ++ c :: t:=by
       rw [List.append_assoc,← hq,List.take_append_drop]
      rw [e3,List.length_append,hjl]
      simp only [Prod.mk.injEq,true_and]
      omega
end Go.Proofs.YtadhjoggdbhkgaaGreatDoor
namespace Go.Proofs.YtadhjoggdbhkgaaGreatDoor
open Nat renaming reduceAdd → z6, reduceSub → z7, reduceLeDiff → z8, reduceLT → j4, reduceMul → j5, reduceEqDiff → j6
open Int renaming reduceToNat → j7, reduceAdd → j8, reduceSub → j9, reduceMul → x4, reduceNeg → x5, reduceLT → x6, reduceLE → x7, reduceEq → x8, reduceNe → x9
open Go.RowKit Sx
theorem zpx (a b:List UInt8):byA (a ++ b)=byA a ++ byA b:=by simp [byA]
theorem zoL:∀ k:Fin 16,([48,49,50,51,52,53,54,55,56,57,97,98,99,100,101,102]:List UInt8).getD k.val 0=zfK k.val:=by decide +kernel
theorem u8_16:∀ n:Fin 256,((n.val:Nat):Int).fdiv (2 ^ min 4 IntKind.u8.bits)=((n.val / 16:Nat):Int) ∧ IntKind.u8.wrap ((BitVec.ofInt IntKind.u8.bits ((n.val:Nat):Int) &&& BitVec.ofInt IntKind.u8.bits 15).toNat:Int)=((n.val % 16:Nat):Int):=by decide +kernel
theorem quoB_hex {c:UInt8} (h1:c ≠ 34) (h2:c ≠ 92) (h3:c ≠ 8) (h4:c ≠ 12) (h5:c ≠ 10) (h6:c ≠ 13) (h7:c ≠ 9):zcf c=if c.toNat < 32 then [92,117,48,48,zfK (c.toNat / 16),zfK (c.toNat % 16)] else [c]:=by
 unfold zcf
 rw [if_neg (by rintro (h | h); exact h1 h; exact h2 h),if_neg h3,if_neg h4,if_neg h5,if_neg h6,if_neg h7]
theorem zkm (l:List UInt8):(l.flatMap zcf).length ≤ 6 * l.length:=by
 induction l with
 | nil => simp
 | cons c t ih =>
  have:(zcf c).length ≤ 6:=by
   unfold zcf
   repeat' split
   all_goals simp
  rw [List.flatMap_cons,List.length_append,List.length_cons]; omega
def quoP (s:List UInt8) (i:Nat):List UInt8:=34 :: (s.take i).flatMap zcf
theorem quoP_len (s:List UInt8) (i:Nat):(quoP s i).length ≤ 6 * s.length + 1:=by
 have h:=zkm (s.take i)
 rw [List.length_take] at h
 unfold quoP
 rw [List.length_cons]; omega
theorem znA (s:List UInt8) (i:Nat) (h:i < s.length):quoP s i ++ zcf s[i]=quoP s (i + 1):=by
 unfold quoP
 rw [List.take_add_one,List.getElem?_eq_getElem h,List.flatMap_append]
 simp
theorem quoP_end (s:List UInt8):byA (quoP s s.length) ++ [.i .u8 34]=byA (zdX s):=by
 unfold quoP zdX
 rw [List.take_length,← List.cons_append,zpx]; rfl
def zfz (s:List UInt8):Int × List UInt8:=if 1048576 < s.length then (5,[]) else if zay s=false then (7,[]) else (0,zdX s)
theorem zcE {l:List UInt8} {n:Nat} (h:zck l=some n):6 ≤ l.length ∧ n ≤ 65535:=by
 unfold zck at h
 split at h
 ·cases h
 ·rename_i g
  split at h
  ·injection h with h
   have:=zkz zbF 16 65535 ((l.drop 2).take 4)
   constructor
   ·apply Classical.byContradiction
    intro h1
    exact g (.inl (by omega))
   ·omega
  ·cases h
section
variable [Tabs Tryz.prog] {objs:List OB} {K:List OB → AV → Prop}
set_option maxHeartbeats 4000000 in
theorem zf7 (c:UInt8) (g:Nat) (l:List UInt8) (more:List OB) (hl:l.length ≤ 100000000000000) (hk:∀ g',K (.orow 5 1 g' (l ++ zcf c).length (byA (l ++ zcf c)) :: more) (.orow 0 g')) :
  zah Tryz.prog 76 [.orow 0 g,.i .u8 c.toNat] (.orow 5 1 g l.length (byA l) :: more) K:=by
 refine zcP is_token_appendQuoted fun C _ => ?_
 have hfin:∀ (q:List UInt8) (x:List AV) (g' n:Nat),zcf c=q → x=byA l ++ byA q → n=l.length + q.length → K (.orow 5 1 g' n x :: more) (.orow 0 g'):=by
  rintro q x g' n rfl rfl rfl
  have:=hk g'
  rw [List.length_append,zpx] at this
  exact this
 have e:=fun k (hk:k < 256) => zd2 (c:=c) (k:=k) hk
 by_cases c1:((c.toNat:Nat):Int)=34
 ·have hc:=(e 34 (by decide)).1 c1
  simp only [c1,c_token_appendQuoted,sxZ,z6,z7,z8,j4,j5,j6,j7,j8,j9,x4,x5,x6,x7,x8,x9,reduceCtorEq,↓reduceIte]
  exact ⟨by omega,hfin [92,34] _ _ _ (by rw [hc]; rfl) rfl rfl⟩
 by_cases c2:((c.toNat:Nat):Int)=92
 ·have hc:=(e 92 (by decide)).1 c2
  simp only [c2,c_token_appendQuoted,sxZ,z6,z7,z8,j4,j5,j6,j7,j8,j9,x4,x5,x6,x7,x8,x9,reduceCtorEq,↓reduceIte]
  exact ⟨by omega,hfin [92,92] _ _ _ (by rw [hc]; rfl) rfl rfl⟩
 by_cases c3:((c.toNat:Nat):Int)=8
 ·have hc:=(e 8 (by decide)).1 c3
  simp only [c3,c_token_appendQuoted,sxZ,z6,z7,z8,j4,j5,j6,j7,j8,j9,x4,x5,x6,x7,x8,x9,reduceCtorEq,↓reduceIte]
  exact ⟨by omega,hfin [92,98] _ _ _ (by rw [hc]; rfl) rfl rfl⟩
 by_cases c4:((c.toNat:Nat):Int)=12
 ·have hc:=(e 12 (by decide)).1 c4
  simp only [c4,c_token_appendQuoted,sxZ,z6,z7,z8,j4,j5,j6,j7,j8,j9,x4,x5,x6,x7,x8,x9,reduceCtorEq,↓reduceIte]
  exact ⟨by omega,hfin [92,102] _ _ _ (by rw [hc]; rfl) rfl rfl⟩
 by_cases c5:((c.toNat:Nat):Int)=10
 ·have hc:=(e 10 (by decide)).1 c5
  simp only [c5,c_token_appendQuoted,sxZ,z6,z7,z8,j4,j5,j6,j7,j8,j9,x4,x5,x6,x7,x8,x9,reduceCtorEq,↓reduceIte]
  exact ⟨by omega,hfin [92,110] _ _ _ (by rw [hc]; rfl) rfl rfl⟩
 by_cases c6:((c.toNat:Nat):Int)=13
 ·have hc:=(e 13 (by decide)).1 c6
  simp only [c6,c_token_appendQuoted,sxZ,z6,z7,z8,j4,j5,j6,j7,j8,j9,x4,x5,x6,x7,x8,x9,reduceCtorEq,↓reduceIte]
  exact ⟨by omega,hfin [92,114] _ _ _ (by rw [hc]; rfl) rfl rfl⟩
 by_cases c7:((c.toNat:Nat):Int)=9
 ·have hc:=(e 9 (by decide)).1 c7
  simp only [c7,c_token_appendQuoted,sxZ,z6,z7,z8,j4,j5,j6,j7,j8,j9,x4,x5,x6,x7,x8,x9,reduceCtorEq,↓reduceIte]
  exact ⟨by omega,hfin [92,116] _ _ _ (by rw [hc]; rfl) rfl rfl⟩
 have hq:=quoB_hex (c:=c) (fun h => c1 ((e 34 (by decide)).2 h)) (fun h => c2 ((e 92 (by decide)).2 h)) (fun h => c3 ((e 8 (by decide)).2 h)) (fun h => c4 ((e 12 (by decide)).2 h)) (fun h => c5 ((e 10 (by decide)).2 h)) (fun h => c6 ((e 13 (by decide)).2 h)) (fun h => c7 ((e 9 (by decide)).2 h))
 by_cases c8:((c.toNat:Nat):Int) < 32
 ·rw [if_pos (by omega)] at hq
  simp only [c1,c2,c3,c4,c5,c6,c7,c8,c_token_appendQuoted,sxZ,z6,z7,z8,j4,j5,j6,j7,j8,j9,x4,x5,x6,x7,x8,x9,reduceCtorEq,↓reduceIte]
  obtain ⟨w1,w2⟩:=u8_16 ⟨c.toNat,c.toNat_lt⟩
  simp only at w1 w2
  rw [w1,w2,Int.toNat_natCast,Int.toNat_natCast,zoL ⟨c.toNat / 16,by omega⟩,zoL ⟨c.toNat % 16,by omega⟩]
  refine ⟨by omega,by omega,by omega,by omega,hfin _ _ _ _ hq ?_ rfl⟩
  rw [List.append_assoc]; rfl
 ·rw [if_neg (by omega)] at hq
  simp only [c1,c2,c3,c4,c5,c6,c7,c8,c_token_appendQuoted,sxZ,z6,z7,z8,j4,j5,j6,j7,j8,j9,x4,x5,x6,x7,x8,x9,reduceCtorEq,↓reduceIte]
  exact ⟨by omega,hfin [c] _ _ _ hq rfl rfl⟩
theorem quote_k [Utf Tryz.prog] (s:List UInt8) (hs:s.length ≤ 140737488351232) (hk:K objs (.tup [.s (zfz s).2,.i .i64 (zfz s).1])):zah Tryz.prog 53 [.s s] objs K:=by
 refine zbk is_token_Quote rfl fun C _ => ?_
 unfold zfz at hk
 by_cases c0:(1048576:Int) < s.length
 ·rw [if_pos (by omega)] at hk
  simp only [c0,c_token_Quote,sxZ,z6,z7,z8,j4,j5,j6,j7,j8,j9,x4,x5,x6,x7,x8,x9,reduceCtorEq,↓reduceIte]
  exact hk
 have c0':s.length ≤ 1048576:=by omega
 rw [if_neg (by omega)] at hk
 simp only [c0,c_token_Quote,sxZ,z6,z7,z8,j4,j5,j6,j7,j8,j9,x4,x5,x6,x7,x8,x9,reduceCtorEq,↓reduceIte]
 refine zam (zgQ s hs ?_)
 by_cases c1:zay s=true
 ·rw [if_neg (by rw [c1]; simp)] at hk
  simp only [c1,sxZ,z6,z7,z8,j4,j5,j6,j7,j8,j9,x4,x5,x6,x7,x8,x9,reduceCtorEq,↓reduceIte]
  (and_intros <;> try omega)
  refine zaQ (fun n objs tm => ∃ (i g:Nat),i ≤ s.length ∧ n=s.length - i ∧ objs=[.orow 5 1 g (quoP s i).length (byA (quoP s i))] ∧ tm.length=34 ∧ tm[0]? = some (.s s) ∧ tm[4]? = some (.orow 0 g) ∧ tm[20]? = some (.i .i64 s.length) ∧ tm[21]? = some (.i .i64 i)) s.length ⟨0,1,Nat.zero_le _,rfl,rfl,rfl,rfl,rfl,rfl,rfl⟩ ?_
  rintro n _ tm ⟨i,g,hi,rfl,rfl,hlen,t0,t4,t20,t21⟩
  have hql:=quoP_len s i
  by_cases hlt:(i:Int) < s.length
  ·have hlt':i < s.length:=by omega
   have hg:=zaH hlt'
   simp only [sxZ,z6,z7,z8,j4,j5,j6,j7,j8,j9,x4,x5,x6,x7,x8,x9,reduceCtorEq,↓reduceIte,List.getElem?_set,hlen,t0,t4,t20,t21,hlt]
   refine ⟨by omega,?_⟩
   rw [hg]
   refine zam (zf7 s[i] g _ _ (by omega) fun g' => ?_)
   rw [znA s i hlt']
   simp only [sxZ,z6,z7,z8,j4,j5,j6,j7,j8,j9,x4,x5,x6,x7,x8,x9,reduceCtorEq,↓reduceIte,List.getElem?_set,hlen,t0,t4,t20,t21]
   exact ⟨by omega,s.length - (i + 1),by omega,i + 1,g',by omega,rfl,rfl,rfl,rfl⟩
  ·obtain rfl:i=s.length:=by omega
   simp only [sxZ,z6,z7,z8,j4,j5,j6,j7,j8,j9,x4,x5,x6,x7,x8,x9,reduceCtorEq,↓reduceIte,List.getElem?_set,hlen,t0,t4,t20,t21,hlt]
   refine ⟨by omega,⟨rfl,rfl⟩,zdX s,quoP_end s,?_⟩
   simp only [sxZ,z6,z7,z8,j4,j5,j6,j7,j8,j9,x4,x5,x6,x7,x8,x9,reduceCtorEq,↓reduceIte,List.getElem?_set,hlen,t0,t4,t20,t21]
   exact hk
 ·rw [if_pos (by simpa using c1)] at hk
  simp only [c1,sxZ,z6,z7,z8,j4,j5,j6,j7,j8,j9,x4,x5,x6,x7,x8,x9,reduceCtorEq,↓reduceIte]
  exact hk
end
end Go.Proofs.YtadhjoggdbhkgaaGreatDoor
namespace Go.Proofs.YtadhjoggdbhkgaaGreatDoor
open Go.RowKit Sx
theorem zpo {s:List UInt8} {i:Nat} (h:i < s.length):zcg s i=match zbK (s.drop i) with | none => (0,0,7) | some (r,n) => ((r:Int),((i + n:Nat):Int),0):=by
 unfold zcg
 rw [if_neg (by omega),Int.toNat_natCast]
 cases zbK (s.drop i) <;> simp
theorem zfl (s:List UInt8) (i m:Nat):(s.take (i + m)).drop i=(s.drop i).take m:=by
 rw [List.drop_take,show i + m - i=m by omega]
def zdD (n:Nat) (r:List UInt8):Nat × Nat :=
 if 55296 ≤ n ∧ n < 56320 then (match zck r with
  | some m => if 56320 ≤ m ∧ m ≤ 57343 then (65536 + (n - 55296) * 1024 + (m - 56320),12) else (n,6)
  | none => (n,6)) else (n,6)
theorem zk4 {l:List UInt8} {n:Nat} (h0:(l[1]?).bind zcI=none) (h:zck l=some n):zc3 l=if cpB ((zdD n (l.drop 6)).1:Int)=true then (0,zdz (zdD n (l.drop 6)).1,(zdD n (l.drop 6)).2) else (7,[],0):=by
 have hn:=(zcE h).2
 have hcp:∀ k:Nat,cpB (k:Int)=decide (k ≤ 1114111 ∧ (k < 55296 ∨ 57343 < k)):=by
  intro k
  unfold cpB
  by_cases h1:k ≤ 1114111 ∧ (k < 55296 ∨ 57343 < k)
  ·rw [decide_eq_true (by omega),decide_eq_true h1]
  ·rw [decide_eq_false (by omega),decide_eq_false h1]
 have hE:zc3 l=(if n < 55296 ∨ 57343 < n then ((0:Int),zdz n,6)
   else if 56319 < n then (7,[],0)
   else match zck (l.drop 6) with
    | none => (7,[],0)
    | some m => if m < 56320 ∨ 57343 < m then (7,[],0) else (0,zdz (65536 + (n - 55296) * 1024 + (m - 56320)),12)):=by
  unfold zc3
  rw [h0,h]
  rfl
 rw [hE]
 by_cases c1:n < 55296 ∨ 57343 < n
 ·have hU:zdD n (l.drop 6)=(n,6):=by unfold zdD; rw [if_neg (show ¬ (55296 ≤ n ∧ n < 56320) by omega)]
  rw [if_pos c1,hU,hcp,if_pos (decide_eq_true (by omega))]
 ·by_cases c2:56319 < n
  ·have hU:zdD n (l.drop 6)=(n,6):=by unfold zdD; rw [if_neg (show ¬ (55296 ≤ n ∧ n < 56320) by omega)]
   rw [if_neg c1,if_pos c2,hU,hcp,if_neg (by rw [decide_eq_true_eq]; omega)]
  ·rw [if_neg c1,if_neg c2]
   cases hu:zck (l.drop 6) with
   | none =>
    have hU:zdD n (l.drop 6)=(n,6):=by unfold zdD; rw [if_pos (show 55296 ≤ n ∧ n < 56320 by omega),hu]
    rw [hU,hcp,if_neg (by rw [decide_eq_true_eq]; omega)]
   | some m =>
    by_cases c3:m < 56320 ∨ 57343 < m
    ·have hU:zdD n (l.drop 6)=(n,6):=by
      unfold zdD; rw [if_pos (show 55296 ≤ n ∧ n < 56320 by omega),hu]
      simp only
      rw [if_neg (show ¬ (56320 ≤ m ∧ m ≤ 57343) by omega)]
     simp only
     rw [if_pos c3,hU,hcp,if_neg (by rw [decide_eq_true_eq]; omega)]
    ·have hU:zdD n (l.drop 6)=(65536 + (n - 55296) * 1024 + (m - 56320),12):=by
      unfold zdD; rw [if_pos (show 55296 ≤ n ∧ n < 56320 by omega),hu]
      simp only
      rw [if_pos (show 56320 ≤ m ∧ m ≤ 57343 by omega)]
     simp only
     rw [if_neg c3,hU,hcp,if_pos (decide_eq_true (by omega))]
theorem escU_ge (n:Nat) (r:List UInt8):6 ≤ (zdD n r).2:=by
 unfold zdD
 repeat' split
 all_goals first | exact Nat.le_refl _ | (show 6 ≤ 12; omega)
theorem escU_len {l:List UInt8} {n:Nat} (h:zck l=some n):(zdD n (l.drop 6)).2 ≤ l.length ∧ (zdD n (l.drop 6)).1 ≤ 1114111:=by
 have h1:=zcE h
 unfold zdD
 split
 ·cases hu:zck (l.drop 6) with
  | none => simp only; omega
  | some m =>
   have h2:=zcE hu
   rw [List.length_drop] at h2
   simp only
   split
   ·simp only; omega
   ·simp only; omega
 ·simp only; omega
theorem zhk {l x:List UInt8} {n:Nat} (h:zc3 l=(0,x,n)):x.length ≤ n ∧ 1 ≤ n ∧ n ≤ l.length:=by
 cases hse:(l[1]?).bind zcI with
 | some d =>
  have he:zc3 l=(0,[d],2):=by unfold zc3; rw [hse]
  rw [he] at h
  injection h with _ h; injection h with h1 h2
  subst h1 h2
  obtain ⟨c,h2,_⟩:=Option.bind_eq_some_iff.1 hse
  have:=(List.getElem?_eq_some_iff.1 h2).1
  exact ⟨by simp,by omega,by omega⟩
 | none =>
  cases hu:zck l with
  | none =>
   have he:zc3 l=(130,[],0):=by unfold zc3; rw [hse,hu]
   rw [he] at h
   injection h with h _; cases h
  | some k =>
   have he:=zk4 hse hu
   have h3:=escU_len hu
   have h4:=escU_ge k (l.drop 6)
   have h5:=encU_len (r:=(zdD k (l.drop 6)).1)
   rw [h] at he
   split at he
   ·injection he with _ he; injection he with h1 h2
    subst h1 h2
    omega
   ·injection he with he _; cases he
section
variable [Tabs Tryz.prog] [Utf Tryz.prog] {objs:List OB} {K:List OB → AV → Prop}
end
end Go.Proofs.YtadhjoggdbhkgaaGreatDoor
namespace Go.Proofs.YtadhjoggdbhkgaaGreatDoor
open Go.RowKit Sx
def zaB (s:List UInt8) (a:Int):(Int × List UInt8 × Int) × Int × Int :=
 if a < 0 ∨ (s.length:Int) < a then ((0,[],0),0,4)
 else if (zaO (s.drop (a.toNat + zaX (s.drop a.toNat)))).1 ≠ 0 then ((0,[],0),0,(zaO (s.drop (a.toNat + zaX (s.drop a.toNat)))).1)
 else (((zaO (s.drop (a.toNat + zaX (s.drop a.toNat)))).2.1,(zaO (s.drop (a.toNat + zaX (s.drop a.toNat)))).2.2.1,((a.toNat + zaX (s.drop a.toNat):Nat):Int)),((a.toNat + zaX (s.drop a.toNat) + (zaO (s.drop (a.toNat + zaX (s.drop a.toNat)))).2.2.2:Nat):Int),0)
def zn2 (r:(Int × List UInt8 × Int) × Int × Int):AV:=.tup [.agg [.i .i64 r.1.1,.s r.1.2.1,.i .i64 r.1.2.2],.i .i64 r.2.1,.i .i64 r.2.2]
theorem word_at (s:List UInt8) (i:Nat) (h:i < s.length):zbb (s.drop i)=if zdi s[i]=true then zbb (s.drop (i + 1)) + 1 else 0:=by
 rw [List.drop_eq_getElem_cons h,zbb]
theorem white_at (s:List UInt8) (i:Nat) (h:i < s.length):zaX (s.drop i)=if zb0 s[i]=true then zaX (s.drop (i + 1)) + 1 else 0:=by
 rw [List.drop_eq_getElem_cons h,zaX]
theorem zeY:∀ l:List UInt8,zbb l ≤ l.length
 | [] => Nat.le_refl _
 | c :: t => by
  have:=zeY t
  unfold zbb
  split <;> simp only [List.length_cons] <;> omega
theorem zd1:∀ l:List UInt8,zaX l ≤ l.length
 | [] => Nat.le_refl _
 | c :: t => by
  have:=zd1 t
  unfold zaX
  split <;> simp only [List.length_cons] <;> omega
section
variable [Tabs Tryz.prog] [Utf Tryz.prog] {objs:List OB} {K:List OB → AV → Prop}
end
end Go.Proofs.YtadhjoggdbhkgaaGreatDoor
namespace Go.Proofs.YtadhjoggdbhkgaaGreatDoor
open Nat renaming reduceAdd → z6, reduceSub → z7, reduceLeDiff → z8, reduceLT → j4, reduceMul → j5, reduceEqDiff → j6
open Int renaming reduceToNat → j7, reduceAdd → j8, reduceSub → j9, reduceMul → x4, reduceNeg → x5, reduceLT → x6, reduceLE → x7, reduceEq → x8, reduceNe → x9
open Go.RowKit Sx
theorem rn_condH {P:Program} [Tabs P] {C:Cx} {F:zaN} {k:List IT} {objs:List OB} {tm:List AV} {c:SV} {x y:SCode} (h:∀ X,X=x → run P C (.code (.cond c X y) :: k) objs tm F):run P C (.code (.cond c x y) :: k) objs tm F:=h x rfl
section
variable [Tabs Tryz.prog] {objs:List OB} {K:List OB → AV → Prop}
theorem rwhite_k (c:UInt8) (hk:K objs (.b (zb0 c))):zah Tryz.prog 71 [.i .u8 c.toNat] objs K:=by
 refine zbk is_ref13_white rfl fun C _ => ?_
 simp only [c_ref13_white,sxZ,z6,z7,z8,j4,j5,j6,j7,j8,j9,x4,x5,x6,x7,x8,x9,reduceCtorEq,↓reduceIte]
 refine zam (zig c _ (by decide) ?_)
 simp only [sxZ,z6,z7,z8,j4,j5,j6,j7,j8,j9,x4,x5,x6,x7,x8,x9,reduceCtorEq,↓reduceIte]
 exact hk
theorem zje (s:List UInt8) (a:Nat) (hk:K objs (.s (s.drop a))):zah Tryz.prog 68 [.s s,.i .i64 (a:Nat)] objs K:=by
 refine zbk is_ref13_tail rfl fun C _ => ?_
 by_cases c0:(s.length:Int) ≤ a
 ·rw [List.drop_of_length_le (by omega)] at hk
  simp only [c0,c_ref13_tail,sxZ,z6,z7,z8,j4,j5,j6,j7,j8,j9,x4,x5,x6,x7,x8,x9,reduceCtorEq,↓reduceIte]
  exact hk
 ·simp only [c0,c_ref13_tail,sxZ,z6,z7,z8,j4,j5,j6,j7,j8,j9,x4,x5,x6,x7,x8,x9,reduceCtorEq,↓reduceIte]
  exact ⟨by omega,hk⟩
theorem zmY (s:List UInt8) (hs:s.length ≤ 9000000000000000000) (hk:K objs (.i .i64 (zaW s:Nat))):zah Tryz.prog 102 [.s s] objs K:=by
 refine zbk is_ref13_run rfl fun C _ => ?_
 simp only [c_ref13_run,sxZ,z6,z7,z8,j4,j5,j6,j7,j8,j9,x4,x5,x6,x7,x8,x9,reduceCtorEq,↓reduceIte]
 refine zaQ (fun n objs tm => ∃ i:Nat,i ≤ s.length ∧ n=s.length - i ∧ objs=[] ∧ zaW s=i + zaW (s.drop i) ∧ tm.length=17 ∧ tm[0]? = some (.s s) ∧ tm[3]? = some (.i .i64 i)) s.length ⟨0,Nat.zero_le _,rfl,rfl,by simp,rfl,rfl,rfl⟩ ?_
 rintro n _ tm ⟨i,hi,rfl,rfl,hr,hlen,t0,t3⟩
 by_cases hlt:(i:Int) < s.length
 ·have hlt':i < s.length:=by omega
  have hg:=zaH hlt'
  have hrn:=zmU s i hlt'
  simp only [sxZ,z6,z7,z8,j4,j5,j6,j7,j8,j9,x4,x5,x6,x7,x8,x9,reduceCtorEq,↓reduceIte,List.getElem?_set,hlen,t0,t3,hlt]
  refine ⟨by omega,?_⟩
  rw [hg]
  refine zam (zfy s[i] ?_)
  by_cases hd:zai s[i]=true
  ·rw [if_pos hd] at hrn
   simp only [hd,sxZ,z6,z7,z8,j4,j5,j6,j7,j8,j9,x4,x5,x6,x7,x8,x9,reduceCtorEq,↓reduceIte,List.getElem?_set,hlen,t0,t3]
   exact ⟨⟨by omega,by omega⟩,s.length - (i + 1),by omega,i + 1,by omega,rfl,by omega,rfl⟩
  ·rw [if_neg hd] at hrn
   simp only [Bool.not_eq_true] at hd
   simp only [hd,sxZ,z6,z7,z8,j4,j5,j6,j7,j8,j9,x4,x5,x6,x7,x8,x9,reduceCtorEq,↓reduceIte,List.getElem?_set,hlen,t0,t3]
   rw [hr,hrn] at hk
   exact hk
 ·obtain rfl:i=s.length:=by omega
  simp only [sxZ,z6,z7,z8,j4,j5,j6,j7,j8,j9,x4,x5,x6,x7,x8,x9,reduceCtorEq,↓reduceIte,List.getElem?_set,hlen,t0,t3,hlt]
  rw [hr,zmT] at hk
  exact hk
set_option maxHeartbeats 4000000 in
theorem zgi (s:List UInt8) (hs:s.length ≤ 140737488351232) (hk:K objs (.i .i64 (zcU s:Nat))):zah Tryz.prog 65 [.s s] objs K:=by
 refine zbk is_ref13_numeral rfl fun C _ => ?_
 have hmx:=zcM
 rw [c_ref13_numeral]
 refine zaa fun Y1 hY1 => ?_
 simp only [sxZ,z6,z7,z8,j4,j5,j6,j7,j8,j9,x4,x5,x6,x7,x8,x9,reduceCtorEq,↓reduceIte]
 subst hY1
 refine zaa fun Y1 hY1 => ?_
 simp only [sxZ,z6,z7,z8,j4,j5,j6,j7,j8,j9,x4,x5,x6,x7,x8,x9,reduceCtorEq,↓reduceIte]
 subst hY1
 refine zaa fun Y1 hY1 => ?_
 refine zaw (fun o t => o=[] ∧ t.length=99 ∧ t[0]? = some (.s s) ∧ t[3]? = some (.i .i64 (za8 s:Nat))) ?_ ?_
 ·unfold za8
  by_cases c1:(0:Int) < s.length
  ·have c1':0 < s.length:=by omega
   have hg:=zaH c1'
   have h45:s[0]? = some 45 ↔ ((s[0].toNat:Nat):Int)=45:=zeH c1' 45 (by decide)
   by_cases c2:((s[0].toNat:Nat):Int)=45
   ·rw [if_pos (h45.2 c2)]
    simp only [c1,hg,c2,zab,sxZ,z6,z7,z8,j4,j5,j6,j7,j8,j9,x4,x5,x6,x7,x8,x9,reduceCtorEq,↓reduceIte]
    rfl
   ·rw [if_neg (fun h => c2 (h45.1 h))]
    simp only [c1,hg,c2,zab,sxZ,z6,z7,z8,j4,j5,j6,j7,j8,j9,x4,x5,x6,x7,x8,x9,reduceCtorEq,↓reduceIte]
    rfl
  ·rw [if_neg (zbo (by omega))]
   simp only [c1,zab,sxZ,z6,z7,z8,j4,j5,j6,j7,j8,j9,x4,x5,x6,x7,x8,x9,reduceCtorEq,↓reduceIte]
   rfl
 rintro _ tm ⟨rfl,hlen,t0,t3⟩
 subst hY1
 have hsg:za8 s ≤ s.length:=by
  unfold za8
  split
  ·rename_i h
   have:=(List.getElem?_eq_some_iff.1 h).1
   omega
  ·omega
 refine zaa fun Y1 hY1 => ?_
 unfold zcU at hk
 have hw:zaF s=if s[za8 s]? = some 48 then za8 s + 1 else za8 s + zaW (s.drop (za8 s)):=rfl
 have hrl:0 < zaW (s.drop (za8 s)) → za8 s + zaW (s.drop (za8 s)) ≤ s.length:=zaV s _
 generalize za8 s=g at *
 by_cases c0:(g:Int)=s.length
 ·have hr0:zaW (s.drop g)=0:=by rw [List.drop_of_length_le (by omega)]; rfl
  rw [if_pos hr0] at hk
  simp only [c0,sxZ,z6,z7,z8,j4,j5,j6,j7,j8,j9,x4,x5,x6,x7,x8,x9,reduceCtorEq,↓reduceIte,List.getElem?_set,hlen,t0,t3]
  exact hk
 have c1':g < s.length:=by omega
 have hg:=zaH c1'
 have hrun:=zmU s g c1'
 simp only [c0,hg,sxZ,z6,z7,z8,j4,j5,j6,j7,j8,j9,x4,x5,x6,x7,x8,x9,reduceCtorEq,↓reduceIte,List.getElem?_set,hlen,t0,t3]
 refine ⟨by omega,?_⟩
 refine zam (zfy s[g] ?_)
 by_cases c2:zai s[g]=true
 case neg =>
  rw [if_neg c2] at hrun
  rw [if_pos hrun] at hk
  simp only [Bool.not_eq_true] at c2
  simp only [c2,sxZ,z6,z7,z8,j4,j5,j6,j7,j8,j9,x4,x5,x6,x7,x8,x9,reduceCtorEq,↓reduceIte,List.getElem?_set,hlen,t0,t3]
  exact hk
 rw [if_pos c2] at hrun
 rw [if_neg (by omega)] at hk
 simp only [c2,sxZ,z6,z7,z8,j4,j5,j6,j7,j8,j9,x4,x5,x6,x7,x8,x9,reduceCtorEq,↓reduceIte,List.getElem?_set,hlen,t0,t3]
 subst hY1
 refine zaa fun Y1 hY1 => ?_
 refine zaw (fun o t => o=[] ∧ t.length=99 ∧ t[0]? = some (.s s) ∧ t[3]? = some (.i .i64 (zaF s:Nat))) ?_ ?_
 ·have h48:s[g]? = some 48 ↔ ((s[g].toNat:Nat):Int)=48:=zeH c1' 48 (by decide)
  rw [hw]
  by_cases c3:((s[g].toNat:Nat):Int)=48
  ·rw [if_pos (h48.2 c3)]
   simp only [hg,c3,zab,sxZ,z6,z7,z8,j4,j5,j6,j7,j8,j9,x4,x5,x6,x7,x8,x9,reduceCtorEq,↓reduceIte,List.getElem?_set,hlen,t0,t3]
   and_intros <;> first | omega | exact iv (by omega) | rfl | assumption
  ·rw [if_neg (fun h => c3 (h48.1 h))]
   simp only [hg,c3,zab,sxZ,z6,z7,z8,j4,j5,j6,j7,j8,j9,x4,x5,x6,x7,x8,x9,reduceCtorEq,↓reduceIte,List.getElem?_set,hlen,t0,t3]
   refine ⟨by omega,by omega,?_⟩
   refine zam (zmY _ (by rw [List.length_drop]; omega) ?_)
   have:=hrl (by omega)
   simp only [zab,sxZ,z6,z7,z8,j4,j5,j6,j7,j8,j9,x4,x5,x6,x7,x8,x9,reduceCtorEq,↓reduceIte,List.getElem?_set,hlen,t0,t3]
   and_intros <;> first | omega | exact iv (by omega) | rfl | assumption
 rintro _ tm ⟨rfl,hlen,t0,t3⟩
 subst hY1
 refine zaa fun Y1 hY1 => ?_
 have hwl:zaF s ≤ s.length:=by
  rw [hw]
  have:=hrl (by omega)
  split <;> omega
 have hf:zbJ s (zaF s)=if s[zaF s]? = some 46 ∧ 0 < zaW (s.drop (zaF s + 1)) then zaF s + 1 + zaW (s.drop (zaF s + 1)) else zaF s:=rfl
 generalize zaF s=w at *
 clear hw hrl hrun hg c2 c0 c1'
 refine zaw (fun o t => o=[] ∧ t.length=99 ∧ t[0]? = some (.s s) ∧ t[3]? = some (.i .i64 (zbJ s w:Nat))) ?_ ?_
 ·rw [hf]
  simp only [sxZ,z6,z7,z8,j4,j5,j6,j7,j8,j9,x4,x5,x6,x7,x8,x9,reduceCtorEq,↓reduceIte,List.getElem?_set,hlen,t0,t3]
  refine ⟨by omega,?_⟩
  refine zam (zje s (w + 1) ?_)
  simp only [sxZ,z6,z7,z8,j4,j5,j6,j7,j8,j9,x4,x5,x6,x7,x8,x9,reduceCtorEq,↓reduceIte,List.getElem?_set,hlen,t0,t3]
  refine zam (zmY _ (by rw [List.length_drop]; omega) ?_)
  have hr:=zaV s (w + 1)
  generalize zaW (s.drop (w + 1))=r at *
  by_cases c1:(w:Int) < s.length
  ·have c1':w < s.length:=by omega
   have hg:=zaH c1'
   have h46:s[w]? = some 46 ↔ ((s[w].toNat:Nat):Int)=46:=zeH c1' 46 (by decide)
   by_cases c2:((s[w].toNat:Nat):Int)=46
   ·by_cases c3:0 < r
    ·rw [if_pos ⟨h46.2 c2,c3⟩]
     have c3':(0:Int) < r:=by omega
     simp only [c1,hg,c2,c3',zab,sxZ,z6,z7,z8,j4,j5,j6,j7,j8,j9,x4,x5,x6,x7,x8,x9,reduceCtorEq,↓reduceIte,List.getElem?_set,hlen,t0,t3]
     and_intros <;> first | omega | exact iv (by omega) | rfl | assumption
    ·rw [if_neg (fun h => c3 h.2)]
     have c3':¬ (0:Int) < r:=by omega
     simp only [c1,hg,c2,c3',zab,sxZ,z6,z7,z8,j4,j5,j6,j7,j8,j9,x4,x5,x6,x7,x8,x9,reduceCtorEq,↓reduceIte,List.getElem?_set,hlen,t0,t3]
     and_intros <;> first | omega | exact iv (by omega) | rfl | assumption
   ·rw [if_neg (fun h => c2 (h46.1 h.1))]
    simp only [c1,hg,c2,zab,sxZ,z6,z7,z8,j4,j5,j6,j7,j8,j9,x4,x5,x6,x7,x8,x9,reduceCtorEq,↓reduceIte,List.getElem?_set,hlen,t0,t3]
    and_intros <;> first | omega | exact iv (by omega) | rfl | assumption
  ·rw [if_neg (fun h => zbo (by omega) h.1)]
   simp only [c1,zab,sxZ,z6,z7,z8,j4,j5,j6,j7,j8,j9,x4,x5,x6,x7,x8,x9,reduceCtorEq,↓reduceIte,List.getElem?_set,hlen,t0,t3]
 rintro _ tm ⟨rfl,hlen,t0,t3⟩
 subst hY1
 refine zaa fun Y1 hY1 => ?_
 have hfl:zbJ s w ≤ s.length:=by
  rw [hf]
  split
  ·rename_i h
   have:=zaV s (w + 1) h.2
   omega
  ·exact hwl
 generalize zbJ s w=f at *
 clear hf
 have hx:zaZ s f=if s[f + 1]? = some 43 ∨ s[f + 1]? = some 45 then f + 2 else f + 1:=rfl
 have he:zjC s f=if (s[f]? = some 101 ∨ s[f]? = some 69) ∧ 0 < zaW (s.drop (zaZ s f)) then zaZ s f + zaW (s.drop (zaZ s f)) else f:=rfl
 have in2:∀ (i:Nat) (hi:i < s.length) (x y:UInt8),zb1 s[i] [x,y]=decide (s[i]? = some x ∨ s[i]? = some y):=by
  intro i hi x y
  rw [List.getElem?_eq_getElem hi]
  simp [zb1,eq_comm]
 refine zaw (fun o t => o=[] ∧ t.length=99 ∧ t[3]? = some (.i .i64 (zjC s f:Nat))) ?_ ?_
 ·refine zaa fun Y2 hY2 => ?_
  refine zaw (fun o t => o=[] ∧ t.length=99 ∧ t[0]? = some (.s s) ∧ t[3]? = some (.i .i64 (f:Nat)) ∧ t[74]? = some (.b (decide (s[f]? = some 101 ∨ s[f]? = some 69)))) ?_ ?_
  ·by_cases c1:(f:Int) < s.length
   ·have c1':f < s.length:=by omega
    have hg:=zaH c1'
    simp only [c1,hg,sxZ,z6,z7,z8,j4,j5,j6,j7,j8,j9,x4,x5,x6,x7,x8,x9,reduceCtorEq,↓reduceIte,List.getElem?_set,hlen,t0,t3]
    refine ⟨by omega,?_⟩
    refine zam (zig _ _ (by decide) ?_)
    rw [in2 f c1']
    generalize decide (s[f]? = some 101 ∨ s[f]? = some 69)=E
    simp only [zab,sxZ,z6,z7,z8,j4,j5,j6,j7,j8,j9,x4,x5,x6,x7,x8,x9,reduceCtorEq,↓reduceIte,List.getElem?_set,hlen,t0,t3]
   ·have hE:¬ (s[f]? = some 101 ∨ s[f]? = some 69):=fun h => h.elim (zbo (by omega)) (zbo (by omega))
    simp only [c1,hE,zab,sxZ,z6,z7,z8,j4,j5,j6,j7,j8,j9,x4,x5,x6,x7,x8,x9,reduceCtorEq,↓reduceIte,List.getElem?_set,hlen,t0,t3]
  rintro _ tm ⟨rfl,hlen,t0,t3,t74⟩
  subst hY2
  refine rn_condH fun X hX => ?_
  by_cases hE:s[f]? = some 101 ∨ s[f]? = some 69
  case neg =>
   rw [he,if_neg (fun h => hE h.1)]
   simp only [hE,zab,sxZ,z6,z7,z8,j4,j5,j6,j7,j8,j9,x4,x5,x6,x7,x8,x9,reduceCtorEq,↓reduceIte,List.getElem?_set,hlen,t0,t3,t74]
  have c1':f < s.length:=by
   rcases hE with h | h
   all_goals exact (List.getElem?_eq_some_iff.1 h).1
  simp only [hE,sxZ,z6,z7,z8,j4,j5,j6,j7,j8,j9,x4,x5,x6,x7,x8,x9,reduceCtorEq,↓reduceIte,List.getElem?_set,hlen,t0,t3,t74]
  subst hX
  refine zaa fun Y2 hY2 => ?_
  refine zaw (fun o t => o=[] ∧ t.length=99 ∧ t[0]? = some (.s s) ∧ t[3]? = some (.i .i64 (f:Nat)) ∧ t[5]? = some (.i .i64 ((f:Int) + 1))) ?_ ?_
  ·simp only [zab,sxZ,z6,z7,z8,j4,j5,j6,j7,j8,j9,x4,x5,x6,x7,x8,x9,reduceCtorEq,↓reduceIte,List.getElem?_set,hlen,t0,t3]
   and_intros <;> first | omega | exact iv (by omega) | rfl | assumption
  rintro _ tm ⟨rfl,hlen,t0,t3,t5⟩
  subst hY2
  refine zaa fun Y2 hY2 => ?_
  refine zaw (fun o t => o=[] ∧ t.length=99 ∧ t[0]? = some (.s s) ∧ t[3]? = some (.i .i64 (f:Nat)) ∧ t[5]? = some (.i .i64 (zaZ s f:Nat))) ?_ ?_
  ·rw [hx]
   by_cases d1:(f:Int) + 1 < s.length
   ·have d1':f + 1 < s.length:=by omega
    have hg2:=zaH d1'
    have e1:((f:Int) + 1).toNat=f + 1:=by omega
    simp only [d1,e1,hg2,sxZ,z6,z7,z8,j4,j5,j6,j7,j8,j9,x4,x5,x6,x7,x8,x9,reduceCtorEq,↓reduceIte,List.getElem?_set,hlen,t0,t3,t5]
    refine ⟨by omega,?_⟩
    refine zam (zig _ _ (by decide) ?_)
    rw [in2 (f + 1) d1']
    by_cases c4:s[f + 1]? = some 43 ∨ s[f + 1]? = some 45
    ·rw [if_pos c4]
     simp only [c4,zab,sxZ,z6,z7,z8,j4,j5,j6,j7,j8,j9,x4,x5,x6,x7,x8,x9,reduceCtorEq,↓reduceIte,List.getElem?_set,hlen,t0,t3,t5]
     and_intros <;> first | omega | exact iv (by omega) | rfl | assumption
    ·rw [if_neg c4]
     simp only [c4,zab,sxZ,z6,z7,z8,j4,j5,j6,j7,j8,j9,x4,x5,x6,x7,x8,x9,reduceCtorEq,↓reduceIte,List.getElem?_set,hlen,t0,t3,t5]
     and_intros <;> first | omega | exact iv (by omega) | rfl | assumption
   ·rw [if_neg (fun h => h.elim (zbo (by omega)) (zbo (by omega)))]
    simp only [d1,zab,sxZ,z6,z7,z8,j4,j5,j6,j7,j8,j9,x4,x5,x6,x7,x8,x9,reduceCtorEq,↓reduceIte,List.getElem?_set,hlen,t0,t3,t5]
    and_intros <;> first | omega | exact iv (by omega) | rfl | assumption
  rintro _ tm ⟨rfl,hlen,t0,t3,t5⟩
  subst hY2
  have hxl:zaZ s f ≤ s.length:=by
   rw [hx]
   split
   ·rename_i h
    rcases h with h | h
    all_goals
     have:=(List.getElem?_eq_some_iff.1 h).1
     omega
   ·omega
  have hrl:=zaV s (zaZ s f)
  generalize zaZ s f=x at *
  simp only [sxZ,z6,z7,z8,j4,j5,j6,j7,j8,j9,x4,x5,x6,x7,x8,x9,reduceCtorEq,↓reduceIte,List.getElem?_set,hlen,t0,t3,t5]
  refine zam (zje s x ?_)
  simp only [sxZ,z6,z7,z8,j4,j5,j6,j7,j8,j9,x4,x5,x6,x7,x8,x9,reduceCtorEq,↓reduceIte,List.getElem?_set,hlen,t0,t3,t5]
  refine zam (zmY _ (by rw [List.length_drop]; omega) ?_)
  generalize zaW (s.drop x)=r at *
  rw [he]
  by_cases c4:0 < r
  ·rw [if_pos ⟨hE,c4⟩]
   have c4':(0:Int) < r:=by omega
   simp only [c4',zab,sxZ,z6,z7,z8,j4,j5,j6,j7,j8,j9,x4,x5,x6,x7,x8,x9,reduceCtorEq,↓reduceIte,List.getElem?_set,hlen,t0,t3,t5]
   and_intros <;> first | omega | exact iv (by omega) | rfl | assumption
  ·rw [if_neg (fun h => c4 h.2)]
   have c4':¬ (0:Int) < r:=by omega
   simp only [c4',zab,sxZ,z6,z7,z8,j4,j5,j6,j7,j8,j9,x4,x5,x6,x7,x8,x9,reduceCtorEq,↓reduceIte,List.getElem?_set,hlen,t0,t3,t5]
 rintro _ tm ⟨rfl,hlen,t3⟩
 subst hY1
 simp only [sxZ,z6,z7,z8,j4,j5,j6,j7,j8,j9,x4,x5,x6,x7,x8,x9,reduceCtorEq,↓reduceIte,List.getElem?_set,hlen,t3]
 exact hk
end
end Go.Proofs.YtadhjoggdbhkgaaGreatDoor
namespace Go.Proofs.YtadhjoggdbhkgaaGreatDoor
open Go.RowKit
theorem read_quo {l:List UInt8} {e:Int} {x:List UInt8} {n:Nat} (h:zb4 (l.length + 1) l [] 0=(e,x,n)):zaO (34 :: l)=if e ≠ 0 then (e,0,[],0) else (0,3,x,n + 1):=by
 rw [zaO,if_neg (by decide),if_pos rfl,h]
end Go.Proofs.YtadhjoggdbhkgaaGreatDoor
namespace Go.Proofs.YtadhjoggdbhkgaaGreatDoor
open Go.RowKit Sx
theorem zmx {p:NumS} (hp:p.Good):p.neg=decide (p.txt[0]? = some 45):=by
 obtain ⟨c,t,e1,e2⟩:=zbO hp.i0 hp.i1
 unfold NumS.txt
 cases p.neg with
 | true => rfl
 | false =>
  rw [e1]
  have:c ≠ 45:=zbl e2 rfl
  simp [sgT,this]
theorem num_uniq {p q:NumS} (hp:p.Good) (hq:q.Good) (h:p.txt=q.txt):p=q:=by
 have hn:p.neg=q.neg:=by rw [zmx hp,zmx hq,h]
 unfold NumS.txt at h
 rw [hn] at h
 have h:=List.append_cancel_left h
 have r1:=zco p.int _ hp.i1 (zfv hp)
 have r2:=zco q.int _ hq.i1 (zfv hq)
 rw [h,r2] at r1
 obtain ⟨hi,hR⟩:=List.append_inj h r1.symm
 have hx:p.fr=q.fr ∧ exT p.ex=exT q.ex:=by
  cases h1:p.fr with
  | nil =>
   cases h2:q.fr with
   | nil => rw [h1,h2] at hR; exact ⟨rfl,hR⟩
   | cons b u =>
    rw [h1,h2] at hR
    exfalso
    rcases zef hp 46 (by rw [show exT p.ex=frT (b :: u) ++ exT q.ex from hR]; rfl) with h3 | h3 <;> cases h3
  | cons a t =>
   cases h2:q.fr with
   | nil =>
    rw [h1,h2] at hR
    exfalso
    rcases zef hq 46 (by rw [show exT q.ex=frT (a :: t) ++ exT p.ex from hR.symm]; rfl) with h3 | h3 <;> cases h3
   | cons b u =>
    rw [h1,h2] at hR
    have hR:(46:UInt8) :: ((a :: t) ++ exT p.ex)=46 :: ((b :: u) ++ exT q.ex):=hR
    injection hR with _ hR
    have hd:∀ {r:NumS},r.Good → ∀ c,(exT r.ex)[0]? = some c → zai c=false:=fun hr c h => by
     rcases zef hr c h with rfl | rfl <;> rfl
    have k1:=zco (a :: t) _ (by rw [← h1]; exact hp.f1) (hd hp)
    have k2:=zco (b :: u) _ (by rw [← h2]; exact hq.f1) (hd hq)
    rw [hR,k2] at k1
    exact List.append_inj hR k1.symm
 have he:p.ex=q.ex:=by
  have h3:=hx.2
  cases h1:p.ex with
  | none =>
   cases h2:q.ex with
   | none => rfl
   | some e => obtain ⟨c,s,d⟩:=e; rw [h1,h2] at h3; cases h3
  | some e =>
   obtain ⟨c,s,d⟩:=e
   cases h2:q.ex with
   | none => rw [h1,h2] at h3; cases h3
   | some e' =>
    obtain ⟨c',s',d'⟩:=e'
    have k1:=(zjD 0 hp h1).2
    have k2:=(zjD 0 hq h2).2
    rw [h1,h2] at h3
    have h3:c :: (s ++ d)=c' :: (s' ++ d'):=h3
    injection h3 with e1 e2
    rw [e2,k2] at k1
    subst k1
    rw [e1,List.append_cancel_right e2]
 obtain ⟨pn,pi,pf,pe⟩:=p
 obtain ⟨qn,qi,qf,qe⟩:=q
 simp only at hn hi hx he
 rw [hn,hi,hx.1,he]
section
variable [Tabs Tryz.prog] {objs:List OB} {K:List OB → AV → Prop}
end
end Go.Proofs.YtadhjoggdbhkgaaGreatDoor
namespace Go.Proofs.YtadhjoggdbhkgaaGreatDoor
open Nat renaming reduceAdd → z6, reduceSub → z7, reduceLeDiff → z8, reduceLT → j4, reduceMul → j5, reduceEqDiff → j6
open Int renaming reduceToNat → j7, reduceAdd → j8, reduceSub → j9, reduceMul → x4, reduceNeg → x5, reduceLT → x6, reduceLE → x7, reduceEq → x8, reduceNe → x9
open Go.RowKit Sx
theorem minV_at (c:Nat) (l:List UInt8) (i n:Nat) (h:i < l.length):zjq c (l.drop i) n=zjq c (l.drop (i + 1)) (min (n * 10 + (l[i].toNat - 48)) c):=by
 rw [List.drop_eq_getElem_cons h,zjq]
theorem zpz {p:NumS} (hp:p.Good):zl4 p.body [101,69]=(p.int ++ frT p.fr).length:=by
 have hno:(p.int ++ frT p.fr).findIdx (fun c => zb1 c [101,69])=(p.int ++ frT p.fr).length:=by
  rw [List.findIdx_eq_length]
  intro c hc
  rcases List.mem_append.1 hc with h | h
  ·exact (zbP (List.all_eq_true.1 hp.i1 c h)).2.1
  ·exact (zjB hp.f1 c h).2
 unfold zl4 NumS.body
 rw [← List.append_assoc,List.findIdx_append,hno,if_neg (by omega)]
 cases he:p.ex with
 | none => simp [exT]
 | some e =>
  obtain ⟨k,s,d⟩:=e
  have:(exT (some (k,s,d))).findIdx (fun c => zb1 c [101,69])=0:=by
   unfold exT
   rw [List.findIdx_cons]
   rcases (hp.e1 k s d he).1 with rfl | rfl <;> rfl
  rw [this,Nat.zero_add]
theorem ziS (p:NumS):p.body.take (p.int ++ frT p.fr).length=p.int ++ frT p.fr:=by
 unfold NumS.body
 rw [← List.append_assoc,List.take_left]
theorem body_exp {p:NumS} (hp:p.Good) (c:Nat):expC c (p.body.drop ((p.int ++ frT p.fr).length + 1))=zem c p.ex ∧ (zeq (p.body.drop ((p.int ++ frT p.fr).length + 1))).all zai=true:=by
 have hd:p.body.drop ((p.int ++ frT p.fr).length + 1)=(exT p.ex).drop 1:=by
  unfold NumS.body
  rw [← List.append_assoc,← List.drop_drop,List.drop_left]
 rw [hd]
 cases he:p.ex with
 | none => exact ⟨rfl,rfl⟩
 | some e =>
  obtain ⟨k,s,d⟩:=e
  have h:=zjD c hp he
  have h4:=(hp.e1 k s d he).2.2.2
  rw [he] at h
  show expC c (s ++ d)=_ ∧ (zeq (s ++ d)).all zai=true
  rw [h.2]
  exact ⟨h.1,h4⟩
theorem zR_last {l:List UInt8} (h:l ≠ []) (h2:l.getLast h ≠ 48):zR l=l:=by
 unfold zR
 rw [zL_id,List.reverse_reverse]
 intro c hc
 rw [← List.head?_eq_getElem?,List.head?_reverse,List.getLast?_eq_some_getLast h] at hc
 injection hc with hc
 rw [← hc]; exact h2
section
variable [Tabs Tryz.prog] {objs:List OB} {K:List OB → AV → Prop}
set_option maxHeartbeats 2000000 in
theorem zjf (l:List UInt8) (hl:l.length ≤ 140737488351232) (hd:(zeq l).all zai=true) (hk:K objs (.i .i64 (expC 1073741824 l))):zah Tryz.prog 67 [.s l] objs K:=by
 refine zbk is_ref13_exponent rfl fun C _ => ?_
 rw [c_ref13_exponent]
 refine zaa fun Y1 hY1 => ?_
 simp only [sxZ,z6,z7,z8,j4,j5,j6,j7,j8,j9,x4,x5,x6,x7,x8,x9,reduceCtorEq,↓reduceIte]
 subst hY1
 refine zaa fun Y1 hY1 => ?_
 refine zaw (fun o t => o=[] ∧ t.length=41 ∧ t[0]? = some (.s l) ∧ t[3]? = some (.b (negE l))) ?_ ?_
 ·unfold negE
  by_cases c0:l=[]
  ·subst c0
   simp [zab,sxZ,z6,z7,z8,j4,j5,j6,j7,j8,j9,x4,x5,x6,x7,x8,x9,reduceCtorEq,↓reduceIte]
  ·have l0:0 < l.length:=List.length_pos_iff.2 c0
   have g0:=zaH l0
   have h45:l[0]? = some 45 ↔ ((l[0].toNat:Nat):Int)=45:=zeH l0 45 (by decide)
   simp only [c0,g0,zab,sxZ,z6,z7,z8,j4,j5,j6,j7,j8,j9,x4,x5,x6,x7,x8,x9,reduceCtorEq,↓reduceIte]
   refine ⟨by omega,?_⟩
   by_cases c1:((l[0].toNat:Nat):Int)=45
   ·rw [decide_eq_true c1,decide_eq_true (h45.2 c1)]
   ·rw [decide_eq_false c1,decide_eq_false (fun h => c1 (h45.1 h))]
 rintro _ tm ⟨rfl,hlen,t0,t3⟩
 subst hY1
 refine zaa fun Y1 hY1 => ?_
 refine zaw (fun o t => o=[] ∧ t.length=41 ∧ t[0]? = some (.s (zeq l)) ∧ t[3]? = some (.b (negE l))) ?_ ?_
 ·unfold zeq
  by_cases c0:l=[]
  ·subst c0
   simp only [zab,sxZ,z6,z7,z8,j4,j5,j6,j7,j8,j9,x4,x5,x6,x7,x8,x9,reduceCtorEq,↓reduceIte,List.getElem?_set,hlen,t0,t3]
   rfl
  ·have l0:0 < l.length:=List.length_pos_iff.2 c0
   have g0:=zaH l0
   simp only [c0,g0,sxZ,z6,z7,z8,j4,j5,j6,j7,j8,j9,x4,x5,x6,x7,x8,x9,reduceCtorEq,↓reduceIte,List.getElem?_set,hlen,t0,t3]
   refine ⟨by omega,?_⟩
   refine zam (zig _ _ (by decide) ?_)
   have hin:zb1 l[0] [43,45]=decide (l[0]? = some 43 ∨ l[0]? = some 45):=by
    rw [List.getElem?_eq_getElem l0]
    simp [zb1,eq_comm]
   rw [hin]
   by_cases c1:l[0]? = some 43 ∨ l[0]? = some 45
   ·rw [if_pos c1]
    simp only [c1,zab,sxZ,z6,z7,z8,j4,j5,j6,j7,j8,j9,x4,x5,x6,x7,x8,x9,reduceCtorEq,↓reduceIte,List.getElem?_set,hlen,t0,t3]
    and_intros <;> first | omega | exact iv (by omega) | rfl | assumption
   ·rw [if_neg c1]
    simp only [c1,zab,sxZ,z6,z7,z8,j4,j5,j6,j7,j8,j9,x4,x5,x6,x7,x8,x9,reduceCtorEq,↓reduceIte,List.getElem?_set,hlen,t0,t3]
 rintro _ tm ⟨rfl,hlen,t0,t3⟩
 subst hY1
 have hsl:(zeq l).length ≤ l.length:=by unfold zeq; split <;> simp
 unfold expC at hk
 generalize negE l=ng at *
 generalize zeq l=d at *
 refine zaa fun Y1 hY1 => ?_
 simp only [sxZ,z6,z7,z8,j4,j5,j6,j7,j8,j9,x4,x5,x6,x7,x8,x9,reduceCtorEq,↓reduceIte,List.getElem?_set,hlen,t0,t3]
 subst hY1
 refine zaa fun Y1 hY1 => ?_
 refine zaw (fun o t => o=[] ∧ t.length=41 ∧ t[3]? = some (.b ng) ∧ t[4]? = some (.i .i64 (zjq 1073741824 d 0:Nat))) ?_ ?_
 ·simp only [sxZ,z6,z7,z8,j4,j5,j6,j7,j8,j9,x4,x5,x6,x7,x8,x9,reduceCtorEq,↓reduceIte,List.getElem?_set,hlen,t0,t3]
  refine zaQ (fun k objs tm => ∃ (i n:Nat),i ≤ d.length ∧ k=d.length - i ∧ objs=[] ∧ n ≤ 1073741824 ∧ zjq 1073741824 d 0=zjq 1073741824 (d.drop i) n ∧ tm.length=41 ∧ tm[0]? = some (.s d) ∧ tm[3]? = some (.b ng) ∧ tm[4]? = some (.i .i64 (n:Nat)) ∧ tm[5]? = some (.i .i64 (i:Nat))) d.length
   ⟨0,0,Nat.zero_le _,rfl,rfl,by omega,rfl,by simp [hlen],by simp [t0],by simp [t3],by simp [hlen],by simp [hlen]⟩ ?_
  rintro k _ tm ⟨i,n,hi,rfl,rfl,hn,hm,hlen,t0,t3,t4,t5⟩
  by_cases hlt:(i:Int) < d.length
  ·have hlt':i < d.length:=by omega
   have hg:=zaH hlt'
   have hdi:=zhp (List.all_eq_true.1 hd _ (List.getElem_mem hlt'))
   have hmv:=minV_at 1073741824 d i n hlt'
   have hw:IntKind.u8.wrap (((d[i].toNat:Nat):Int) - 48)=((d[i].toNat - 48:Nat):Int):=by
    simp [IntKind.wrap,IntKind.bits,IntKind.signed]; omega
   have hw2:IntKind.i64.wrap ((d[i].toNat - 48:Nat):Int)=((d[i].toNat - 48:Nat):Int):=by rw [IntKind.wrap_i64]; omega
   simp only [hlt,hg,hw,hw2,sxZ,z6,z7,z8,j4,j5,j6,j7,j8,j9,x4,x5,x6,x7,x8,x9,reduceCtorEq,↓reduceIte,List.getElem?_set,hlen,t0,t3,t4,t5]
   have hv:d[i].toNat - 48 ≤ 9:=by omega
   generalize d[i].toNat - 48=v at *
   exact ⟨by omega,by omega,by omega,by omega,d.length - (i + 1),by omega,i + 1,min (n * 10 + v) 1073741824,by omega,rfl,by omega,by rw [hm,hmv],iv (by split <;> omega),iv (by omega)⟩
  ·obtain rfl:i=d.length:=by omega
   rw [List.drop_length,zjq] at hm
   simp only [hlt,zbI,zab,sxZ,z6,z7,z8,j4,j5,j6,j7,j8,j9,x4,x5,x6,x7,x8,x9,reduceCtorEq,↓reduceIte,List.getElem?_set,hlen,t0,t3,t4,t5]
   rw [hm]
 rintro _ tm ⟨rfl,hlen,t3,t4⟩
 subst hY1
 have hml:=minV_le 1073741824 d 0 (by omega)
 generalize zjq 1073741824 d 0=n at *
 cases ng with
 | true =>
  simp only [sxZ,z6,z7,z8,j4,j5,j6,j7,j8,j9,x4,x5,x6,x7,x8,x9,reduceCtorEq,↓reduceIte,List.getElem?_set,hlen,t3,t4]
  rw [if_pos rfl] at hk
  refine ⟨by omega,?_⟩
  rw [Int.zero_sub]
  exact hk
 | false =>
  simp only [sxZ,z6,z7,z8,j4,j5,j6,j7,j8,j9,x4,x5,x6,x7,x8,x9,reduceCtorEq,↓reduceIte,List.getElem?_set,hlen,t3,t4]
  rw [if_neg (by simp)] at hk
  exact hk
set_option maxHeartbeats 4000000 in
theorem zm2 (s:List UInt8) (hs:s.length ≤ 140737488351232) (h1:(s=[] ∨ zcU s ≠ s.length) → K objs (.tup [.s [],.i .i64 130]))
  (h2:∀ p:NumS,p.Good → s=p.txt → K objs (.tup [.s (zgE 1073741824 p).2,.i .i64 (zgE 1073741824 p).1])):zah Tryz.prog 45 [.s s] objs K:=by
 refine zbk is_ref13_Number rfl fun C _ => ?_
 have hmx:=zcM
 by_cases c0:s=[]
 ·have h1:=h1 (.inl c0)
  simp only [c0,c_ref13_Number,sxZ,z6,z7,z8,j4,j5,j6,j7,j8,j9,x4,x5,x6,x7,x8,x9,reduceCtorEq,↓reduceIte]
  exact h1
 rw [c_ref13_Number]
 refine zaa fun Y1 hY1 => ?_
 simp only [sxZ,z6,z7,z8,j4,j5,j6,j7,j8,j9,x4,x5,x6,x7,x8,x9,reduceCtorEq,↓reduceIte]
 subst hY1
 refine zaa fun Y1 hY1 => ?_
 simp only [c0,sxZ,z6,z7,z8,j4,j5,j6,j7,j8,j9,x4,x5,x6,x7,x8,x9,reduceCtorEq,↓reduceIte]
 refine zam (zgi s hs ?_)
 by_cases c1:zcU s=s.length
 case neg =>
  have c1':¬ ((zcU s:Nat):Int)=s.length:=by omega
  simp only [c1',sxZ,z6,z7,z8,j4,j5,j6,j7,j8,j9,x4,x5,x6,x7,x8,x9,reduceCtorEq,↓reduceIte]
  exact h1 (.inr c1)
 clear h1
 obtain ⟨p,hp,rfl⟩:=zfF c0 c1
 have h2:=h2 p hp rfl
 simp only [c1,sxZ,z6,z7,z8,j4,j5,j6,j7,j8,j9,x4,x5,x6,x7,x8,x9,reduceCtorEq,↓reduceIte]
 subst hY1
 refine zaa fun Y1 hY1 => ?_
 simp only [sxZ,z6,z7,z8,j4,j5,j6,j7,j8,j9,x4,x5,x6,x7,x8,x9,reduceCtorEq,↓reduceIte]
 subst hY1
 refine zaa fun Y1 hY1 => ?_
 have hbl:p.body.length ≤ p.txt.length:=by unfold NumS.txt NumS.body; simp
 have htl:=zi5 p
 have hml:(p.int ++ frT p.fr).length ≤ p.txt.length:=by unfold NumS.txt; simp; omega
 refine zaw (fun o t => o=[] ∧ t.length=117 ∧ t[0]? = some (.s p.body) ∧ t[4]? = some (.s (sgT p.neg))) ?_ ?_
 ·obtain ⟨c,t,e1,e2⟩:=zbO hp.i0 hp.i1
  have n45:¬ ((c.toNat:Nat):Int)=45:=by have:=zhp e2; omega
  have hb:p.txt=sgT p.neg ++ p.body:=rfl
  have hpos:0 < p.txt.length:=List.length_pos_iff.2 c0
  cases hn:p.neg with
  | true =>
   have g1:(((p.txt.getD 0 0).toNat:Nat):Int)=45:=by rw [hb,hn]; rfl
   have g2:p.txt.drop 1=p.body:=by rw [hb,hn]; rfl
   generalize p.txt=W at *
   simp only [sgT,g1,g2,zab,sxZ,z6,z7,z8,j4,j5,j6,j7,j8,j9,x4,x5,x6,x7,x8,x9,reduceCtorEq,↓reduceIte]
   and_intros <;> first | omega | exact iv (by omega) | rfl | assumption
  | false =>
   have g1:(p.txt.getD 0 0)=c:=by rw [hb,hn]; unfold NumS.body; rw [e1]; rfl
   have g2:p.txt=p.body:=by rw [hb,hn]; rfl
   rw [g2] at g1 hpos ⊢
   generalize p.body=W at *
   simp only [sgT,g1,n45,zab,sxZ,z6,z7,z8,j4,j5,j6,j7,j8,j9,x4,x5,x6,x7,x8,x9,reduceCtorEq,↓reduceIte]
   and_intros <;> first | omega | exact iv (by omega) | rfl | assumption
 rintro _ tm ⟨rfl,hlen,t0,t4⟩
 subst hY1
 clear c0 c1
 have hbe:=body_exp hp 1073741824
 have hbt:=ziS p
 have hil:(p.int ++ frT p.fr).length ≤ p.body.length:=by
  have h:=congrArg List.length (ziS p)
  rw [List.length_take] at h; omega
 have hbi:=zpz hp
 generalize hG:p.int ++ frT p.fr=G at *
 refine zaa fun Y1 hY1 => ?_
 simp only [sxZ,z6,z7,z8,j4,j5,j6,j7,j8,j9,x4,x5,x6,x7,x8,x9,reduceCtorEq,↓reduceIte,List.getElem?_set,hlen,t0,t4]
 refine zam (zkj _ _ (by omega) (by decide) ?_)
 rw [hbi]
 simp only [sxZ,z6,z7,z8,j4,j5,j6,j7,j8,j9,x4,x5,x6,x7,x8,x9,reduceCtorEq,↓reduceIte,List.getElem?_set,hlen,t0,t4]
 subst hY1
 refine zaa fun Y1 hY1 => ?_
 refine zaw (fun o t => o=[] ∧ t.length=117 ∧ t[4]? = some (.s (sgT p.neg)) ∧ t[6]? = some (.i .i64 (zem 1073741824 p.ex)) ∧ t[7]? = some (.s G)) ?_ ?_
 ·simp only [sxZ,z6,z7,z8,j4,j5,j6,j7,j8,j9,x4,x5,x6,x7,x8,x9,reduceCtorEq,↓reduceIte,List.getElem?_set,hlen,t0,t4]
  refine ⟨by omega,?_⟩
  refine zed (zje p.body (G.length + 1) ⟨rfl,rfl⟩) ?_
  simp only [sxZ,z6,z7,z8,j4,j5,j6,j7,j8,j9,x4,x5,x6,x7,x8,x9,reduceCtorEq,↓reduceIte,List.getElem?_set,hlen,t0,t4]
  refine zed (zjf _ (by rw [List.length_drop]; omega) hbe.2 ⟨rfl,rfl⟩) ?_
  simp only [hbe.1,hbt,zab,sxZ,z6,z7,z8,j4,j5,j6,j7,j8,j9,x4,x5,x6,x7,x8,x9,reduceCtorEq,↓reduceIte,List.getElem?_set,hlen,t0,t4]
  and_intros <;> first | omega | exact iv (by omega) | rfl | assumption
 rintro _ tm ⟨rfl,hlen,t4,t6,t7⟩
 subst hY1
 refine zaa fun Y1 hY1 => ?_
 have hei:=zoU 1073741824 p.ex
 have hcp:=ziM hp
 rw [hG] at hcp
 have hi1:zl4 G [46]=p.int.length:=by rw [zkZ,hcp]
 have hGt:G.take p.int.length=p.int:=by rw [← hG,List.take_left]
 have hGd:G.drop (p.int.length + 1)=p.fr:=by
  rw [← hG,← List.drop_drop,List.drop_left]
  cases p.fr <;> rfl
 have hGl:G.length=p.int.length + (frT p.fr).length:=by rw [← hG,List.length_append]
 refine zaw (fun o t => o=[] ∧ t.length=117 ∧ t[4]? = some (.s (sgT p.neg)) ∧ t[6]? = some (.i .i64 (zem 1073741824 p.ex - (p.fr.length:Int))) ∧ t[7]? = some (.s (p.int ++ p.fr))) ?_ ?_
 ·simp only [sxZ,z6,z7,z8,j4,j5,j6,j7,j8,j9,x4,x5,x6,x7,x8,x9,reduceCtorEq,↓reduceIte,List.getElem?_set,hlen,t4,t6,t7]
  refine zam (zkj _ _ (by omega) (by decide) ?_)
  rw [hi1]
  cases hf:p.fr with
  | nil =>
   have c2:¬ ((p.int.length:Nat):Int) < G.length:=by rw [hf] at hGl; simp [frT] at hGl; omega
   have hG2:G=p.int:=by rw [← hG,hf]; simp [frT]
   simp only [c2,zab,sxZ,z6,z7,z8,j4,j5,j6,j7,j8,j9,x4,x5,x6,x7,x8,x9,reduceCtorEq,↓reduceIte,List.getElem?_set,hlen,t4,t6,t7]
   rw [hG2]
   and_intros <;> first | omega | exact iv (by omega) | rfl | assumption
  | cons a u =>
   rw [hf] at hGd
   have c2:((p.int.length:Nat):Int) < G.length:=by rw [hf] at hGl; simp [frT] at hGl; omega
   have hfl:G.length=p.int.length + (u.length + 1) + 1:=by rw [hf] at hGl; simp [frT] at hGl; omega
   have e1:(((p.int.length:Nat):Int) + 1).toNat=p.int.length + 1:=by omega
   simp only [c2,e1,hGt,hGd,zab,sxZ,z6,z7,z8,j4,j5,j6,j7,j8,j9,x4,x5,x6,x7,x8,x9,reduceCtorEq,↓reduceIte,List.getElem?_set,hlen,t4,t6,t7]
   and_intros <;> first | omega | exact iv (by omega) | rfl | assumption
 rintro _ tm ⟨rfl,hlen,t4,t6,t7⟩
 subst hY1
 clear hbe hbt hil hcp hbi hi1 hGt hGd hGl hG hml
 refine zaa fun Y1 hY1 => ?_
 have hzl:=zL_len (p.int ++ p.fr)
 rw [List.length_append] at hzl
 refine zaw (fun o t => o=[] ∧ t.length=117 ∧ t[4]? = some (.s (sgT p.neg)) ∧ t[6]? = some (.i .i64 (zem 1073741824 p.ex - (p.fr.length:Int))) ∧ t[7]? = some (.s (zbA p))) ?_ ?_
 ·simp only [sxZ,z6,z7,z8,j4,j5,j6,j7,j8,j9,x4,x5,x6,x7,x8,x9,reduceCtorEq,↓reduceIte]
  refine zaQ (fun k o t => ∃ l:List UInt8,k=l.length ∧ o=[] ∧ zL l=zbA p ∧ t.length=117 ∧ t[4]? = some (.s (sgT p.neg)) ∧ t[6]? = some (.i .i64 (zem 1073741824 p.ex - (p.fr.length:Int))) ∧ t[7]? = some (.s l)) (p.int ++ p.fr).length ⟨p.int ++ p.fr,rfl,rfl,rfl,hlen,t4,t6,t7⟩ ?_
  rintro k _ tm ⟨l,rfl,rfl,hz,hlen,t4,t6,t7⟩
  cases l with
  | nil =>
   have z:¬ (0:Int) < ((0:Nat):Int):=by decide
   simp only [z,zbI,zab,sxZ,z6,z7,z8,j4,j5,j6,j7,j8,j9,x4,x5,x6,x7,x8,x9,reduceCtorEq,↓reduceIte,List.getElem?_set,hlen,t4,t6,t7]
   rw [← hz]; rfl
  | cons c u =>
   have hp1:(0:Int) < ((u.length + 1:Nat):Int):=by omega
   have hp2:(c :: u).getD 0 0=c:=rfl
   rw [zgJ] at hz
   by_cases c1:((c.toNat:Nat):Int)=48
   ·have hc:c=48:=(zd2 (by decide)).1 c1
    rw [if_pos hc] at hz
    simp only [hp1,hp2,c1,zbI,zab,sxZ,z6,z7,z8,j4,j5,j6,j7,j8,j9,x4,x5,x6,x7,x8,x9,reduceCtorEq,↓reduceIte,List.getElem?_set,hlen,t4,t6,t7]
    exact ⟨by omega,u.length,by omega,u,rfl,hz,rfl⟩
   ·have hc:¬ c=48:=fun h => c1 ((zd2 (by decide)).2 h)
    rw [if_neg hc] at hz
    simp only [hp1,hp2,c1,zbI,zab,sxZ,z6,z7,z8,j4,j5,j6,j7,j8,j9,x4,x5,x6,x7,x8,x9,reduceCtorEq,↓reduceIte,List.getElem?_set,hlen,t4,t6,t7]
    rw [hz]
 rintro _ tm ⟨rfl,hlen,t4,t6,t7⟩
 subst hY1
 refine zaa fun Y1 hY1 => ?_
 have hmh:=ziq p
 unfold zgE at h2
 unfold zgw at h2
 by_cases c2:zbA p=[]
 ·rw [if_pos c2] at h2
  simp only [c2,sxZ,z6,z7,z8,j4,j5,j6,j7,j8,j9,x4,x5,x6,x7,x8,x9,reduceCtorEq,↓reduceIte,List.getElem?_set,hlen,t4,t6,t7]
  exact h2
 rw [if_neg c2] at h2
 have hml2:=ze6 p
 simp only [c2,sxZ,z6,z7,z8,j4,j5,j6,j7,j8,j9,x4,x5,x6,x7,x8,x9,reduceCtorEq,↓reduceIte,List.getElem?_set,hlen,t4,t6,t7]
 subst hY1
 have hX:-(300000000000000:Int) ≤ zem 1073741824 p.ex - (p.fr.length:Int) ∧ zem 1073741824 p.ex - (p.fr.length:Int) ≤ 300000000000000:=by omega
 generalize zem 1073741824 p.ex - (p.fr.length:Int)=X at *
 generalize zbA p=M at *
 refine zaa fun Y1 hY1 => ?_
 refine zaw (fun o t => o=[] ∧ t.length=117 ∧ t[4]? = some (.s (sgT p.neg)) ∧ t[6]? = some (.i .i64 (X + ((M.length:Int) - (zR M).length))) ∧ t[7]? = some (.s (zR M))) ?_ ?_
 ·simp only [sxZ,z6,z7,z8,j4,j5,j6,j7,j8,j9,x4,x5,x6,x7,x8,x9,reduceCtorEq,↓reduceIte]
  refine zaQ (fun k o t => ∃ (l:List UInt8) (j:Nat),k=l.length ∧ o=[] ∧ l ≠ [] ∧ M=l ++ List.replicate j 48 ∧ t.length=117 ∧ t[4]? = some (.s (sgT p.neg)) ∧ t[6]? = some (.i .i64 (X + (j:Nat))) ∧ t[7]? = some (.s l)) M.length ⟨M,0,rfl,rfl,c2,by simp,by simp [hlen],by simp [t4],by simp [t6],by simp [t7]⟩ ?_
  rintro k _ tm ⟨l,j,rfl,rfl,hl0,hM,hlen,t4,t6,t7⟩
  have hl1:0 < l.length:=List.length_pos_iff.2 hl0
  have hi:l.length - 1 < l.length:=by omega
  have hg:=zaH hi
  have e1:(((l.length:Nat):Int) - 1).toNat=l.length - 1:=by omega
  have hll:l.getLast hl0=l[l.length - 1]:=List.getLast_eq_getElem hl0
  have hMl:M.length=l.length + j:=by rw [hM]; simp
  by_cases c3:((l[l.length - 1].toNat:Nat):Int)=48
  ·have hc:l[l.length - 1]=48:=(zd2 (by decide)).1 c3
   have hsp:l=l.take (l.length - 1) ++ [48]:=by
    have h:=List.dropLast_concat_getLast hl0
    rw [hll,hc,List.dropLast_eq_take] at h
    exact h.symm
   have hM2:M=l.take (l.length - 1) ++ List.replicate (j + 1) 48:=by
    conv => lhs; rw [hM,hsp]
    rw [List.append_assoc,List.replicate_succ]; rfl
   have hne:¬ l.take (l.length - 1)=[]:=by
    intro h
    rw [h,List.nil_append,List.replicate_succ] at hM2
    exact hmh 48 (by rw [hM2]; rfl) rfl
   have htk:(l.take (l.length - 1)).length=l.length - 1:=by rw [List.length_take]; omega
   simp only [e1,hg,c3,sxZ,z6,z7,z8,j4,j5,j6,j7,j8,j9,x4,x5,x6,x7,x8,x9,reduceCtorEq,↓reduceIte,List.getElem?_set,hlen,t4,t6,t7]
   exact ⟨by omega,by omega,by omega,by omega,by omega,(l.take (l.length - 1)).length,by omega,l.take (l.length - 1),j + 1,rfl,hne,hM2,iv (by omega),rfl⟩
  ·have hc:¬ l[l.length - 1]=48:=fun h => c3 ((zd2 (by decide)).2 h)
   have hz:zR M=l:=by rw [hM,zR_rep,zR_last hl0 (by rw [hll]; exact hc)]
   simp only [e1,hg,c3,zbI,zab,sxZ,z6,z7,z8,j4,j5,j6,j7,j8,j9,x4,x5,x6,x7,x8,x9,reduceCtorEq,↓reduceIte,List.getElem?_set,hlen,t4,t6,t7]
   rw [hz]
   exact ⟨by omega,by omega,iv (by omega),rfl⟩
 rintro _ tm ⟨rfl,hlen,t4,t6,t7⟩
 subst hY1
 have hzr:=zjN M
 generalize X + ((M.length:Int) - ((zR M).length:Int))=x at *
 generalize zR M=m at *
 by_cases d1:(40:Int) < m.length
 ·rw [if_pos (.inl (by omega))] at h2
  simp only [d1,sxZ,z6,z7,z8,j4,j5,j6,j7,j8,j9,x4,x5,x6,x7,x8,x9,reduceCtorEq,↓reduceIte,List.getElem?_set,hlen,t4,t6,t7]
  exact h2
 by_cases d3:400 < x
 ·rw [if_pos (.inr (.inr d3))] at h2
  simp only [d1,d3,sxZ,z6,z7,z8,j4,j5,j6,j7,j8,j9,x4,x5,x6,x7,x8,x9,reduceCtorEq,↓reduceIte,List.getElem?_set,hlen,t4,t6,t7]
  exact h2
 by_cases d2:x < -400
 ·rw [if_pos (.inr (.inl d2))] at h2
  simp only [d1,d2,d3,sxZ,z6,z7,z8,j4,j5,j6,j7,j8,j9,x4,x5,x6,x7,x8,x9,reduceCtorEq,↓reduceIte,List.getElem?_set,hlen,t4,t6,t7]
  exact h2
 rw [if_neg (by omega)] at h2
 have hsg:(sgT p.neg).length ≤ 1:=by unfold sgT; split <;> simp
 unfold expS at h2
 generalize sgT p.neg=sg at *
 have hdl:(Lib.decDigits x.natAbs).length ≤ 20:=by rw [Lib.decDigits_length]; exact Lib.nDigits_le20 _ (by omega)
 by_cases d4:x < 0
 ·rw [if_neg (show ¬ x=0 by omega)] at h2
  have hw:IntKind.u64.wrap (0 - x)=((x.natAbs:Nat):Int):=by rw [wrap_u64 _ (by omega) (by omega)]; omega
  have hit:=Lib.itoa_neg x.natAbs (by omega)
  rw [show -((x.natAbs:Nat):Int)=x by omega] at hit
  rw [hit] at h2
  simp only [d1,d2,d3,d4,hw,sxZ,z6,z7,z8,j4,j5,j6,j7,j8,j9,x4,x5,x6,x7,x8,x9,reduceCtorEq,↓reduceIte,List.getElem?_set,hlen,t4,t6,t7]
  (and_intros <;> try omega)
  refine zam (zgk _ (by omega) ?_)
  simp only [sxZ,z6,z7,z8,j4,j5,j6,j7,j8,j9,x4,x5,x6,x7,x8,x9,reduceCtorEq,↓reduceIte,List.getElem?_set,hlen,t4,t6,t7]
  (and_intros <;> try omega)
  simpa using h2
 by_cases d5:0 < x
 ·rw [if_neg (show ¬ x=0 by omega)] at h2
  have hw:IntKind.u64.wrap x=((x.natAbs:Nat):Int):=by rw [wrap_u64 _ (by omega) (by omega)]; omega
  have hit:=Lib.itoa_nonneg x.natAbs
  rw [show ((x.natAbs:Nat):Int)=x by omega] at hit
  rw [hit] at h2
  simp only [d1,d2,d3,d4,d5,hw,sxZ,z6,z7,z8,j4,j5,j6,j7,j8,j9,x4,x5,x6,x7,x8,x9,reduceCtorEq,↓reduceIte,List.getElem?_set,hlen,t4,t6,t7]
  (and_intros <;> try omega)
  refine zam (zgk _ (by omega) ?_)
  simp only [sxZ,z6,z7,z8,j4,j5,j6,j7,j8,j9,x4,x5,x6,x7,x8,x9,reduceCtorEq,↓reduceIte,List.getElem?_set,hlen,t4,t6,t7]
  (and_intros <;> try omega)
  simpa using h2
 ·rw [if_pos (show x=0 by omega)] at h2
  simp only [d1,d2,d3,d4,d5,sxZ,z6,z7,z8,j4,j5,j6,j7,j8,j9,x4,x5,x6,x7,x8,x9,reduceCtorEq,↓reduceIte,List.getElem?_set,hlen,t4,t6,t7]
  (and_intros <;> try omega)
  simpa using h2
end
theorem zlC {n:Nat} (h:n ≤ 65535):IntKind.i64.wrap ((n:Nat):Int)=n:=by rw [IntKind.wrap_i64]; omega
section
variable [Tabs Tryz.prog] {objs:List OB} {K:List OB → AV → Prop}
theorem runit_k (s:List UInt8) (a:Nat) (ha:a ≤ 9000000000000000000) (hs:s.length ≤ 140737488351232) (hk:match zck (s.drop a) with | some n => K objs (.tup [.i .i64 (n:Nat),.b true]) | none => ∀ x,K objs (.tup [.i .i64 x,.b false])):zah Tryz.prog 130 [.s s,.i .i64 (a:Nat)] objs K:=by
 refine zbk is_ref13_unit rfl fun C _ => ?_
 have hb:=zkz zbF 16 65535 (((s.drop a).drop 2).take 4)
 unfold zck at hk
 rw [List.length_drop,zcA,zcA,Nat.add_zero] at hk
 by_cases c0:(s.length:Int) < (a:Int) + 6
 ·rw [if_pos (.inl (by omega))] at hk
  simp only [c0,c_ref13_unit,sxZ,z6,z7,z8,j4,j5,j6,j7,j8,j9,x4,x5,x6,x7,x8,x9,reduceCtorEq,↓reduceIte]
  exact ⟨by omega,hk 0⟩
 have l0:a < s.length:=by omega
 have l1:a + 1 < s.length:=by omega
 have g0:=zaH l0
 have g1:=zaH l1
 have e2:((a:Int) + 1).toNat=a + 1:=by omega
 have e0:s[a]? = some 92 ↔ ((s[a].toNat:Nat):Int)=92:=zeH l0 92 (by decide)
 have e1:s[a + 1]? = some 117 ↔ ((s[a + 1].toNat:Nat):Int)=117:=zeH l1 117 (by decide)
 have e3:((a:Int) + 2).toNat=a + 2:=by omega
 have e4:((a:Int) + 6).toNat=a + 6:=by omega
 by_cases c1:((s[a].toNat:Nat):Int)=92
 ·by_cases c2:((s[a + 1].toNat:Nat):Int)=117
  ·rw [if_neg (by rintro (h | h | h); exact absurd h (by omega); exact h (e0.2 c1); exact h (e1.2 c2))] at hk
   simp only [c0,c1,c2,e2,e3,e4,g0,g1,c_ref13_unit,sxZ,z6,z7,z8,j4,j5,j6,j7,j8,j9,x4,x5,x6,x7,x8,x9,reduceCtorEq,↓reduceIte]
   refine ⟨by omega,by omega,by omega,by omega,by omega,by omega,by omega,?_⟩
   have hx:(s.take (a + 6)).drop (a + 2)=((s.drop a).drop 2).take 4:=by
    rw [List.drop_drop,show a + 6=(a + 2) + 4 by omega,zfl]
   rw [hx]
   refine zam (rnHex_k _ 65535 (by rw [List.length_take,List.length_drop,zcM]; omega) (by decide) ?_)
   simp only [sxZ,z6,z7,z8,j4,j5,j6,j7,j8,j9,x4,x5,x6,x7,x8,x9,reduceCtorEq,↓reduceIte]
   generalize zbY zbF 16 65535 (((s.drop a).drop 2).take 4)=q at *
   obtain ⟨e,n⟩:=q
   simp only at hk hb ⊢
   rw [zlC hb]
   by_cases c3:e=0
   ·rw [if_pos c3] at hk
    rw [decide_eq_true c3]
    exact hk
   ·rw [if_neg c3] at hk
    rw [decide_eq_false c3]
    exact hk _
  ·rw [if_pos (.inr (.inr (fun h => c2 (e1.1 h))))] at hk
   simp only [c0,c1,c2,e2,g0,g1,c_ref13_unit,sxZ,z6,z7,z8,j4,j5,j6,j7,j8,j9,x4,x5,x6,x7,x8,x9,reduceCtorEq,↓reduceIte]
   refine ⟨by omega,by omega,by omega,by omega,hk 0⟩
 ·rw [if_pos (.inr (.inl (fun h => c1 (e0.1 h))))] at hk
  simp only [c0,c1,g0,g1,c_ref13_unit,sxZ,z6,z7,z8,j4,j5,j6,j7,j8,j9,x4,x5,x6,x7,x8,x9,reduceCtorEq,↓reduceIte]
  refine ⟨by omega,by omega,hk 0⟩
end
end Go.Proofs.YtadhjoggdbhkgaaGreatDoor
namespace Go.Proofs.YtadhjoggdbhkgaaGreatDoor
open Go.RowKit Sx
theorem zi6 {P:Program} [Tabs P] {f:FuncId} {args:List AV} {vs:List Value} {Q:Value → Prop} {w:World} (ha:vals args=some vs) (hT:Tabs.T (P:=P) w) (h:zah P f args [] (fun _ r => ∃ v,val r=some v ∧ Q v)) :
  Calls P f vs.toArray w fun e w' => ∃ v,e=.returned v ∧ Q v ∧ Qb w w':=by
 haveI:On P ⟨w,fun _ => False,fun g o v => w.cell? ⟨g,o,none⟩=some v,Gh.none⟩:=⟨hT,fun _ h => h⟩
 have hd:=(zb3 Gh.none (fun g o v => w.cell? ⟨g,o,none⟩=some v) args vs ha vs).2 rfl
 have hc:=h ⟨w,fun _ => False,fun g o v => w.cell? ⟨g,o,none⟩=some v,Gh.none⟩ Gh.none (fun g o v => w.cell? ⟨g,o,none⟩=some v) w
  ⟨rfl,rfl,rfl,Nat.le_refl _,fun _ _ _ => rfl,fun _ _ _ h => h,fun _ _ _ h => .inl h,fun b g hb => by simp [Gh.own,Gh.none] at hb,Gh.le.refl _⟩
  ⟨fun _ _ _ h => h,by simp,by simp,by simp,fun b b' g hb => by simp [Gh.own,Gh.none] at hb,fun b g hb => by simp [Gh.own,Gh.none] at hb,fun b g o v hb => by simp [Gh.own,Gh.none] at hb,fun b _ => ⟨rfl,rfl⟩⟩ vs hd
 refine hc.mono ?_
 rintro e w' ⟨y,objs',r,G',I',rfl,⟨v,hv,hq⟩,_,_,hin,_,hy⟩
 rw [(zfi _ _ r v hv y).1 hy]
 exact ⟨v,rfl,hq,hin.os,hin.tape,hin.output,hin.size,fun k hk => hin.block k hk (fun h => h)⟩
def zlD (l:List UInt8) (v:Value):Prop:=match zck l with | some n => v=.tuple #[.int .i64 (n:Nat),.bool true] | none => ∃ x,v=.tuple #[.int .i64 x,.bool false]
theorem zmR [Tabs Tryz.prog] (s:List UInt8) (a:Nat) (ha:a ≤ 9000000000000000000) (hs:s.length ≤ 140737488351232) (w:World) (hT:Tabs.T (P:=Tryz.prog) w) :
  Calls Tryz.prog 130 #[.string (S s),.int .i64 (a:Nat)] w fun e w' => ∃ v,e=.returned v ∧ zlD (s.drop a) v ∧ Qb w w' :=
 zi6 (args:=[.s s,.i .i64 (a:Nat)]) rfl hT (runit_k s a ha hs (by
  unfold zlD
  cases zck (s.drop a) with
  | some n => exact ⟨_,rfl,rfl⟩
  | none => exact fun x => ⟨_,rfl,x,rfl⟩))
def zbq (s:List UInt8) (a:Nat):List UInt8 × Int × Int:=if (zc3 (s.drop a)).1=0 then ((zc3 (s.drop a)).2.1,((a + (zc3 (s.drop a)).2.2:Nat):Int),0) else ([],0,(zc3 (s.drop a)).1)
def tokEscV (r:List UInt8 × Int × Int):Value:=.tuple #[.string (S r.1),.int .i64 r.2.1,.int .i64 r.2.2]
def zaP:ByteArray:=⟨#[34,92,47,98,102,110,114,116]⟩
theorem zjb [Tabs Tryz.prog] (b:ByteArray) (a:Nat) (x:Int) (hx:x=(a:Nat)) (ha:a ≤ 9000000000000000000) (hs:b.size ≤ 140737488351232) (w:World) (hT:Tabs.T (P:=Tryz.prog) w) :
  Calls Tryz.prog 130 #[.string b,.int .i64 x] w fun e w' => ∃ v,e=.returned v ∧ zlD (b.data.toList.drop a) v ∧ Qb w w':=by
 subst hx
 have h:=zmR b.data.toList a ha (by rw [zaj]; exact hs) w hT
 rw [S_of b] at h
 exact h
def zgB:List UInt8:=[34,92,47,98,102,110,114,116]
def zpw:List UInt8:=[34,92,47,8,12,10,13,9]
theorem codes_ok:∀ i:Fin 8,zcI (zgB.getD i.val 0)=some (zpw.getD i.val 0):=by decide +kernel
theorem codes_no (c:UInt8) (h:∀ j,j < 8 → zgB.getD j 0 ≠ c):zcI c=none:=by
 have key:∀ n:Fin 256,zcI (UInt8.ofNat n.val)=none ∨ ∃ i:Fin 8,zgB.getD i.val 0=UInt8.ofNat n.val:=by decide +kernel
 have h2:=key ⟨c.toNat,c.toNat_lt⟩
 simp only [UInt8.ofNat_toNat] at h2
 rcases h2 with h2 | ⟨i,h2⟩
 ·exact h2
 ·exact absurd h2 (h i.val i.isLt)
theorem zdk (b:ByteArray) (a k:Nat) (hk:k < 8) (h:a + 1 < b.size) (hx:zgB.getD k 0=b[a + 1]):zbq b.data.toList a=([zpw.getD k 0],((a + 2:Nat):Int),0):=by
 have he:zc3 (b.data.toList.drop a)=(0,[zpw.getD k 0],2):=by
  unfold zc3
  rw [zcA,List.getElem?_eq_getElem (by rw [zaj]; exact h),Option.bind_some,show b.data.toList[a + 1]'(by rw [zaj]; exact h)=zgB.getD k 0 from (zjJ b (a + 1) h).symm.trans hx.symm,codes_ok ⟨k,hk⟩]
 unfold zbq
 rw [he]; rfl
theorem zpP [Tabs Tryz.prog] {w w':World} (hT:Tabs.T (P:=Tryz.prog) w) (hq:Qb w w'):Tabs.T (P:=Tryz.prog) w' :=
 Tabs.keep w w' hT (fun k hk => hq.block k hk) hq.size
set_option maxRecDepth 1000000 in
set_option maxHeartbeats 4000000 in
theorem zjd [Tabs Tryz.prog] (b:ByteArray) (a:Nat) (ha:a < b.size) (hs:b.size ≤ 140737488351232) (w:World) (hT:Tabs.T (P:=Tryz.prog) w) :
  Calls Tryz.prog 104 #[.string b,.int .i64 (a:Nat)] w fun e w' => e=.returned (tokEscV (zbq b.data.toList a)) ∧ Qb w w':=by
 by_cases c0:(a:Int) + 1 < b.size
 ·have c0':a + 1 < b.size:=by omega
  have HC:Hid (b[a + 1]=b.data.toList[a + 1]'(by rw [zaj]; exact c0')):=Lib.hid (zjJ b (a + 1) c0')
  have HG:Hid (b.data.toList[a + 1]? = some b[a + 1]):=Lib.hid (by rw [List.getElem?_eq_getElem (by rw [zaj]; exact c0'),zjJ b (a + 1) c0'])
  have q1:IntKind.i64.wrap ((a:Int) + 1)=(a:Int) + 1:=IntWalk.i64_in _ (by omega)
  have q2:(0:Int) ≤ (a:Int) + 1:=by omega
  have q3:((a:Int) + 1).toNat=a + 1:=by omega
  have q4:(a:Int) + 1 < b.size:=by omega
  go_enter Tryz.func104,Tryz.ntmps104
  go_wp2_with fail
  go_loopg [7] 8 (fun g _ wx => ∃ i:Nat,i + g=8 ∧ wx.heap[w.heap.size]? = some (.stringIter zaP i) ∧ Qb w wx ∧ Hid (∀ j,j < i → zgB.getD j 0 ≠ b[a + 1]))
  case atStart => exact ⟨0,rfl,World.iter_heap _ _ _,(Qb.refl w).alloc _,Lib.hid (fun j hj => absurd hj (by omega))⟩
  case round =>
   obtain ⟨i,hig,hk,hq,HN⟩:=hrel
   by_cases hi:i < 8
   ·obtain ⟨g,rfl⟩:∃ g,gk=g + 1:=⟨gk - 1,by omega⟩
    have hcases:i=0 ∨ i=1 ∨ i=2 ∨ i=3 ∨ i=4 ∨ i=5 ∨ i=6 ∨ i=7:=by omega
    rcases hcases with rfl | rfl | rfl | rfl | rfl | rfl | rfl | rfl
    ·have hnx:=fun ty => Lib.run_next_ascii_at (P:=Tryz.prog) wr w.heap.size zaP 0 ty hk (by decide) (by decide)
     have hk':=Lib.hid (Lib.iterAt_heap wr w.heap.size zaP 0 1 hk)
     have hq':Qb w (wr.iterAt w.heap.size zaP 1):=Lib.below_iterAt hq (Nat.le_refl _) zaP 1
     clear hk
     by_cases hx:(34:UInt8)=b[a + 1]
     ·have HE:=Lib.hid (zdk b a 0 (by decide) c0' hx)
      have hd:∀ x:Int,x=34 → (x == ((b[a + 1].toNat:Nat):Int))=true:=by
       rintro x rfl
       rw [← hx]; rfl
      clear hx
      go_wp2_with fail
      go_quiet (fail)
      rw [hd]
      rotate_left
      ·rfl
      go_wp2_with fail
      go_ret3
      exact ⟨by rw [HE.out]; rfl,hq'.drewN _⟩
     ·have HX:=Lib.hid hx
      have hd:∀ x:Int,x=34 → (x == ((b[a + 1].toNat:Nat):Int))=false:=by
       rintro x rfl
       rw [beq_eq_false_iff_ne]
       intro h
       have h2:(34:UInt8).toNat=b[a + 1].toNat:=by
        have:(34:UInt8).toNat=34:=rfl
        omega
       exact hx (UInt8.toNat_inj.1 h2)
      clear hx
      go_wp2_with fail
      go_quiet (fail)
      rw [hd]
      rotate_left
      ·rfl
      go_wp2_with fail
      go_roundg g
      case measure => omega
      case rel => exact ⟨1,by omega,hk'.out,hq'.drewN _,Lib.hid (fun j hj => by
       rcases Nat.lt_or_ge j 0 with h | h
       ·exact HN.out j h
       ·obtain rfl:j=0:=by omega
        exact HX.out)⟩
    ·have hnx:=fun ty => Lib.run_next_ascii_at (P:=Tryz.prog) wr w.heap.size zaP 1 ty hk (by decide) (by decide)
     have hk':=Lib.hid (Lib.iterAt_heap wr w.heap.size zaP 1 2 hk)
     have hq':Qb w (wr.iterAt w.heap.size zaP 2):=Lib.below_iterAt hq (Nat.le_refl _) zaP 2
     clear hk
     by_cases hx:(92:UInt8)=b[a + 1]
     ·have HE:=Lib.hid (zdk b a 1 (by decide) c0' hx)
      have hd:∀ x:Int,x=92 → (x == ((b[a + 1].toNat:Nat):Int))=true:=by
       rintro x rfl
       rw [← hx]; rfl
      clear hx
      go_wp2_with fail
      go_quiet (fail)
      rw [hd]
      rotate_left
      ·rfl
      go_wp2_with fail
      go_ret3
      exact ⟨by rw [HE.out]; rfl,hq'.drewN _⟩
     ·have HX:=Lib.hid hx
      have hd:∀ x:Int,x=92 → (x == ((b[a + 1].toNat:Nat):Int))=false:=by
       rintro x rfl
       rw [beq_eq_false_iff_ne]
       intro h
       have h2:(92:UInt8).toNat=b[a + 1].toNat:=by
        have:(92:UInt8).toNat=92:=rfl
        omega
       exact hx (UInt8.toNat_inj.1 h2)
      clear hx
      go_wp2_with fail
      go_quiet (fail)
      rw [hd]
      rotate_left
      ·rfl
      go_wp2_with fail
      go_roundg g
      case measure => omega
      case rel => exact ⟨2,by omega,hk'.out,hq'.drewN _,Lib.hid (fun j hj => by
       rcases Nat.lt_or_ge j 1 with h | h
       ·exact HN.out j h
       ·obtain rfl:j=1:=by omega
        exact HX.out)⟩
    ·have hnx:=fun ty => Lib.run_next_ascii_at (P:=Tryz.prog) wr w.heap.size zaP 2 ty hk (by decide) (by decide)
     have hk':=Lib.hid (Lib.iterAt_heap wr w.heap.size zaP 2 3 hk)
     have hq':Qb w (wr.iterAt w.heap.size zaP 3):=Lib.below_iterAt hq (Nat.le_refl _) zaP 3
     clear hk
     by_cases hx:(47:UInt8)=b[a + 1]
     ·have HE:=Lib.hid (zdk b a 2 (by decide) c0' hx)
      have hd:∀ x:Int,x=47 → (x == ((b[a + 1].toNat:Nat):Int))=true:=by
       rintro x rfl
       rw [← hx]; rfl
      clear hx
      go_wp2_with fail
      go_quiet (fail)
      rw [hd]
      rotate_left
      ·rfl
      go_wp2_with fail
      go_ret3
      exact ⟨by rw [HE.out]; rfl,hq'.drewN _⟩
     ·have HX:=Lib.hid hx
      have hd:∀ x:Int,x=47 → (x == ((b[a + 1].toNat:Nat):Int))=false:=by
       rintro x rfl
       rw [beq_eq_false_iff_ne]
       intro h
       have h2:(47:UInt8).toNat=b[a + 1].toNat:=by
        have:(47:UInt8).toNat=47:=rfl
        omega
       exact hx (UInt8.toNat_inj.1 h2)
      clear hx
      go_wp2_with fail
      go_quiet (fail)
      rw [hd]
      rotate_left
      ·rfl
      go_wp2_with fail
      go_roundg g
      case measure => omega
      case rel => exact ⟨3,by omega,hk'.out,hq'.drewN _,Lib.hid (fun j hj => by
       rcases Nat.lt_or_ge j 2 with h | h
       ·exact HN.out j h
       ·obtain rfl:j=2:=by omega
        exact HX.out)⟩
    ·have hnx:=fun ty => Lib.run_next_ascii_at (P:=Tryz.prog) wr w.heap.size zaP 3 ty hk (by decide) (by decide)
     have hk':=Lib.hid (Lib.iterAt_heap wr w.heap.size zaP 3 4 hk)
     have hq':Qb w (wr.iterAt w.heap.size zaP 4):=Lib.below_iterAt hq (Nat.le_refl _) zaP 4
     clear hk
     by_cases hx:(98:UInt8)=b[a + 1]
     ·have HE:=Lib.hid (zdk b a 3 (by decide) c0' hx)
      have hd:∀ x:Int,x=98 → (x == ((b[a + 1].toNat:Nat):Int))=true:=by
       rintro x rfl
       rw [← hx]; rfl
      clear hx
      go_wp2_with fail
      go_quiet (fail)
      rw [hd]
      rotate_left
      ·rfl
      go_wp2_with fail
      go_ret3
      exact ⟨by rw [HE.out]; rfl,hq'.drewN _⟩
     ·have HX:=Lib.hid hx
      have hd:∀ x:Int,x=98 → (x == ((b[a + 1].toNat:Nat):Int))=false:=by
       rintro x rfl
       rw [beq_eq_false_iff_ne]
       intro h
       have h2:(98:UInt8).toNat=b[a + 1].toNat:=by
        have:(98:UInt8).toNat=98:=rfl
        omega
       exact hx (UInt8.toNat_inj.1 h2)
      clear hx
      go_wp2_with fail
      go_quiet (fail)
      rw [hd]
      rotate_left
      ·rfl
      go_wp2_with fail
      go_roundg g
      case measure => omega
      case rel => exact ⟨4,by omega,hk'.out,hq'.drewN _,Lib.hid (fun j hj => by
       rcases Nat.lt_or_ge j 3 with h | h
       ·exact HN.out j h
       ·obtain rfl:j=3:=by omega
        exact HX.out)⟩
    ·have hnx:=fun ty => Lib.run_next_ascii_at (P:=Tryz.prog) wr w.heap.size zaP 4 ty hk (by decide) (by decide)
     have hk':=Lib.hid (Lib.iterAt_heap wr w.heap.size zaP 4 5 hk)
     have hq':Qb w (wr.iterAt w.heap.size zaP 5):=Lib.below_iterAt hq (Nat.le_refl _) zaP 5
     clear hk
     by_cases hx:(102:UInt8)=b[a + 1]
     ·have HE:=Lib.hid (zdk b a 4 (by decide) c0' hx)
      have hd:∀ x:Int,x=102 → (x == ((b[a + 1].toNat:Nat):Int))=true:=by
       rintro x rfl
       rw [← hx]; rfl
      clear hx
      go_wp2_with fail
      go_quiet (fail)
      rw [hd]
      rotate_left
      ·rfl
      go_wp2_with fail
      go_ret3
      exact ⟨by rw [HE.out]; rfl,hq'.drewN _⟩
     ·have HX:=Lib.hid hx
      have hd:∀ x:Int,x=102 → (x == ((b[a + 1].toNat:Nat):Int))=false:=by
       rintro x rfl
       rw [beq_eq_false_iff_ne]
       intro h
       have h2:(102:UInt8).toNat=b[a + 1].toNat:=by
        have:(102:UInt8).toNat=102:=rfl
        omega
       exact hx (UInt8.toNat_inj.1 h2)
      clear hx
      go_wp2_with fail
      go_quiet (fail)
      rw [hd]
      rotate_left
      ·rfl
      go_wp2_with fail
      go_roundg g
      case measure => omega
      case rel => exact ⟨5,by omega,hk'.out,hq'.drewN _,Lib.hid (fun j hj => by
       rcases Nat.lt_or_ge j 4 with h | h
       ·exact HN.out j h
       ·obtain rfl:j=4:=by omega
        exact HX.out)⟩
    ·have hnx:=fun ty => Lib.run_next_ascii_at (P:=Tryz.prog) wr w.heap.size zaP 5 ty hk (by decide) (by decide)
     have hk':=Lib.hid (Lib.iterAt_heap wr w.heap.size zaP 5 6 hk)
     have hq':Qb w (wr.iterAt w.heap.size zaP 6):=Lib.below_iterAt hq (Nat.le_refl _) zaP 6
     clear hk
     by_cases hx:(110:UInt8)=b[a + 1]
     ·have HE:=Lib.hid (zdk b a 5 (by decide) c0' hx)
      have hd:∀ x:Int,x=110 → (x == ((b[a + 1].toNat:Nat):Int))=true:=by
       rintro x rfl
       rw [← hx]; rfl
      clear hx
      go_wp2_with fail
      go_quiet (fail)
      rw [hd]
      rotate_left
      ·rfl
      go_wp2_with fail
      go_ret3
      exact ⟨by rw [HE.out]; rfl,hq'.drewN _⟩
     ·have HX:=Lib.hid hx
      have hd:∀ x:Int,x=110 → (x == ((b[a + 1].toNat:Nat):Int))=false:=by
       rintro x rfl
       rw [beq_eq_false_iff_ne]
       intro h
       have h2:(110:UInt8).toNat=b[a + 1].toNat:=by
        have:(110:UInt8).toNat=110:=rfl
        omega
       exact hx (UInt8.toNat_inj.1 h2)
      clear hx
      go_wp2_with fail
      go_quiet (fail)
      rw [hd]
      rotate_left
      ·rfl
      go_wp2_with fail
      go_roundg g
      case measure => omega
      case rel => exact ⟨6,by omega,hk'.out,hq'.drewN _,Lib.hid (fun j hj => by
       rcases Nat.lt_or_ge j 5 with h | h
       ·exact HN.out j h
       ·obtain rfl:j=5:=by omega
        exact HX.out)⟩
    ·have hnx:=fun ty => Lib.run_next_ascii_at (P:=Tryz.prog) wr w.heap.size zaP 6 ty hk (by decide) (by decide)
     have hk':=Lib.hid (Lib.iterAt_heap wr w.heap.size zaP 6 7 hk)
     have hq':Qb w (wr.iterAt w.heap.size zaP 7):=Lib.below_iterAt hq (Nat.le_refl _) zaP 7
     clear hk
     by_cases hx:(114:UInt8)=b[a + 1]
     ·have HE:=Lib.hid (zdk b a 6 (by decide) c0' hx)
      have hd:∀ x:Int,x=114 → (x == ((b[a + 1].toNat:Nat):Int))=true:=by
       rintro x rfl
       rw [← hx]; rfl
      clear hx
      go_wp2_with fail
      go_quiet (fail)
      rw [hd]
      rotate_left
      ·rfl
      go_wp2_with fail
      go_ret3
      exact ⟨by rw [HE.out]; rfl,hq'.drewN _⟩
     ·have HX:=Lib.hid hx
      have hd:∀ x:Int,x=114 → (x == ((b[a + 1].toNat:Nat):Int))=false:=by
       rintro x rfl
       rw [beq_eq_false_iff_ne]
       intro h
       have h2:(114:UInt8).toNat=b[a + 1].toNat:=by
        have:(114:UInt8).toNat=114:=rfl
        omega
       exact hx (UInt8.toNat_inj.1 h2)
      clear hx
      go_wp2_with fail
      go_quiet (fail)
      rw [hd]
      rotate_left
      ·rfl
      go_wp2_with fail
      go_roundg g
      case measure => omega
      case rel => exact ⟨7,by omega,hk'.out,hq'.drewN _,Lib.hid (fun j hj => by
       rcases Nat.lt_or_ge j 6 with h | h
       ·exact HN.out j h
       ·obtain rfl:j=6:=by omega
        exact HX.out)⟩
    ·have hnx:=fun ty => Lib.run_next_ascii_at (P:=Tryz.prog) wr w.heap.size zaP 7 ty hk (by decide) (by decide)
     have hk':=Lib.hid (Lib.iterAt_heap wr w.heap.size zaP 7 8 hk)
     have hq':Qb w (wr.iterAt w.heap.size zaP 8):=Lib.below_iterAt hq (Nat.le_refl _) zaP 8
     clear hk
     by_cases hx:(116:UInt8)=b[a + 1]
     ·have HE:=Lib.hid (zdk b a 7 (by decide) c0' hx)
      have hd:∀ x:Int,x=116 → (x == ((b[a + 1].toNat:Nat):Int))=true:=by
       rintro x rfl
       rw [← hx]; rfl
      clear hx
      go_wp2_with fail
      go_quiet (fail)
      rw [hd]
      rotate_left
      ·rfl
      go_wp2_with fail
      go_ret3
      exact ⟨by rw [HE.out]; rfl,hq'.drewN _⟩
     ·have HX:=Lib.hid hx
      have hd:∀ x:Int,x=116 → (x == ((b[a + 1].toNat:Nat):Int))=false:=by
       rintro x rfl
       rw [beq_eq_false_iff_ne]
       intro h
       have h2:(116:UInt8).toNat=b[a + 1].toNat:=by
        have:(116:UInt8).toNat=116:=rfl
        omega
       exact hx (UInt8.toNat_inj.1 h2)
      clear hx
      go_wp2_with fail
      go_quiet (fail)
      rw [hd]
      rotate_left
      ·rfl
      go_wp2_with fail
      go_roundg g
      case measure => omega
      case rel => exact ⟨8,by omega,hk'.out,hq'.drewN _,Lib.hid (fun j hj => by
       rcases Nat.lt_or_ge j 7 with h | h
       ·exact HN.out j h
       ·obtain rfl:j=7:=by omega
        exact HX.out)⟩
   ·have hnx:=fun ty => Lib.run_next_end_at (P:=Tryz.prog) wr w.heap.size zaP i ty hk (by show ¬ i < 8; exact hi)
    have HS:Hid ((b.data.toList.drop a)[1]?.bind zcI=none):=Lib.hid (by
     rw [zcA,HG.out,Option.bind_some]
     exact codes_no _ (fun j hj => HN.out j (by omega)))
    go_wp2_with fail
    refine (zjb b a a rfl (by omega) hs _ (zpP hT hq)).mono ?_
    rintro e w1 ⟨v,rfl,hv,hq1⟩
    have hq2:=hq.trans hq1
    unfold zlD at hv
    cases hu:zck (b.data.toList.drop a) with
    | none =>
     rw [hu] at hv
     obtain ⟨x,rfl⟩:=hv
     have hE:zbq b.data.toList a=([],0,130):=by
      have:zc3 (b.data.toList.drop a)=(130,[],0):=by unfold zc3; rw [HS.out,hu]
      unfold zbq
      rw [this]; rfl
     go_wp2_with fail
     go_ret3
     exact ⟨by rw [hE]; rfl,hq2⟩
    | some n =>
     rw [hu] at hv
     subst hv
     have hul:=zcE hu
     rw [List.length_drop,zaj] at hul
     have HU:=Lib.hid hu
     clear hu
     have okE:∀ (U Z:Nat),zdD n ((b.data.toList.drop a).drop 6)=(U,Z) → cpB (U:Int)=true → zbq b.data.toList a=(zdz U,((a + Z:Nat):Int),0):=by
      intro U Z h1 h2
      have:=zk4 HS.out HU.out
      rw [h1] at this
      simp only at this
      rw [if_pos h2] at this
      unfold zbq
      rw [this]; rfl
     have noE:∀ (U Z:Nat),zdD n ((b.data.toList.drop a).drop 6)=(U,Z) → cpB (U:Int)=false → zbq b.data.toList a=([],0,7):=by
      intro U Z h1 h2
      have:=zk4 HS.out HU.out
      rw [h1] at this
      simp only at this
      rw [if_neg (by rw [h2]; simp)] at this
      unfold zbq
      rw [this]; rfl
     have HO:=Lib.hid okE
     have HNo:=Lib.hid noE
     clear okE noE
     have hq3:=zpP hT hq2
     have HQ2:=Lib.hid hq2
     have b1:IntKind.i64.wrap ((a:Int) + 6)=(a:Int) + 6:=IntWalk.i64_in _ (by omega)
     have b2:IntKind.i64.wrap ((a:Int) + 12)=(a:Int) + 12:=IntWalk.i64_in _ (by omega)
     have encOk:∀ U:Nat,cpB (U:Int)=true → ∀ wz,Calls Tryz.prog 129 #[.int .i64 (U:Nat)] wz fun e w' => e=.returned (.tuple #[.string (S (zdz U)),.int .i64 0]) ∧ Qb wz w':=by
      intro U hU wz
      have:=zde (U:Nat) wz
      unfold zhm at this
      rw [if_pos hU,Int.toNat_natCast] at this
      exact this
     by_cases c1:n < 55296 ∨ 57343 < n
     ·have hU:zdD n ((b.data.toList.drop a).drop 6)=(n,6):=by unfold zdD; rw [if_neg (show ¬ (55296 ≤ n ∧ n < 56320) by omega)]
      have hcp:cpB (n:Int)=true:=decide_eq_true (by omega)
      have hE:=Lib.hid (HO.out n 6 hU hcp)
      have hEn:=Lib.hid (encOk n hcp)
      clear hU hcp encOk
      by_cases c2:n < 55296
      ·have d1:decide ((n:Int) < 55296)=true:=decide_eq_true (by omega)
       clear c1 c2 hul
       go_wp2_with fail
       refine (hEn.out _).mono ?_
       rintro e w2 ⟨rfl,hq4⟩
       have HE2:=hE.out
       clear hE hEn
       generalize zdz n=X at *
       have HE3:=Lib.hid HE2
       clear HE2
       go_wp2_with fail
       go_ret3
       exact ⟨by rw [HE3.out]; rfl,HQ2.out.trans hq4⟩
      ·have d1:decide ((n:Int) < 55296)=false:=decide_eq_false (by omega)
       have d2:decide ((57343:Int) < (n:Int))=true:=decide_eq_true (by omega)
       clear c1 c2 hul
       go_wp2_with fail
       refine (hEn.out _).mono ?_
       rintro e w2 ⟨rfl,hq4⟩
       have HE2:=hE.out
       clear hE hEn
       generalize zdz n=X at *
       have HE3:=Lib.hid HE2
       clear HE2
       go_wp2_with fail
       go_ret3
       exact ⟨by rw [HE3.out]; rfl,HQ2.out.trans hq4⟩
     ·have d1:decide ((n:Int) < 55296)=false:=decide_eq_false (by omega)
      have d2:decide ((57343:Int) < (n:Int))=false:=decide_eq_false (by omega)
      have C1:=Lib.hid c1
      have HL:=Lib.hid hul
      clear c1 hul
      go_wp2_with fail
      refine (zjb b (a + 6) _ (by omega) (by omega) hs _ hq3).mono ?_
      rintro e w2 ⟨v,rfl,hv,hq4⟩
      have HQ5:=Lib.hid (HQ2.out.trans hq4)
      unfold zlD at hv
      have hdd:(b.data.toList.drop a).drop 6=b.data.toList.drop (a + 6):=List.drop_drop
      have hcn:=C1.out
      have hln:=HL.out
      have hne:cpB (n:Int)=false:=decide_eq_false (by omega)
      cases hu2:zck (b.data.toList.drop (a + 6)) with
      | none =>
       rw [hu2] at hv
       obtain ⟨x,rfl⟩:=hv
       have hU:zdD n ((b.data.toList.drop a).drop 6)=(n,6):=by unfold zdD; rw [hdd,hu2]; simp
       have hE:=Lib.hid (HNo.out n 6 hU hne)
       clear hU hcn hln hne hdd encOk
       by_cases c3:(56319:Int) < n
       ·have d3:decide ((56319:Int) < (n:Int))=true:=decide_eq_true c3
        clear c3
        go_wp2_with fail
        go_ret3
        exact ⟨by rw [hE.out]; rfl,HQ5.out⟩
       ·have d3:decide ((56319:Int) < (n:Int))=false:=decide_eq_false c3
        clear c3
        go_wp2_with fail
        go_ret3
        exact ⟨by rw [hE.out]; rfl,HQ5.out⟩
      | some m =>
       rw [hu2] at hv
       subst hv
       have hml:=(zcE hu2).2
       by_cases c3:(56319:Int) < n
       ·have hU:zdD n ((b.data.toList.drop a).drop 6)=(n,6):=by unfold zdD; rw [if_neg (show ¬ (55296 ≤ n ∧ n < 56320) by omega)]
        have hE:=Lib.hid (HNo.out n 6 hU hne)
        have d3:decide ((56319:Int) < (n:Int))=true:=decide_eq_true c3
        clear hU hcn hln hne hdd encOk c3 hml hu2
        go_wp2_with fail
        go_ret3
        exact ⟨by rw [hE.out]; rfl,HQ5.out⟩
       have d3:decide ((56319:Int) < (n:Int))=false:=decide_eq_false c3
       by_cases c4:(m:Int) < 56320
       ·have hU:zdD n ((b.data.toList.drop a).drop 6)=(n,6):=by
         unfold zdD; rw [hdd,hu2,if_pos (show 55296 ≤ n ∧ n < 56320 by omega)]
         simp only
         rw [if_neg (by omega)]
        have hE:=Lib.hid (HNo.out n 6 hU hne)
        have d4:decide ((m:Int) < 56320)=true:=decide_eq_true c4
        clear hU hcn hln hne hdd encOk c3 c4 hml hu2
        go_wp2_with fail
        go_ret3
        exact ⟨by rw [hE.out]; rfl,HQ5.out⟩
       have d4:decide ((m:Int) < 56320)=false:=decide_eq_false c4
       by_cases c5:(57343:Int) < m
       ·have hU:zdD n ((b.data.toList.drop a).drop 6)=(n,6):=by
         unfold zdD; rw [hdd,hu2,if_pos (show 55296 ≤ n ∧ n < 56320 by omega)]
         simp only
         rw [if_neg (by omega)]
        have hE:=Lib.hid (HNo.out n 6 hU hne)
        have d5:decide ((57343:Int) < (m:Int))=true:=decide_eq_true c5
        clear hU hcn hln hne hdd encOk c3 c4 c5 hml hu2
        go_wp2_with fail
        go_ret3
        exact ⟨by rw [hE.out]; rfl,HQ5.out⟩
       have d5:decide ((57343:Int) < (m:Int))=false:=decide_eq_false c5
       have hU:zdD n ((b.data.toList.drop a).drop 6)=(65536 + (n - 55296) * 1024 + (m - 56320),12):=by
        unfold zdD; rw [hdd,hu2,if_pos (show 55296 ≤ n ∧ n < 56320 by omega)]
        simp only
        rw [if_pos (by omega)]
       have hcp:cpB ((65536 + (n - 55296) * 1024 + (m - 56320):Nat):Int)=true:=decide_eq_true (by omega)
       have hE:=Lib.hid (HO.out _ 12 hU hcp)
       have hEn:=Lib.hid (encOk _ hcp)
       have e1:(n:Int) - 55296=((n - 55296:Nat):Int):=by omega
       have e2:((n - 55296:Nat):Int) * 1024=(((n - 55296) * 1024:Nat):Int):=by omega
       have e3:(65536:Int) + (((n - 55296) * 1024:Nat):Int)=((65536 + (n - 55296) * 1024:Nat):Int):=by omega
       have e4:((65536 + (n - 55296) * 1024:Nat):Int) + (m:Int)=((65536 + (n - 55296) * 1024 + m:Nat):Int):=by omega
       have e5:((65536 + (n - 55296) * 1024 + m:Nat):Int) - 56320=((65536 + (n - 55296) * 1024 + (m - 56320):Nat):Int):=by omega
       have hz:(65536:Int) + ((n:Int) - 55296) * 1024 + (m:Int) - 56320=((65536 + (n - 55296) * 1024 + (m - 56320):Nat):Int):=by omega
       have HZ:=Lib.hid hz
       clear hU hne hdd encOk c3 c4 c5 hu2 hcp e1 e2 e3 e4 e5 hz
       go_wp2_with fail
       rw [HZ.out]
       refine (hEn.out _).mono ?_
       rintro e w3 ⟨rfl,hq6⟩
       have HE2:=hE.out
       clear hE hEn HZ
       generalize zdz (65536 + (n - 55296) * 1024 + (m - 56320))=X at *
       have HE3:=Lib.hid HE2
       clear HE2 hcn hln hml
       go_wp2_with fail
       go_ret3
       exact ⟨by rw [HE3.out]; rfl,HQ5.out.trans hq6⟩
 ·go_enter Tryz.func104,Tryz.ntmps104
  have hu:zck (b.data.toList.drop a)=none:=by
   cases hu:zck (b.data.toList.drop a) with
   | none => rfl
   | some n => have:=(zcE hu).1; rw [List.length_drop,zaj] at this; omega
  have hE:zbq b.data.toList a=([],0,130):=by
   have:zc3 (b.data.toList.drop a)=(130,[],0):=by
    unfold zc3
    rw [zcA,List.getElem?_eq_none (by rw [zaj]; omega),hu]; rfl
   unfold zbq
   rw [this]; rfl
  rw [hE]
  go_wp2_with fail
  refine (zjb b a a rfl (by omega) hs _ hT).mono ?_
  rintro e w1 ⟨v,rfl,hv,hq⟩
  unfold zlD at hv
  rw [hu] at hv
  obtain ⟨x,rfl⟩:=hv
  go_wp2_with fail
  go_ret3
  exact ⟨rfl,hq⟩
end Go.Proofs.YtadhjoggdbhkgaaGreatDoor
namespace Go.Proofs.YtadhjoggdbhkgaaGreatDoor
open Nat renaming reduceAdd → z6, reduceSub → z7, reduceLeDiff → z8, reduceLT → j4, reduceMul → j5, reduceEqDiff → j6
open Int renaming reduceToNat → j7, reduceAdd → j8, reduceSub → j9, reduceMul → x4, reduceNeg → x5, reduceLT → x6, reduceLE → x7, reduceEq → x8, reduceNe → x9
open Go.RowKit Sx
section
variable [Tabs Tryz.prog] {objs:List OB} {K:List OB → AV → Prop}
theorem zmX (s:List UInt8) (a:Nat) (ha:a < s.length) (hs:s.length ≤ 140737488351232) (hk:K objs (.tup [.s (zbq s a).1,.i .i64 (zbq s a).2.1,.i .i64 (zbq s a).2.2])):zah Tryz.prog 104 [.s s,.i .i64 (a:Nat)] objs K :=
 convT (vs:=[.string (S s),.int .i64 (a:Nat)]) rfl rfl (fun w hT => zjd (S s) a (by rw [zci]; exact ha) (by rw [zci]; exact hs) w hT) hk
set_option maxHeartbeats 4000000 in
theorem zlN (s:List UInt8) (a:Nat) (hs:s.length ≤ 140737488351232) (ha:a < s.length) (R:Int × List UInt8 × Nat) (hR:zb4 ((s.drop (a + 1)).length + 1) (s.drop (a + 1)) [] 0=R)
  (h1:R.1 ≠ 0 → K objs (.tup [.s [],.i .i64 0,.i .i64 R.1])) (h0:R.1=0 → K objs (.tup [.s R.2.1,.i .i64 ((a + 1 + R.2.2:Nat):Int),.i .i64 0])):zah Tryz.prog 73 [.s s,.i .i64 (a:Nat)] objs K:=by
 refine zbk is_ref13_text rfl fun C _ => ?_
 simp only [c_ref13_text,sxZ,z6,z7,z8,j4,j5,j6,j7,j8,j9,x4,x5,x6,x7,x8,x9,reduceCtorEq,↓reduceIte]
 refine ⟨by omega,?_⟩
 refine zaQ (fun n o tm => ∃ (i:Nat) (out:List UInt8) (m:Nat),i ≤ s.length ∧ a + 1 ≤ i ∧ n=s.length - i ∧ o=[] ∧ out.length ≤ i ∧ s.length - i < m ∧ zb4 m (s.drop i) out (i - (a + 1))=R ∧ tm.length=70 ∧ tm[0]? = some (.s s) ∧ tm[7]? = some (.s out) ∧ tm[8]? = some (.i .i64 (i:Nat))) (s.length - (a + 1))
  ⟨a + 1,[],(s.drop (a + 1)).length + 1,ha,Nat.le_refl _,rfl,rfl,Nat.zero_le _,by rw [List.length_drop]; omega,by rw [Nat.sub_self]; exact hR,rfl,rfl,rfl,rfl⟩ ?_
 rintro n _ tm ⟨i,out,m,hi,hai,rfl,rfl,ho,hm,hT,hlen,t0,t7,t8⟩
 obtain ⟨m,rfl⟩:∃ m',m=m' + 1:=⟨m - 1,by omega⟩
 by_cases hlt:(i:Int) < s.length
 ·have hlt':i < s.length:=by omega
  have hg:=zaH hlt'
  have hdc:=List.drop_eq_getElem_cons hlt'
  by_cases c1:((s[i].toNat:Nat):Int)=34
  ·have hc:s[i]=34:=(zd2 (by decide)).1 c1
   rw [hdc,zb4,if_pos hc] at hT
   subst hT
   have h0:=h0 rfl
   rw [show a + 1 + (i - (a + 1) + 1)=i + 1 by omega] at h0
   simp only [hlt,hg,c1,sxZ,z6,z7,z8,j4,j5,j6,j7,j8,j9,x4,x5,x6,x7,x8,x9,reduceCtorEq,↓reduceIte,List.getElem?_set,hlen,t0,t7,t8]
   exact ⟨by omega,by omega,h0⟩
  ·have hc:¬ s[i]=34:=fun h => c1 ((zd2 (by decide)).2 h)
   by_cases c2:((s[i].toNat:Nat):Int)=92
   ·have hc2:s[i]=92:=(zd2 (by decide)).1 c2
    rw [hdc,zb4,if_neg hc,if_pos hc2,← hdc] at hT
    simp only [hlt,hg,c1,c2,sxZ,z6,z7,z8,j4,j5,j6,j7,j8,j9,x4,x5,x6,x7,x8,x9,reduceCtorEq,↓reduceIte,List.getElem?_set,hlen,t0,t7,t8]
    refine ⟨by omega,by omega,?_⟩
    refine zam (zmX s i hlt' hs ?_)
    unfold zbq
    generalize hq:zc3 (s.drop i)=q at *
    obtain ⟨e,x,m'⟩:=q
    simp only at hT
    by_cases c3:e=0
    ·subst c3
     rw [if_neg (by simp)] at hT
     have hl:=zhk hq
     rw [List.length_drop] at hl
     simp only [sxZ,z6,z7,z8,j4,j5,j6,j7,j8,j9,x4,x5,x6,x7,x8,x9,reduceCtorEq,↓reduceIte,List.getElem?_set,hlen,t0,t7,t8]
     exact ⟨by omega,s.length - (i + m'),by omega,i + m',out ++ x,m,by omega,by omega,rfl,by rw [List.length_append]; omega,by omega,by rw [← List.drop_drop,show i + m' - (a + 1)=i - (a + 1) + m' by omega]; exact hT,rfl,rfl⟩
    ·rw [if_pos c3] at hT
     subst hT
     simp only [c3,sxZ,z6,z7,z8,j4,j5,j6,j7,j8,j9,x4,x5,x6,x7,x8,x9,reduceCtorEq,↓reduceIte,List.getElem?_set,hlen,t0,t7,t8]
     exact h1 c3
   ·have hc2:¬ s[i]=92:=fun h => c2 ((zd2 (by decide)).2 h)
    rw [hdc,zb4,if_neg hc,if_neg hc2,← hdc] at hT
    by_cases c4:((s[i].toNat:Nat):Int) < 32
    ·rw [if_pos (by omega)] at hT
     subst hT
     simp only [hlt,hg,c1,c2,c4,sxZ,z6,z7,z8,j4,j5,j6,j7,j8,j9,x4,x5,x6,x7,x8,x9,reduceCtorEq,↓reduceIte,List.getElem?_set,hlen,t0,t7,t8]
     exact ⟨by omega,by omega,by omega,h1 (by decide)⟩
    ·rw [if_neg (by omega)] at hT
     simp only [hlt,hg,c1,c2,c4,sxZ,z6,z7,z8,j4,j5,j6,j7,j8,j9,x4,x5,x6,x7,x8,x9,reduceCtorEq,↓reduceIte,List.getElem?_set,hlen,t0,t7,t8]
     refine ⟨by omega,by omega,by omega,?_⟩
     refine zam (zlM s i hs ?_)
     rw [zpo hlt']
     cases hd:zbK (s.drop i) with
     | none =>
      rw [hd] at hT
      simp only at hT
      subst hT
      simp only [sxZ,z6,z7,z8,j4,j5,j6,j7,j8,j9,x4,x5,x6,x7,x8,x9,reduceCtorEq,↓reduceIte,List.getElem?_set,hlen,t0,t7,t8]
      exact h1 (by decide)
     | some q =>
      obtain ⟨r,m'⟩:=q
      rw [hd] at hT
      simp only at hT
      have gg:m' ≤ (s.drop i).length ∧ 1 ≤ m':=⟨(za7 hd).2.2.1,(za7 hd).2.2.2.1⟩
      have hxl:((s.drop i).take m').length ≤ m':=by rw [List.length_take]; omega
      rw [List.length_drop] at gg
      simp only [sxZ,z6,z7,z8,j4,j5,j6,j7,j8,j9,x4,x5,x6,x7,x8,x9,reduceCtorEq,↓reduceIte,List.getElem?_set,hlen,t0,t7,t8]
      rw [zfl]
      exact ⟨by omega,by omega,s.length - (i + m'),by omega,i + m',out ++ (s.drop i).take m',m,by omega,by omega,rfl,by rw [List.length_append]; omega,by omega,by rw [← List.drop_drop,show i + m' - (a + 1)=i - (a + 1) + m' by omega]; exact hT,rfl,rfl⟩
 ·obtain rfl:i=s.length:=by omega
  rw [List.drop_length,zb4] at hT
  subst hT
  simp only [sxZ,z6,z7,z8,j4,j5,j6,j7,j8,j9,x4,x5,x6,x7,x8,x9,reduceCtorEq,↓reduceIte,List.getElem?_set,hlen,t0,t7,t8,hlt]
  exact h1 (by decide)
end
theorem zgY {P:Program} [Tabs P] {C:Cx} {F:zaN} {k:List IT} {objs:List OB} {tm:List AV} {c:SV} {x y:SCode} (h:c.ev tm=.b true) (hr:run P C (.code x :: k) objs tm F):run P C (.code (.cond c x y) :: k) objs tm F:=by
 rw [zg0,h,kC_t]; exact hr
theorem zgZ {P:Program} [Tabs P] {C:Cx} {F:zaN} {k:List IT} {objs:List OB} {tm:List AV} {c:SV} {x y:SCode} (h:c.ev tm=.b false) (hr:run P C (.code y :: k) objs tm F):run P C (.code (.cond c x y) :: k) objs tm F:=by
 rw [zg0,h,kC_f]; exact hr
section
variable [Tabs Tryz.prog] {objs:List OB} {K:List OB → AV → Prop}
set_option maxHeartbeats 4000000 in
theorem zlO (s:List UInt8) (a:Int) (hs:s.length ≤ 140737488351232) (hk:K objs (zn2 (zaB s a))):zah Tryz.prog 52 [.s s,.i .i64 a] objs K:=by
 refine zbk is_ref13_Next rfl fun C _ => ?_
 unfold zaB zn2 at hk
 by_cases c0:a < 0
 ·rw [if_pos (.inl c0)] at hk
  simp only [c0,c_ref13_Next,sxZ,z6,z7,z8,j4,j5,j6,j7,j8,j9,x4,x5,x6,x7,x8,x9,reduceCtorEq,↓reduceIte]
  exact hk
 by_cases c1:(s.length:Int) < a
 ·rw [if_pos (.inr c1)] at hk
  simp only [c0,c1,c_ref13_Next,sxZ,z6,z7,z8,j4,j5,j6,j7,j8,j9,x4,x5,x6,x7,x8,x9,reduceCtorEq,↓reduceIte]
  exact hk
 rw [if_neg (by omega)] at hk
 obtain ⟨a,rfl⟩:∃ n:Nat,a=n:=⟨a.toNat,by omega⟩
 rw [Int.toNat_natCast] at hk
 rw [c_ref13_Next]
 refine zaa fun Y1 hY1 => ?_
 simp only [sxZ,z6,z7,z8,j4,j5,j6,j7,j8,j9,x4,x5,x6,x7,x8,x9,reduceCtorEq,↓reduceIte]
 subst hY1
 refine zaa fun Y1 hY1 => ?_
 simp only [c0,c1,sxZ,z6,z7,z8,j4,j5,j6,j7,j8,j9,x4,x5,x6,x7,x8,x9,reduceCtorEq,↓reduceIte]
 subst hY1
 refine zaa fun Y1 hY1 => ?_
 have hwl:=zd1 (s.drop a)
 rw [List.length_drop] at hwl
 refine zaw (fun o t => o=[.box 54 [.i .i64 0,.s [],.i .i64 0]] ∧ t.length=139 ∧ t[0]? = some (.s s) ∧ t[1]? = some (.i .i64 ((a + zaX (s.drop a):Nat):Int)) ∧ t[4]? = some (.p 0 0)) ?_ ?_
 ·simp only [sxZ,z6,z7,z8,j4,j5,j6,j7,j8,j9,x4,x5,x6,x7,x8,x9,reduceCtorEq,↓reduceIte]
  refine zaQ (fun n objs tm => ∃ i:Nat,i ≤ s.length ∧ n=s.length - i ∧ objs=[.box 54 [.i .i64 0,.s [],.i .i64 0]] ∧ a + zaX (s.drop a)=i + zaX (s.drop i) ∧ tm.length=139 ∧ tm[0]? = some (.s s) ∧ tm[1]? = some (.i .i64 i) ∧ tm[4]? = some (.p 0 0)) (s.length - a) ⟨a,by omega,rfl,rfl,rfl,rfl,rfl,rfl,rfl⟩ ?_
  rintro n _ tm ⟨i,hil,rfl,rfl,hr,hlen,t0,t1,t4⟩
  by_cases hlt2:(i:Int) < s.length
  ·have hlt':i < s.length:=by omega
   have hg2:=zaH hlt'
   have hrn:=white_at s i hlt'
   simp only [sxZ,z6,z7,z8,j4,j5,j6,j7,j8,j9,x4,x5,x6,x7,x8,x9,reduceCtorEq,↓reduceIte,List.getElem?_set,hlen,t0,t1,t4,hlt2]
   refine ⟨by omega,?_⟩
   rw [hg2]
   refine zam (rwhite_k s[i] ?_)
   by_cases hd:zb0 s[i]=true
   ·rw [if_pos hd] at hrn
    simp only [hd,sxZ,z6,z7,z8,j4,j5,j6,j7,j8,j9,x4,x5,x6,x7,x8,x9,reduceCtorEq,↓reduceIte,List.getElem?_set,hlen,t0,t1,t4]
    exact ⟨⟨by omega,by omega⟩,s.length - (i + 1),by omega,i + 1,by omega,rfl,by omega,rfl⟩
   ·rw [if_neg hd] at hrn
    simp only [Bool.not_eq_true] at hd
    simp only [hd,zbI,zab,sxZ,z6,z7,z8,j4,j5,j6,j7,j8,j9,x4,x5,x6,x7,x8,x9,reduceCtorEq,↓reduceIte,List.getElem?_set,hlen,t0,t1,t4]
    rw [hr,hrn]; rfl
  ·obtain rfl:i=s.length:=by omega
   have hw:zaX (s.drop s.length)=0:=by rw [List.drop_length]; rfl
   simp only [hlt2,zbI,zab,sxZ,z6,z7,z8,j4,j5,j6,j7,j8,j9,x4,x5,x6,x7,x8,x9,reduceCtorEq,↓reduceIte,List.getElem?_set,hlen,t0,t1,t4]
   rw [hr,hw]; rfl
 rintro _ tm ⟨rfl,hlen,t0,t1,t4⟩
 subst hY1
 have ha:a + zaX (s.drop a) ≤ s.length:=by omega
 generalize a + zaX (s.drop a)=i at *
 have h1:∀ e x n k,zaO (s.drop i)=(e,k,x,n) → e ≠ 0 → K objs (.tup [.agg [.i .i64 0,.s [],.i .i64 0],.i .i64 0,.i .i64 e]):=by
  intro e x n k h he
  rw [h,if_pos he] at hk
  exact hk
 have h0:∀ x n k,zaO (s.drop i)=(0,k,x,n) → K objs (.tup [.agg [.i .i64 k,.s x,.i .i64 (i:Nat)],.i .i64 ((i + n:Nat):Int),.i .i64 0]):=by
  intro x n k h
  rw [h,if_neg (by simp)] at hk
  exact hk
 clear hk c0 c1
 refine zaa fun Y1 hY1 => ?_
 by_cases c0:(i:Int)=s.length
 ·obtain rfl:i=s.length:=by omega
  have:=h0 [] 0 1 (by rw [List.drop_length]; rfl)
  simp only [c0,sxZ,z6,z7,z8,j4,j5,j6,j7,j8,j9,x4,x5,x6,x7,x8,x9,reduceCtorEq,↓reduceIte,List.getElem?_set,hlen,t0,t1,t4]
  exact this
 have hlt:i < s.length:=by omega
 have hg:=zaH hlt
 have hdc:=List.drop_eq_getElem_cons hlt
 simp only [c0,sxZ,z6,z7,z8,j4,j5,j6,j7,j8,j9,x4,x5,x6,x7,x8,x9,reduceCtorEq,↓reduceIte,List.getElem?_set,hlen,t0,t1,t4]
 subst hY1
 refine zaa fun Y1 hY1 => ?_
 refine zaa fun Y2 hY2 => ?_
 refine zaw (fun o t => o=[.box 54 [.i .i64 0,.s [],.i .i64 0]] ∧ t.length=139 ∧ t[0]? = some (.s s) ∧ t[1]? = some (.i .i64 (i:Nat)) ∧ t[4]? = some (.p 0 0) ∧ t[7]? = some (.i .u8 (s[i].toNat:Nat))) ?_ ?_
 ·simp only [hg,zab,sxZ,z6,z7,z8,j4,j5,j6,j7,j8,j9,x4,x5,x6,x7,x8,x9,reduceCtorEq,↓reduceIte,List.getElem?_set,hlen,t0,t1,t4]
  and_intros <;> first | omega | exact iv (by omega) | rfl | assumption
 rintro _ tm ⟨rfl,hlen,t0,t1,t4,t7⟩
 subst hY2
 rw [za3]
 refine zaa fun Y2 hY2 => ?_
 refine zaw (fun o t => o=[.box 54 [.i .i64 0,.s [],.i .i64 0]] ∧ t.length=139 ∧ t[0]? = some (.s s) ∧ t[1]? = some (.i .i64 (i:Nat)) ∧ t[4]? = some (.p 0 0) ∧ t[7]? = some (.i .u8 (s[i].toNat:Nat)) ∧ t[45]? = some (.b (zb1 s[i] [123,125,91,93,58,44]))) ?_ ?_
 ·simp only [sxZ,z6,z7,z8,j4,j5,j6,j7,j8,j9,x4,x5,x6,x7,x8,x9,reduceCtorEq,↓reduceIte,List.getElem?_set,hlen,t0,t1,t4,t7]
  refine zam (zig s[i] _ (by decide) ?_)
  simp only [zab,sxZ,z6,z7,z8,j4,j5,j6,j7,j8,j9,x4,x5,x6,x7,x8,x9,reduceCtorEq,↓reduceIte,List.getElem?_set,hlen,t0,t1,t4,t7]
 rintro _ tm ⟨rfl,hlen,t0,t1,t4,t7,t45⟩
 subst hY2
 by_cases c1:zb1 s[i] [123,125,91,93,58,44]=true
 ·have hx:(s.take (i + 1)).drop i=[s[i]]:=by rw [zfl,hdc]; rfl
  have e1:((i:Int) + 1).toNat=i + 1:=by omega
  have:=h0 [s[i]] 1 2 (by rw [hdc,zaO,if_pos c1])
  refine zgY (by simp only [SV.ev,t45,Option.getD_some,c1]) ?_
  simp only [e1,hx,sxZ,z6,z7,z8,j4,j5,j6,j7,j8,j9,x4,x5,x6,x7,x8,x9,reduceCtorEq,↓reduceIte,List.getElem?_set,hlen,t0,t1,t4,t7]
  (and_intros <;> try omega)
  exact this
 refine zgZ (by rw [Bool.not_eq_true] at c1; simp only [SV.ev,t45,Option.getD_some,c1]) ?_
 refine zaa fun Y2 hY2 => ?_
 refine zaw (fun o t => o=[.box 54 [.i .i64 0,.s [],.i .i64 0]] ∧ t.length=139 ∧ t[0]? = some (.s s) ∧ t[1]? = some (.i .i64 (i:Nat)) ∧ t[4]? = some (.p 0 0) ∧ t[7]? = some (.i .u8 (s[i].toNat:Nat)) ∧ t[57]? = some (.b (decide (((s[i].toNat:Nat):Int)=34)))) ?_ ?_
 ·simp only [zab,sxZ,z6,z7,z8,j4,j5,j6,j7,j8,j9,x4,x5,x6,x7,x8,x9,reduceCtorEq,↓reduceIte,List.getElem?_set,hlen,t0,t1,t4,t7]
 rintro _ tm ⟨rfl,hlen,t0,t1,t4,t7,t57⟩
 subst hY2
 by_cases c2:((s[i].toNat:Nat):Int)=34
 ·have hc:s[i]=34:=(zd2 (by decide)).1 c2
  refine zgY (by simp only [SV.ev,t57,Option.getD_some,c2,decide_true]) ?_
  have he:zaO (s.drop i)=if (zb4 ((s.drop (i + 1)).length + 1) (s.drop (i + 1)) [] 0).1 ≠ 0 then ((zb4 ((s.drop (i + 1)).length + 1) (s.drop (i + 1)) [] 0).1,0,[],0) else (0,3,(zb4 ((s.drop (i + 1)).length + 1) (s.drop (i + 1)) [] 0).2.1,(zb4 ((s.drop (i + 1)).length + 1) (s.drop (i + 1)) [] 0).2.2 + 1):=by
   rw [hdc,zaO,if_neg c1,if_pos hc]
  obtain ⟨TT,hTT⟩:∃ TT,zb4 ((s.drop (i + 1)).length + 1) (s.drop (i + 1)) [] 0=TT:=⟨_,rfl⟩
  rw [hTT] at he
  simp only [sxZ,z6,z7,z8,j4,j5,j6,j7,j8,j9,x4,x5,x6,x7,x8,x9,reduceCtorEq,↓reduceIte,List.getElem?_set,hlen,t0,t1,t4,t7]
  refine zam (zlN s i hs hlt TT hTT (fun hR => ?_) (fun hR => ?_))
  ·rw [if_pos hR] at he
   have:=h1 _ _ _ _ he hR
   simp only [hR,sxZ,z6,z7,z8,j4,j5,j6,j7,j8,j9,x4,x5,x6,x7,x8,x9,reduceCtorEq,↓reduceIte,List.getElem?_set,hlen,t0,t1,t4,t7]
   exact this
  ·rw [if_neg (by rw [hR]; simp)] at he
   have:=h0 _ _ _ he
   simp only [sxZ,z6,z7,z8,j4,j5,j6,j7,j8,j9,x4,x5,x6,x7,x8,x9,reduceCtorEq,↓reduceIte,List.getElem?_set,hlen,t0,t1,t4,t7]
   rw [show i + (TT.2.2 + 1)=i + 1 + TT.2.2 by omega] at this
   exact this
 have hc:¬ s[i]=34:=fun h => c2 ((zd2 (by decide)).2 h)
 refine zgZ (by simp only [SV.ev,t57,Option.getD_some,c2,decide_false]) ?_
 refine zaa fun Y2 hY2 => ?_
 refine zaw (fun o t => o=[.box 54 [.i .i64 0,.s [],.i .i64 0]] ∧ t.length=139 ∧ t[0]? = some (.s s) ∧ t[1]? = some (.i .i64 (i:Nat)) ∧ t[4]? = some (.p 0 0) ∧ t[7]? = some (.i .u8 (s[i].toNat:Nat)) ∧ t[75]? = some (.b (decide (s[i]=45 ∨ zai s[i]=true)))) ?_ ?_
 ·by_cases c3:((s[i].toNat:Nat):Int)=45
  ·have hc3:s[i]=45 ∨ zai s[i]=true:=.inl ((zd2 (by decide)).1 c3)
   simp only [c3,hc3,zab,sxZ,z6,z7,z8,j4,j5,j6,j7,j8,j9,x4,x5,x6,x7,x8,x9,reduceCtorEq,↓reduceIte,List.getElem?_set,hlen,t0,t1,t4,t7]
  ·have hc3:¬ s[i]=45:=fun h => c3 ((zd2 (by decide)).2 h)
   simp only [c3,sxZ,z6,z7,z8,j4,j5,j6,j7,j8,j9,x4,x5,x6,x7,x8,x9,reduceCtorEq,↓reduceIte,List.getElem?_set,hlen,t0,t1,t4,t7]
   refine zam (zfy s[i] ?_)
   have e3:decide (s[i]=45 ∨ zai s[i]=true)=zai s[i]:=by
    cases zai s[i] <;> simp [hc3]
   rw [e3]
   generalize zai s[i]=dg
   simp only [zab,sxZ,z6,z7,z8,j4,j5,j6,j7,j8,j9,x4,x5,x6,x7,x8,x9,reduceCtorEq,↓reduceIte,List.getElem?_set,hlen,t0,t1,t4,t7]
 rintro _ tm ⟨rfl,hlen,t0,t1,t4,t7,t75⟩
 subst hY2
 by_cases c3:s[i]=45 ∨ zai s[i]=true
 ·refine zgY (by simp only [SV.ev,t75,Option.getD_some,c3,decide_true]) ?_
  have he:zaO (s.drop i)=if zcU (s.drop i)=0 then (130,0,[],0) else (0,4,(s.drop i).take (zcU (s.drop i)),zcU (s.drop i)):=by
   conv => lhs; rw [hdc]
   rw [zaO,if_neg c1,if_neg hc,if_pos c3,← hdc]
  have hnl:=zg9 (s.drop i)
  rw [List.length_drop] at hnl
  simp only [sxZ,z6,z7,z8,j4,j5,j6,j7,j8,j9,x4,x5,x6,x7,x8,x9,reduceCtorEq,↓reduceIte,List.getElem?_set,hlen,t0,t1,t4,t7]
  refine ⟨by omega,?_⟩
  refine zam (zgi _ (by rw [List.length_drop]; omega) ?_)
  generalize zcU (s.drop i)=n at *
  by_cases c4:((n:Nat):Int)=0
  ·rw [if_pos (by omega)] at he
   have:=h1 _ _ _ _ he (by decide)
   simp only [c4,sxZ,z6,z7,z8,j4,j5,j6,j7,j8,j9,x4,x5,x6,x7,x8,x9,reduceCtorEq,↓reduceIte,List.getElem?_set,hlen,t0,t1,t4,t7]
   exact this
  ·rw [if_neg (by omega)] at he
   have:=h0 _ _ _ he
   have e2:((i:Int) + (n:Int)).toNat=i + n:=by omega
   simp only [c4,e2,sxZ,z6,z7,z8,j4,j5,j6,j7,j8,j9,x4,x5,x6,x7,x8,x9,reduceCtorEq,↓reduceIte,List.getElem?_set,hlen,t0,t1,t4,t7]
   rw [zfl]
   (and_intros <;> try omega)
   exact this
 refine zgZ (by simp only [SV.ev,t75,Option.getD_some,c3,decide_false]) ?_
 have he:zaO (s.drop i)=if (s.drop i).take (zbb (s.drop i))=[116,114,117,101] ∨ (s.drop i).take (zbb (s.drop i))=[102,97,108,115,101] ∨ (s.drop i).take (zbb (s.drop i))=[110,117,108,108] then (0,5,(s.drop i).take (zbb (s.drop i)),zbb (s.drop i)) else (130,0,[],0):=by
  conv => lhs; rw [hdc]
  rw [zaO,if_neg c1,if_neg hc,if_neg c3,← hdc]
 have hwl2:=zeY (s.drop i)
 rw [List.length_drop] at hwl2
 simp only [sxZ,z6,z7,z8,j4,j5,j6,j7,j8,j9,x4,x5,x6,x7,x8,x9,reduceCtorEq,↓reduceIte]
 subst hY1
 refine zaa fun Y1 hY1 => ?_
 simp only [sxZ,z6,z7,z8,j4,j5,j6,j7,j8,j9,x4,x5,x6,x7,x8,x9,reduceCtorEq,↓reduceIte]
 subst hY1
 refine zaa fun Y1 hY1 => ?_
 refine zaw (fun o t => o=[.box 54 [.i .i64 0,.s [],.i .i64 0]] ∧ t.length=139 ∧ t[0]? = some (.s s) ∧ t[1]? = some (.i .i64 (i:Nat)) ∧ t[4]? = some (.p 0 0) ∧ t[12]? = some (.i .i64 (zbb (s.drop i):Nat))) ?_ ?_
 ·simp only [sxZ,z6,z7,z8,j4,j5,j6,j7,j8,j9,x4,x5,x6,x7,x8,x9,reduceCtorEq,↓reduceIte]
  refine zaQ (fun n o t => ∃ k:Nat,i + k ≤ s.length ∧ n=s.length - (i + k) ∧ zbb (s.drop i)=k + zbb (s.drop (i + k)) ∧ o=[.box 54 [.i .i64 0,.s [],.i .i64 0]] ∧ t.length=139 ∧ t[0]? = some (.s s) ∧ t[1]? = some (.i .i64 (i:Nat)) ∧ t[4]? = some (.p 0 0) ∧ t[12]? = some (.i .i64 (k:Nat))) (s.length - i) ⟨0,by omega,rfl,by simp,rfl,by simp [hlen],by simp [t0],by simp [t1],by simp [t4],by simp [hlen]⟩ ?_
  rintro n _ tm ⟨k,hk,rfl,hr,rfl,hlen,t0,t1,t4,t12⟩
  have e1:((i:Int) + (k:Int)).toNat=i + k:=by omega
  by_cases hlt2:(i:Int) + (k:Int) < s.length
  ·have hlt':i + k < s.length:=by omega
   have hg2:=zaH hlt'
   have hrn:=word_at s (i + k) hlt'
   simp only [e1,hg2,hlt2,sxZ,z6,z7,z8,j4,j5,j6,j7,j8,j9,x4,x5,x6,x7,x8,x9,reduceCtorEq,↓reduceIte,List.getElem?_set,hlen,t0,t1,t4,t12]
   refine ⟨by omega,by omega,by omega,?_⟩
   refine zam (znx s[i + k] ?_)
   by_cases hd:zdi s[i + k]=true
   ·rw [if_pos hd] at hrn
    simp only [hd,sxZ,z6,z7,z8,j4,j5,j6,j7,j8,j9,x4,x5,x6,x7,x8,x9,reduceCtorEq,↓reduceIte,List.getElem?_set,hlen,t0,t1,t4,t12]
    exact ⟨by omega,s.length - (i + (k + 1)),by omega,k + 1,by omega,rfl,by rw [← Nat.add_assoc]; omega,rfl⟩
   ·rw [if_neg hd] at hrn
    simp only [Bool.not_eq_true] at hd
    simp only [hd,zbI,zab,sxZ,z6,z7,z8,j4,j5,j6,j7,j8,j9,x4,x5,x6,x7,x8,x9,reduceCtorEq,↓reduceIte,List.getElem?_set,hlen,t0,t1,t4,t12]
    rw [hr,hrn]; rfl
  ·have hie:i + k=s.length:=by omega
   have hw:zbb (s.drop (i + k))=0:=by rw [hie,List.drop_length]; rfl
   simp only [hlt2,zbI,zab,sxZ,z6,z7,z8,j4,j5,j6,j7,j8,j9,x4,x5,x6,x7,x8,x9,reduceCtorEq,↓reduceIte,List.getElem?_set,hlen,t0,t1,t4,t12]
   refine ⟨by omega,?_⟩
   rw [hr,hw]; rfl
 rintro _ tm ⟨rfl,hlen,t0,t1,t4,t12⟩
 subst hY1
 have hx:=zfl s i (zbb (s.drop i))
 generalize zbb (s.drop i)=n at *
 rw [← hx] at he
 have e2:((i:Int) + (n:Int)).toNat=i + n:=by omega
 have n1:¬ ([102,97,108,115,101]:List UInt8)=[116,114,117,101]:=by decide
 have n2:¬ ([110,117,108,108]:List UInt8)=[116,114,117,101]:=by decide
 have n3:¬ ([110,117,108,108]:List UInt8)=[102,97,108,115,101]:=by decide
 refine zaa fun Y1 hY1 => ?_
 refine zaa fun Y2 hY2 => ?_
 refine zaw (fun o t => o=[.box 54 [.i .i64 0,.s [],.i .i64 0]] ∧ t.length=139 ∧ t[1]? = some (.i .i64 (i:Nat)) ∧ t[4]? = some (.p 0 0) ∧ t[12]? = some (.i .i64 (n:Nat)) ∧ t[13]? = some (.s ((s.take (i + n)).drop i))) ?_ ?_
 ·simp only [e2,zab,sxZ,z6,z7,z8,j4,j5,j6,j7,j8,j9,x4,x5,x6,x7,x8,x9,reduceCtorEq,↓reduceIte,List.getElem?_set,hlen,t0,t1,t4,t12]
  and_intros <;> first | omega | exact iv (by omega) | rfl | assumption
 rintro _ tm ⟨rfl,hlen,t1,t4,t12,t13⟩
 subst hY2
 generalize (s.take (i + n)).drop i=x at *
 by_cases hw:x=[116,114,117,101] ∨ x=[102,97,108,115,101] ∨ x=[110,117,108,108]
 ·rw [if_pos hw] at he
  have:=h0 _ _ _ he
  rcases hw with rfl | rfl | rfl
  ·simp only [sxZ,z6,z7,z8,j4,j5,j6,j7,j8,j9,x4,x5,x6,x7,x8,x9,reduceCtorEq,↓reduceIte,List.getElem?_set,hlen,t1,t4,t12,t13]
   (and_intros <;> try omega)
   exact this
  ·simp only [n1,sxZ,z6,z7,z8,j4,j5,j6,j7,j8,j9,x4,x5,x6,x7,x8,x9,reduceCtorEq,↓reduceIte,List.getElem?_set,hlen,t1,t4,t12,t13]
   (and_intros <;> try omega)
   exact this
  ·simp only [n2,n3,sxZ,z6,z7,z8,j4,j5,j6,j7,j8,j9,x4,x5,x6,x7,x8,x9,reduceCtorEq,↓reduceIte,List.getElem?_set,hlen,t1,t4,t12,t13]
   (and_intros <;> try omega)
   exact this
 ·rw [if_neg hw] at he
  have:=h1 _ _ _ _ he (by decide)
  have d1:¬ x=[116,114,117,101]:=fun h => hw (.inl h)
  have d2:¬ x=[102,97,108,115,101]:=fun h => hw (.inr (.inl h))
  have d3:¬ x=[110,117,108,108]:=fun h => hw (.inr (.inr h))
  simp only [d1,d2,d3,sxZ,z6,z7,z8,j4,j5,j6,j7,j8,j9,x4,x5,x6,x7,x8,x9,reduceCtorEq,↓reduceIte,List.getElem?_set,hlen,t1,t4,t12,t13]
  subst hY1
  simp only [sxZ,z6,z7,z8,j4,j5,j6,j7,j8,j9,x4,x5,x6,x7,x8,x9,reduceCtorEq,↓reduceIte,List.getElem?_set,hlen,t1,t4,t12,t13]
  exact this
end
end Go.Proofs.YtadhjoggdbhkgaaGreatDoor
namespace Go.Proofs.YtadhjoggdbhkgaaGreatDoor
open Go.RowKit Sx
section
attribute [local irreducible] run
def intN (l:List UInt8):List UInt8:=if l[za8 l]? = some 48 then [48] else (l.drop (za8 l)).take (zaW (l.drop (za8 l)))
def frN (l:List UInt8) (t:Nat):List UInt8:=if l[t]? = some 46 ∧ 0 < zaW (l.drop (t + 1)) then (l.drop (t + 1)).take (zaW (l.drop (t + 1))) else []
def sgnX (l:List UInt8) (f:Nat):List UInt8:=if l[f + 1]? = some 43 then [43] else if l[f + 1]? = some 45 then [45] else []
def exN (l:List UInt8) (f:Nat):Option (UInt8 × List UInt8 × List UInt8) :=
 if (l[f]? = some 101 ∨ l[f]? = some 69) ∧ 0 < zaW (l.drop (zaZ l f)) then some (if l[f]? = some 101 then 101 else 69,sgnX l f,l.drop (zaZ l f)) else none
def zkp (l:List UInt8):NumS:=⟨decide (l[0]? = some 45),intN l,frN l (zaF l),exN l (zbJ l (zaF l))⟩
theorem znI {l:List UInt8} (h0:l ≠ []) (h:zcU l=l.length):(zkp l).Good ∧ l=(zkp l).txt:=by
 have hl:0 < l.length:=List.length_pos_iff.2 h0
 unfold zcU at h
 by_cases hr:zaW (l.drop (za8 l))=0
 ·rw [if_pos hr] at h; omega
 rw [if_neg hr] at h
 have hsg:l=sgT (decide (l[0]? = some 45)) ++ l.drop (za8 l):=by
  unfold za8 sgT
  by_cases hc:l[0]? = some 45
  ·rw [if_pos hc,if_pos (by rw [hc]; rfl)]
   conv => lhs; rw [← List.drop_zero (l:=l),zbp hc]
   rfl
  ·rw [if_neg hc,if_neg (by rw [decide_eq_false hc]; exact Bool.false_ne_true)]; simp
 have hrl:=zaV l (za8 l) (by omega)
 obtain ⟨I,hIe,hI0,hI1,hI2,hIl,hI⟩:∃ I:List UInt8,I=intN l ∧ I ≠ [] ∧ I.all zai=true ∧ (I[0]? = some 48 → I=[48]) ∧ zaF l ≤ l.length ∧ l.drop (za8 l)=I ++ l.drop (zaF l):=by
  have hd:=zew (l.drop (za8 l)) 0 (by omega)
  obtain ⟨c,hc1,hc2⟩:=hd
  rw [List.getElem?_drop,Nat.add_zero] at hc1
  have hdc:=zbp hc1
  unfold zaF
  by_cases hz:l[za8 l]? = some 48
  ·rw [if_pos hz]
   refine ⟨[48],by unfold intN; rw [if_pos hz],by simp,rfl,fun _ => rfl,?_,?_⟩
   ·have:=(List.getElem?_eq_some_iff.1 hz).1; omega
   ·exact zbp hz
  ·rw [if_neg hz]
   refine ⟨(l.drop (za8 l)).take (zaW (l.drop (za8 l))),by unfold intN; rw [if_neg hz],zgR (by omega) (zdL _),zcd _,?_,hrl,?_⟩
   ·intro h1
    exfalso
    rw [List.getElem?_take,if_pos (by omega),List.getElem?_drop,Nat.add_zero] at h1
    exact hz h1
   ·have:=zfa l (show za8 l ≤ za8 l + zaW (l.drop (za8 l)) by omega)
    rw [show za8 l + zaW (l.drop (za8 l)) - za8 l=zaW (l.drop (za8 l)) by omega] at this
    exact this
 unfold zkp
 rw [← hIe]
 clear hIe
 generalize zaF l=t at *
 obtain ⟨F,hFe,hF1,hFl,hF⟩:∃ F:List UInt8,F=frN l t ∧ F.all zai=true ∧ zbJ l t ≤ l.length ∧ l.drop t=frT F ++ l.drop (zbJ l t):=by
  unfold zbJ
  by_cases hc:l[t]? = some 46 ∧ 0 < zaW (l.drop (t + 1))
  ·rw [if_pos hc]
   have hb:=zaV l (t + 1) hc.2
   refine ⟨(l.drop (t + 1)).take (zaW (l.drop (t + 1))),by unfold frN; rw [if_pos hc],zcd _,hb,?_⟩
   have h1:=zfa l (show t + 1 ≤ t + 1 + zaW (l.drop (t + 1)) by omega)
   rw [show t + 1 + zaW (l.drop (t + 1)) - (t + 1)=zaW (l.drop (t + 1)) by omega] at h1
   have hne:=zgR hc.2 (zdL (l.drop (t + 1)))
   rw [zbp hc.1]
   generalize (l.drop (t + 1)).take (zaW (l.drop (t + 1)))=F at *
   cases F with
   | nil => exact absurd rfl hne
   | cons a F =>
    show 46 :: l.drop (t + 1)=46 :: (a :: F ++ _)
    rw [← h1]
  ·rw [if_neg hc]
   exact ⟨[],by unfold frN; rw [if_neg hc],rfl,hIl,rfl⟩
 rw [← hFe]
 clear hFe
 generalize zbJ l t=f at *
 obtain ⟨E,hEe,hE1,hE⟩:∃ E:Option (UInt8 × List UInt8 × List UInt8),E=exN l f ∧ (∀ c s d,E=some (c,s,d) → (c=101 ∨ c=69) ∧ (s=[] ∨ s=[43] ∨ s=[45]) ∧ d ≠ [] ∧ d.all zai=true) ∧ l.drop f=exT E:=by
  unfold zjC at h
  by_cases hc:(l[f]? = some 101 ∨ l[f]? = some 69) ∧ 0 < zaW (l.drop (zaZ l f))
  ·rw [if_pos hc] at h
   have hex:exN l f=some (if l[f]? = some 101 then 101 else 69,sgnX l f,l.drop (zaZ l f)):=by unfold exN; rw [if_pos hc]
   obtain ⟨c,hc1,hc2,hc3⟩:∃ c,l[f]? = some c ∧ (c=101 ∨ c=69) ∧ (if l[f]? = some 101 then 101 else 69)=c:=by
    rcases hc.1 with h1 | h1
    ·exact ⟨_,h1,.inl rfl,by rw [if_pos h1]⟩
    ·exact ⟨_,h1,.inr rfl,by rw [h1]; rfl⟩
   rw [hc3] at hex
   have hdig:l.drop (zaZ l f) ≠ [] ∧ (l.drop (zaZ l f)).all zai=true:=by
    have h1:=zcd (l.drop (zaZ l f))
    have h2:zaW (l.drop (zaZ l f))=(l.drop (zaZ l f)).length:=by rw [List.length_drop]; omega
    rw [h2,List.take_length] at h1
    refine ⟨fun e => ?_,h1⟩
    rw [e] at hc
    exact absurd hc.2 (by simp [zaW])
   rw [zbp hc1]
   unfold zaZ at hdig hc hex
   by_cases hs:l[f + 1]? = some 43 ∨ l[f + 1]? = some 45
   ·rw [if_pos hs] at hdig hex
    obtain ⟨s,hs1,hs2,hs3⟩:∃ s,l[f + 1]? = some s ∧ (s=43 ∨ s=45) ∧ sgnX l f=[s]:=by
     unfold sgnX
     rcases hs with h1 | h1
     ·exact ⟨_,h1,.inl rfl,by rw [if_pos h1]⟩
     ·exact ⟨_,h1,.inr rfl,by rw [h1]; rfl⟩
    refine ⟨some (c,[s],l.drop (f + 2)),by rw [hex,hs3],?_,?_⟩
    ·intro c' s' d' e
     injection e with e; injection e with e1 e2; injection e2 with e2 e3
     subst e1 e2 e3
     exact ⟨hc2,by rcases hs2 with rfl | rfl <;> simp,hdig.1,hdig.2⟩
    ·rw [zbp hs1]; rfl
   ·rw [if_neg hs] at hdig hex
    have hs3:sgnX l f=[]:=by
     unfold sgnX
     rw [if_neg (fun h => hs (.inl h)),if_neg (fun h => hs (.inr h))]
    refine ⟨some (c,[],l.drop (f + 1)),by rw [hex,hs3],?_,rfl⟩
    intro c' s' d' e
    injection e with e; injection e with e1 e2; injection e2 with e2 e3
    subst e1 e2 e3
    exact ⟨hc2,.inl rfl,hdig.1,hdig.2⟩
  ·rw [if_neg hc] at h
   subst h
   exact ⟨none,by unfold exN; rw [if_neg hc],fun _ _ _ e => (by cases e),by simp [exT]⟩
 rw [← hEe]
 refine ⟨⟨hI0,hI1,hI2,hF1,hE1⟩,?_⟩
 show l=sgT _ ++ (I ++ (frT F ++ exT E))
 rw [← hE,← hF,← hI,← hsg]
def za4 (l:List UInt8):Int × List UInt8:=if l=[] ∨ ¬ zcU l=l.length then (130,[]) else zgE 1099511627776 (zkp l)
theorem zha {p:NumS} (hp:p.Good):za4 p.txt=zgE 1099511627776 p:=by
 obtain ⟨h1,h2⟩:=num_txt hp
 unfold za4
 rw [if_neg (fun h => h.elim h2 (fun h => h h1))]
 obtain ⟨q1,q2⟩:=znI h2 h1
 exact congrArg _ (num_uniq hp q1 q2).symm
theorem can_cut2 (p:NumS) (h:p.txt.length ≤ 1048576):zgE 1099511627776 p=zgE 1073741824 p:=by
 have h1:=zi5 p
 have h2:=ze6 p
 have h3:=zjN (zbA p)
 unfold zgE
 by_cases hm:zbA p=[]
 ·rw [if_pos hm,if_pos hm]
 rw [if_neg hm,if_neg hm]
 by_cases he:zem 1099511627776 p.ex=zem 1073741824 p.ex
 ·have:zgw 1099511627776 p=zgw 1073741824 p:=by unfold zgw; rw [he]
  rw [this]
 ·have key:(zem 1099511627776 p.ex < -100000000 ∧ zem 1073741824 p.ex < -100000000) ∨ (100000000 < zem 1099511627776 p.ex ∧ 100000000 < zem 1073741824 p.ex):=by
   cases hx:p.ex with
   | none => rw [hx] at he; exact absurd rfl he
   | some e =>
    obtain ⟨c,s,d⟩:=e
    rw [hx] at he
    simp only [zem] at he ⊢
    by_cases hs:s=[45]
    ·rw [if_pos hs,if_pos hs] at he ⊢; left; omega
    ·rw [if_neg hs,if_neg hs] at he ⊢; right; omega
  rw [if_pos,if_pos]
  ·unfold zgw; omega
  ·unfold zgw; omega
theorem ze0:∀ (n:Nat) (l out x:List UInt8) (k m:Nat),zb4 n l out k=(0,x,m) → k < m ∧ m ≤ k + l.length ∧ x.length ≤ out.length + (m - k)
 | 0,l,out,x,k,m,h => by rw [zb4] at h; cases h
 | n + 1,[],out,x,k,m,h => by rw [zb4] at h; cases h
 | n + 1,c :: t,out,x,k,m,h => by
  rw [zb4] at h
  have hl:(c :: t).length=t.length + 1:=rfl
  split at h
  ·cases h; exact ⟨by omega,by omega,by omega⟩
  ·split at h
   ·split at h
    ·rename_i g; injection h with h _; exact absurd h g
    ·rename_i g
     have g:(zc3 (c :: t)).1=0:=by simpa using g
     obtain ⟨⟨e,y,j⟩,hE⟩:∃ r,zc3 (c :: t)=r:=⟨_,rfl⟩
     rw [hE] at h g
     simp only at g h
     subst g
     have hl2:=zhk hE
     have:=ze0 n _ _ _ _ _ h
     rw [List.length_drop,List.length_append] at this
     omega
   ·split at h
    ·cases h
    ·split at h
     ·cases h
     ·rename_i r j hd
      have hd':=za7 hd
      have:=ze0 n _ _ _ _ _ h
      rw [List.length_drop,List.length_append,List.length_take] at this
      omega
theorem znr {l:List UInt8} (h:(zaO l).1=0):(zaO l).2.2.2 ≤ l.length ∧ (¬ (zaO l).2.1=1 → 1 ≤ (zaO l).2.2.2) ∧ ((zaO l).2.1=1 → l=[]) ∧ (zaO l).2.2.1.length ≤ l.length ∧ 1 ≤ (zaO l).2.1 ∧ (zaO l).2.1 ≤ 5:=by
 cases l with
 | nil => exact ⟨by simp [zaO],fun h => absurd rfl h,fun _ => rfl,by simp [zaO],by decide,by decide⟩
 | cons c t =>
  have hl:(c :: t).length=t.length + 1:=rfl
  rw [zaO] at h ⊢
  by_cases c1:zb1 c [123,125,91,93,58,44]=true
  ·simp only [if_pos c1]
   exact ⟨by simp,fun _ => by simp,fun h => by simp at h,by simp,by decide,by decide⟩
  simp only [if_neg c1] at h ⊢
  by_cases c2:c=34
  ·simp only [if_pos c2] at h ⊢
   by_cases c3:(zb4 (t.length + 1) t [] 0).1 ≠ 0
   ·simp only [if_pos c3] at h; exact absurd h c3
   ·simp only [if_neg c3] at h ⊢
    obtain ⟨⟨e,x,m⟩,hE⟩:∃ r,zb4 (t.length + 1) t [] 0=r:=⟨_,rfl⟩
    have c3:e=0:=by rw [hE] at c3; simpa using c3
    subst c3
    have:=ze0 _ _ _ _ _ _ hE
    rw [List.length_nil] at this
    rw [hE]
    exact ⟨by show m + 1 ≤ _; omega,fun _ => by show 1 ≤ m + 1; omega,fun h => by simp at h,by show x.length ≤ _; omega,by decide,by decide⟩
  simp only [if_neg c2] at h ⊢
  by_cases c3:c=45 ∨ zai c=true
  ·simp only [if_pos c3] at h ⊢
   by_cases c4:zcU (c :: t)=0
   ·simp only [if_pos c4] at h; cases h
   ·simp only [if_neg c4] at h ⊢
    have:=zg9 (c :: t)
    exact ⟨by show zcU (c :: t) ≤ _; omega,fun _ => by show 1 ≤ zcU (c :: t); omega,fun h => by simp at h,by show (List.take _ _).length ≤ _; rw [List.length_take]; omega,by decide,by decide⟩
  simp only [if_neg c3] at h ⊢
  split at h
  ·rename_i c4
   rw [if_pos c4]
   have hw:=zeY (c :: t)
   refine ⟨hw,fun _ => ?_,fun h => by simp at h,by show (List.take _ _).length ≤ _; rw [List.length_take]; omega,by show (1:Int) ≤ 5; decide,by show (5:Int) ≤ 5; decide⟩
   show 1 ≤ zbb (c :: t)
   rcases Nat.eq_zero_or_pos (zbb (c :: t)) with h0 | h0
   ·rw [h0] at c4; simp at c4
   ·exact h0
  ·cases h
theorem zkB {s:List UInt8} {a:Int} (h0:0 ≤ a) (h:(zaB s a).2.2=0) :
  (a ≤ (zaB s a).2.1 ∧ (zaB s a).2.1 ≤ s.length ∧ ((zaB s a).1.1 ≠ 1 → a < (zaB s a).2.1) ∧ ((zaB s a).1.1=1 → (zaB s a).2.1=s.length)) ∧ (zaB s a).1.2.1.length ≤ s.length ∧ 1 ≤ (zaB s a).1.1 ∧ (zaB s a).1.1 ≤ 5 ∧ 0 ≤ (zaB s a).1.2.2 ∧ (zaB s a).1.2.2 ≤ s.length:=by
 unfold zaB at h ⊢
 by_cases c1:a < 0 ∨ (s.length:Int) < a
 ·simp only [if_pos c1] at h; cases h
 simp only [if_neg c1] at h ⊢
 obtain ⟨x,hx⟩:=Int.eq_ofNat_of_zero_le h0
 subst hx
 simp only [Int.toNat_natCast] at h ⊢
 have hw:=zd1 (s.drop x)
 rw [List.length_drop] at hw
 generalize hA:x + zaX (s.drop x)=A at *
 by_cases c2:(zaO (s.drop A)).1 ≠ 0
 ·simp only [if_pos c2] at h; exact absurd h c2
 simp only [if_neg c2]
 have c2:(zaO (s.drop A)).1=0:=by simpa using c2
 obtain ⟨r1,r2,r3,r4,r5,r6⟩:=znr c2
 rw [List.length_drop] at r1 r4
 refine ⟨⟨?_,?_,?_,?_⟩,?_,r5,r6,?_,?_⟩
 ·show (x:Int) ≤ ((A + _:Nat):Int); omega
 ·show ((A + _:Nat):Int) ≤ _; omega
 ·intro h; have:=r2 h; show (x:Int) < ((A + _:Nat):Int); omega
 ·intro h
  have h1:=r3 h
  have h2:=congrArg List.length h1
  rw [List.length_drop,List.length_nil] at h2
  show ((A + _:Nat):Int)=_; omega
 ·show (zaO (s.drop A)).2.2.1.length ≤ _; omega
 ·show (0:Int) ≤ ((A:Nat):Int); omega
 ·show ((A:Nat):Int) ≤ _; omega
theorem zn1 {s:List UInt8} {a:Int} (h0:0 ≤ a) (h:(zaB s a).2.2=0):a ≤ (zaB s a).2.1 ∧ (zaB s a).2.1 ≤ s.length ∧ ((zaB s a).1.1 ≠ 1 → a < (zaB s a).2.1) ∧ ((zaB s a).1.1=1 → (zaB s a).2.1=s.length):=(zkB h0 h).1
section
variable [Tabs Tryz.prog] [Pow Tryz.prog] {objs:List OB} {K:List OB → AV → Prop}
theorem number_e (s:List UInt8) (hs:s.length ≤ 140737488351232) (hk:K objs (.tup [.s (za4 s).2,.i .i64 (za4 s).1])):zah Tryz.prog 41 [.s s] objs K :=
 number_k s hs (fun h => by unfold za4 at hk; rw [if_pos (by simpa using h)] at hk; exact hk) (fun p hp e => by subst e; rw [zha hp] at hk; exact hk)
omit [Pow Tryz.prog] in
theorem zm3 (s:List UInt8) (hs:s.length ≤ 1048576) (hk:K objs (.tup [.s (za4 s).2,.i .i64 (za4 s).1])):zah Tryz.prog 45 [.s s] objs K :=
 zm2 s (by omega) (fun h => by unfold za4 at hk; rw [if_pos (by simpa using h)] at hk; exact hk) (fun p hp e => by subst e; rw [zha hp,can_cut2 p hs] at hk; exact hk)
end
end
end Go.Proofs.YtadhjoggdbhkgaaGreatDoor
namespace Go.Proofs.YtadhjoggdbhkgaaGreatDoor
open Go.RowKit Sx
section
attribute [local irreducible] run
inductive JV where
 | mk (k:Int) (t:List UInt8) (ks:List (List UInt8)) (its:List JV)
def jvZ:JV:=.mk 0 [] [] []
abbrev Tk:=Int × List UInt8 × Int
def tkZ:Tk:=(0,[],0)
def isP (t:Tk) (c:UInt8):Bool:=decide (t.1=2) && decide (t.2.1=[c])
def zen:List UInt8:=[116,114,117,101]
def zcR:List UInt8:=[102,97,108,115,101]
def zd0 (l:List UInt8):Int:=if l=zen then 3 else if l=zcR then 2 else 1
def vkE (t:Tk):Int :=
 if t.1=3 then 5 else if t.1=4 then 4 else if isP t 91=true then 6 else if isP t 123=true then 7 else if ¬ t.1=5 then 0 else zd0 t.2.1
structure Fr where
 obj:Bool
 ks:List (List UInt8)
 its:List JV
structure Ms where
 st:Int
 stk:List Fr
 nodes:Nat
 root:JV
def ms0:Ms:=⟨0,[],0,jvZ⟩
def zdV (σ:Ms) (v:JV):Ms:=match σ.stk with
 | [] => ⟨6,[],σ.nodes,v⟩
 | f :: r => ⟨5,⟨f.obj,f.ks,f.its ++ [v]⟩ :: r,σ.nodes,σ.root⟩
def Fr.val (f:Fr):JV:=.mk (if f.obj=true then 7 else 6) [] f.ks f.its
def zej (σ:Ms):Ms:=match σ.stk with
 | [] => σ
 | f :: r => zdV ⟨σ.st,r,σ.nodes,σ.root⟩ f.val
def zcz (σ:Ms) (o:Bool):Ms:=⟨if o=true then 3 else 1,⟨o,[],[]⟩ :: σ.stk,σ.nodes + 1,σ.root⟩
def zmy (t:Tk):Int × List UInt8:=if vkE t=4 then za4 t.2.1 else (0,if vkE t=5 then t.2.1 else [])
def zcw (σ:Ms) (t:Tk):Int × Ms :=
 if vkE t=0 then (140,σ)
 else if vkE t=6 ∨ vkE t=7 then
  (if 64 ≤ σ.stk.length then (141,σ) else if 20000 ≤ σ.nodes then (142,σ) else (0,zcz σ (decide (vkE t=7))))
 else if ¬ (zmy t).1=0 then ((zmy t).1,σ)
 else if 20000 ≤ σ.nodes then (142,σ)
 else (0,zdV ⟨σ.st,σ.stk,σ.nodes + 1,σ.root⟩ (.mk (vkE t) (zmy t).2 [] []))
def zgu (σ:Ms) (t:Tk):Bool:=match σ.stk with
 | [] => false
 | f :: _ => isP t (if f.obj=true then 125 else 93)
def keyM (σ:Ms) (t:Tk):Int × Ms:=match σ.stk with
 | [] => (140,σ)
 | f :: r => if ¬ t.1=3 then (140,σ) else if t.2.1 ∈ f.ks then (143,σ) else (0,⟨4,⟨f.obj,f.ks ++ [t.2.1],f.its⟩ :: r,σ.nodes,σ.root⟩)
def onM (σ:Ms) (t:Tk):Int × Ms:=match σ.stk with
 | [] => (140,σ)
 | f :: r => if zgu σ t=true then (0,zej σ) else if isP t 44=false then (140,σ) else (0,⟨if f.obj=true then 2 else 0,σ.stk,σ.nodes,σ.root⟩)
def zaA (σ:Ms) (t:Tk):Int × Ms :=
 if σ.st=0 then zcw σ t
 else if σ.st=1 then (if zgu σ t=true then (0,zej σ) else zcw σ t)
 else if σ.st=3 then (if zgu σ t=true then (0,zej σ) else keyM σ t)
 else if σ.st=2 then keyM σ t
 else if σ.st=4 then (if isP t 58=true then (0,⟨0,σ.stk,σ.nodes,σ.root⟩) else (140,σ))
 else if σ.st=5 then onM σ t
 else if σ.st=6 then (if t.1=1 then (0,⟨7,σ.stk,σ.nodes,σ.root⟩) else (140,σ))
 else (140,σ)
inductive MRes (s:List UInt8):Int → Ms → JV × Int × Int → Prop
 | fin {a:Int} {σ:Ms}:σ.st=7 → MRes s a σ (σ.root,a,0)
 | tok {a:Int} {σ:Ms}:¬ σ.st=7 → ¬ (zaB s a).2.2=0 → MRes s a σ (jvZ,a,(zaB s a).2.2)
 | bad {a:Int} {σ:Ms}:¬ σ.st=7 → (zaB s a).2.2=0 → ¬ (zaA σ (zaB s a).1).1=0 → MRes s a σ (jvZ,(zaB s a).1.2.2,(zaA σ (zaB s a).1).1)
 | step {a:Int} {σ:Ms} {R:JV × Int × Int}:¬ σ.st=7 → (zaB s a).2.2=0 → (zaA σ (zaB s a).1).1=0 → MRes s (zaB s a).2.1 (zaA σ (zaB s a).1).2 R → MRes s a σ R
structure Rs where
 pos:Int
 nodes:Nat
 fail:Int
 wh:Int
def zax (ρ:Rs) (a e:Int):Rs:=if ρ.fail=0 then ⟨ρ.pos,ρ.nodes,e,a⟩ else ρ
def zac (s:List UInt8) (ρ:Rs):Tk × Rs :=
 if ¬ ρ.fail=0 then (tkZ,ρ)
 else if ¬ (zaB s ρ.pos).2.2=0 then (tkZ,zax ρ ρ.pos (zaB s ρ.pos).2.2)
 else ((zaB s ρ.pos).1,⟨(zaB s ρ.pos).2.1,ρ.nodes,ρ.fail,ρ.wh⟩)
def zaC (ρ:Rs) (t:Tk) (c:UInt8):Rs:=if ρ.fail=0 ∧ isP t c=false then zax ρ t.2.2 140 else ρ
def za0 (s:List UInt8) (val:Rs → Tk → JV × Rs):Nat → Rs → Tk → List JV → List JV × Rs
 | 0,ρ,_,acc => (acc,ρ)
 | n + 1,ρ,t,acc =>
  if ¬ ρ.fail=0 then (acc,ρ) else
  let a:=val ρ t
  let b:=zac s a.2
  if isP b.1 93=true then (acc ++ [a.1],b.2) else
  let c:=zac s (zaC b.2 b.1 44)
  za0 s val n c.2 c.1 (acc ++ [a.1])
def zdw (ρ:Rs) (t:Tk) (ks:List (List UInt8)):Rs :=
 let ρ:=if ¬ t.1=3 then zax ρ t.2.2 140 else ρ
 if t.2.1 ∈ ks then zax ρ t.2.2 143 else ρ
def zaR (s:List UInt8) (val:Rs → Tk → JV × Rs):Nat → Rs → Tk → List (List UInt8) → List JV → (List (List UInt8) × List JV) × Rs
 | 0,ρ,_,ks,its => ((ks,its),ρ)
 | n + 1,ρ,t,ks,its =>
  if ¬ ρ.fail=0 then ((ks,its),ρ) else
  let a:=zac s (zdw ρ t ks)
  let b:=zac s (zaC a.2 a.1 58)
  let v:=val b.2 b.1
  let c:=zac s v.2
  if isP c.1 125=true then ((ks ++ [t.2.1],its ++ [v.1]),c.2) else
  let d:=zac s (zaC c.2 c.1 44)
  zaR s val n d.2 d.1 (ks ++ [t.2.1]) (its ++ [v.1])
def zdW (s:List UInt8) (val:Rs → Tk → JV × Rs) (ρ:Rs):JV × Rs :=
 let a:=zac s ρ
 if isP a.1 93=true then (.mk 6 [] [] [],a.2) else
 let b:=za0 s val (s.length + 2) a.2 a.1 []
 (.mk 6 [] [] b.1,b.2)
def zd6 (s:List UInt8) (val:Rs → Tk → JV × Rs) (ρ:Rs):JV × Rs :=
 let a:=zac s ρ
 if isP a.1 125=true then (.mk 7 [] [] [],a.2) else
 let b:=zaR s val (s.length + 2) a.2 a.1 [] []
 (.mk 7 [] b.1.1 b.1.2,b.2)
def zaG (ρ:Rs) (t:Tk):Rs :=
 let ρ:=if t.1=4 ∧ ¬ (za4 t.2.1).1=0 then zax ρ t.2.2 (za4 t.2.1).1 else ρ
 if 20000 < ρ.nodes + 1 then zax ⟨ρ.pos,ρ.nodes + 1,ρ.fail,ρ.wh⟩ t.2.2 142 else ⟨ρ.pos,ρ.nodes + 1,ρ.fail,ρ.wh⟩
def zau (s:List UInt8):Nat → Rs → Tk → Nat → JV × Rs
 | 0,ρ,_,_ => (jvZ,ρ)
 | f + 1,ρ,t,d =>
  if ¬ ρ.fail=0 then (jvZ,ρ)
  else if vkE t=0 then (jvZ,zax ρ t.2.2 140)
  else if t.1=2 ∧ d=64 then (jvZ,zax ρ t.2.2 141)
  else if t.1=5 then (.mk (zd0 t.2.1) [] [] [],zaG ρ t)
  else if isP t 91=true then zdW s (fun ρ t => zau s f ρ t (d + 1)) (zaG ρ t)
  else if isP t 123=true then zd6 s (fun ρ t => zau s f ρ t (d + 1)) (zaG ρ t)
  else if t.1=4 then (.mk 4 (za4 t.2.1).2 [] [],zaG ρ t)
  else (.mk 5 t.2.1 [] [],zaG ρ t)
def rs0:Rs:=⟨0,0,0,0⟩
def zbW (s:List UInt8):JV × Int × Int :=
 if 1048576 < s.length then (jvZ,0,142) else
 let a:=zac s rs0
 let v:=zau s 65 a.2 a.1 0
 let b:=zac s v.2
 let ρ:=if b.2.fail=0 ∧ ¬ b.1.1=1 then zax b.2 b.1.2.2 140 else b.2
 if ¬ ρ.fail=0 then (jvZ,ρ.wh,ρ.fail) else (v.1,s.length,0)
def zf5 (ρ ρ':Rs):Prop:=¬ ρ.fail=0 → ρ'.fail=ρ.fail ∧ ρ'.wh=ρ.wh
theorem zf5.refl (ρ:Rs):zf5 ρ ρ:=fun _ => ⟨rfl,rfl⟩
theorem zf5.trans {a b c:Rs} (h:zf5 a b) (k:zf5 b c):zf5 a c:=fun ha => by
 obtain ⟨h1,h2⟩:=h ha
 obtain ⟨k1,k2⟩:=k (by rw [h1]; exact ha)
 exact ⟨k1.trans h1,k2.trans h2⟩
theorem zlP (ρ:Rs) (a e:Int):zf5 ρ (zax ρ a e):=fun h => by unfold zax; rw [if_neg h]; exact ⟨rfl,rfl⟩
theorem zal (s:List UInt8) (ρ:Rs):zf5 ρ (zac s ρ).2:=fun h => by unfold zac; rw [if_pos h]; exact ⟨rfl,rfl⟩
theorem za2 (ρ:Rs) (t:Tk) (c:UInt8):zf5 ρ (zaC ρ t c):=by
 unfold zaC; split
 ·exact zlP _ _ _
 ·exact zf5.refl _
theorem zcc (s:List UInt8) (f:Nat) (ρ:Rs) (t:Tk) (d:Nat):zf5 ρ (zau s f ρ t d).2:=fun h => by
 cases f with
 | zero => exact ⟨rfl,rfl⟩
 | succ f => rw [zau,if_pos h]; exact ⟨rfl,rfl⟩
theorem zb7 (s:List UInt8) (val:Rs → Tk → JV × Rs) (n:Nat) (ρ:Rs) (t:Tk) (acc:List JV):zf5 ρ (za0 s val n ρ t acc).2:=fun h => by
 cases n with
 | zero => exact ⟨rfl,rfl⟩
 | succ f => rw [za0,if_pos h]; exact ⟨rfl,rfl⟩
theorem zb6 (s:List UInt8) (val:Rs → Tk → JV × Rs) (n:Nat) (ρ:Rs) (t:Tk) (ks:List (List UInt8)) (its:List JV):zf5 ρ (zaR s val n ρ t ks its).2:=fun h => by
 cases n with
 | zero => exact ⟨rfl,rfl⟩
 | succ f => rw [zaR,if_pos h]; exact ⟨rfl,rfl⟩
def AT (s:List UInt8) (t:Tk) (to:Int) (σ:Ms) (R:JV × Int × Int):Prop :=
 (¬ (zaA σ t).1=0 ∧ R=(jvZ,t.2.2,(zaA σ t).1)) ∨ ((zaA σ t).1=0 ∧ MRes s to (zaA σ t).2 R)
theorem mres_inv {s:List UInt8} {a:Int} {σ:Ms} {R:JV × Int × Int} (h:MRes s a σ R) (h7:¬ σ.st=7) :
  (¬ (zaB s a).2.2=0 ∧ R=(jvZ,a,(zaB s a).2.2)) ∨ ((zaB s a).2.2=0 ∧ AT s (zaB s a).1 (zaB s a).2.1 σ R):=by
 cases h with
 | fin h => exact absurd h h7
 | tok _ h => exact .inl ⟨h,rfl⟩
 | bad _ h1 h2 => exact .inr ⟨h1,.inl ⟨h2,rfl⟩⟩
 | step _ h1 h2 h3 => exact .inr ⟨h1,.inr ⟨h2,h3⟩⟩
def Bad (ρ:Rs) (R:JV × Int × Int):Prop:=¬ ρ.fail=0 ∧ R=(jvZ,ρ.wh,ρ.fail)
theorem Bad.froz {ρ ρ':Rs} {R:JV × Int × Int} (h:Bad ρ R) (k:zf5 ρ ρ'):Bad ρ' R:=by
 obtain ⟨k1,k2⟩:=k h.1
 exact ⟨by rw [k1]; exact h.1,by rw [k1,k2]; exact h.2⟩
theorem zbS {s:List UInt8} {ρ:Rs} {σ:Ms} {R:JV × Int × Int} (h:MRes s ρ.pos σ R) (h7:¬ σ.st=7) (hf:ρ.fail=0) (h0:0 ≤ ρ.pos) :
  (Bad (zac s ρ).2 R) ∨ ((zac s ρ).2.fail=0 ∧ (zac s ρ).2.nodes=ρ.nodes ∧ AT s (zac s ρ).1 (zac s ρ).2.pos σ R ∧ ρ.pos ≤ (zac s ρ).2.pos ∧ (zac s ρ).2.pos ≤ s.length ∧ ((zac s ρ).1.1 ≠ 1 → ρ.pos < (zac s ρ).2.pos) ∧ ((zac s ρ).1.1=1 → (zac s ρ).2.pos=s.length)):=by
 have e1:¬ ¬ ρ.fail=0:=fun h => h hf
 unfold zac
 rw [if_neg e1]
 rcases mres_inv h h7 with ⟨h1,h2⟩ | ⟨h1,h2⟩
 ·rw [if_pos h1]
  left
  unfold zax
  rw [if_pos hf]
  exact ⟨h1,h2⟩
 ·rw [if_neg (fun h => h h1)]
  have:=zn1 h0 h1
  exact .inr ⟨hf,rfl,h2,this⟩
theorem zf0 {s:List UInt8} {t:Tk} {to:Int} {σ σ':Ms} {R:JV × Int × Int} (h:AT s t to σ R) (e:zaA σ t=(0,σ')):MRes s to σ' R:=by
 unfold AT at h; rw [e] at h
 rcases h with ⟨h,_⟩ | ⟨_,h⟩
 ·exact absurd rfl h
 ·exact h
theorem zdp {s:List UInt8} {t:Tk} {to e:Int} {σ σ':Ms} {R:JV × Int × Int} (h:AT s t to σ R) (h1:zaA σ t=(e,σ')) (he:¬ e=0):R=(jvZ,t.2.2,e):=by
 unfold AT at h; rw [h1] at h
 rcases h with ⟨_,h⟩ | ⟨h,_⟩
 ·exact h
 ·exact absurd h he
theorem vk_val (t:Tk):vkE t=0 ∨ vkE t=1 ∨ vkE t=2 ∨ vkE t=3 ∨ vkE t=4 ∨ vkE t=5 ∨ vkE t=6 ∨ vkE t=7:=by
 unfold vkE zd0
 repeat' split
 all_goals simp
theorem zmu {t:Tk}:(vkE t=5 ↔ t.1=3) ∧ (vkE t=4 ↔ t.1=4) ∧ ((vkE t=1 ∨ vkE t=2 ∨ vkE t=3) ↔ t.1=5) ∧ (vkE t=6 ↔ isP t 91=true) ∧ (vkE t=7 ↔ isP t 123=true) ∧ (t.1=5 → vkE t=zd0 t.2.1):=by
 have e1:∀ c,isP t c=true ↔ t.1=2 ∧ t.2.1=[c]:=fun c => by simp [isP]
 have hw:zd0 t.2.1=1 ∨ zd0 t.2.1=2 ∨ zd0 t.2.1=3:=by
  unfold zd0
  by_cases a1:t.2.1=zen
  ·rw [if_pos a1]; exact .inr (.inr rfl)
  ·rw [if_neg a1]
   by_cases a2:t.2.1=zcR
   ·rw [if_pos a2]; exact .inr (.inl rfl)
   ·rw [if_neg a2]; exact .inl rfl
 unfold vkE
 simp only [e1]
 by_cases h3:t.1=3
 ·simp [h3]
 by_cases h4:t.1=4
 ·simp [h4]
 by_cases h6:t.1=2 ∧ t.2.1=[91]
 ·simp [h6]
 by_cases h7:t.1=2 ∧ t.2.1=[123]
 ·simp [h7]
 by_cases h5:t.1=5
 ·simp only [h5]
  rcases hw with h | h | h <;> simp [h]
 ·simp only [h3,h4,h6,h7,h5]
  simp
theorem zbT (x y:Int) (S:List Fr) (n:Nat) (r:JV) (v:JV):zdV ⟨x,S,n,r⟩ v=zdV ⟨y,S,n,r⟩ v:=by unfold zdV; cases S <;> rfl
theorem zid {ρ:Rs} {t:Tk} (hf:ρ.fail=0):(Bad (zaG ρ t) (jvZ,t.2.2,if t.1=4 ∧ ¬ (za4 t.2.1).1=0 then (za4 t.2.1).1 else 142) ∧ (t.1=4 ∧ ¬ (za4 t.2.1).1=0 ∨ 20000 ≤ ρ.nodes)) ∨ (zaG ρ t=⟨ρ.pos,ρ.nodes + 1,0,ρ.wh⟩ ∧ ¬ (t.1=4 ∧ ¬ (za4 t.2.1).1=0) ∧ ¬ 20000 ≤ ρ.nodes):=by
 unfold zaG
 by_cases h1:t.1=4 ∧ ¬ (za4 t.2.1).1=0
 ·left
  refine ⟨?_,.inl h1⟩
  simp only [if_pos h1]
  unfold zax Bad
  simp only [if_pos hf]
  by_cases h2:20000 < ρ.nodes + 1
  ·simp only [if_pos h2,if_neg h1.2]
   exact ⟨h1.2,trivial⟩
  ·simp only [if_neg h2]
   exact ⟨h1.2,trivial⟩
 ·simp only [if_neg h1]
  by_cases h2:20000 < ρ.nodes + 1
  ·left
   simp only [if_pos h2]
   unfold zax Bad
   simp only [if_pos hf]
   exact ⟨⟨by decide,trivial⟩,.inr (by omega)⟩
  ·right
   simp only [if_neg h2]
   exact ⟨by rw [hf],h1,by omega⟩
def ziV (s:List UInt8) (val:Rs → Tk → JV × Rs) (d:Nat):Prop :=
 ∀ (ρ:Rs) (t:Tk) (σ:Ms) (R:JV × Int × Int),ρ.fail=0 → 0 ≤ ρ.pos → ρ.pos ≤ s.length → σ.stk.length=d → σ.nodes=ρ.nodes → zaA σ t=zcw σ t → AT s t ρ.pos σ R →
  Bad (val ρ t).2 R ∨ ((val ρ t).2.fail=0 ∧ ρ.pos ≤ (val ρ t).2.pos ∧ (val ρ t).2.pos ≤ s.length ∧ MRes s (val ρ t).2.pos (zdV ⟨σ.st,σ.stk,(val ρ t).2.nodes,σ.root⟩ (val ρ t).1) R)
def zeJ (val:Rs → Tk → JV × Rs):Prop:=∀ ρ t,zf5 ρ (val ρ t).2
theorem zfr {ρ:Rs} {t:Tk} {c:UInt8} (hf:ρ.fail=0):(isP t c=true ∧ zaC ρ t c=ρ) ∨ (isP t c=false ∧ (zaC ρ t c).fail=140 ∧ (zaC ρ t c).wh=t.2.2):=by
 unfold zaC
 cases h:isP t c
 ·right
  refine ⟨rfl,?_⟩
  rw [if_pos ⟨hf,rfl⟩]
  unfold zax
  rw [if_pos hf]
  exact ⟨rfl,rfl⟩
 ·left
  refine ⟨rfl,?_⟩
  rw [if_neg (fun h => by cases h.2)]
theorem zcr {t:Tk} {c:UInt8} (h:isP t c=true):t.1=2 ∧ t.2.1=[c]:=by
 simpa [isP] using h
theorem zif {s:List UInt8} {val:Rs → Tk → JV × Rs} {d:Nat} (hv:ziV s val (d + 1)) (hz:zeJ val):∀ (n:Nat) (ρ:Rs) (t:Tk) (acc:List JV) (σ:Ms) (S:List Fr) (R:JV × Int × Int),
  ρ.fail=0 → 0 ≤ ρ.pos → ρ.pos ≤ s.length → s.length + 1 < n + ρ.pos → S.length=d → σ.stk=⟨false,[],acc⟩ :: S → σ.nodes=ρ.nodes → zaA σ t=zcw σ t → AT s t ρ.pos σ R →
  Bad (za0 s val n ρ t acc).2 R ∨ ((za0 s val n ρ t acc).2.fail=0 ∧ ρ.pos ≤ (za0 s val n ρ t acc).2.pos ∧ (za0 s val n ρ t acc).2.pos ≤ s.length ∧ MRes s (za0 s val n ρ t acc).2.pos (zdV ⟨σ.st,S,(za0 s val n ρ t acc).2.nodes,σ.root⟩ (.mk 6 [] [] (za0 s val n ρ t acc).1)) R)
 | 0,ρ,t,acc,σ,S,R,hf,h0,hl,hn,hS,hσ,hc,hb,hA => by omega
 | n + 1,ρ,t,acc,σ,S,R,hf,h0,hl,hn,hS,hσ,hc,hb,hA => by
  rw [za0,if_neg (fun h => h hf)]
  dsimp only
  have frz:∀ (p:JV × Rs),Bad p.2 R → Bad (if isP (zac s p.2).1 93=true then (acc ++ [p.1],(zac s p.2).2) else za0 s val n (zac s (zaC (zac s p.2).2 (zac s p.2).1 44)).2 (zac s (zaC (zac s p.2).2 (zac s p.2).1 44)).1 (acc ++ [p.1])).2 R:=by
   intro p hp
   split
   ·exact hp.froz (zal _ _)
   ·exact hp.froz ((zal _ _).trans ((za2 _ _ _).trans ((zal _ _).trans (zb7 _ _ _ _ _ _))))
  have h1:=hv ρ t σ R hf h0 hl (by rw [hσ,List.length_cons,hS]) hc hb hA
  generalize val ρ t=a at h1 ⊢
  rcases h1 with h1 | ⟨f1,p1,q1,m1⟩
  ·exact .inl (frz a h1)
  simp only [hσ,zdV] at m1
  have h2:=zbS m1 (by simp) f1 (by omega)
  generalize zac s a.2=b at h2 ⊢
  rcases h2 with h2 | ⟨f2,c2,a2,p2,q2,r2,_⟩
  ·left
   split
   ·exact h2
   ·exact h2.froz ((za2 _ _ _).trans ((zal _ _).trans (zb7 _ _ _ _ _ _)))
  by_cases hcl:isP b.1 93=true
  ·rw [if_pos hcl]
   right
   have e:zaA ⟨5,⟨false,[],acc ++ [a.1]⟩ :: S,a.2.nodes,σ.root⟩ b.1=(0,zdV ⟨5,S,a.2.nodes,σ.root⟩ (.mk 6 [] [] (acc ++ [a.1]))):=by
    simp [zaA,onM,zgu,hcl,zej,Fr.val]
   have m2:=zf0 a2 e
   refine ⟨f2,by show ρ.pos ≤ b.2.pos; omega,q2,?_⟩
   show MRes s b.2.pos (zdV ⟨σ.st,S,b.2.nodes,σ.root⟩ _) R
   rw [c2,show zdV ⟨σ.st,S,a.2.nodes,σ.root⟩ (.mk 6 [] [] (acc ++ [a.1]))=zdV ⟨5,S,a.2.nodes,σ.root⟩ (.mk 6 [] [] (acc ++ [a.1])) from zbT _ _ _ _ _ _]
   exact m2
  ·rw [if_neg hcl]
   rcases zfr (t:=b.1) (c:=44) f2 with ⟨h3,h4⟩ | ⟨h3,h4,h5⟩
   ·have e:zaA ⟨5,⟨false,[],acc ++ [a.1]⟩ :: S,a.2.nodes,σ.root⟩ b.1=(0,⟨0,⟨false,[],acc ++ [a.1]⟩ :: S,a.2.nodes,σ.root⟩):=by
     simp [zaA,onM,zgu,hcl,h3]
    have m2:=zf0 a2 e
    simp only [h4]
    have h6:=zbS m2 (by simp) f2 (by omega)
    generalize zac s b.2=c at h6 ⊢
    rcases h6 with h6 | ⟨f3,c3,a3,p3,q3,r3,_⟩
    ·exact .inl (h6.froz (zb7 _ _ _ _ _ _))
    have r2:=r2 (by rw [(zcr h3).1]; decide)
    have ih:=zif hv hz n c.2 c.1 (acc ++ [a.1]) _ S R f3 (by omega) q3 (by omega) hS rfl (c2.symm.trans c3.symm) rfl a3
    rcases ih with ih | ⟨g1,g2,g3,g4⟩
    ·exact .inl ih
    ·right
     refine ⟨g1,by omega,g3,?_⟩
     rw [zbT σ.st 0]
     exact g4
   ·have e:zaA ⟨5,⟨false,[],acc ++ [a.1]⟩ :: S,a.2.nodes,σ.root⟩ b.1=(140,⟨5,⟨false,[],acc ++ [a.1]⟩ :: S,a.2.nodes,σ.root⟩):=by
     simp [zaA,onM,zgu,hcl,h3]
    have hR:=zdp a2 e (by decide)
    left
    refine Bad.froz (ρ:=zaC b.2 b.1 44) ⟨by rw [h4]; decide,by rw [h4,h5]; exact hR⟩ ((zal _ _).trans (zb7 _ _ _ _ _ _))
theorem rkey_sim {ρ:Rs} {t:Tk} {ks:List (List UInt8)} (hf:ρ.fail=0):(t.1=3 ∧ t.2.1 ∉ ks ∧ zdw ρ t ks=ρ) ∨ (¬ t.1=3 ∧ (zdw ρ t ks).fail=140 ∧ (zdw ρ t ks).wh=t.2.2) ∨ (t.1=3 ∧ t.2.1 ∈ ks ∧ (zdw ρ t ks).fail=143 ∧ (zdw ρ t ks).wh=t.2.2):=by
 unfold zdw
 by_cases h1:t.1=3
 ·have e:¬ ¬ t.1=3:=fun h => h h1
  simp only [if_neg e]
  by_cases h2:t.2.1 ∈ ks
  ·right; right
   simp only [if_pos h2]
   unfold zax
   simp only [if_pos hf]
   exact ⟨h1,h2,trivial,trivial⟩
  ·left
   simp only [if_neg h2]
   exact ⟨h1,h2,trivial⟩
 ·right; left
  simp only [if_pos h1]
  have e2:zax ρ t.2.2 140=⟨ρ.pos,ρ.nodes,140,t.2.2⟩:=by unfold zax; rw [if_pos hf]
  rw [e2]
  by_cases h2:t.2.1 ∈ ks
  ·simp only [if_pos h2]
   unfold zax
   exact ⟨h1,rfl,rfl⟩
  ·simp only [if_neg h2]
   exact ⟨h1,trivial,trivial⟩
theorem zh5 {s:List UInt8} {val:Rs → Tk → JV × Rs} {d:Nat} (hv:ziV s val (d + 1)) (hz:zeJ val):∀ (n:Nat) (ρ:Rs) (t:Tk) (ks:List (List UInt8)) (its:List JV) (σ:Ms) (S:List Fr) (R:JV × Int × Int),
  ρ.fail=0 → 0 ≤ ρ.pos → ρ.pos ≤ s.length → s.length + 1 < n + ρ.pos → S.length=d → σ.stk=⟨true,ks,its⟩ :: S → σ.nodes=ρ.nodes → zaA σ t=keyM σ t → AT s t ρ.pos σ R →
  Bad (zaR s val n ρ t ks its).2 R ∨ ((zaR s val n ρ t ks its).2.fail=0 ∧ ρ.pos ≤ (zaR s val n ρ t ks its).2.pos ∧ (zaR s val n ρ t ks its).2.pos ≤ s.length ∧ MRes s (zaR s val n ρ t ks its).2.pos (zdV ⟨σ.st,S,(zaR s val n ρ t ks its).2.nodes,σ.root⟩ (.mk 7 [] (zaR s val n ρ t ks its).1.1 (zaR s val n ρ t ks its).1.2)) R)
 | 0,ρ,t,ks,its,σ,S,R,hf,h0,hl,hn,hS,hσ,hc,hb,hA => by omega
 | n + 1,ρ,t,ks,its,σ,S,R,hf,h0,hl,hn,hS,hσ,hc,hb,hA => by
  rw [zaR,if_neg (fun h => h hf)]
  dsimp only
  have key:zaA σ t=if ¬ t.1=3 then (140,σ) else if t.2.1 ∈ ks then (143,σ) else (0,⟨4,⟨true,ks ++ [t.2.1],its⟩ :: S,σ.nodes,σ.root⟩):=by
   rw [hb]; unfold keyM; rw [hσ]
  have last:∀ (v:JV × Rs),Bad v.2 R → Bad (if isP (zac s v.2).1 125=true then ((ks ++ [t.2.1],its ++ [v.1]),(zac s v.2).2) else zaR s val n (zac s (zaC (zac s v.2).2 (zac s v.2).1 44)).2 (zac s (zaC (zac s v.2).2 (zac s v.2).1 44)).1 (ks ++ [t.2.1]) (its ++ [v.1])).2 R:=by
   intro p hp
   split
   ·exact hp.froz (zal _ _)
   ·exact hp.froz ((zal _ _).trans ((za2 _ _ _).trans ((zal _ _).trans (zb6 _ _ _ _ _ _ _))))
  rcases rkey_sim (t:=t) (ks:=ks) hf with ⟨k1,k2,k3⟩ | ⟨k1,k2,k3⟩ | ⟨k1,k2,k3,k4⟩
  rotate_left
  ·rw [if_pos k1] at key
   have hR:=zdp hA key (by decide)
   left
   refine last _ (Bad.froz (ρ:=zdw ρ t ks) ⟨by rw [k2]; decide,by rw [k2,k3]; exact hR⟩ ?_)
   exact (zal _ _).trans ((za2 _ _ _).trans ((zal _ _).trans (hz _ _)))
  ·rw [if_neg (fun h => h k1),if_pos k2] at key
   have hR:=zdp hA key (by decide)
   left
   refine last _ (Bad.froz (ρ:=zdw ρ t ks) ⟨by rw [k3]; decide,by rw [k3,k4]; exact hR⟩ ?_)
   exact (zal _ _).trans ((za2 _ _ _).trans ((zal _ _).trans (hz _ _)))
  rw [if_neg (fun h => h k1),if_neg k2] at key
  have m0:=zf0 hA key
  rw [k3]
  have h1:=zbS m0 (by simp) hf h0
  generalize zac s ρ=a at h1 ⊢
  rcases h1 with h1 | ⟨f1,c1,a1,p1,q1,r1,_⟩
  ·exact .inl (last _ (h1.froz ((za2 _ _ _).trans ((zal _ _).trans (hz _ _)))))
  rcases zfr (t:=a.1) (c:=58) f1 with ⟨h3,h4⟩ | ⟨h3,h4,h5⟩
  rotate_left
  ·have e:zaA ⟨4,⟨true,ks ++ [t.2.1],its⟩ :: S,σ.nodes,σ.root⟩ a.1=(140,⟨4,⟨true,ks ++ [t.2.1],its⟩ :: S,σ.nodes,σ.root⟩):=by
    simp [zaA,h3]
   have hR:=zdp a1 e (by decide)
   left
   exact last _ (Bad.froz (ρ:=zaC a.2 a.1 58) ⟨by rw [h4]; decide,by rw [h4,h5]; exact hR⟩ ((zal _ _).trans (hz _ _)))
  have e:zaA ⟨4,⟨true,ks ++ [t.2.1],its⟩ :: S,σ.nodes,σ.root⟩ a.1=(0,⟨0,⟨true,ks ++ [t.2.1],its⟩ :: S,σ.nodes,σ.root⟩):=by
   simp [zaA,h3]
  have m1:=zf0 a1 e
  rw [h4]
  have h2:=zbS m1 (by simp) f1 (by omega)
  generalize zac s a.2=b at h2 ⊢
  rcases h2 with h2 | ⟨f2,c2,a2,p2,q2,_,_⟩
  ·exact .inl (last _ (h2.froz (hz _ _)))
  have hV:=hv b.2 b.1 _ R f2 (by omega) q2 (by simp [hS]) (by show σ.nodes=_; omega) rfl a2
  generalize val b.2 b.1=v at hV ⊢
  rcases hV with hV | ⟨f3,p3,q3,m3⟩
  ·exact .inl (last v hV)
  simp only [zdV] at m3
  have h6:=zbS m3 (by simp) f3 (by omega)
  generalize zac s v.2=c at h6 ⊢
  rcases h6 with h6 | ⟨f4,c4,a4,p4,q4,r4,_⟩
  ·left
   split
   ·exact h6
   ·exact h6.froz ((za2 _ _ _).trans ((zal _ _).trans (zb6 _ _ _ _ _ _ _)))
  by_cases hcl:isP c.1 125=true
  ·rw [if_pos hcl]
   right
   have e:zaA ⟨5,⟨true,ks ++ [t.2.1],its ++ [v.1]⟩ :: S,v.2.nodes,σ.root⟩ c.1=(0,zdV ⟨5,S,v.2.nodes,σ.root⟩ (.mk 7 [] (ks ++ [t.2.1]) (its ++ [v.1]))):=by
    simp [zaA,onM,zgu,hcl,zej,Fr.val]
   have m2:=zf0 a4 e
   refine ⟨f4,by show ρ.pos ≤ c.2.pos; omega,q4,?_⟩
   show MRes s c.2.pos (zdV ⟨σ.st,S,c.2.nodes,σ.root⟩ _) R
   rw [c4,zbT σ.st 5]
   exact m2
  ·rw [if_neg hcl]
   rcases zfr (t:=c.1) (c:=44) f4 with ⟨g3,g4⟩ | ⟨g3,g4,g5⟩
   ·have e:zaA ⟨5,⟨true,ks ++ [t.2.1],its ++ [v.1]⟩ :: S,v.2.nodes,σ.root⟩ c.1=(0,⟨2,⟨true,ks ++ [t.2.1],its ++ [v.1]⟩ :: S,v.2.nodes,σ.root⟩):=by
     simp [zaA,onM,zgu,hcl,g3]
    have m2:=zf0 a4 e
    simp only [g4]
    have h6:=zbS m2 (by simp) f4 (by omega)
    generalize zac s c.2=x at h6 ⊢
    rcases h6 with h6 | ⟨f5,c5,a5,p5,q5,_,_⟩
    ·exact .inl (h6.froz (zb6 _ _ _ _ _ _ _))
    have r4:=r4 (by rw [(zcr g3).1]; decide)
    have ih:=zh5 hv hz n x.2 x.1 (ks ++ [t.2.1]) (its ++ [v.1]) _ S R f5 (by omega) q5 (by omega) hS rfl (c4.symm.trans c5.symm) rfl a5
    rcases ih with ih | ⟨i1,i2,i3,i4⟩
    ·exact .inl ih
    ·right
     refine ⟨i1,by omega,i3,?_⟩
     rw [zbT σ.st 2]
     exact i4
   ·have e:zaA ⟨5,⟨true,ks ++ [t.2.1],its ++ [v.1]⟩ :: S,v.2.nodes,σ.root⟩ c.1=(140,⟨5,⟨true,ks ++ [t.2.1],its ++ [v.1]⟩ :: S,v.2.nodes,σ.root⟩):=by
     simp [zaA,onM,zgu,hcl,g3]
    have hR:=zdp a4 e (by decide)
    left
    exact Bad.froz (ρ:=zaC c.2 c.1 44) ⟨by rw [g4]; decide,by rw [g4,g5]; exact hR⟩ ((zal _ _).trans (zb6 _ _ _ _ _ _ _))
theorem rarr_sim {s:List UInt8} {val:Rs → Tk → JV × Rs} {d:Nat} (hv:ziV s val (d + 1)) (hz:zeJ val) (ρ:Rs) (σ:Ms) (R:JV × Int × Int) (hf:ρ.fail=0) (h0:0 ≤ ρ.pos) (hl:ρ.pos ≤ s.length) (hS:σ.stk.length=d)
  (hc:σ.nodes + 1=ρ.nodes) (hm:MRes s ρ.pos (zcz σ false) R) :
  Bad (zdW s val ρ).2 R ∨ ((zdW s val ρ).2.fail=0 ∧ ρ.pos ≤ (zdW s val ρ).2.pos ∧ (zdW s val ρ).2.pos ≤ s.length ∧ MRes s (zdW s val ρ).2.pos (zdV ⟨σ.st,σ.stk,(zdW s val ρ).2.nodes,σ.root⟩ (zdW s val ρ).1) R):=by
 unfold zdW
 dsimp only
 have h1:=zbS hm (by simp [zcz]) hf h0
 generalize zac s ρ=a at h1 ⊢
 rcases h1 with h1 | ⟨f1,c1,a1,p1,q1,r1,_⟩
 ·left
  split
  ·exact h1
  ·exact h1.froz (zb7 _ _ _ _ _ _)
 by_cases hcl:isP a.1 93=true
 ·rw [if_pos hcl]
  right
  have e:zaA (zcz σ false) a.1=(0,zdV ⟨1,σ.stk,σ.nodes + 1,σ.root⟩ (.mk 6 [] [] [])):=by
   simp [zaA,zcz,zgu,hcl,zej,Fr.val]
  have m2:=zf0 a1 e
  refine ⟨f1,p1,q1,?_⟩
  show MRes s a.2.pos (zdV ⟨σ.st,σ.stk,a.2.nodes,σ.root⟩ _) R
  rw [c1,← hc,zbT σ.st 1]
  exact m2
 ·rw [if_neg hcl]
  have e:zaA (zcz σ false) a.1=zcw (zcz σ false) a.1:=by
   simp [zaA,zcz,zgu,hcl]
  have hL:=zif hv hz (s.length + 2) a.2 a.1 [] (zcz σ false) σ.stk R f1 (by omega) q1 (by omega) hS rfl (by rw [c1,← hc]; rfl) e a1
  rcases hL with hL | ⟨g1,g2,g3,g4⟩
  ·exact .inl hL
  ·right
   refine ⟨g1,Int.le_trans p1 g2,g3,?_⟩
   show MRes s _ (zdV ⟨σ.st,σ.stk,_,σ.root⟩ _) R
   rw [zbT σ.st (zcz σ false).st]
   exact g4
theorem robj_sim {s:List UInt8} {val:Rs → Tk → JV × Rs} {d:Nat} (hv:ziV s val (d + 1)) (hz:zeJ val) (ρ:Rs) (σ:Ms) (R:JV × Int × Int) (hf:ρ.fail=0) (h0:0 ≤ ρ.pos) (hl:ρ.pos ≤ s.length) (hS:σ.stk.length=d)
  (hc:σ.nodes + 1=ρ.nodes) (hm:MRes s ρ.pos (zcz σ true) R) :
  Bad (zd6 s val ρ).2 R ∨ ((zd6 s val ρ).2.fail=0 ∧ ρ.pos ≤ (zd6 s val ρ).2.pos ∧ (zd6 s val ρ).2.pos ≤ s.length ∧ MRes s (zd6 s val ρ).2.pos (zdV ⟨σ.st,σ.stk,(zd6 s val ρ).2.nodes,σ.root⟩ (zd6 s val ρ).1) R):=by
 unfold zd6
 dsimp only
 have h1:=zbS hm (by simp [zcz]) hf h0
 generalize zac s ρ=a at h1 ⊢
 rcases h1 with h1 | ⟨f1,c1,a1,p1,q1,r1,_⟩
 ·left
  split
  ·exact h1
  ·exact h1.froz (zb6 _ _ _ _ _ _ _)
 by_cases hcl:isP a.1 125=true
 ·rw [if_pos hcl]
  right
  have e:zaA (zcz σ true) a.1=(0,zdV ⟨3,σ.stk,σ.nodes + 1,σ.root⟩ (.mk 7 [] [] [])):=by
   simp [zaA,zcz,zgu,hcl,zej,Fr.val]
  have m2:=zf0 a1 e
  refine ⟨f1,p1,q1,?_⟩
  show MRes s a.2.pos (zdV ⟨σ.st,σ.stk,a.2.nodes,σ.root⟩ _) R
  rw [c1,← hc,zbT σ.st 3]
  exact m2
 ·rw [if_neg hcl]
  have e:zaA (zcz σ true) a.1=keyM (zcz σ true) a.1:=by
   simp [zaA,zcz,zgu,hcl]
  have hL:=zh5 hv hz (s.length + 2) a.2 a.1 [] [] (zcz σ true) σ.stk R f1 (by omega) q1 (by omega) hS rfl (by rw [c1,← hc]; rfl) e a1
  rcases hL with hL | ⟨g1,g2,g3,g4⟩
  ·exact .inl hL
  ·right
   refine ⟨g1,Int.le_trans p1 g2,g3,?_⟩
   show MRes s _ (zdV ⟨σ.st,σ.stk,_,σ.root⟩ _) R
   rw [zbT σ.st (zcz σ true).st]
   exact g4
theorem znv (s:List UInt8) (val:Rs → Tk → JV × Rs) (ρ:Rs):zf5 ρ (zdW s val ρ).2:=by
 unfold zdW
 dsimp only
 split
 ·exact zal _ _
 ·exact (zal _ _).trans (zb7 _ _ _ _ _ _)
theorem zm0 (s:List UInt8) (val:Rs → Tk → JV × Rs) (ρ:Rs):zf5 ρ (zd6 s val ρ).2:=by
 unfold zd6
 dsimp only
 split
 ·exact zal _ _
 ·exact (zal _ _).trans (zb6 _ _ _ _ _ _ _)
theorem zeu (s:List UInt8):∀ (f d:Nat),f + d=65 → d ≤ 64 → ziV s (fun ρ t => zau s f ρ t d) d
 | 0,d,hd,hd2 => by omega
 | f + 1,d,hd,hd2 => by
  intro ρ t σ R hf h0 hl hS hc hb hA
  obtain ⟨k5,k4,kw,k6,k7,kw2⟩:=zmu (t:=t)
  have hz:zeJ (fun ρ t => zau s f ρ t (d + 1)):=fun ρ t => zcc s f ρ t (d + 1)
  dsimp only
  rw [zau,if_neg (fun h => h hf)]
  by_cases c0:vkE t=0
  ·rw [if_pos c0]
   have e:zaA σ t=(140,σ):=by rw [hb]; unfold zcw; rw [if_pos c0]
   have hR:=zdp hA e (by decide)
   left
   unfold zax; rw [if_pos hf]
   exact ⟨by simp,hR⟩
  rw [if_neg c0]
  have hv:=vk_val t
  by_cases c1:t.1=2 ∧ d=64
  ·rw [if_pos c1]
   have hk:vkE t=6 ∨ vkE t=7:=by
    have n3:¬ vkE t=5:=fun h => by have:=k5.1 h; omega
    have n4:¬ vkE t=4:=fun h => by have:=k4.1 h; omega
    have nw:¬ (vkE t=1 ∨ vkE t=2 ∨ vkE t=3):=fun h => by have:=kw.1 h; omega
    omega
   have e:zaA σ t=(141,σ):=by rw [hb]; unfold zcw; rw [if_neg c0,if_pos hk,if_pos (by omega)]
   have hR:=zdp hA e (by decide)
   left
   unfold zax; rw [if_pos hf]
   exact ⟨by simp,hR⟩
  rw [if_neg c1]
  have leaf:∀ (k:Int) (x:List UInt8),vkE t=k → ¬ (k=6 ∨ k=7) → zmy t=((if t.1=4 then (za4 t.2.1).1 else 0),x) →
    Bad (zaG ρ t) R ∨ ((zaG ρ t).fail=0 ∧ ρ.pos ≤ (zaG ρ t).pos ∧ (zaG ρ t).pos ≤ s.length ∧ MRes s (zaG ρ t).pos (zdV ⟨σ.st,σ.stk,(zaG ρ t).nodes,σ.root⟩ (.mk k x [] [])) R):=by
   intro k x hk hn hx
   have hb':=hb
   unfold zcw at hb'
   rw [if_neg c0,if_neg (by rw [hk]; exact hn),hx] at hb'
   simp only at hb'
   rcases zid (t:=t) hf with ⟨q1,q2⟩ | ⟨q1,q2,q3⟩
   ·left
    have q3:R=(jvZ,t.2.2,if t.1=4 ∧ ¬ (za4 t.2.1).1=0 then (za4 t.2.1).1 else 142):=by
     by_cases c4:t.1=4 ∧ ¬ (za4 t.2.1).1=0
     ·rw [if_pos c4]
      rw [if_pos c4.1,if_pos c4.2] at hb'
      exact zdp hA hb' c4.2
     ·rw [if_neg c4]
      have:¬ ¬ (if t.1=4 then (za4 t.2.1).1 else 0)=0:=by
       intro h
       by_cases c5:t.1=4
       ·rw [if_pos c5] at h; exact c4 ⟨c5,h⟩
       ·rw [if_neg c5] at h; exact h rfl
      rcases q2 with q2 | q2
      ·exact absurd q2 c4
      ·rw [if_neg this,if_pos (by omega)] at hb'
       exact zdp hA hb' (by decide)
    rw [q3]
    exact q1
   ·right
    have:¬ ¬ (if t.1=4 then (za4 t.2.1).1 else 0)=0:=by
     intro h
     by_cases c5:t.1=4
     ·rw [if_pos c5] at h; exact q2 ⟨c5,h⟩
     ·rw [if_neg c5] at h; exact h rfl
    rw [if_neg this,if_neg (by omega)] at hb'
    have m:=zf0 hA hb'
    rw [q1]
    refine ⟨rfl,Int.le_refl _,hl,?_⟩
    rw [← hc,← hk]
    exact m
  have open_:∀ (b:Bool),vkE t=(if b=true then 7 else 6) → Bad (zaG ρ t) R ∨ (zaG ρ t=⟨ρ.pos,ρ.nodes + 1,0,ρ.wh⟩ ∧ MRes s ρ.pos (zcz σ b) R):=by
   intro b hk
   have hk':vkE t=6 ∨ vkE t=7:=by cases b <;> simp at hk <;> simp [hk]
   have n4:¬ t.1=4:=fun h => by have:=k4.2 h; omega
   have h2:t.1=2:=by
    rcases hk' with h | h
    ·exact (zcr (k6.1 h)).1
    ·exact (zcr (k7.1 h)).1
   have hb':=hb
   unfold zcw at hb'
   rw [if_neg c0,if_pos hk',if_neg (by omega)] at hb'
   rcases zid (t:=t) hf with ⟨q1,q2⟩ | ⟨q1,q2,q3⟩
   ·left
    rcases q2 with q2 | q2
    ·exact absurd q2.1 n4
    rw [if_pos (by omega)] at hb'
    rw [if_neg (fun h => n4 h.1)] at q1
    rw [zdp hA hb' (by decide)]
    exact q1
   ·right
    rw [if_neg (by omega)] at hb'
    refine ⟨q1,?_⟩
    have m:=zf0 hA hb'
    have:decide (vkE t=7)=b:=by cases b <;> simp at hk <;> simp [hk]
    rw [this] at m
    exact m
  by_cases c5:t.1=5
  ·rw [if_pos c5]
   have hk:=kw.2 c5
   exact leaf _ _ (kw2 c5) (by rw [← kw2 c5]; omega) (by unfold zmy; rw [if_neg (by omega),if_neg (by omega),if_neg (by omega)])
  rw [if_neg c5]
  by_cases c6:isP t 91=true
  ·rw [if_pos c6]
   have hk:=k6.2 c6
   have h2:=(zcr c6).1
   rcases open_ false hk with h | ⟨h1,h3⟩
   ·exact .inl (h.froz (znv _ _ _))
   ·rw [h1]
    exact rarr_sim (zeu s f (d + 1) (by omega) (by omega)) hz ⟨ρ.pos,ρ.nodes + 1,0,ρ.wh⟩ σ R rfl h0 hl hS (by show σ.nodes + 1=ρ.nodes + 1; omega) h3
  rw [if_neg c6]
  by_cases c7:isP t 123=true
  ·rw [if_pos c7]
   have hk:=k7.2 c7
   have h2:=(zcr c7).1
   rcases open_ true hk with h | ⟨h1,h3⟩
   ·exact .inl (h.froz (zm0 _ _ _))
   ·rw [h1]
    exact robj_sim (zeu s f (d + 1) (by omega) (by omega)) hz ⟨ρ.pos,ρ.nodes + 1,0,ρ.wh⟩ σ R rfl h0 hl hS (by show σ.nodes + 1=ρ.nodes + 1; omega) h3
  rw [if_neg c7]
  by_cases c4:t.1=4
  ·rw [if_pos c4]
   have hk:=k4.2 c4
   exact leaf 4 _ hk (by omega) (by unfold zmy; rw [if_pos hk,if_pos c4])
  ·rw [if_neg c4]
   have hk:vkE t=5:=by
    have n4:¬ vkE t=4:=fun h => c4 (k4.1 h)
    have nw:¬ (vkE t=1 ∨ vkE t=2 ∨ vkE t=3):=fun h => c5 (kw.1 h)
    have n6:¬ vkE t=6:=fun h => c6 (k6.1 h)
    have n7:¬ vkE t=7:=fun h => c7 (k7.1 h)
    omega
   exact leaf 5 _ hk (by omega) (by unfold zmy; rw [if_neg (by omega),if_pos hk,if_neg c4])
theorem parse_eq {s:List UInt8} {R:JV × Int × Int} (hs:s.length ≤ 1048576) (h:MRes s 0 ms0 R):R=zbW s:=by
 unfold zbW
 rw [if_neg (by omega)]
 dsimp only
 have h1:=zbS (ρ:=rs0) h (by decide) rfl (by decide)
 generalize zac s rs0=a at h1 ⊢
 have bad:∀ (ρ:Rs) (p:JV × Rs) (b:Tk × Rs),b=zac s p.2 → Bad p.2 R → R=if ¬ (if b.2.fail=0 ∧ ¬ b.1.1=1 then zax b.2 b.1.2.2 140 else b.2).fail=0 then (jvZ,(if b.2.fail=0 ∧ ¬ b.1.1=1 then zax b.2 b.1.2.2 140 else b.2).wh,(if b.2.fail=0 ∧ ¬ b.1.1=1 then zax b.2 b.1.2.2 140 else b.2).fail) else (p.1,(s.length:Int),0):=by
  intro ρ p b hb hp
  subst hb
  have h2:=hp.froz (zal s p.2)
  have e:(if (zac s p.2).2.fail=0 ∧ ¬ (zac s p.2).1.1=1 then zax (zac s p.2).2 (zac s p.2).1.2.2 140 else (zac s p.2).2)=(zac s p.2).2:=if_neg (fun h => h2.1 h.1)
  rw [e,if_pos h2.1]
  exact h2.2
 rcases h1 with h1 | ⟨f1,c1,a1,p1,q1,_,_⟩
 ·exact bad a.2 _ _ rfl (h1.froz (zcc _ _ _ _ _))
 have h0:(0:Int) ≤ a.2.pos:=p1
 have h2:=zeu s 65 0 rfl (by omega) a.2 a.1 ms0 R f1 h0 q1 rfl (by rw [c1]; rfl) rfl a1
 dsimp only at h2
 generalize zau s 65 a.2 a.1 0=v at h2 ⊢
 rcases h2 with h2 | ⟨f2,p2,q2,m2⟩
 ·exact bad a.2 v _ rfl h2
 simp only [ms0,zdV] at m2
 have h3:=zbS m2 (by simp) f2 (by omega)
 have hb:=bad a.2 v (zac s v.2) rfl
 generalize zac s v.2=b at h3 hb ⊢
 rcases h3 with h3 | ⟨f3,c3,a3,p3,q3,r3,e3⟩
 ·have e:(if b.2.fail=0 ∧ ¬ b.1.1=1 then zax b.2 b.1.2.2 140 else b.2)=b.2:=if_neg (fun h => h3.1 h.1)
  rw [e,if_pos h3.1]
  exact h3.2
 by_cases c1:b.1.1=1
 ·have e:zaA ⟨6,[],v.2.nodes,v.1⟩ b.1=(0,⟨7,[],v.2.nodes,v.1⟩):=by simp [zaA,c1]
  have m3:=zf0 a3 e
  have e2:(if b.2.fail=0 ∧ ¬ b.1.1=1 then zax b.2 b.1.2.2 140 else b.2)=b.2:=if_neg (fun h => h.2 c1)
  rw [e2,if_neg (fun h => h f3),← e3 c1]
  cases m3 with
  | fin _ => rfl
  | tok g _ => exact absurd rfl g
  | bad g _ _ => exact absurd rfl g
  | step g _ _ _ => exact absurd rfl g
 ·have e:zaA ⟨6,[],v.2.nodes,v.1⟩ b.1=(140,⟨6,[],v.2.nodes,v.1⟩):=by simp [zaA,c1]
  have hR:=zdp a3 e (by decide)
  have e2:(if b.2.fail=0 ∧ ¬ b.1.1=1 then zax b.2 b.1.2.2 140 else b.2)=⟨b.2.pos,b.2.nodes,140,b.1.2.2⟩:=by
   rw [if_pos ⟨f3,c1⟩]; unfold zax; rw [if_pos f3]
  rw [e2,if_pos (by simp)]
  exact hR
end
end Go.Proofs.YtadhjoggdbhkgaaGreatDoor
namespace Go.Proofs.YtadhjoggdbhkgaaGreatDoor.Sx
open Go.RowKit
def zcX (b gen n:Nat) (xs:List AV):AV → AV
 | .orow b' g' => if b'=b ∧ g'=gen then .row n xs else .orow b' g'
 | x => x
def zmF (b gen n:Nat) (xs:List AV):OB → OB
 | .box T cs => .box T (cs.map (zcX b gen n xs))
 | x => x
def pubO (objs:List OB) (b gen n:Nat) (xs:List AV):List OB:=(objs.map (zmF b gen n xs)).set b .dead
def ziZ (G:Gh) (b gen:Nat):Gh:=⟨G.blk,fun x => if x=b then some (gen + 1,.slice none 0 0) else G.cur x⟩
theorem zjj {G:Gh} {b gen:Nat} {v:Value} (h:G.cur b=some (gen,v)):G.le (ziZ G b gen) where
 blk:=fun _ _ h => h
 cur:=fun x n w hx => by
  by_cases hb:x=b
  ·subst hb
   rw [h] at hx; injection hx with hx; injection hx with h1 h2
   exact ⟨gen + 1,.slice none 0 0,by simp [ziZ],.inr (by omega)⟩
  ·exact ⟨n,w,by simp [ziZ,hb,hx],.inl ⟨rfl,rfl⟩⟩
theorem zea {G:Gh} {b gen:Nat} (hb:G.blk b=none) {x g:Nat} (h:(ziZ G b gen).own x=some g):x ≠ b ∧ G.own x=some g:=by
 by_cases hx:x=b
 ·subst hx
  exfalso
  unfold Gh.own ziZ at h
  simp only [hb] at h
  simp [Value.ownBlock] at h
 ·refine ⟨hx,?_⟩
  unfold Gh.own ziZ at h
  simp only [if_neg hx] at h
  exact h
def pubI (I:Imm) (G:Gh) (b:Nat) (w:World):Imm:=fun g o v => I g o v ∨ (w.cell? ⟨g,o,none⟩=some v ∧ G.own b=some g)
theorem zpj {G:Gh} {I:Imm} {objs:List OB} {w:World} (hm:MemOk G I objs w) {b E sz gen n:Nat} {xs:List AV} (hb:objs[b]? = some (.orow E sz gen n xs)) (x:AV) (y:Value) (h:Den G I x y):Den (ziZ G b gen) (pubI I G b w) (zcX b gen n xs x) y:=by
 obtain ⟨v',vs,m1,m2,m3,m4,m5⟩:=hm.row b E sz gen n xs hb
 have hG:=zjj m1
 have hI:Imm.le I (pubI I G b w):=fun _ _ _ h => .inl h
 have other:zcX b gen n xs x=x → Den (ziZ G b gen) (pubI I G b w) (zcX b gen n xs x) y:=fun e => by rw [e]; exact Den.mono hG hI x y h
 cases x with
 | orow b' g' =>
  by_cases hh:b'=b ∧ g'=gen
  ·obtain ⟨rfl,rfl⟩:=hh
   have e:zcX b' g' n xs (.orow b' g')=.row n xs:=by simp [zcX]
   rw [e]
   simp only [Den] at h ⊢
   obtain ⟨g0,v,k1,k2,k3,_⟩:=h
   rw [k1] at m1; injection m1 with m1; injection m1 with m1 m6
   have hv:=k3 m1.symm
   subst m1 m6 hv
   have hown:=zbi m5 k1
   have q1:=zaf.mono hG hI xs vs m3
   rcases m2.2 with ⟨rfl,rfl⟩ | ⟨g,cap,cur,rfl,hx1,hx2,hx3,hx4⟩
   ·have hvs:vs=[]:=List.eq_nil_of_length_eq_zero (by simpa using m2.1)
    subst hvs
    exact ⟨none,0,[],rfl,⟨Nat.le_refl _,by intro _ e; cases e⟩,q1,by simp,by simp⟩
   ·refine ⟨some ⟨g,0,none⟩,cap,vs,rfl,⟨hx3,by rintro _ ⟨⟩ _; rfl⟩,q1,m4,fun j u hj => ⟨g,0,rfl,.inr ⟨?_,hown⟩⟩⟩
    have:=m2.cells (g:=g) rfl j u hj
    rwa [zaD] at this
  ·exact other (by simp only [zcX,if_neg hh])
 | _ => exact other rfl
theorem zhq {G:Gh} {I:Imm} {objs:List OB} {w:World} (hm:MemOk G I objs w) {b E sz gen n:Nat} {xs:List AV} (hb:objs[b]? = some (.orow E sz gen n xs)):∀ (l:List AV) (ys:List Value),zaf G I l ys → zaf (ziZ G b gen) (pubI I G b w) (l.map (zcX b gen n xs)) ys
 | [],ys,h => by simpa [zaf] using h
 | x :: l,ys,h => by
  simp only [zaf] at h
  obtain ⟨y,ys',rfl,h1,h2⟩:=h
  exact zaf.cons (zpj hm hb x y h1) (zhq hm hb l ys' h2)
theorem mem_pub {P:Program} [Tabs P] {C:Cx} {G:Gh} {I:Imm} {w:World} {objs:List OB} {b E sz gen n:Nat} {xs:List AV} (hb:objs[b]? = some (.orow E sz gen n xs)) (hin:In C G I w) (hm:MemOk G I objs w) :
  In C (ziZ G b gen) (pubI I G b w) w ∧ MemOk (ziZ G b gen) (pubI I G b w) (pubO objs b gen n xs) w:=by
 obtain ⟨v',vs,m1,m2,m3,m4,m5⟩:=hm.row b E sz gen n xs hb
 have hlt:b < objs.length:=by
  by_cases h:b < objs.length
  ·exact h
  ·rw [List.getElem?_eq_none (by omega)] at hb; cases hb
 have hG:=zjj m1
 have hI:Imm.le I (pubI I G b w):=fun _ _ _ h => .inl h
 have hin':In C (ziZ G b gen) (pubI I G b w) w:={
  os:=hin.os,tape:=hin.tape,output:=hin.output,size:=hin.size,block:=hin.block
  imm:=fun g o v h => .inl (hin.imm g o v h)
  news:=fun g o v h => by
   rcases h with h | ⟨_,h⟩
   ·exact hin.news g o v h
   ·exact .inr (hin.blk b g h)
  blk:=fun x g h => hin.blk x g (zea m5 h).2
  gh:=hin.gh.trans hG }
 have hat:∀ x o,(pubO objs b gen n xs)[x]? = some o → o=.dead ∨ (x ≠ b ∧ ∃ o',objs[x]? = some o' ∧ zmF b gen n xs o'=o):=by
  intro x o h
  unfold pubO at h
  by_cases hx:x=b
  ·subst hx
   rw [List.getElem?_set_self (by simpa using hlt)] at h
   injection h with h; exact .inl h.symm
  ·rw [List.getElem?_set_ne (Ne.symm hx),List.getElem?_map] at h
   obtain ⟨o',h1,h2⟩:=Option.map_eq_some_iff.1 h
   exact .inr ⟨hx,o',h1,h2⟩
 have hm':MemOk (ziZ G b gen) (pubI I G b w) (pubO objs b gen n xs) w:={
  imm:=fun g o v h => by
   rcases h with h | ⟨h,_⟩
   ·exact hm.imm g o v h
   ·exact h
  box:=fun x T cs h => by
   rcases hat x _ h with h | ⟨hx,o',h1,h2⟩
   ·cases h
   ·cases o' with
    | box T' cs' =>
     injection h2 with e1 e2
     subst e1 e2
     obtain ⟨g,ys,k1,k2,k3,k4⟩:=hm.box x _ _ h1
     exact ⟨g,ys,k1,k2,zhq hm hb _ _ k3,k4⟩
    | orow => cases h2
    | mp => cases h2
    | dead => cases h2
  row:=fun x E' sz' gen' n' xs' h => by
   rcases hat x _ h with h | ⟨hx,o',h1,h2⟩
   ·cases h
   ·cases o' with
    | box T' cs' => cases h2
    | orow =>
     injection h2 with e1 e2 e3 e4 e5
     subst e1 e2 e3 e4 e5
     obtain ⟨v,ys,k1,k2,k3,k4,k5⟩:=hm.row x _ _ _ _ _ h1
     exact ⟨v,ys,by simp [ziZ,hx,k1],k2,zaf.mono hG hI _ _ k3,k4,k5⟩
    | mp => cases h2
    | dead => cases h2
  map:=fun x es h => by
   rcases hat x _ h with h | ⟨hx,o',h1,h2⟩
   ·cases h
   ·cases o' with
    | box T' cs' => cases h2
    | orow => cases h2
    | mp =>
     injection h2 with e1
     subst e1
     obtain ⟨g,en,ck,k1,k2,k3⟩:=hm.map x _ h1
     exact ⟨g,en,ck,k1,k2,k3.mono hG hI⟩
    | dead => cases h2
  inj:=fun x x' g h h' => hm.inj x x' g (zea m5 h).2 (zea m5 h').2
  lt:=fun x g h => hm.lt x g (zea m5 h).2
  apart:=fun x g o v h h' => by
   obtain ⟨hx,h1⟩:=zea m5 h
   rcases h' with h' | ⟨_,h'⟩
   ·exact hm.apart x g o v h1 h'
   ·exact hx (hm.inj x b g h1 h')
  fresh:=fun x hx => by
   have hx':objs.length ≤ x:=by simpa [pubO] using hx
   obtain ⟨k1,k2⟩:=hm.fresh x hx'
   exact ⟨k1,by simp [ziZ,k2]; omega⟩ }
 exact ⟨hin',hm'⟩
end Go.Proofs.YtadhjoggdbhkgaaGreatDoor.Sx
namespace Go.Proofs.YtadhjoggdbhkgaaGreatDoor.Sx
open Go.RowKit
section
variable {P:Program} [Tabs P] {C:Cx} [On P C] {F:zaN} {objs:List OB} {tm:List AV}
end
section
variable {P:Program} [Tabs P]
end
end Go.Proofs.YtadhjoggdbhkgaaGreatDoor.Sx
namespace Go.Proofs.YtadhjoggdbhkgaaGreatDoor
open Go.RowKit Sx
section
variable [Tabs Tryz.prog] {objs:List OB} {K:List OB → AV → Prop}
end
end Go.Proofs.YtadhjoggdbhkgaaGreatDoor
namespace Go.Proofs.YtadhjoggdbhkgaaGreatDoor
open Go.RowKit Sx
section
attribute [local irreducible] run
mutual
/-- a JSON value, cell for cell -/
def zao:JV → List AV
 | .mk k t ks its => [.i .i64 k,.s t,.row ks.length (ks.map .s),.row its.length (zad its)]
def zad:List JV → List AV
 | [] => []
 | v :: l => zao v ++ zad l
end
def JV.kind:JV → Int | .mk k _ _ _ => k
def JV.text:JV → List UInt8 | .mk _ t _ _ => t
def JV.keys:JV → List (List UInt8) | .mk _ _ ks _ => ks
def JV.items:JV → List JV | .mk _ _ _ its => its
theorem zak (v:JV):zao v=[.i .i64 v.kind,.s v.text,.row v.keys.length (v.keys.map .s),.row v.items.length (zad v.items)]:=by cases v; rw [zao]; rfl
theorem zaz:zad []=[]:=by rw [zad]
theorem zaI (v:JV) (l:List JV):zad (v :: l)=zao v ++ zad l:=by rw [zad]
theorem zeB (v:JV):(zao v).length=4:=by rw [zak]; rfl
theorem zaK (l:List JV):(zad l).length=l.length * 4:=by
 induction l with
 | nil => rw [zaz]; rfl
 | cons v l ih => rw [zaI,List.length_append,zeB,ih,List.length_cons]; omega
theorem zdO (a b:List JV):zad (a ++ b)=zad a ++ zad b:=by
 induction a with
 | nil => rw [zaz]; rfl
 | cons v l ih => rw [List.cons_append,zaI,zaI,ih,List.append_assoc]
theorem zfJ:∀ {l:List JV} {i:Nat} (hi:i < l.length),((zad l).drop (i * 4)).take 4=zao l[i]
 | a :: l,0,hi => by
  rw [zaI,Nat.zero_mul,List.drop_zero]
  exact List.take_left' (zeB a)
 | a :: l,i + 1,hi => by
  rw [zaI,show (i + 1) * 4=4 + i * 4 by omega,← List.drop_drop,List.drop_left' (zeB a)]
  simpa using zfJ (l:=l) (i:=i) (by simpa using hi)
theorem zc2 (l:List (List UInt8)):zat (l.map AV.s)=true:=by
 induction l with
 | nil => rfl
 | cons a l ih => simp [zat,AV.plain,ih]
theorem zjw (a b:List AV):zat (a ++ b)=(zat a && zat b):=by
 induction a with
 | nil => simp [zat]
 | cons x a ih => simp [zat,ih,Bool.and_assoc]
mutual
theorem zba:∀ v:JV,zat (zao v)=true
 | .mk k t ks its => by
  rw [zao]
  simp only [zat,AV.plain,zc2,zcN its,Bool.and_self]
theorem zcN:∀ l:List JV,zat (zad l)=true
 | [] => by rw [zad]; rfl
 | v :: l => by rw [zad,zjw,zba v,zcN l]; rfl
end
mutual
/-- equal field by field -/
def zdK:JV → JV → Bool
 | .mk k t ks its,.mk k' t' ks' its' => decide (k=k') && (decide (t=t') && (decide (ks=ks') && zbV its its'))
def zbV:List JV → List JV → Bool
 | [],[] => true
 | v :: l,w :: m => zdK v w && zbV l m
 | _,_ => false
end
mutual
theorem zgh:∀ v,zdK v v=true
 | .mk k t ks its => by rw [zdK,zfq its]; simp
theorem zfq:∀ l,zbV l l=true
 | [] => by rw [zbV]
 | v :: l => by rw [zbV,zgh v,zfq l]; rfl
end
mutual
/-- how many values there are in a value -/
def JV.size:JV → Nat
 | .mk _ _ _ its => JV.sizes its + 1
def JV.sizes:List JV → Nat
 | [] => 0
 | v :: l => JV.size v + JV.sizes l
end
theorem zmM:∀ {l:List JV} {i:Nat} (hi:i < l.length),JV.size l[i] ≤ JV.sizes l
 | a :: l,0,hi => by rw [JV.sizes]; simp
 | a :: l,i + 1,hi => by
  rw [JV.sizes]
  have:=zmM (l:=l) (i:=i) (by simpa using hi)
  simp only [List.getElem_cons_succ]
  omega
theorem zbD {v:JV} {i:Nat} (hi:i < v.items.length):JV.size v.items[i] < JV.size v:=by
 cases v with
 | mk k t ks its =>
  have:=zmM (l:=its) (i:=i) hi
  rw [JV.size.eq_def (.mk k t ks its)]
  show JV.size its[i] < _
  simp only
  omega
def zav {α:Type} (L:List (Nat × α)) (o:List α):Prop:=(L.map (·.1)).Nodup ∧ ∀ x ∈ L,o[x.1]? = some x.2
theorem zav.get {α:Type} {L:List (Nat × α)} {o:List α} (h:zav L o) {i:Nat} {x:α} (hx:(i,x) ∈ L):o[i]? = some x:=h.2 _ hx
theorem zav.perm {α:Type} {L L':List (Nat × α)} {o:List α} (h:zav L o) (p:L.Perm L'):zav L' o :=
 ⟨(p.map _).nodup_iff.1 h.1,fun x hx => h.2 x (p.mem_iff.2 hx)⟩
theorem zav.sub {α:Type} {L L':List (Nat × α)} {o:List α} (h:zav L o) (p:L'.Sublist L):zav L' o :=
 ⟨(p.map _).nodup h.1,fun x hx => h.2 x (p.subset hx)⟩
theorem zav.set {α:Type} {A B:List (Nat × α)} {o:List α} {i:Nat} {x:α} (y:α) (h:zav (A ++ (i,x) :: B) o):zav (A ++ (i,y) :: B) (o.set i y):=by
 obtain ⟨h1,h2⟩:=h
 simp only [List.map_append,List.map_cons] at h1
 have hi:o[i]? = some x:=h2 (i,x) (by simp)
 have hlt:=(List.getElem?_eq_some_iff.1 hi).1
 have hne:∀ z ∈ A ++ B,z.1 ≠ i:=by
  intro z hz e
  rw [List.nodup_append] at h1
  obtain ⟨n1,n2,n3⟩:=h1
  rcases List.mem_append.1 hz with hz | hz
  ·exact n3 z.1 (List.mem_map_of_mem hz) i (by simp) e
  ·rw [List.nodup_cons] at n2
   exact n2.1 (e ▸ List.mem_map_of_mem hz)
 refine ⟨by simpa only [List.map_append,List.map_cons] using h1,fun z hz => ?_⟩
 rcases List.mem_append.1 hz with hz | hz
 ·rw [List.getElem?_set_ne (hne z (List.mem_append_left _ hz)).symm]
  exact h2 z (List.mem_append_left _ hz)
 ·rcases List.mem_cons.1 hz with rfl | hz
  ·exact List.getElem?_set_self hlt
  ·rw [List.getElem?_set_ne (hne z (List.mem_append_right _ hz)).symm]
   exact h2 z (List.mem_append_right _ (List.mem_cons_of_mem _ hz))
theorem zav.lt {α:Type} {L:List (Nat × α)} {o:List α} (h:zav L o) {i:Nat} {x:α} (hx:(i,x) ∈ L):i < o.length:=(List.getElem?_eq_some_iff.1 (h.get hx)).1
theorem zav.app {α:Type} {L:List (Nat × α)} {o:List α} (h:zav L o) (more:List α):zav L (o ++ more) :=
 ⟨h.1,fun x hx => by rw [List.getElem?_append_left (h.lt (i:=x.1) (x:=x.2) hx)]; exact h.2 x hx⟩
theorem zav.new {α:Type} {L:List (Nat × α)} {o:List α} (h:zav L o) (x:α):zav ((o.length,x) :: L) (o ++ [x]):=by
 refine ⟨?_,fun z hz => ?_⟩
 ·rw [List.map_cons,List.nodup_cons]
  refine ⟨fun hm => ?_,h.1⟩
  obtain ⟨z,hz,e⟩:=List.mem_map.1 hm
  have:=h.lt (i:=z.1) (x:=z.2) hz
  simp only at e
  omega
 ·rcases List.mem_cons.1 hz with rfl | hz
  ·simp
  ·exact (h.app [x]).2 z hz
theorem zav.mapset {α:Type} {L:List (Nat × α)} {o:List α} {b:Nat} {x d:α} (f:α → α) (h:zav ((b,x) :: L) o) (hf:∀ z ∈ L,f z.2=z.2):zav L ((o.map f).set b d):=by
 obtain ⟨h1,h2⟩:=h
 rw [List.map_cons,List.nodup_cons] at h1
 refine ⟨h1.2,fun z hz => ?_⟩
 have hne:¬ b=z.1:=fun e => h1.1 (by show b ∈ _; rw [e]; exact List.mem_map_of_mem hz)
 rw [List.getElem?_set_ne hne,List.getElem?_map,h2 z (List.mem_cons_of_mem _ hz),Option.map_some,hf z hz]
theorem zhc {G:Gh} {I:Imm} {y:Value} (h:Den G I .nil y):Den G I (.row 0 []) y:=by
 simp only [Den] at h ⊢
 exact ⟨none,0,[],h,⟨Nat.le_refl _,fun ad h => by cases h⟩,zaf.nil,by simp,by simp⟩
def subD (b gen n:Nat) (xs:List AV):AV → AV
 | .agg cs => .agg (cs.map (zcX b gen n xs))
 | x => zcX b gen n xs x
theorem den_subD {G:Gh} {I:Imm} {objs:List OB} {w:World} (hm:MemOk G I objs w) {b E sz gen n:Nat} {xs:List AV} (hb:objs[b]? = some (.orow E sz gen n xs)) (x:AV) (y:Value) (h:Den G I x y):Den (ziZ G b gen) (pubI I G b w) (subD b gen n xs x) y:=by
 cases x with
 | agg cs =>
  simp only [Den,subD] at h ⊢
  obtain ⟨ys,h1,h2,h3⟩:=h
  exact ⟨ys,h1,zhq hm hb _ _ h2,h3⟩
 | _ => exact zpj hm hb _ _ h
theorem zmE {b gen n:Nat} {xs:List AV} {x:AV} (h:x.plain=true):zcX b gen n xs x=x:=by
 cases x <;> first | rfl | (simp [AV.plain] at h)
end
end Go.Proofs.YtadhjoggdbhkgaaGreatDoor
namespace Go.Proofs.YtadhjoggdbhkgaaGreatDoor.Sx
open Go.RowKit Go.WideShapes Go.ChangeShapes Go.ChangeAt
inductive TT where
 | s
 | b
 | i (k:IntKind)
 | st (ts:List TT)
 | sl (t:TT)
 | rv
inductive RV where
 | mk (k:Int) (t:List UInt8) (ks:List (List UInt8)) (its:List RV)
mutual
def zdd:RV → List AV
 | .mk k t ks its => [.i .i64 k,.s t,.row ks.length (ks.map .s),.row its.length (zdc its)]
def zdc:List RV → List AV
 | [] => []
 | v :: l => zdd v ++ zdc l
end
mutual
def RVok:RV → Prop
 | .mk k t ks its => (Lit.int .i64 k).wf=true ∧ t.length ≤ 140737488351232 ∧ ks.length ≤ 140737488351232 ∧ (∀ k ∈ ks,k.length ≤ 140737488351232) ∧ its.length ≤ 140737488351232 ∧ zjK its
def zjK:List RV → Prop
 | [] => True
 | v :: l => RVok v ∧ zjK l
end
mutual
def ShT:TT → List AV → Prop
 | .s,xs => ∃ l:List UInt8,xs=[.s l] ∧ l.length ≤ 140737488351232
 | .b,xs => ∃ b,xs=[.b b]
 | .i k,xs => ∃ n,xs=[.i k n] ∧ (Lit.int k n).wf=true
 | .st ts,xs => ShTs ts xs
 | .sl t,xs => ∃ gs:List (List AV),xs=[.row gs.length gs.flatten] ∧ gs.length ≤ 140737488351232 ∧ ∀ g ∈ gs,ShT t g
 | .rv,xs => ∃ r:RV,xs=zdd r ∧ RVok r
def ShTs:List TT → List AV → Prop
 | [],xs => xs=[]
 | t :: ts,xs => ∃ a b,xs=a ++ b ∧ ShT t a ∧ ShTs ts b
end
def ShA:TT → AV → Prop
 | .st ts,x => ∃ cs,x=.agg cs ∧ ShTs ts cs
 | .rv,x => ∃ r:RV,x=.agg (zdd r) ∧ RVok r
 | t,x => ShT t [x]
def ShAs:List TT → List AV → Prop
 | [],xs => xs=[]
 | t :: ts,xs => ∃ x ys,xs=x :: ys ∧ ShA t x ∧ ShAs ts ys
def trTs (P:Program) (rc:TypeId → Option TT):Nat → List Field → Option (List TT)
 | o,[] => some []
 | o,f :: fs => match rc f.type,trTs P rc (o + P.cellsOf f.type) fs with
  | some t,some ts => if f.offset=o then some (t :: ts) else none
  | _,_ => none
def zfY (P:Program):List Field → Nat
 | [] => 0
 | f :: fs => P.cellsOf f.type + zfY P fs
def isRV (P:Program) (t:TypeId):List Field → Bool
 | [a,b,c,d] => (a.offset == 0 && b.offset == 1 && c.offset == 2 && d.offset == 3) && (P.cellsOf t == 4 && P.cellsOf a.type == 1 && P.cellsOf b.type == 1 && P.cellsOf c.type == 1 && P.cellsOf d.type == 1) && decide (0 < P.bytesOf t) && (match P.underlying a.type,P.underlying b.type,P.underlying c.type,P.underlying d.type with
  | some (.int .i64),some .string,some (.slice e),some (.slice f) => f == t && P.cellsOf e == 1 && decide (0 < P.bytesOf e) && (match P.underlying e with | some .string => true | _ => false)
  | _,_,_,_ => false)
 | _ => false
def trT (P:Program):Nat → TypeId → Option TT
 | 0,_ => none
 | d + 1,t => match P.underlying t with
  | some .string => some .s
  | some .bool => some .b
  | some (.int k) => some (.i k)
  | some (.struct fs) => if isRV P t fs.toList=true then some .rv else if P.cellsOf t=zfY P fs.toList then (trTs P (trT P d) 0 fs.toList).map .st else none
  | some (.slice e) => if 0 < P.cellsOf e ∧ 0 < P.bytesOf e then (trT P d e).map .sl else none
  | _ => none
theorem zc9 {H:Type} {P:Program} {e:TypeId}:∀ {ds:List (DataW H)} {d:DataW H},d ∈ ds → ∀ n ∈ d.weights P e,n ∈ DataW.weightsAll P e ds
 | [],d,hd,n,hn => by cases hd
 | d0 :: ds,d,hd,n,hn => by
  simp only [DataW.weightsAll,List.mem_append]
  rcases List.mem_cons.1 hd with rfl | hd
  ·exact .inl hn
  ·exact .inr (zc9 hd n hn)
theorem zj5 {w:World} {G:Gh} {I:Imm} {t:TT} (a:Addr) (c:Nat) (hI:∀ g o v,w.cell? ⟨g,o,none⟩=some v → I g o v):∀ k:Nat,
  (∀ i,i < k → ∃ (g:List AV) (ys:List Value),ys.length=c ∧ (∀ j,j < c → w.cell? ((a.add (i * c)).add j)=ys[j]?) ∧ zaf G I g ys ∧ ShT t g ∧ ∀ u ∈ ys,u.oneCell'=true) →
  ∃ (gs:List (List AV)) (ys:List Value),gs.length=k ∧ ys.length=k * c ∧ zaf G I gs.flatten ys ∧ (∀ g ∈ gs,ShT t g) ∧ (∀ u ∈ ys,u.oneCell'=true) ∧ ∀ j,j < k * c → w.cell? (a.add j)=ys[j]?
 | 0,_ => ⟨[],[],rfl,by simp,zaf.nil,by simp,by simp,fun j hj => by simp at hj⟩
 | k + 1,h => by
  obtain ⟨gs,ys,h1,h2,h3,h4,h5,h6⟩:=zj5 a c hI k (fun i hi => h i (by omega))
  obtain ⟨g,zs,k1,k2,k3,k4,k5⟩:=h k (by omega)
  have hm:(k + 1) * c=k * c + c:=Nat.succ_mul k c
  refine ⟨gs ++ [g],ys ++ zs,by simp [h1],by rw [List.length_append,h2,k1,hm],?_,?_,?_,?_⟩
  ·rw [List.flatten_append,List.flatten_cons,List.flatten_nil,List.append_nil]
   exact zaf.append h3 k3
  ·intro x hx
   rcases List.mem_append.1 hx with hx | hx
   ·exact h4 x hx
   ·rw [List.mem_singleton] at hx; subst hx; exact k4
  ·intro u hu
   rcases List.mem_append.1 hu with hu | hu
   ·exact h5 u hu
   ·exact k5 u hu
  ·intro j hj
   by_cases hjk:j < k * c
   ·rw [h6 j hjk,List.getElem?_append_left (by omega)]
   ·have:=k2 (j - k * c) (by omega)
    rw [Addr.add_add,show k * c + (j - k * c)=j by omega] at this
    rw [this,List.getElem?_append_right (by omega),h2]
theorem add_flat {a:Addr} {j:Nat} (ha:a.spot=none):a.add j=⟨a.block,a.off + j,none⟩:=by
 cases a
 simp only at ha
 subst ha
 unfold Addr.add
 split
 ·rename_i h; subst h; rfl
 ·rfl
section
variable {H:Type} {enc:TypeId × Value → H} {P:Program} {w:World} {base:Nat} {spare:Nat → Bool} {held:Bool} {G:Gh} {I:Imm}
theorem zgo (d:Nat) (ih:∀ (t:TypeId) (tt:TT) (fuel:Nat) (cs:List Value) (x:DataW H × List MemPlace),trT P d t=some tt → DataW.trod enc P w base spare held fuel t cs=some x → (∀ n ∈ x.1.weights P t,n ≤ reachBytes) → ∃ xs,zaf G I xs cs ∧ ShT tt xs ∧ ∀ u ∈ cs,u.oneCell'=true) (n:Nat) :
  ∀ (fs:List Field) (ts:List TT) (o:Nat) (cs:List Value),trTs P (trT P d) o fs=some ts → cs.length=o + zfY P fs → (∀ f ∈ fs,∃ x,DataW.trod enc P w base spare held n f.type ((cs.drop f.offset).take (P.cellsOf f.type))=some x ∧ ∀ m ∈ x.1.weights P f.type,m ≤ reachBytes) →
   ∃ xs,zaf G I xs (cs.drop o) ∧ ShTs ts xs ∧ ∀ u ∈ cs.drop o,u.oneCell'=true
 | [],ts,o,cs,ht,hl,hf => by
  simp only [trTs,Option.some.injEq] at ht; subst ht
  have:cs.drop o=[]:=List.drop_eq_nil_of_le (by simp [zfY] at hl; omega)
  rw [this]
  exact ⟨[],zaf.nil,rfl,by simp⟩
 | f :: fs,ts,o,cs,ht,hl,hf => by
  simp only [trTs] at ht
  split at ht
  ·rename_i t ts' h1 h2
   split at ht
   ·rename_i ho
    injection ht with ht; subst ht
    obtain ⟨x,hx,hxw⟩:=hf f (List.mem_cons_self ..)
    rw [ho] at hx
    obtain ⟨xs,k1,k2,k3⟩:=ih _ _ _ _ _ h1 hx hxw
    simp only [zfY] at hl
    obtain ⟨ys,m1,m2,m3⟩:=zgo d ih n fs ts' (o + P.cellsOf f.type) cs h2 (by omega) (fun f' hf' => hf f' (List.mem_cons_of_mem _ hf'))
    have e:cs.drop o=(cs.drop o).take (P.cellsOf f.type) ++ cs.drop (o + P.cellsOf f.type):=by
     rw [← List.drop_drop,List.take_append_drop]
    refine ⟨xs ++ ys,?_,?_,?_⟩
    ·rw [e]; exact zaf.append k1 m1
    ·exact ⟨xs,ys,rfl,k2,m2⟩
    ·rw [e]; intro u hu
     rcases List.mem_append.1 hu with hu | hu
     ·exact k3 u hu
     ·exact m3 u hu
   ·cases ht
  ·cases ht
theorem zey (hI:∀ g o v,w.cell? ⟨g,o,none⟩=some v → I g o v) (hspa:∀ b,spare b=true) {t e:TypeId} {te:TT} {fuel:Nat} {cs:List Value} {x:DataW H × List MemPlace} (hu:P.underlying t=some (.slice e)) (hc:0 < P.cellsOf e ∧ 0 < P.bytesOf e)
  (ih:∀ (n:Nat) (ys:List Value) (x:DataW H × List MemPlace),n < fuel → DataW.trod enc P w base spare held n e ys=some x → (∀ n ∈ x.1.weights P e,n ≤ reachBytes) → ∃ g,zaf G I g ys ∧ ShT te g ∧ ∀ u ∈ ys,u.oneCell'=true)
  (h:DataW.trod enc P w base spare held fuel t cs=some x) (hwt:∀ n ∈ x.1.weights P t,n ≤ reachBytes):∃ xs,zaf G I xs cs ∧ ShT (.sl te) xs ∧ ∀ u ∈ cs,u.oneCell'=true:=by
 rcases DataW.trod_slice hu h with ⟨rfl,rfl⟩ | ⟨a,len,cap,elems,rest,n,hfu,rfl,rfl,hb,hl,hm,hlen,hel,hsr,_⟩
 ·exact ⟨[.row 0 []],zaf.cons (by simp only [Den]; exact ⟨none,0,[],rfl,⟨Nat.le_refl _,fun ad h => by cases h⟩,zaf.nil,by simp,by simp⟩) zaf.nil,⟨[],rfl,by simp,by simp⟩,by simp; rfl⟩
 ·have hw2:(elems.length + rest.length) * P.bytesOf e ≤ reachBytes:=by
   have:=hwt ((elems.map (·.1)).length + (rest.map (·.1)).length |> (· * P.bytesOf e)) (by simp [DataW.weights,hu])
   simpa using this
  have hel2:elems.length ≤ 140737488351232:=by
   have h1:elems.length * 1 ≤ (elems.length + rest.length) * P.bytesOf e:=Nat.mul_le_mul (by omega) hc.2
   have:reachBytes=140737488351232:=rfl
   omega
  have hel3:∀ i,i < len → ∃ (g:List AV) (ys:List Value),ys.length=P.cellsOf e ∧ (∀ j,j < P.cellsOf e → w.cell? ((a.add (i * P.cellsOf e)).add j)=ys[j]?) ∧ zaf G I g ys ∧ ShT te g ∧ ∀ u ∈ ys,u.oneCell'=true:=by
   intro i hi
   have h1:=hel i hi
   have hil:i < elems.length:=by omega
   rw [List.getElem?_eq_getElem hil,Option.bind_eq_some_iff] at h1
   obtain ⟨ys,y1,y2⟩:=h1
   obtain ⟨_,z1,z2⟩:=World.cells?_some y1
   obtain ⟨g,g1,g2,g3⟩:=ih n ys _ (by omega) y2 (fun m hm => hwt m (by
    simp only [DataW.weights,hu,List.mem_cons,List.mem_append]
    exact .inr (.inl (zc9 (List.mem_map.2 ⟨_,List.getElem_mem hil,rfl⟩) m hm))))
   exact ⟨g,ys,z1,z2,g1,g2,g3⟩
  obtain ⟨gs,ys,k1,k2,k3,k4,k5,k6⟩:=zj5 (G:=G) a (P.cellsOf e) hI len hel3
  have hsp0:cap ≠ 0 → a.spot=none:=by
   intro hcap
   by_cases hl0:0 < len
   ·have hp:0 < len * P.cellsOf e:=Nat.mul_pos hl0 hc.1
    have h2:=k6 0 hp
    rw [List.getElem?_eq_getElem (by omega)] at h2
    have:=World.cell?_spot h2
    simpa [Addr.add] using this
   ·have hr:=(hsr (hspa _)).2 0 (by omega)
    have hrl:=(hsr (hspa _)).1
    rw [List.getElem?_eq_getElem (by omega),Option.bind_eq_some_iff] at hr
    obtain ⟨zs,y1,_⟩:=hr
    obtain ⟨_,z1,z2⟩:=World.cells?_some y1
    have h2:=z2 0 hc.1
    rw [List.getElem?_eq_getElem (by omega)] at h2
    have:=World.cell?_spot h2
    have hl1:len=0:=by omega
    subst hl1
    simpa [Addr.add] using this
  refine ⟨[.row gs.length gs.flatten],zaf.cons ?_ zaf.nil,⟨gs,rfl,by omega,k4⟩,by simp; rfl⟩
  simp only [Den]
  refine ⟨some a,cap,ys,by rw [k1],⟨by omega,fun ad h hc0 => by injection h with h; subst h; exact hsp0 hc0⟩,k3,k5,fun j u hj => ?_⟩
  have hjl:=(List.getElem?_eq_some_iff.1 hj).1
  have hlp:len ≠ 0:=by rintro rfl; rw [k2,Nat.zero_mul] at hjl; omega
  have hs:=hsp0 (by omega)
  refine ⟨a.block,a.off,by cases a; simp only at hs; subst hs; rfl,hI _ _ _ ?_⟩
  have h2:=k6 j (k2 ▸ hjl)
  rw [add_flat hs] at h2
  rw [h2,hj]
theorem isRV_of {t:TypeId} {fs:List Field} (h:isRV P t fs=true):∃ a b c d e,fs=[a,b,c,d] ∧ (a.offset=0 ∧ b.offset=1 ∧ c.offset=2 ∧ d.offset=3) ∧ (P.cellsOf t=4 ∧ P.cellsOf a.type=1 ∧ P.cellsOf b.type=1 ∧ P.cellsOf c.type=1 ∧ P.cellsOf d.type=1) ∧ 0 < P.bytesOf t ∧
  P.underlying a.type=some (.int .i64) ∧ P.underlying b.type=some .string ∧ P.underlying c.type=some (.slice e) ∧ P.underlying d.type=some (.slice t) ∧ P.cellsOf e=1 ∧ 0 < P.bytesOf e ∧ P.underlying e=some .string:=by
 unfold isRV at h
 split at h
 ·rename_i a b c d
  simp only [Bool.and_eq_true,beq_iff_eq,decide_eq_true_eq] at h
  obtain ⟨⟨⟨h1,h2⟩,h3⟩,h4⟩:=h
  split at h4
  ·rename_i e f u1 u2 u3 u4
   simp only [Bool.and_eq_true,beq_iff_eq,decide_eq_true_eq] at h4
   obtain ⟨⟨⟨k1,k2⟩,k3⟩,k4⟩:=h4
   subst k1
   split at k4
   ·rename_i u5
    exact ⟨a,b,c,d,e,rfl,⟨h1.1.1.1,h1.1.1.2,h1.1.2,h1.2⟩,⟨h2.1.1.1.1,h2.1.1.1.2,h2.1.1.2,h2.1.2,h2.2⟩,h3,u1,u2,u3,u4,k2,k3,u5⟩
   ·cases k4
  ·cases h4
 ·cases h
theorem zmP:∀ gs:List (List AV),(∀ g ∈ gs,ShT .s g) → ∃ ks:List (List UInt8),gs.flatten=ks.map .s ∧ ks.length=gs.length ∧ ∀ k ∈ ks,k.length ≤ 140737488351232
 | [],_ => ⟨[],rfl,rfl,by simp⟩
 | g :: gs,h => by
  obtain ⟨ks,h1,h2,h3⟩:=zmP gs (fun g hg => h g (List.mem_cons_of_mem _ hg))
  obtain ⟨l,hl,hl2⟩:=h g (List.mem_cons_self ..)
  refine ⟨l :: ks,by rw [List.flatten_cons,hl,h1]; rfl,by simp [h2],fun k hk => ?_⟩
  rcases List.mem_cons.1 hk with rfl | hk
  ·exact hl2
  ·exact h3 k hk
theorem zj4:∀ gs:List (List AV),(∀ g ∈ gs,ShT .rv g) → ∃ rs:List RV,gs.flatten=zdc rs ∧ rs.length=gs.length ∧ zjK rs
 | [],_ => ⟨[],by rw [zdc]; rfl,rfl,by rw [zjK]; trivial⟩
 | g :: gs,h => by
  obtain ⟨rs,h1,h2,h3⟩:=zj4 gs (fun g hg => h g (List.mem_cons_of_mem _ hg))
  obtain ⟨r,hr,hr2⟩:=h g (List.mem_cons_self ..)
  exact ⟨r :: rs,by rw [List.flatten_cons,hr,h1,zdc],by simp [h2],by rw [zjK]; exact ⟨hr2,h3⟩⟩
theorem open_rv (hI:∀ g o v,w.cell? ⟨g,o,none⟩=some v → I g o v) (hspa:∀ b,spare b=true) {t:TypeId} {fs:Array Field} (hu:P.underlying t=some (.struct fs)) (hrv:isRV P t fs.toList=true):∀ (m fuel:Nat) (cs:List Value) (x:DataW H × List MemPlace),fuel < m → DataW.trod enc P w base spare held fuel t cs=some x → (∀ n ∈ x.1.weights P t,n ≤ reachBytes) → ∃ xs,zaf G I xs cs ∧ ShT .rv xs ∧ ∀ u ∈ cs,u.oneCell'=true:=by
 intro m
 induction m with
 | zero => intro fuel cs x hm; omega
 | succ m ih =>
  intro fuel cs x hm h hwt
  obtain ⟨a,b,c,d,e,hfs,⟨o1,o2,o3,o4⟩,⟨c0,c1,c2,c3,c4⟩,hb,u1,u2,u3,u4,e1,e2,e3⟩:=isRV_of hrv
  obtain ⟨xs,n,hfu,rfl,hlen,hxl,hf⟩:=DataW.trod_struct hu h
  have hsz:fs.size=4:=by rw [← Array.length_toList,hfs]; rfl
  have gf:∀ j,fs[j]? = [a,b,c,d][j]?:=fun j => by rw [← hfs,Array.getElem?_toList]
  have hall:∀ (j:Nat) (f:Field),[a,b,c,d][j]? = some f → ∃ x,DataW.trod enc P w base spare held n f.type ((cs.drop f.offset).take (P.cellsOf f.type))=some x ∧ ∀ m ∈ x.1.weights P f.type,m ≤ reachBytes:=by
   intro j f hj
   have h1:=hf j f (by rw [gf]; exact hj)
   have hjl:j < xs.length:=by
    rw [hxl,hsz]
    exact (List.getElem?_eq_some_iff.1 hj).1
   rw [List.getElem?_eq_getElem hjl] at h1
   refine ⟨_,h1,fun m hm => hwt m ?_⟩
   have hj2:(fs.toList.map (·.type))[j]? = some f.type:=by rw [List.getElem?_map,hfs,hj]; rfl
   have:=DataW.weights_mem_each hj2 (show (xs.map (·.1))[j]? = some xs[j].1 by rw [List.getElem?_map,List.getElem?_eq_getElem hjl]; rfl) m hm
   simpa [DataW.weights,hu] using this
  obtain ⟨xa,ha,wa⟩:=hall 0 a rfl
  obtain ⟨xb,hb',wb⟩:=hall 1 b rfl
  obtain ⟨xc,hc',wc⟩:=hall 2 c rfl
  obtain ⟨xd,hd',wd⟩:=hall 3 d rfl
  rw [o1,c1] at ha
  rw [o2,c2] at hb'
  rw [o3,c3] at hc'
  rw [o4,c4] at hd'
  rw [c0] at hlen
  obtain ⟨v0,v1,v2,v3,rfl⟩:∃ v0 v1 v2 v3,cs=[v0,v1,v2,v3]:=by
   match cs,hlen with
   | [v0,v1,v2,v3],_ => exact ⟨v0,v1,v2,v3,rfl⟩
  simp only [List.drop_zero,List.drop_succ_cons,List.take_succ_cons,List.take_zero] at ha hb' hc' hd'
  obtain ⟨i0,r0,_,w0⟩:=DataW.trod_int u1 ha
  injection r0 with r0 _
  obtain ⟨s0,r1,rx1,_⟩:=DataW.trod_string u2 hb'
  injection r1 with r1 _
  subst r0 r1
  obtain ⟨ys2,d2,⟨g2,q2,l2,m2⟩,oc2⟩:=zey (te:=.s) (G:=G) (I:=I) hI hspa u3 ⟨by omega,e2⟩ (fun n' ys y hn' hy hyw => by
   obtain ⟨s,rfl,rfl,hs⟩:=DataW.trod_string e3 hy
   exact ⟨[.s s.data.toList],zaf.cons (by simp [Den]) zaf.nil,⟨_,rfl,hyw _ (by simp [DataW.weights])⟩,by simp; rfl⟩) hc' wc
  obtain ⟨ys3,d3,⟨g3,q3,l3,m3⟩,oc3⟩:=zey (te:=.rv) (G:=G) (I:=I) hI hspa u4 ⟨by omega,hb⟩ (fun n' ys y hn' hy hyw => ih n' ys y (by omega) hy hyw) hd' wd
  subst q2 q3
  obtain ⟨ks,k1,k2,k3⟩:=zmP g2 m2
  obtain ⟨rs,j1,j2,j3⟩:=zj4 g3 m3
  refine ⟨zdd (.mk i0 s0.data.toList ks rs),?_,⟨_,rfl,?_⟩,?_⟩
  ·rw [zdd,k2,j2,← k1,← j1]
   exact zaf.cons (by simp [Den]) (zaf.cons (by simp [Den]) (zaf.append d2 d3))
  ·rw [RVok]
   refine ⟨w0,?_,by omega,k3,by omega,j3⟩
   subst rx1
   exact wb _ (by simp [DataW.weights])
  ·intro u hu'
   simp only [List.mem_cons,List.not_mem_nil,or_false] at hu'
   rcases hu' with rfl | rfl | rfl | rfl
   ·rfl
   ·rfl
   ·exact oc2 _ (by simp)
   ·exact oc3 _ (by simp)
theorem znR (hI:∀ g o v,w.cell? ⟨g,o,none⟩=some v → I g o v) (hspa:∀ b,spare b=true):∀ (d:Nat) (t:TypeId) (tt:TT) (fuel:Nat) (cs:List Value) (x:DataW H × List MemPlace),trT P d t=some tt → DataW.trod enc P w base spare held fuel t cs=some x → (∀ n ∈ x.1.weights P t,n ≤ reachBytes) → ∃ xs,zaf G I xs cs ∧ ShT tt xs ∧ ∀ u ∈ cs,u.oneCell'=true:=by
 intro d
 induction d with
 | zero => intro t tt fuel cs x ht; simp [trT] at ht
 | succ d ih =>
  intro t tt fuel cs x ht h hwt
  simp only [trT] at ht
  split at ht
  ·rename_i hu
   injection ht with ht; subst ht
   obtain ⟨s,rfl,rfl,hs⟩:=DataW.trod_string hu h
   refine ⟨[.s s.data.toList],zaf.cons (by simp [Den]) zaf.nil,⟨_,rfl,?_⟩,by simp; rfl⟩
   exact hwt _ (by simp [DataW.weights])
  ·rename_i hu
   injection ht with ht; subst ht
   obtain ⟨b,rfl,_⟩:=DataW.trod_bool hu h
   exact ⟨[.b b],zaf.cons (by simp [Den]) zaf.nil,⟨_,rfl⟩,by simp; rfl⟩
  ·rename_i k hu
   injection ht with ht; subst ht
   obtain ⟨n,rfl,_,hw⟩:=DataW.trod_int hu h
   exact ⟨[.i k n],zaf.cons (by simp [Den]) zaf.nil,⟨_,rfl,hw⟩,by simp; rfl⟩
  ·rename_i fs hu
   split at ht
   ·rename_i hrv
    injection ht with ht; subst ht
    exact open_rv hI hspa hu hrv (fuel + 1) fuel cs x (by omega) h hwt
   split at ht
   ·rename_i hc
    cases hts:trTs P (trT P d) 0 fs.toList with
    | none => rw [hts] at ht; cases ht
    | some ts =>
     rw [hts] at ht; injection ht with ht; subst ht
     obtain ⟨xs,n,_,rfl,hlen,hxl,hf⟩:=DataW.trod_struct hu h
     have hall:∀ f ∈ fs.toList,∃ x,DataW.trod enc P w base spare held n f.type ((cs.drop f.offset).take (P.cellsOf f.type))=some x ∧ ∀ m ∈ x.1.weights P f.type,m ≤ reachBytes:=by
      intro f hfm
      obtain ⟨j,hj⟩:=List.mem_iff_getElem?.1 hfm
      have h1:=hf j f (by simpa using hj)
      have hjl:j < xs.length:=by
       rw [hxl]
       have:=(List.getElem?_eq_some_iff.1 hj).1
       simpa using this
      rw [List.getElem?_eq_getElem hjl] at h1
      refine ⟨_,h1,fun m hm => hwt m ?_⟩
      have hj2:(fs.toList.map (·.type))[j]? = some f.type:=by rw [List.getElem?_map,hj]; rfl
      have:=DataW.weights_mem_each hj2 (show (xs.map (·.1))[j]? = some xs[j].1 by rw [List.getElem?_map,List.getElem?_eq_getElem hjl]; rfl) m hm
      simpa [DataW.weights,hu] using this
     obtain ⟨ys,k1,k2,k3⟩:=zgo d ih n fs.toList ts 0 cs hts (by rw [hlen,hc]; omega) hall
     exact ⟨ys,by simpa using k1,k2,by simpa using k3⟩
   ·cases ht
  ·rename_i e hu
   split at ht
   ·rename_i hc
    cases hte:trT P d e with
    | none => rw [hte] at ht; cases ht
    | some te =>
     rw [hte] at ht; injection ht with ht; subst ht
     exact zey hI hspa hu hc (fun n ys y _ hy hyw => ih e te n ys y hte hy hyw) h hwt
   ·cases ht
  ·cases ht
theorem open_arg (hI:∀ g o v,w.cell? ⟨g,o,none⟩=some v → I g o v) (hspa:∀ b,spare b=true) {r:Reach} {b0:Nat} {t:TypeId} {tt:TT} {v:Value} {dd:DataW H} {ps:List MemPlace} (ht:trT P 20 t=some tt) (hv:Value.okWide P w r b0 t v) (h:DataW.Trod enc P w base spare held t v dd ps) (hwt:∀ n ∈ dd.weights P t,n ≤ reachBytes):∃ x,Den G I x v ∧ ShA tt x:=by
 obtain ⟨fuel,hf⟩:=h
 obtain ⟨xs,h1,h2,h3⟩:=znR hI hspa 20 t tt fuel _ _ ht hf hwt
 have ht':=ht
 unfold trT at ht
 cases tt with
 | st ts =>
  split at ht <;> first | (injection ht with ht; cases ht; done) | skip
  ·rename_i fs hu
   obtain ⟨cs,rfl,_⟩:=okWide_struct hu hv
   refine ⟨.agg xs,?_,⟨xs,rfl,h2⟩⟩
   simp only [Den]
   exact ⟨cs.toList,by simp,h1,h3⟩
  ·split at ht
   ·cases hq:trT P 19 _ with
    | none => rw [hq] at ht; cases ht
    | some q => rw [hq] at ht; injection ht with ht; cases ht
   ·cases ht
  ·cases ht
 | rv =>
  split at ht <;> first | (injection ht with ht; cases ht; done) | skip
  ·rename_i fs hu
   obtain ⟨cs,rfl,_⟩:=okWide_struct hu hv
   obtain ⟨r,rfl,hr⟩:=h2
   refine ⟨.agg (zdd r),?_,⟨r,rfl,hr⟩⟩
   simp only [Den]
   exact ⟨cs.toList,by simp,h1,h3⟩
  ·split at ht
   ·cases hq:trT P 19 _ with
    | none => rw [hq] at ht; cases ht
    | some q => rw [hq] at ht; injection ht with ht; cases ht
   ·cases ht
  ·cases ht
 | sl t =>
  split at ht <;> first | (injection ht with ht; cases ht; done) | skip
  ·split at ht
   ·injection ht with ht; cases ht
   split at ht
   ·cases hq:trTs P (trT P 19) 0 _ with
    | none => rw [hq] at ht; cases ht
    | some q => rw [hq] at ht; injection ht with ht; cases ht
   ·cases ht
  ·rename_i e hu
   obtain ⟨a,len,cap,rfl⟩:=okWide_slice hu hv
   obtain ⟨gs,rfl,hl,hg⟩:=h2
   simp only [zaf] at h1
   obtain ⟨y,ys,e1,k1,k2⟩:=h1
   subst k2
   have e2:[Value.slice a len cap]=[y]:=e1
   injection e2 with e2 _
   subst e2
   exact ⟨.row gs.length gs.flatten,k1,⟨gs,rfl,hl,hg⟩⟩
  ·cases ht
 | s =>
  split at ht <;> first | (injection ht with ht; cases ht; done) | skip
  ·rename_i hu
   obtain ⟨s,rfl⟩:=okWide_string hu hv
   obtain ⟨l,rfl,hl⟩:=h2
   simp only [zaf] at h1
   obtain ⟨y,ys,e,k1,k2⟩:=h1
   subst k2
   have e2:[Value.string s]=[y]:=e
   injection e2 with e2 _
   subst e2
   exact ⟨.s l,k1,⟨l,rfl,hl⟩⟩
  ·split at ht
   ·injection ht with ht; cases ht
   split at ht
   ·cases hq:trTs P (trT P 19) 0 _ with
    | none => rw [hq] at ht; cases ht
    | some q => rw [hq] at ht; injection ht with ht; cases ht
   ·cases ht
  ·split at ht
   ·cases hq:trT P 19 _ with
    | none => rw [hq] at ht; cases ht
    | some q => rw [hq] at ht; injection ht with ht; cases ht
   ·cases ht
  ·cases ht
 | b =>
  split at ht <;> first | (injection ht with ht; cases ht; done) | skip
  ·rename_i hu
   obtain ⟨s,rfl⟩:=okWide_bool hu hv
   obtain ⟨l,rfl⟩:=h2
   simp only [zaf] at h1
   obtain ⟨y,ys,e,k1,k2⟩:=h1
   subst k2
   have e2:[Value.bool s]=[y]:=e
   injection e2 with e2 _
   subst e2
   exact ⟨.b l,k1,⟨l,rfl⟩⟩
  ·split at ht
   ·injection ht with ht; cases ht
   split at ht
   ·cases hq:trTs P (trT P 19) 0 _ with
    | none => rw [hq] at ht; cases ht
    | some q => rw [hq] at ht; injection ht with ht; cases ht
   ·cases ht
  ·split at ht
   ·cases hq:trT P 19 _ with
    | none => rw [hq] at ht; cases ht
    | some q => rw [hq] at ht; injection ht with ht; cases ht
   ·cases ht
  ·cases ht
 | i k =>
  split at ht <;> first | (injection ht with ht; cases ht; done) | skip
  ·rename_i k' hu
   injection ht with ht; injection ht with ht; subst ht
   obtain ⟨s,rfl⟩:=okWide_int hu hv
   obtain ⟨l,rfl,hl⟩:=h2
   simp only [zaf] at h1
   obtain ⟨y,ys,e,k1,k2⟩:=h1
   subst k2
   have e2:[Value.int _ s]=[y]:=e
   injection e2 with e2 _
   subst e2
   exact ⟨.i _ l,k1,⟨l,rfl,hl⟩⟩
  ·split at ht
   ·injection ht with ht; cases ht
   split at ht
   ·cases hq:trTs P (trT P 19) 0 _ with
    | none => rw [hq] at ht; cases ht
    | some q => rw [hq] at ht; injection ht with ht; cases ht
   ·cases ht
  ·split at ht
   ·cases hq:trT P 19 _ with
    | none => rw [hq] at ht; cases ht
    | some q => rw [hq] at ht; injection ht with ht; cases ht
   ·cases ht
  ·cases ht
theorem open_args (hI:∀ g o v,w.cell? ⟨g,o,none⟩=some v → I g o v) (hspa:∀ b,spare b=true) {r:Reach} {b0:Nat}:∀ (ts:List TypeId) (tts:List TT) (vs:List Value) (ds:List (DataW H)) (ps:List MemPlace),ts.mapM (trT P 20)=some tts → (∀ (j:Nat) t v,ts[j]? = some t → vs[j]? = some v → Value.okWide P w r b0 t v) → DataW.TrodAll enc P w base spare held ts vs ds ps → (∀ n ∈ DataW.weightsEach P ts ds,n ≤ reachBytes) → ∃ xs,zaf G I xs vs ∧ ShAs tts xs
 | [],tts,vs,ds,ps,ht,hv,h,hwt => by
  simp at ht; subst ht
  obtain ⟨rfl,_,_⟩:=trodAll_nil h
  exact ⟨[],zaf.nil,rfl⟩
 | t :: ts,tts,vs,ds,ps,ht,hv,h,hwt => by
  simp only [List.mapM_cons,Option.bind_eq_bind,Option.pure_def] at ht
  cases h1:trT P 20 t with
  | none => simp [h1] at ht
  | some tt =>
   cases h2:ts.mapM (trT P 20) with
   | none => simp [h1,h2] at ht
   | some tts' =>
    simp [h1,h2] at ht
    subst ht
    obtain ⟨v,vs',d,ds',p,q,rfl,rfl,rfl,k1,k2⟩:=trodAll_cons h
    obtain ⟨x,x1,x2⟩:=open_arg (G:=G) (I:=I) hI hspa h1 (hv 0 t v rfl rfl) k1 (fun n hn => hwt n (by simp only [DataW.weightsEach,List.mem_append]; exact .inl hn))
    obtain ⟨xs,y1,y2⟩:=open_args hI hspa ts tts' vs' ds' q h2 (fun j t v hj hv' => hv (j + 1) t v (by simpa using hj) (by simpa using hv')) k2 (fun n hn => hwt n (by simp only [DataW.weightsEach,List.mem_append]; exact .inr hn))
    exact ⟨x :: xs,zaf.cons x1 y1,⟨x,xs,rfl,x2,y2⟩⟩
theorem zd3 (hl:laidOutB P=true) {W W':World} {sp':Nat → Bool}:∀ (ts:List TypeId) (vs:List Value) (ds:List (DataW H)) (ps:List MemPlace),(∀ t ∈ ts,P.readableRec t=true ∧ t < P.types.size) → DataW.TrodAll enc P W 0 (fun _ => true) true ts vs ds ps → Below W.heap.size W W' → (∀ p ∈ ps,p.block < W.heap.size) → (∀ p ∈ ps,sp' p.block=true) → DataW.TrodAll enc P W' 0 sp' true ts vs ds ps
 | [],vs,ds,ps,hr,h,hb,hlt,hs => by
  obtain ⟨rfl,rfl,rfl⟩:=trodAll_nil h
  exact trodAll_mk0
 | t :: ts,vs,ds,ps,hr,h,hb,hlt,hs => by
  obtain ⟨v,vs',d,ds',p,q,rfl,rfl,rfl,k1,k2⟩:=trodAll_cons h
  have h1:=hr t (List.mem_cons_self ..)
  exact trodAll_cons_mk (WideElems.Trod_stays hl h1.1 h1.2 k1 (fun x hx => hb.same (hlt x (List.mem_append_left _ hx))) (fun x hx => hs x (List.mem_append_left _ hx)))
   (zd3 hl ts vs' ds' q (fun t ht => hr t (List.mem_cons_of_mem _ ht)) k2 hb (fun x hx => hlt x (List.mem_append_right _ hx)) (fun x hx => hs x (List.mem_append_right _ hx)))
end
theorem post_true {H:Type} {enc:TypeId × Value → H} {P:Program} {f:Func} {s:ChangeSpec} {apart fresh handsOn again:Bool} {W W':World} {args:Array Value} {ds gs:List (DataW H)} {before:List MemPlace}
  (hl:laidOutB P=true) (hts:∀ t ∈ f.params.toList,P.readableRec t=true ∧ t < P.types.size) {tb:TypeId} (hrt:f.resultTypes=#[tb]) (hub:P.underlying tb=some .bool) (hsv:s.vars=[])
  (hW:DataW.Whole enc P f.params.toList s.vars apart W args.toList ds gs before) (hfn:s.fn H (ds ++ gs)={ results:=[.lit (.bool true)],args:=ds }) (hb:Below W.heap.size W W'):s.post enc P f apart fresh handsOn again W args (.bool true) W':=by
 have hlt:∀ p ∈ before,p.block < W.heap.size:=fun p hp => hW.lt p hp
 have hold:∀ p ∈ before,(fun b => decide (b < W.heap.size)) p.block=true:=fun p hp => by simpa using hlt p hp
 have hW':=hW
 obtain ⟨p,q,hA,hV,rfl,hz,hn⟩:=hW'
 rw [hsv] at hV
 have hvars:gs=[] ∧ q=[]:=by
  cases gs with
  | nil => exact ⟨rfl,hV⟩
  | cons g gs => exact hV.elim
 obtain ⟨rfl,rfl⟩:=hvars
 simp only [List.append_nil] at *
 have hres:∀ (b:Nat) (sp:Nat → Bool) (hd:Bool),DataW.TrodAll enc P W' b sp hd f.resultTypes.toList ((Value.bool true).resultList f.resultTypes.size) (s.fn H ds).results []:=by
  intro b sp hd
  rw [hfn,hrt]
  exact trodAll_cons_mk (shut_bool hub _) trodAll_mk0
 have hargs:∀ sp:Nat → Bool,(∀ x ∈ p,sp x.block=true) → DataW.TrodAll enc P W' 0 sp true f.params.toList args.toList (s.fn H ds).args p:=by
  intro sp hsp
  rw [hfn]
  exact zd3 hl _ _ _ _ hts hA hb hlt hsp
 have hvs:∀ sp:Nat → Bool,DataW.TrodVars enc P W' sp s.vars (s.fn H ds).vars []:=by
  intro sp
  rw [hsv,hfn]; rfl
 refine ⟨ds,[],p,[],p,[],hW,by simpa using hres _ _ _,by simpa using hargs _ hold,by simpa using hvs _,World.keptBut_mono (fun x hx => ⟨hx,?_⟩) (hb.frame (· ∈ p)),fun _ => ?_⟩
 ·exact Or.inr (Or.inl hx)
 ·refine ⟨?_,_,_,([] ++ p) ++ [],⟨[] ++ p,[],trodAll_append (by simpa using hargs _ (fun _ _ => rfl)) (by simpa using hres _ _ _),by simpa using hvs _,rfl,?_,?_⟩,?_⟩
  ·intro j t r hj hr
   rw [hrt] at hj hr
   cases j with
   | zero =>
    simp at hj; subst hj
    have:r=.bool true:=by simpa [Value.resultList] using hr.symm
    subst this
    exact okWide_bool_mk hub _
   | succ j => simp at hj
  ·intro b off hp
   have hin:MemPlace.cell b off ∈ p:=by simpa using hp
   rw [hb.frozen (hlt _ hin)]
   exact hz b off hin
  ·intro ha
   simpa using hn ha
  ·intro x hx _
   simpa using hx
section
variable {H:Type} {enc:TypeId × Value → H}
end
end Go.Proofs.YtadhjoggdbhkgaaGreatDoor.Sx
