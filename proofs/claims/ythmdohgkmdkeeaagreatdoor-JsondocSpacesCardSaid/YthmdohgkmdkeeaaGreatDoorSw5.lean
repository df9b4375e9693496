/- The texts that the proofs of these statements reach, in their order, as few files. -/
import Derived.Lib.IndexAny
import Derived.Shelf.Strings.IndexAnyAll
import Derived.Lib.OthersKept
import Derived.ProofKit
import Derived.OpenShut
import Derived.ShutString
import Derived.Carry
import Derived.WideKeyArgs
import Derived.SizedLaws
import Derived.Test.YthmdohgkmdkeeaaGreatDoorSw4
set_option linter.unusedVariables false
set_option linter.unusedSimpArgs false
set_option maxRecDepth 100000
namespace Go.Proofs.YthmdohgkmdkeeaaGreatDoor
open Go.RowKit
def zfH (c:UInt8):Nat:=if c.toNat < 128 then 1 else if c.toNat < 192 then 0 else if c.toNat < 224 then 2 else if c.toNat < 240 then 3 else if c.toNat < 248 then 4 else 0
theorem zle:∀ n:Fin 256,lensT.getD (n.val / 8) 0=(zfH (UInt8.ofNat n.val):Int):=by decide +kernel
theorem zj0 (c:UInt8):lensT.getD (c.toNat / 8) 0=(zfH c:Int):=by
 have:=zle ⟨c.toNat,c.toNat_lt⟩
 simp only at this
 rw [this]; congr 2; exact UInt8.ofNat_toNat
def zbz (c:UInt8) (n:Nat):Nat:=if n=1 then c.toNat else if n=2 then c.toNat % 32 else if n=3 then c.toNat % 16 else c.toNat % 8
def zoz:List UInt8 → Nat → Option Nat
 | [],r => some r
 | c :: t,r => if zcV c=true then zoz t (r * 64 + (c.toNat - 128)) else none
def endU (n r:Nat):Option (Nat × Nat):=if mostT.getD (n - 1) 0 < (r:Int) ∧ cpB (r:Int)=true then some (r,n) else none
def zdS (n:Nat) (t:List UInt8) (r:Nat):Option (Nat × Nat):=match zoz t r with | none => none | some r => endU n r
theorem zc3 (n r:Nat):zdS n [] r=endU n r:=rfl
theorem zbl (n r:Nat) (c:UInt8) (t:List UInt8):zdS n (c :: t) r=if zcV c=true then zdS n t (r * 64 + (c.toNat - 128)) else none:=by
 unfold zdS
 rw [zoz]
 by_cases h:zcV c=true
 ·rw [if_pos h,if_pos h]
 ·rw [if_neg h,if_neg h]
theorem zgH {n r:Nat} {p:Prop} [Decidable p] (h:(mostT.getD (n - 1) 0 < (r:Int) ∧ cpB (r:Int)=true) ↔ p):endU n r=if p then some (r,n) else none:=by
 unfold endU
 by_cases hp:p
 ·rw [if_pos hp,if_pos (h.2 hp)]
 ·rw [if_neg hp,if_neg (fun e => hp (h.1 e))]
theorem zli {c:UInt8} {t:List UInt8} (h:zfH c=0 ∨ t.length + 1 < zfH c):zbF (c :: t)=none:=by
 unfold zfH at h
 rw [zbF]
 by_cases h1:c.toNat < 128
 ·rw [if_pos h1] at h; omega
 rw [if_neg h1] at h ⊢
 by_cases h2:c.toNat < 192
 ·rw [if_pos h2]
 rw [if_neg h2] at h ⊢
 by_cases h3:c.toNat < 224
 ·rw [if_pos h3] at h ⊢
  rcases t with _ | ⟨a,t⟩
  ·rfl
  ·simp at h; omega
 rw [if_neg h3] at h ⊢
 by_cases h4:c.toNat < 240
 ·rw [if_pos h4] at h ⊢
  rcases t with _ | ⟨a,_ | ⟨b,t⟩⟩
  ·rfl
  ·rfl
  ·simp at h; omega
 rw [if_neg h4] at h ⊢
 by_cases h5:c.toNat < 248
 ·rw [if_pos h5] at h ⊢
  rcases t with _ | ⟨a,_ | ⟨b,_ | ⟨d,t⟩⟩⟩
  ·rfl
  ·rfl
  ·rfl
  ·simp at h; omega
 ·rw [if_neg h5]
theorem zcg (c:UInt8):zcV c=true ↔ 128 ≤ c.toNat ∧ c.toNat < 192:=by unfold zcV; exact decide_eq_true_iff
theorem zkG {r:Nat} (h:r < 55296):cpB (r:Int)=true:=decide_eq_true (by omega)
theorem zou {c:UInt8} {t:List UInt8} (h0:zfH c ≠ 0) (h:zfH c ≤ t.length + 1):zbF (c :: t)=zdS (zfH c) (t.take (zfH c - 1)) (zbz c (zfH c)):=by
 have hc:=c.toNat_lt
 unfold zfH at h0 h ⊢
 rw [zbF]
 by_cases h1:c.toNat < 128
 ·rw [if_pos h1] at h0 h ⊢
  rw [if_pos h1,Nat.sub_self,List.take_zero,zc3,zgH (p:=True)]
  ·rw [if_pos trivial]; rfl
  ·simp only [iff_true]
   exact ⟨by show (-1:Int) < _; omega,zkG (by unfold zbz; rw [if_pos rfl]; omega)⟩
 rw [if_neg h1] at h0 h ⊢
 rw [if_neg h1]
 by_cases h2:c.toNat < 192
 ·rw [if_pos h2] at h0; exact absurd rfl h0
 rw [if_neg h2] at h0 h ⊢
 rw [if_neg h2]
 by_cases h3:c.toNat < 224
 ·rw [if_pos h3] at h0 h ⊢
  rw [if_pos h3]
  rcases t with _ | ⟨a,t⟩
  ·simp at h
  show dec2 c (a :: t)=zdS 2 [a] (zbz c 2)
  rw [dec2,zbl,zc3]
  have e:zbz c 2=c.toNat - 192:=by unfold zbz; rw [if_neg (by decide),if_pos rfl]; omega
  by_cases ha:zcV a=true
  ·have ha':=(zcg a).1 ha
   rw [if_pos ha,e,zgH (p:=128 ≤ r2 c a)]
   ·by_cases hr:128 ≤ r2 c a
    ·rw [if_pos ⟨ha,hr⟩,if_pos hr]; rfl
    ·rw [if_neg (fun x => hr x.2),if_neg hr]
   ·show ((127:Int) < _ ∧ _) ↔ _
    unfold r2
    constructor
    ·intro x; have:=x.1; omega
    ·intro x; exact ⟨by omega,zkG (by omega)⟩
  ·rw [if_neg ha,if_neg (fun x => ha x.1)]
 rw [if_neg h3] at h0 h ⊢
 rw [if_neg h3]
 by_cases h4:c.toNat < 240
 ·rw [if_pos h4] at h0 h ⊢
  rw [if_pos h4]
  rcases t with _ | ⟨a,_ | ⟨b,t⟩⟩
  ·simp at h
  ·simp at h
  show dec3 c (a :: b :: t)=zdS 3 [a,b] (zbz c 3)
  rw [dec3,zbl,zbl,zc3]
  have e:zbz c 3=c.toNat - 224:=by unfold zbz; rw [if_neg (by decide),if_neg (by decide),if_pos rfl]; omega
  by_cases ha:zcV a=true
  ·by_cases hb:zcV b=true
   ·have ha':=(zcg a).1 ha
    have hb':=(zcg b).1 hb
    have er:((c.toNat - 224) * 64 + (a.toNat - 128)) * 64 + (b.toNat - 128)=r3 c a b:=by unfold r3; omega
    rw [if_pos ha,if_pos hb,e,er,zgH (p:=2048 ≤ r3 c a b ∧ cpB (r3 c a b:Int)=true)]
    ·by_cases hr:2048 ≤ r3 c a b ∧ cpB (r3 c a b:Int)=true
     ·rw [if_pos ⟨ha,hb,hr⟩,if_pos hr]
     ·rw [if_neg (fun x => hr x.2.2),if_neg hr]
    ·show ((2047:Int) < _ ∧ _) ↔ _
     constructor
     ·intro x; exact ⟨by omega,x.2⟩
     ·intro x; exact ⟨by omega,x.2⟩
   ·rw [if_pos ha,if_neg hb,if_neg (fun x => hb x.2.1)]
  ·rw [if_neg ha,if_neg (fun x => ha x.1)]
 rw [if_neg h4] at h0 h ⊢
 rw [if_neg h4]
 by_cases h5:c.toNat < 248
 ·rw [if_pos h5] at h0 h ⊢
  rw [if_pos h5]
  rcases t with _ | ⟨a,_ | ⟨b,_ | ⟨d,t⟩⟩⟩
  ·simp at h
  ·simp at h
  ·simp at h
  show dec4 c (a :: b :: d :: t)=zdS 4 [a,b,d] (zbz c 4)
  rw [dec4,zbl,zbl,zbl,zc3]
  have e:zbz c 4=c.toNat - 240:=by unfold zbz; rw [if_neg (by decide),if_neg (by decide),if_neg (by decide)]; omega
  by_cases ha:zcV a=true
  ·by_cases hb:zcV b=true
   ·by_cases hd:zcV d=true
    ·have ha':=(zcg a).1 ha
     have hb':=(zcg b).1 hb
     have hd':=(zcg d).1 hd
     have er:(((c.toNat - 240) * 64 + (a.toNat - 128)) * 64 + (b.toNat - 128)) * 64 + (d.toNat - 128)=r4 c a b d:=by unfold r4; omega
     rw [if_pos ha,if_pos hb,if_pos hd,e,er,zgH (p:=65536 ≤ r4 c a b d ∧ r4 c a b d ≤ 1114111)]
     ·by_cases hr:65536 ≤ r4 c a b d ∧ r4 c a b d ≤ 1114111
      ·rw [if_pos ⟨ha,hb,hd,hr⟩,if_pos hr]
      ·rw [if_neg (fun x => hr x.2.2.2),if_neg hr]
     ·show ((65535:Int) < _ ∧ _) ↔ _
      constructor
      ·intro x
       have:=of_decide_eq_true x.2
       exact ⟨by omega,by omega⟩
      ·intro x; exact ⟨by omega,decide_eq_true (by omega)⟩
    ·rw [if_pos ha,if_pos hb,if_neg hd,if_neg (fun x => hd x.2.2.1)]
   ·rw [if_pos ha,if_neg hb,if_neg (fun x => hb x.2.1)]
  ·rw [if_neg ha,if_neg (fun x => ha x.1)]
 ·rw [if_neg h5] at h0; exact absurd rfl h0
theorem and31 (a:Nat):a &&& 31=a % 32:=Nat.and_two_pow_sub_one_eq_mod a 5
theorem and15 (a:Nat):a &&& 15=a % 16:=Nat.and_two_pow_sub_one_eq_mod a 4
theorem and7 (a:Nat):a &&& 7=a % 8:=Nat.and_two_pow_sub_one_eq_mod a 3
theorem zgE (c:UInt8) (n:Nat) (h1:1 ≤ n) (h2:n ≤ 4) (w:World) :
  Calls Tryz.prog 115 #[.int .u8 c.toNat,.int .i64 n] w fun e w' => e=.returned (.int .i64 (zbz c n)) ∧ w=w':=by
 have hc:=c.toNat_lt
 have a1:bits .and .i64 (c.toNat:Int) 31=((c.toNat % 32:Nat):Int):=by rw [← and31]; exact zaP c.toNat 31 (by omega) (by omega)
 have a2:bits .and .i64 (c.toNat:Int) 15=((c.toNat % 16:Nat):Int):=by rw [← and15]; exact zaP c.toNat 15 (by omega) (by omega)
 have a3:bits .and .i64 (c.toNat:Int) 7=((c.toNat % 8:Nat):Int):=by rw [← and7]; exact zaP c.toNat 7 (by omega) (by omega)
 have H:=Lib.hid (And.intro a1 (And.intro a2 a3))
 clear a1 a2 a3
 have hn:n=1 ∨ n=2 ∨ n=3 ∨ n=4:=by omega
 rcases hn with rfl | rfl | rfl | rfl
 ·go_enter Tryz.func115,Tryz.ntmps115
  go_wp2
  go_ret
  exact ⟨rfl,rfl⟩
 ·go_enter Tryz.func115,Tryz.ntmps115
  go_wp2
  go_ret
  exact ⟨zaW (by rw [H.out.1]; rfl),rfl⟩
 ·go_enter Tryz.func115,Tryz.ntmps115
  go_wp2
  go_ret
  exact ⟨zaW (by rw [H.out.2.1]; rfl),rfl⟩
 ·go_enter Tryz.func115,Tryz.ntmps115
  go_wp2
  go_ret
  exact ⟨zaW (by rw [H.out.2.2]; rfl),rfl⟩
def zb3 (l:List UInt8) (at_:Int):Int × Int × Int :=
 if at_ < 0 ∨ (l.length:Int) ≤ at_ then (0,0,4) else match zbF (l.drop at_.toNat) with
  | none => (0,0,7)
  | some (r,n) => ((r:Int),at_ + n,0)
def triV (x:Int × Int × Int):Value:=.tuple #[.int .i64 x.1,.int .i64 x.2.1,.int .i64 x.2.2]
theorem zf8 {l:List UInt8} {a:Int} (h:a < 0 ∨ (l.length:Int) ≤ a):zb3 l a=(0,0,4):=if_pos h
theorem zbk {l:List UInt8} {k:Nat} (h:k < l.length) (hd:zbF (l.drop k)=none):zb3 l k=(0,0,7):=by
 unfold zb3; rw [if_neg (by omega),Int.toNat_natCast,hd]
theorem zdF {l:List UInt8} {k r n:Nat} (h:k < l.length) (hd:zbF (l.drop k)=some (r,n)):zb3 l k=((r:Int),(k:Int) + n,0):=by
 unfold zb3; rw [if_neg (by omega),Int.toNat_natCast,hd]
theorem zlq (s:ByteArray) (a:Int) (w:World) (h:a < 0 ∨ (s.size:Int) ≤ a) :
  Calls Tryz.prog 95 #[.string s,.int .i64 a] w fun e w' => e=.returned (triV (zb3 s.data.toList a)) ∧ Qb w w':=by
 rw [zf8 (by rw [zah]; exact h)]
 rcases h with h | h
 ·go_enter Tryz.func95,Tryz.ntmps95
  go_wp2_with fail
  go_ret3
  exact ⟨rfl,Qb.refl _⟩
 ·by_cases h0:a < 0
  ·go_enter Tryz.func95,Tryz.ntmps95
   go_wp2_with fail
   go_ret3
   exact ⟨rfl,Qb.refl _⟩
  ·go_enter Tryz.func95,Tryz.ntmps95
   go_wp2_with fail
   go_ret3
   exact ⟨rfl,Qb.refl _⟩
theorem zik (s:ByteArray) (k:Nat) (w:World) (hs:s.size ≤ 140737488351232) (hk:k < s.size) (hT:UTabs w) (h:zfH s[k]=0 ∨ s.size - k < zfH s[k]) :
  Calls Tryz.prog 95 #[.string s,.int .i64 k] w fun e w' => e=.returned (triV (zb3 s.data.toList k)) ∧ Qb w w':=by
 have hd:zbF (s.data.toList.drop k)=none:=by
  rw [zbu s k hk]
  exact zli (by rw [List.length_drop,zah]; omega)
 rw [zbk (by rw [zah]; exact hk) hd]
 have hc:=s[k].toNat_lt
 have hcell:w.cell? ⟨1,s[k].toNat / 8,none⟩=some (.int .i64 (zfH s[k])):=by rw [← zj0]; exact hT.lens _ (by omega)
 clear hT hd
 by_cases h0:zfH s[k]=0
 ·rw [h0] at hcell
  clear h
  have hi:(s[k].toNat:Int) / 8 < 32:=by omega
  go_enter Tryz.func95,Tryz.ntmps95
  go_wp2_with fail
  go_ret3
  exact ⟨rfl,Qb.refl _⟩
 ·have h1:s.size - k < zfH s[k]:=by omega
  clear h
  generalize zfH s[k]=n at *
  have h2:((n:Int) == 0)=false:=by rw [beq_eq_false_iff_ne]; omega
  go_enter Tryz.func95,Tryz.ntmps95
  go_wp2_with fail
  go_ret3
  exact ⟨rfl,Qb.refl _⟩
theorem pow64 (i:Nat):256 * 64 ^ (i + 1)=64 * (256 * 64 ^ i):=by rw [Nat.pow_succ]; omega
theorem pow64_le {i:Nat} (h:i ≤ 3):256 * 64 ^ i ≤ 67108864:=by
 have:i=0 ∨ i=1 ∨ i=2 ∨ i=3:=by omega
 rcases this with rfl | rfl | rfl | rfl <;> decide
theorem zfL (s:ByteArray) (m i:Nat) (h:i < s.size) (hm:0 < m):(s.data.toList.drop i).take m=s[i] :: (s.data.toList.drop (i + 1)).take (m - 1):=by
 rw [zbu s i h,show m=(m - 1) + 1 from by omega,List.take_succ_cons,Nat.add_sub_cancel]
theorem zmx {n r:Nat} {c:UInt8} {t:List UInt8} (h:zcV c=false):zdS n (c :: t) r=none:=by rw [zbl,if_neg (by rw [h]; exact Bool.false_ne_true)]
theorem zk2 {n r:Nat} {c:UInt8} {t:List UInt8} (h:zcV c=true):zdS n (c :: t) r=zdS n t (r * 64 + c.toNat % 64):=by
 rw [zbl,if_pos h]
 have:=(zcg c).1 h
 rw [show c.toNat - 128=c.toNat % 64 from by omega]
theorem zi9 (s:ByteArray) (k n:Nat) (w:World) (hs:s.size ≤ 140737488351232) (hk:k < s.size) (hT:UTabs w) (hn:zfH s[k]=n) (h1:1 ≤ n) (h4:n ≤ 4) (hl:k + n ≤ s.size) :
  Calls Tryz.prog 95 #[.string s,.int .i64 k] w fun e w' => e=.returned (triV (zb3 s.data.toList k)) ∧ Qb w w':=by
 have hd:zbF (s.data.toList.drop k)=zdS n ((s.data.toList.drop (k + 1)).take (n - 1)) (zbz s[k] n):=by
  rw [zbu s k hk,← hn]
  exact zou (by omega) (by rw [List.length_drop,zah]; omega)
 have HD:=Lib.hid hd
 have hc:=s[k].toNat_lt
 have hcell:w.cell? ⟨1,s[k].toNat / 8,none⟩=some (.int .i64 n):=by rw [← hn,← zj0]; exact hT.lens _ (by omega)
 have hmost:w.cell? ⟨2,n - 1,none⟩=some (.int .i64 (mostT.getD (n - 1) 0)):=hT.most _ (by omega)
 have hf:zbz s[k] n < 256:=by
  unfold zbz; repeat' split
  all_goals omega
 clear hT hd hn
 have h2:((n:Int) == 0)=false:=by rw [beq_eq_false_iff_ne]; omega
 generalize hm:mostT.getD (n - 1) 0=mo at *
 have HM:=Lib.hid hm
 clear hm
 go_enter Tryz.func95,Tryz.ntmps95
 go_wp2_with (go_at_call 115; refine (zgE _ n h1 h4 _).mono ?_; rintro e w1 ⟨rfl,rfl⟩)
 go_loop [8,9,10,42] (fun r _ _ x => ∃ i q:Nat,i + 1 ≤ n ∧ x=.int .i64 i ∧ r=.int .i64 q ∧ q < 256 * 64 ^ i ∧ Hid (zbF (s.data.toList.drop k)=zdS n ((s.data.toList.drop (k + 1 + i)).take (n - 1 - i)) q)) (fun _ _ _ x => n - (intOf x).toNat)
 case atStart => exact ⟨0,zbz s[k] n,by omega,rfl,rfl,by omega,HD⟩
 case round =>
  obtain ⟨i,q,hi,rfl,rfl,hq,HR⟩:=hrel
  have hp:=pow64_le (show i ≤ 3 by omega)
  have hq2:q < 67108864:=by omega
  by_cases hlt:i + 1 < n
  ·have hidx:k + 1 + i < s.size:=by omega
   have hcc:=s[k + 1 + i].toNat_lt
   have HS:=Lib.hid (zfL s (n - 1 - i) (k + 1 + i) hidx (by omega))
   have HP:=Lib.hid (pow64 i)
   have Hq:=Lib.hid hq
   clear hp hq
   rcases hco:zcV s[k + 1 + i] with _ | _
   ·have hne:((s[k + 1 + i].toNat:Int) / 64 != 2)=true:=by
     rw [bne_iff_ne]
     intro e
     have:=of_decide_eq_false hco
     omega
    have HN:Hid (zbF (s.data.toList.drop k)=none):=Lib.hid (by rw [HR.out,HS.out,zmx hco])
    go_wp2_with fail
    go_ret3
    exact ⟨by rw [zbk (by rw [zah]; exact hk) HN.out]; rfl,Qb.refl _⟩
   ·have hne:((s[k + 1 + i].toNat:Int) / 64 != 2)=false:=by
     have:=(zcg _).1 hco
     rw [bne_eq_false_iff_eq]
     omega
    have hand:bits .and .u8 (s[k + 1 + i].toNat:Int) 63=((s[k + 1 + i].toNat % 64:Nat):Int):=u8and63 ⟨s[k + 1 + i].toNat,hcc⟩
    have hor:=or64 q (s[k + 1 + i].toNat % 64) (by omega) (by omega)
    have HN:Hid (zbF (s.data.toList.drop k)=zdS n ((s.data.toList.drop (k + 1 + (i + 1))).take (n - 1 - (i + 1))) (q * 64 + s[k + 1 + i].toNat % 64)):=Lib.hid (by
     rw [HR.out,HS.out,zk2 hco,show n - 1 - i - 1=n - 1 - (i + 1) from by omega]; rfl)
    have HO:Hid (bits .or .i64 ((q:Int) * 64) ((s[k + 1 + i].toNat:Int) % 64)=((q * 64 + s[k + 1 + i].toNat % 64:Nat):Int)):=Lib.hid hor
    clear hco hor
    go_wp2_with fail
    go_round
    case rel =>
     refine ⟨i + 1,q * 64 + s[k + 1 + i].toNat % 64,by omega,by go_num,by rw [HO.out],?_,HN⟩
     rw [HP.out]
     have:=Hq.out
     generalize 256 * 64 ^ i=P at *
     omega
    case measure => simp [intOf]; omega
  ·obtain rfl:i=n - 1:=by omega
   have HE:Hid (zbF (s.data.toList.drop k)=endU n q):=Lib.hid (by rw [HR.out,Nat.sub_self,List.take_zero,zc3])
   clear hp hq
   by_cases hle:(q:Int) ≤ mo
   ·have HN:Hid (zbF (s.data.toList.drop k)=none):=Lib.hid (by
     rw [HE.out]; unfold endU; rw [HM.out,if_neg (fun x => by omega)])
    go_wp2_with fail
    go_ret3
    exact ⟨by rw [zbk (by rw [zah]; exact hk) HN.out]; rfl,Qb.refl _⟩
   ·rcases hcp:cpB (q:Int) with _ | _
    ·have HN:Hid (zbF (s.data.toList.drop k)=none):=Lib.hid (by
      rw [HE.out]; unfold endU; rw [hcp,if_neg (fun x => by cases x.2)])
     go_wp2_with (go_at_call 116; refine (zaO _ _).mono ?_; rintro e w1 ⟨rfl,rfl⟩)
     go_ret3
     exact ⟨by rw [zbk (by rw [zah]; exact hk) HN.out]; rfl,Qb.refl _⟩
    ·have HN:Hid (zbF (s.data.toList.drop k)=some (q,n)):=Lib.hid (by
      rw [HE.out]; unfold endU; rw [HM.out,if_pos ⟨by omega,hcp⟩])
     go_wp2_with (go_at_call 116; refine (zaO _ _).mono ?_; rintro e w1 ⟨rfl,rfl⟩)
     go_ret3
     exact ⟨by rw [zdF (by rw [zah]; exact hk) HN.out]; rfl,Qb.refl _⟩
theorem zlr (s:ByteArray) (a:Int) (w:World) (hs:s.size ≤ 140737488351232) (hT:UTabs w) :
  Calls Tryz.prog 95 #[.string s,.int .i64 a] w fun e w' => e=.returned (triV (zb3 s.data.toList a)) ∧ Qb w w':=by
 by_cases h:a < 0 ∨ (s.size:Int) ≤ a
 ·exact zlq s a w h
 ·obtain ⟨k,rfl⟩:=Int.eq_ofNat_of_zero_le (show 0 ≤ a by omega)
  have hk:k < s.size:=by omega
  by_cases h2:zfH s[k]=0 ∨ s.size - k < zfH s[k]
  ·exact zik s k w hs hk hT h2
  ·have h4:zfH s[k] ≤ 4:=by
    unfold zfH; repeat' split
    all_goals omega
   exact zi9 s k _ w hs hk hT rfl (by omega) h4 (by omega)
end Go.Proofs.YthmdohgkmdkeeaaGreatDoor
namespace Go.Proofs.YthmdohgkmdkeeaaGreatDoor
open Go.RowKit
end Go.Proofs.YthmdohgkmdkeeaaGreatDoor
namespace Go.Proofs.YthmdohgkmdkeeaaGreatDoor
open Go.RowKit
theorem zoU (q:Int) (h0:0 ≤ q) (h:q ≤ 4503599627370496):bits .and .i64 q 63=q % 64:=by
 obtain ⟨n,rfl⟩:=Int.eq_ofNat_of_zero_le h0
 exact zif n (by omega)
theorem zmY (q:Int) (h0:0 ≤ q) (h:q < 64):bits .or .i64 128 q=128 + q:=by
 obtain ⟨n,rfl⟩:=Int.eq_ofNat_of_zero_le h0
 exact or128 n (by omega)
theorem zeA (r:Int) (w:World) :
  Calls Tryz.prog 113 #[.int .i64 r] w fun e w' => e=.returned (resV (zeW r)) ∧ Qb w w':=by
 rcases hp:cpB r with _ | _
 ·have he:zeW r=(4,[]):=by unfold zeW; rw [hp]; rfl
  rw [he]
  go_enter Tryz.func113,Tryz.ntmps113
  go_wp2_with (go_at_call 135; refine (zct _ _).mono ?_; rintro e w1 ⟨rfl,rfl⟩)
  go_ret2
  exact ⟨rfl,Qb.refl _⟩
 ·obtain ⟨n,rfl,hn⟩:=zox hp
  have a0:=zoU (n:Int) (by omega) (by omega)
  have a1:=zoU ((n:Int) / 64) (by omega) (by omega)
  have a2:=zoU ((n:Int) / 4096) (by omega) (by omega)
  have o0:=zmY ((n:Int) % 64) (by omega) (by omega)
  have o1:=zmY ((n:Int) / 64 % 64) (by omega) (by omega)
  have o2:=zmY ((n:Int) / 4096 % 64) (by omega) (by omega)
  by_cases h1:n < 128
  ·rw [encV_1 hp h1]
   have hst:=zbS w [(n:Int)] 1 rfl
   simp only [List.map_cons,List.map_nil] at hst
   go_enter Tryz.func113,Tryz.ntmps113
   go_wp2_with (go_at_call 135; refine (zct _ _).mono ?_; rintro e w1 ⟨rfl,rfl⟩)
   go_ret2
   exact ⟨rfl,(Qb.refl _).alloc _⟩
  ·by_cases h2:n < 2048
   ·rw [encV_2 hp h1 h2]
    have hst:=zbS w [192 + (n:Int) / 64,128 + (n:Int) % 64] 2 rfl
    simp only [List.map_cons,List.map_nil] at hst
    have ho:bits .or .i64 192 ((n:Int) / 64)=192 + (n:Int) / 64:=or192 (n / 64) (by omega)
    go_enter Tryz.func113,Tryz.ntmps113
    go_wp2_with (go_at_call 135; refine (zct _ _).mono ?_; rintro e w1 ⟨rfl,rfl⟩)
    go_ret2
    exact ⟨rfl,(Qb.refl _).alloc _⟩
   ·by_cases h3:n < 65536
    ·rw [encV_3 hp h2 h3]
     have hst:=zbS w [224 + (n:Int) / 4096,128 + (n:Int) / 64 % 64,128 + (n:Int) % 64] 3 rfl
     simp only [List.map_cons,List.map_nil] at hst
     have ho:bits .or .i64 224 ((n:Int) / 4096)=224 + (n:Int) / 4096:=or224 (n / 4096) (by omega)
     have hb3:decide ((n:Int) < 65536)=true:=decide_eq_true (by omega)
     have hb1:decide ((n:Int) < 128)=false:=decide_eq_false (by omega)
     have hb2:decide ((n:Int) < 2048)=false:=decide_eq_false (by omega)
     have H3:=Lib.hid h3
     have nb:(n:Int) / 4096 < 16:=by omega
     clear h1 h2 h3
     go_enter Tryz.func113,Tryz.ntmps113
     go_wp2_with (go_at_call 135; refine (zct _ _).mono ?_; rintro e w1 ⟨rfl,rfl⟩)
     go_ret2
     exact ⟨rfl,(Qb.refl _).alloc _⟩
    ·rw [encV_4 hp h3]
     have hst:=zbS w [240 + (n:Int) / 262144,128 + (n:Int) / 4096 % 64,128 + (n:Int) / 64 % 64,128 + (n:Int) % 64] 4 rfl
     simp only [List.map_cons,List.map_nil] at hst
     have ho:bits .or .i64 240 ((n:Int) / 262144)=240 + (n:Int) / 262144:=or240 (n / 262144) (by omega)
     have hb3:decide ((n:Int) < 65536)=false:=decide_eq_false (by omega)
     have nb:(n:Int) / 262144 < 8:=by omega
     have hb1:decide ((n:Int) < 128)=false:=decide_eq_false (by omega)
     have hb2:decide ((n:Int) < 2048)=false:=decide_eq_false (by omega)
     have H3:=Lib.hid h3
     clear h1 h2 h3
     go_enter Tryz.func113,Tryz.ntmps113
     go_wp2_with (go_at_call 135; refine (zct _ _).mono ?_; rintro e w1 ⟨rfl,rfl⟩)
     go_ret2
     exact ⟨rfl,(Qb.refl _).alloc _⟩
def zeN:List UInt8 → Nat → Nat
 | [],r => r
 | c :: t,r => zeN t (r * 64 + c.toNat % 64)
def zex:List UInt8 → Nat
 | [] => 0
 | c :: t => zeN t (zbz c (t.length + 1))
theorem pow4 (i:Nat):4 * 64 ^ (i + 1)=64 * (4 * 64 ^ i):=by rw [Nat.pow_succ]; omega
theorem ziH {i:Nat} (h:i ≤ 4):4 * 64 ^ i ≤ 67108864:=by
 have:i=0 ∨ i=1 ∨ i=2 ∨ i=3 ∨ i=4:=by omega
 rcases this with rfl | rfl | rfl | rfl | rfl <;> decide
theorem zkY (s:ByteArray) (h1:1 ≤ s.size) (h4:s.size ≤ 4) (w:World) :
  Calls Tryz.prog 114 #[.string s] w fun e w' => e=.returned (.int .i64 (zex s.data.toList)) ∧ Qb w w':=by
 have hd:=zbu s 0 (by omega)
 rw [List.drop_zero] at hd
 have hv:zex s.data.toList=zeN (s.data.toList.drop 1) (zbz s[0] s.size):=by
  conv => lhs; rw [hd]
  rw [zex,List.length_drop,zah,show s.size - 1 + 1=s.size from by omega]
 have HV:=Lib.hid hv
 clear hd hv
 have hc:=s[0].toNat_lt
 have a1:bits .and .i64 (s[0].toNat:Int) 31=((s[0].toNat % 32:Nat):Int):=by rw [← and31]; exact zaP s[0].toNat 31 (by omega) (by omega)
 have a2:bits .and .i64 (s[0].toNat:Int) 15=((s[0].toNat % 16:Nat):Int):=by rw [← and15]; exact zaP s[0].toNat 15 (by omega) (by omega)
 have a3:bits .and .i64 (s[0].toNat:Int) 7=((s[0].toNat % 8:Nat):Int):=by rw [← and7]; exact zaP s[0].toNat 7 (by omega) (by omega)
 have H:=Lib.hid (And.intro a1 (And.intro a2 a3))
 clear a1 a2 a3
 have hn:s.size=1 ∨ s.size=2 ∨ s.size=3 ∨ s.size=4:=by omega
 rcases hn with hz | hz | hz | hz
 ·have HE:Hid (zex s.data.toList=s[0].toNat):=Lib.hid (by rw [HV.out,List.drop_of_length_le (by rw [zah]; omega),hz]; rfl)
  go_enter Tryz.func114,Tryz.ntmps114
  go_wp2_with fail
  go_ret
  exact ⟨zaW (by rw [HE.out]),Qb.refl _⟩
 ·have HE:Hid (zex s.data.toList=zeN (s.data.toList.drop 1) (s[0].toNat % 32)):=Lib.hid (by rw [HV.out,hz]; rfl)
  have HA:Hid (bits .and .i64 (s[0].toNat:Int) 31=((s[0].toNat % 32:Nat):Int)):=Lib.hid H.out.1
  go_enter Tryz.func114,Tryz.ntmps114
  go_wp2_with fail
  go_quiet (fail)
  go_wp2_with fail
  rw [HA.out]
  go_loop [3,4] (fun r x => ∃ i q:Nat,1 ≤ i ∧ i ≤ s.size ∧ x=.int .i64 i ∧ r=.int .i64 q ∧ q < 4 * 64 ^ i ∧ Hid (zex s.data.toList=zeN (s.data.toList.drop i) q)) (fun _ x => s.size - (intOf x).toNat)
  case atStart => exact ⟨1,s[0].toNat % 32,Nat.le_refl _,h1,rfl,rfl,by omega,HE⟩
  case round =>
   obtain ⟨i,q,hi1,hi,rfl,rfl,hq,HR⟩:=hrel
   have hp:=ziH (show i ≤ 4 by omega)
   have hq2:q < 67108864:=by omega
   have HP:=Lib.hid (pow4 i)
   have Hq:=Lib.hid hq
   clear hp hq
   by_cases hlt:i < s.size
   ·have hcc:=s[i].toNat_lt
    have HO:Hid (bits .or .i64 ((q:Int) * 64) (bits .and .i64 (s[i].toNat:Int) 63)=((q * 64 + s[i].toNat % 64:Nat):Int)):=Lib.hid (by rw [zif s[i].toNat (by omega)]; exact or64 q (s[i].toNat % 64) (by omega) (by omega))
    have HN:Hid (zex s.data.toList=zeN (s.data.toList.drop (i + 1)) (q * 64 + s[i].toNat % 64)):=Lib.hid (by rw [HR.out,zbu s i hlt]; rfl)
    go_wp2_with fail
    go_round
    case rel =>
     refine ⟨i + 1,q * 64 + s[i].toNat % 64,by omega,by omega,by go_num,by rw [HO.out],?_,HN⟩
     rw [HP.out]
     have:=Hq.out
     generalize 4 * 64 ^ i=P at *
     omega
    case measure => simp [intOf]; omega
   ·have HN:Hid (zex s.data.toList=q):=Lib.hid (by rw [HR.out,List.drop_of_length_le (by rw [zah]; omega)]; rfl)
    go_wp2_with fail
    go_ret
    exact ⟨zaW (by rw [HN.out]),(Qb.refl _).drewN _⟩
 ·have HE:Hid (zex s.data.toList=zeN (s.data.toList.drop 1) (s[0].toNat % 16)):=Lib.hid (by rw [HV.out,hz]; rfl)
  have HA:Hid (bits .and .i64 (s[0].toNat:Int) 15=((s[0].toNat % 16:Nat):Int)):=Lib.hid H.out.2.1
  go_enter Tryz.func114,Tryz.ntmps114
  go_wp2_with fail
  go_quiet (fail)
  go_wp2_with fail
  rw [HA.out]
  go_loop [3,4] (fun r x => ∃ i q:Nat,1 ≤ i ∧ i ≤ s.size ∧ x=.int .i64 i ∧ r=.int .i64 q ∧ q < 4 * 64 ^ i ∧ Hid (zex s.data.toList=zeN (s.data.toList.drop i) q)) (fun _ x => s.size - (intOf x).toNat)
  case atStart => exact ⟨1,s[0].toNat % 16,Nat.le_refl _,h1,rfl,rfl,by omega,HE⟩
  case round =>
   obtain ⟨i,q,hi1,hi,rfl,rfl,hq,HR⟩:=hrel
   have hp:=ziH (show i ≤ 4 by omega)
   have hq2:q < 67108864:=by omega
   have HP:=Lib.hid (pow4 i)
   have Hq:=Lib.hid hq
   clear hp hq
   by_cases hlt:i < s.size
   ·have hcc:=s[i].toNat_lt
    have HO:Hid (bits .or .i64 ((q:Int) * 64) (bits .and .i64 (s[i].toNat:Int) 63)=((q * 64 + s[i].toNat % 64:Nat):Int)):=Lib.hid (by rw [zif s[i].toNat (by omega)]; exact or64 q (s[i].toNat % 64) (by omega) (by omega))
    have HN:Hid (zex s.data.toList=zeN (s.data.toList.drop (i + 1)) (q * 64 + s[i].toNat % 64)):=Lib.hid (by rw [HR.out,zbu s i hlt]; rfl)
    go_wp2_with fail
    go_round
    case rel =>
     refine ⟨i + 1,q * 64 + s[i].toNat % 64,by omega,by omega,by go_num,by rw [HO.out],?_,HN⟩
     rw [HP.out]
     have:=Hq.out
     generalize 4 * 64 ^ i=P at *
     omega
    case measure => simp [intOf]; omega
   ·have HN:Hid (zex s.data.toList=q):=Lib.hid (by rw [HR.out,List.drop_of_length_le (by rw [zah]; omega)]; rfl)
    go_wp2_with fail
    go_ret
    exact ⟨zaW (by rw [HN.out]),(Qb.refl _).drewN _⟩
 ·have HE:Hid (zex s.data.toList=zeN (s.data.toList.drop 1) (s[0].toNat % 8)):=Lib.hid (by rw [HV.out,hz]; rfl)
  have HA:Hid (bits .and .i64 (s[0].toNat:Int) 7=((s[0].toNat % 8:Nat):Int)):=Lib.hid H.out.2.2
  go_enter Tryz.func114,Tryz.ntmps114
  go_wp2_with fail
  go_quiet (fail)
  go_wp2_with fail
  rw [HA.out]
  go_loop [3,4] (fun r x => ∃ i q:Nat,1 ≤ i ∧ i ≤ s.size ∧ x=.int .i64 i ∧ r=.int .i64 q ∧ q < 4 * 64 ^ i ∧ Hid (zex s.data.toList=zeN (s.data.toList.drop i) q)) (fun _ x => s.size - (intOf x).toNat)
  case atStart => exact ⟨1,s[0].toNat % 8,Nat.le_refl _,h1,rfl,rfl,by omega,HE⟩
  case round =>
   obtain ⟨i,q,hi1,hi,rfl,rfl,hq,HR⟩:=hrel
   have hp:=ziH (show i ≤ 4 by omega)
   have hq2:q < 67108864:=by omega
   have HP:=Lib.hid (pow4 i)
   have Hq:=Lib.hid hq
   clear hp hq
   by_cases hlt:i < s.size
   ·have hcc:=s[i].toNat_lt
    have HO:Hid (bits .or .i64 ((q:Int) * 64) (bits .and .i64 (s[i].toNat:Int) 63)=((q * 64 + s[i].toNat % 64:Nat):Int)):=Lib.hid (by rw [zif s[i].toNat (by omega)]; exact or64 q (s[i].toNat % 64) (by omega) (by omega))
    have HN:Hid (zex s.data.toList=zeN (s.data.toList.drop (i + 1)) (q * 64 + s[i].toNat % 64)):=Lib.hid (by rw [HR.out,zbu s i hlt]; rfl)
    go_wp2_with fail
    go_round
    case rel =>
     refine ⟨i + 1,q * 64 + s[i].toNat % 64,by omega,by omega,by go_num,by rw [HO.out],?_,HN⟩
     rw [HP.out]
     have:=Hq.out
     generalize 4 * 64 ^ i=P at *
     omega
    case measure => simp [intOf]; omega
   ·have HN:Hid (zex s.data.toList=q):=Lib.hid (by rw [HR.out,List.drop_of_length_le (by rw [zah]; omega)]; rfl)
    go_wp2_with fail
    go_ret
    exact ⟨zaW (by rw [HN.out]),(Qb.refl _).drewN _⟩
end Go.Proofs.YthmdohgkmdkeeaaGreatDoor
namespace Go.Proofs.YthmdohgkmdkeeaaGreatDoor
open Go.RowKit
theorem valN_enc {r:Nat} (h:cpB (r:Int)=true):zex (zdN r)=r:=by
 have hr:=(of_decide_eq_true h).2.1
 unfold zdN
 by_cases h1:r < 128
 ·rw [if_pos h1]
  show (u8b r).toNat=r
  exact zaz (by omega)
 rw [if_neg h1]
 by_cases h2:r < 2048
 ·rw [if_pos h2]
  show (u8b (192 + r / 64)).toNat % 32 * 64 + (u8b (128 + r % 64)).toNat % 64=r
  rw [zaz (by omega),zaz (by omega)]; omega
 rw [if_neg h2]
 by_cases h3:r < 65536
 ·rw [if_pos h3]
  show ((u8b (224 + r / 4096)).toNat % 16 * 64 + (u8b (128 + r / 64 % 64)).toNat % 64) * 64 + (u8b (128 + r % 64)).toNat % 64=r
  rw [zaz (by omega),zaz (by omega),zaz (by omega)]; omega
 ·rw [if_neg h3]
  show (((u8b (240 + r / 262144)).toNat % 8 * 64 + (u8b (128 + r / 4096 % 64)).toNat % 64) * 64 + (u8b (128 + r / 64 % 64)).toNat % 64) * 64 + (u8b (128 + r % 64)).toNat % 64=r
  rw [zaz (by omega),zaz (by omega),zaz (by omega),zaz (by omega)]; omega
def ziS (l:List UInt8):Bool:=decide ((zeW (zex l)).1=0) && ((zeW (zex l)).2 == l)
theorem znW {l:List UInt8} {n:Nat} (hn:n ≤ l.length) (h:ziS (l.take n)=true):zbF l=some (zex (l.take n),n):=by
 unfold ziS at h
 rw [Bool.and_eq_true,decide_eq_true_eq,beq_iff_eq] at h
 rcases hc:cpB (zex (l.take n):Int) with _ | _
 ·have:=h.1
  unfold zeW at this
  rw [hc,if_neg Bool.false_ne_true] at this
  exact absurd this (by decide)
 ·have h2:=h.2
  unfold zeW at h2
  rw [hc,if_pos rfl,Int.toNat_natCast] at h2
  exact zi4 hc h2 hn
theorem isEnc_no {l:List UInt8} {n r:Nat} (h:zbF l=some (r,n)):ziS (l.take n)=true:=by
 have hb:=za9 h
 have hv:zex (l.take n)=r:=by rw [← hb.2.1]; exact valN_enc hb.1
 unfold ziS zeW
 rw [hv,hb.1,if_pos rfl,Int.toNat_natCast,hb.2.1]
 simp
theorem zeB (s:ByteArray) (a:Int) (w:World) (hs:s.size ≤ 140737488351232) :
  Calls Tryz.prog 92 #[.string s,.int .i64 a] w fun e w' => e=.returned (triV (zb3 s.data.toList a)) ∧ Qb w w':=by
 by_cases h:a < 0 ∨ (s.size:Int) ≤ a
 ·rw [zf8 (by rw [zah]; exact h)]
  by_cases h0:a < 0
  ·clear h
   go_enter Tryz.func92,Tryz.ntmps92
   go_wp2_with fail
   go_ret3
   exact ⟨rfl,Qb.refl _⟩
  ·have h1:(s.size:Int) ≤ a:=by omega
   clear h
   go_enter Tryz.func92,Tryz.ntmps92
   go_wp2_with fail
   go_ret3
   exact ⟨rfl,Qb.refl _⟩
 ·obtain ⟨k,rfl⟩:=Int.eq_ofNat_of_zero_le (show 0 ≤ a by omega)
  have hk:k < s.size:=by omega
  clear h
  have hb0:decide ((k:Int) < 0)=false:=decide_eq_false (by omega)
  have hbs:decide (s.size ≤ k)=false:=decide_eq_false (by omega)
  go_enter Tryz.func92,Tryz.ntmps92
  go_wp2_with fail
  go_loopw [7,8,9,10] (fun x _ _ _ wr => ∃ n:Nat,1 ≤ n ∧ n ≤ 5 ∧ x=.int .i64 n ∧ Hid (∀ r m,zbF (s.data.toList.drop k)=some (r,m) → n ≤ m) ∧ Qb w wr) (fun x _ _ _ _ => 5 - (intOf x).toNat)
  case atStart => exact ⟨1,Nat.le_refl _,by omega,rfl,Lib.hid fun r m hd => (za9 hd).2.2.2.1,Qb.refl w⟩
  case round =>
   obtain ⟨n,h1,h5,rfl,HM,hq⟩:=hrel
   by_cases hlt:n ≤ 4 ∧ k + n ≤ s.size
   ·obtain ⟨h4,hle⟩:=hlt
    have hx:Hid ((s.extract k (k + n)).data.toList=(s.data.toList.drop k).take n):=Lib.hid (by rw [Lib.extract_data,Nat.add_sub_cancel_left])
    have hsz:=size_extract s k (k + n) hle
    have hz1:1 ≤ (s.extract k (k + n)).size:=by omega
    have hz4:(s.extract k (k + n)).size ≤ 4:=by omega
    clear hsz
    go_wp2_with fail
    refine (zkY _ hz1 hz4 _).mono ?_
    rintro e w1 ⟨rfl,hq1⟩
    rw [hx.out]
    rcases hi:ziS ((s.data.toList.drop k).take n) with _ | _
    ·have HN:Hid (∀ r m,zbF (s.data.toList.drop k)=some (r,m) → n + 1 ≤ m):=Lib.hid fun r m hd => by
      have h6:=HM.out r m hd
      have h7:n ≠ m:=by
       rintro rfl
       rw [isEnc_no hd] at hi; cases hi
      omega
     obtain ⟨er,eb,hres,hor⟩:∃ er eb,resV (zeW (zex ((s.data.toList.drop k).take n)))=.tuple #[.string eb,.int .i64 er] ∧ ((er == 0)=false ∨ (eb.toList == (s.extract k (k + n)).toList)=false):=by
      refine ⟨_,_,rfl,?_⟩
      unfold ziS at hi
      rw [Bool.and_eq_false_iff,decide_eq_false_iff_not,beq_eq_false_iff_ne] at hi
      rcases hi with hi | hi
      ·exact .inl (beq_eq_false_iff_ne.2 hi)
      ·refine .inr (beq_eq_false_iff_ne.2 fun e => hi ?_)
       rw [ByteArray.toList_eq,ByteArray.toList_eq,hx.out] at e
       exact e
     have HR:=Lib.hid hres
     clear hres hi
     generalize zex ((s.data.toList.drop k).take n)=q at *
     go_wp2_with fail
     refine (zeA _ _).mono ?_
     rintro e w2 ⟨rfl,hq2⟩
     rw [HR.out]
     rcases hor with ho | ho
     ·go_wp2_with fail
      go_roundw
      case rel => exact ⟨n + 1,by omega,by omega,by go_num,HN,(hq.trans hq1).trans hq2⟩
      case measure => simp [intOf]; omega
     ·by_cases he:er=0
      ·subst he
       go_wp2_with fail
       go_roundw
       case rel => exact ⟨n + 1,by omega,by omega,by go_num,HN,(hq.trans hq1).trans hq2⟩
       case measure => simp [intOf]; omega
      ·have he1:(er == 0)=false:=beq_eq_false_iff_ne.2 he
       clear he
       go_wp2_with fail
       go_roundw
       case rel => exact ⟨n + 1,by omega,by omega,by go_num,HN,(hq.trans hq1).trans hq2⟩
       case measure => simp [intOf]; omega
    ·have HD:=Lib.hid (znW (by rw [List.length_drop,zah]; omega) hi)
     have hres:resV (zeW (zex ((s.data.toList.drop k).take n)))=.tuple #[.string (s.extract k (k + n)),.int .i64 0]:=by
      unfold ziS at hi
      rw [Bool.and_eq_true,decide_eq_true_eq,beq_iff_eq] at hi
      unfold resV
      rw [hi.1,hi.2,← hx.out]
     have HR:=Lib.hid hres
     clear hres hi
     generalize zex ((s.data.toList.drop k).take n)=q at *
     go_wp2_with fail
     refine (zeA _ _).mono ?_
     rintro e w2 ⟨rfl,hq2⟩
     rw [HR.out]
     go_wp2_with fail
     go_ret3
     exact ⟨by rw [zdF (by rw [zah]; exact hk) HD.out]; rfl,(hq.trans hq1).trans hq2⟩
   ·have HN:Hid (zbF (s.data.toList.drop k)=none):=Lib.hid (by
     rcases hd:zbF (s.data.toList.drop k) with _ | ⟨r,m⟩
     ·rfl
     ·have h6:=HM.out r m hd
      have hb:=za9 hd
      have hb1:=hb.2.2.1
      rw [List.length_drop,zah] at hb1
      omega)
    by_cases h4:n ≤ 4
    ·have hgt:s.size < k + n:=by omega
     clear hlt
     go_wp2_with fail
     go_ret3
     exact ⟨by rw [zbk (by rw [zah]; exact hk) HN.out]; rfl,hq⟩
    ·clear hlt
     go_wp2_with fail
     go_ret3
     exact ⟨by rw [zbk (by rw [zah]; exact hk) HN.out]; rfl,hq⟩
end Go.Proofs.YthmdohgkmdkeeaaGreatDoor
namespace Go.Proofs.YthmdohgkmdkeeaaGreatDoor
open Go.RowKit
theorem zk6 (s:ByteArray) (w:World) (hs:s.size ≤ 140737488351232) :
  Calls Tryz.prog 93 #[.string s] w fun e w' => e=.returned (.int .i64 (zlk s.data.toList)) ∧ Qb w w':=by
 go_enter Tryz.func93,Tryz.ntmps93
 go_wp2_with fail
 go_loopw [3,4] (fun c a wr => ∃ j m:Nat,j ≤ s.size ∧ m ≤ j ∧ a=.int .i64 j ∧ c=.int .i64 m ∧ Hid (zlk s.data.toList=addC m (zlk (s.data.toList.drop j))) ∧ Qb w wr) (fun _ a _ => s.size - (intOf a).toNat)
 case atStart => exact ⟨0,0,Nat.zero_le _,Nat.le_refl _,rfl,rfl,Lib.hid (zoV _),Qb.refl w⟩
 case round =>
  obtain ⟨j,m,hj,hm,rfl,rfl,HC,hq⟩:=hrel
  by_cases hlt:j < s.size
  ·rcases hd:zbF (s.data.toList.drop j) with _ | ⟨r,n⟩
   ·have HR:=Lib.hid (zbk (l:=s.data.toList) (k:=j) (by rw [zah]; exact hlt) hd)
    have HN:=Lib.hid (zia (by intro e; have:=congrArg List.length e; rw [List.length_drop,zah] at this; simp at this; omega) hd)
    clear hd
    go_wp2_with fail
    refine (zeB s j _ hs).mono ?_
    rintro e w1 ⟨rfl,hq1⟩
    rw [HR.out]
    unfold triV
    go_wp2_with fail
    go_ret
    exact ⟨zaW (by rw [HC.out,HN.out]; rfl),hq.trans hq1⟩
   ·have HR:=Lib.hid (zdF (l:=s.data.toList) (k:=j) (by rw [zah]; exact hlt) hd)
    have HN:=Lib.hid (zh9 hd)
    have hb:=za9 hd
    have hb1:=hb.2.2.1
    rw [List.length_drop,zah] at hb1
    have hb2:=hb.2.2.2.1
    clear hd hb
    go_wp2_with fail
    refine (zeB s j _ hs).mono ?_
    rintro e w1 ⟨rfl,hq1⟩
    rw [HR.out]
    unfold triV
    go_wp2_with fail
    go_roundw
    case rel => exact ⟨j + n,m + 1,by omega,by omega,by go_num,by go_num,Lib.hid (by rw [HC.out,HN.out,List.drop_drop,zoW _ _ _ (zoC _)]),hq.trans hq1⟩
    case measure => simp [intOf]; omega
  ·have HN:Hid (zlk (s.data.toList.drop j)=0):=Lib.hid (by rw [List.drop_of_length_le (by rw [zah]; omega)]; rfl)
   go_wp2_with fail
   go_ret
   exact ⟨zaW (by rw [HC.out,HN.out]; unfold addC; rw [if_neg (by decide)]; omega),hq⟩
theorem zen (s:ByteArray) (w:World) (hs:s.size ≤ 140737488351232) :
  Calls Tryz.prog 75 #[.string s] w fun e w' => e=.returned (.bool (za2 s.data.toList)) ∧ Qb w w':=by
 go_enter Tryz.func75,Tryz.ntmps75
 go_wp2_with fail
 refine (zk6 s _ hs).mono ?_
 rintro e w1 ⟨rfl,hq1⟩
 go_wp2_with fail
 go_ret
 exact ⟨rfl,hq1⟩
end Go.Proofs.YthmdohgkmdkeeaaGreatDoor
namespace Go.Proofs.YthmdohgkmdkeeaaGreatDoor
open Go.RowKit Sx
class Utf (P:Program) [Tabs P]:Prop where
 ut:∀ w:World,Tabs.T (P:=P) w → UTabs w
section
variable [Tabs Tryz.prog] {objs:List OB} {K:List OB → AV → Prop}
theorem zlG [Utf Tryz.prog] (r:Int) (hk:K objs (.tup [.s (zeW r).2,.i .i64 (zeW r).1])):zad Tryz.prog 98 [.i .i64 r] objs K :=
 convT (vs:=[.int .i64 r]) rfl rfl (fun w hT => zlp r w (Utf.ut w hT)) hk
theorem zg4 [Utf Tryz.prog] (s:List UInt8) (a:Int) (hs:s.length ≤ 140737488351232) (hk:K objs (.tup [.i .i64 (zb3 s a).1,.i .i64 (zb3 s a).2.1,.i .i64 (zb3 s a).2.2])):zad Tryz.prog 95 [.s s,.i .i64 a] objs K :=
 convT (vs:=[.string (S s),.int .i64 a]) rfl rfl (fun w hT => zlr (S s) a w (by rw [zcj]; exact hs) (Utf.ut w hT)) hk
theorem zhn (s:List UInt8) (hs:s.length ≤ 140737488351232) (hk:K objs (.b (za2 s))):zad Tryz.prog 75 [.s s] objs K :=
 conv (vs:=[.string (S s)]) rfl rfl (fun w => zen (S s) w (by rw [zcj]; exact hs)) hk
end
end Go.Proofs.YthmdohgkmdkeeaaGreatDoor
namespace Go.Proofs.YthmdohgkmdkeeaaGreatDoor.Sx
open Go.RowKit
theorem zgS {k:IntKind} {r:Int} {K K':Int → Prop} (hk:∀ v,K v → K' v) (h:arK k r K):arK k r K':=by
 cases k
 all_goals first | exact hk _ h | exact ⟨h.1,hk _ h.2⟩
theorem zoK {op:BinOp} {x y:AV} {K K':AV → Prop} (hk:∀ v,K v → K' v) (h:binK op x y K):binK op x y K':=by
 unfold binK at h ⊢
 split at h
 ·refine ⟨h.1,?_⟩
  replace h:=h.2
  cases op
  all_goals first
   | exact h.elim
   | exact zgS (fun _ g => hk _ g) h
   | exact ⟨h.1,zgS (fun _ g => hk _ g) h.2⟩
   | exact ⟨h.1,hk _ h.2⟩
   | exact hk _ h
 all_goals
  revert h
  cases op
  all_goals first
   | exact fun h => h.elim
   | exact fun h => ⟨h.1,hk _ h.2⟩
   | exact fun h => hk _ h
section
variable {P:Program} [Tabs P] {C:Cx}
theorem zeP {so:SOp} {objs:List OB} {tm:List AV} {K K':List OB → AV → Prop} (hk:∀ o v,K o v → K' o v) (h:wpS P so objs tm K):wpS P so objs tm K':=by
 cases so
 all_goals simp only [wpS] at h ⊢
 all_goals try exact hk _ _ h
 all_goals try exact ⟨h.1,hk _ _ h.2⟩
 all_goals try exact zoK (fun _ g => hk _ _ g) h
 all_goals try exact h.mono hk
 all_goals try exact ⟨h.1,h.2.mono fun _ _ g => ⟨g.1,hk _ _ g.2⟩⟩
 all_goals
  revert h
  repeat' split
  all_goals first
   | exact fun h => h.elim
   | exact fun h => hk _ _ h
   | exact fun h => ⟨h.1,hk _ _ h.2⟩
   | exact fun h => zgS (fun _ g => hk _ _ g) h
   | exact fun h => ⟨fun e => hk _ _ (h.1 e),fun e => hk _ _ (h.2 e)⟩
   | exact fun ⟨v,h1,h2⟩ => ⟨v,h1,hk _ _ h2⟩
   | exact fun ⟨h0,l,h1,h2⟩ => ⟨h0,l,h1,hk _ _ h2⟩
   | exact fun h => ⟨h.1,h.2.mono hk⟩
theorem zbh:∀ {l:List SO} {objs:List OB} {tm:List AV} {K K':List OB → List AV → Prop},(∀ o t,K o t → K' o t) → wpR P l objs tm K → wpR P l objs tm K'
 | [],_,_,_,_,hk,h => hk _ _ h
 | ⟨dst,op,none⟩ :: r,_,_,_,_,hk,h => zeP (fun _ _ g => zbh hk g) h
 | ⟨dst,op,some (t,want)⟩ :: r,objs,tm,K,K',hk,h => by
  simp only [wpR] at h ⊢
  revert h
  split
  ·exact fun h => ⟨fun e => zeP (fun _ _ g => zbh hk g) (h.1 e),fun e => zbh hk (h.2 e)⟩
  ·exact fun h => zbh hk h
  ·exact fun h => h.elim
theorem zcF:∀ {l:List SO} {objs:List OB} {tm:List AV} {K K':List OB → List AV → Prop},(∀ o t,K o t → K' o t) → wpD P l objs tm K → wpD P l objs tm K'
 | [],_,_,_,_,hk,h => hk _ _ h
 | ⟨dst,op,none⟩ :: r,_,_,_,_,hk,h => by
  simp only [wpD] at h ⊢
  revert h
  split
  ·exact fun ⟨v,h1,h2⟩ => ⟨v,h1,zcF hk h2⟩
  ·exact fun h => zeP (fun _ _ g => zcF hk g) h
 | ⟨dst,op,some (t,want)⟩ :: r,objs,tm,K,K',hk,h => by
  simp only [wpD] at h ⊢
  revert h
  split
  ·refine fun h => ⟨fun e => ?_,fun e => zcF hk (h.2 e)⟩
   have h1:=h.1 e
   revert h1
   split
   ·exact fun ⟨v,h1,h2⟩ => ⟨v,h1,zcF hk h2⟩
   ·exact fun h => zeP (fun _ _ g => zcF hk g) h
  ·exact fun h => zcF hk h
  ·exact fun h => h.elim
theorem zkT {N N':List OB → List AV → Prop} {K K':zaI} (hn:∀ o t,N o t → N' o t) (hk:∀ e o t,K e o t → K' e o t):∀ e o t,zeK N K e o t → zeK N' K' e o t:=by
 intro e o t h
 cases e <;> first | exact hn _ _ h | exact hk _ _ _ h
theorem zoJ {id:Nat} {K K':zaI} (hk:∀ e o t,K e o t → K' e o t):∀ e o t,blkK id K e o t → blkK id K' e o t:=by
 intro e o t h
 cases e
 all_goals try exact hk _ _ _ h
 rename_i i
 unfold blkK at h ⊢
 simp only at h ⊢
 split at h
 ·rename_i g; rw [if_pos g]; exact hk _ _ _ h
 ·rename_i g; rw [if_neg g]; exact hk _ _ _ h
theorem zjd:∀ (st:List (List SO × SO)) (h:List (List SO × List AV × List AV)) (last:List SO) (o:List OB) (t:List AV) {K K':List OB → List AV → Prop},(∀ o t,K o t → K' o t) → wpT P st h last o t K → wpT P st h last o t K'
 | [],h,last,o,t,K,K',hk,g => zbh hk g
 | (L,c) :: st,h,last,o,t,K,K',hk,g => zbh (fun _ _ g => zbh (fun _ _ g => ⟨g.1,zjd st _ last _ _ hk g.2⟩) g) g
theorem zdd:∀ (c:SCode) {K K':zaI} {objs:List OB} {tm:List AV},(∀ e o t,K e o t → K' e o t) → wpC P C c K objs tm → wpC P C c K' objs tm
 | .skip,_,_,_,_,hk,h => hk _ _ _ h
 | .reg l,_,_,_,_,hk,h => zbh (fun _ _ g => hk _ _ _ g) h
 | .drw l k ap,_,_,_,_,hk,h => zcF (fun _ _ g => ⟨g.1,zbh (fun _ _ g => hk _ _ _ g) g.2⟩) h
 | .crg pre cl post,_,_,_,_,hk,h => zbh (fun _ _ g => zbh (fun _ _ g => ⟨g.1,zbh (fun _ _ g => hk _ _ _ g) g.2⟩) g) h
 | .crs st last,_,_,_,_,hk,h => zjd st [] last _ _ (fun _ _ g => hk _ _ _ g) h
 | .seq x y,_,_,_,_,hk,h => zdd x (zkT (fun _ _ g => zdd y hk g) hk) h
 | .cond c x y,_,_,_,_,hk,h => by
  simp only [wpC] at h ⊢
  revert h
  split
  ·exact fun h => ⟨fun e => zdd x hk (h.1 e),fun e => zdd y hk (h.2 e)⟩
  ·exact fun h => h.elim
 | .blk id c,_,_,_,_,hk,h => zdd c (zoJ hk) h
 | .loop c,_,_,_,_,hk,h => fun c hc => WP.mono (fun e o t g => by cases e <;> first | exact hk _ _ _ g | exact g) (h c hc)
 | .exit id,_,_,_,_,hk,h => hk _ _ _ h
 | .ret,_,_,_,_,hk,h => hk _ _ _ h
 | .dead,_,_,_,_,hk,h => h.elim
def cutF (P:Program) [Tabs P] (C:Cx) (J:List OB → List AV → Prop) (k:List IT) (F:zaI):zaI:=zeK J (zcV P C F k)
variable {F:zaI} {k:List IT} {objs:List OB} {tm:List AV}
theorem zab (J:List OB → List AV → Prop):cutF P C J k F .normal objs tm=J objs tm:=Eq.trans rfl rfl
theorem zbv (J:List OB → List AV → Prop) (id:Nat):cutF P C J k F (.exit id) objs tm=xit P C id k objs tm F:=Eq.trans rfl rfl
theorem zaG {x:SCode} (J:List OB → List AV → Prop) (h:run P C [.code x] objs tm (cutF P C J k F)) (hJ:∀ o t,J o t → run P C k o t F):run P C (.code x :: k) objs tm F :=
 zdd x (fun e o t g => by
  cases e
  ·exact hJ _ _ g
  all_goals exact g) h
end
end Go.Proofs.YthmdohgkmdkeeaaGreatDoor.Sx
namespace Go.Proofs.YthmdohgkmdkeeaaGreatDoor.Sx
open Go.RowKit
section
variable {P:Program} [Tabs P] {C:Cx} {F:zaI} {k:List IT} {objs:List OB} {tm:List AV}
theorem zaa {x y:SCode} (h:∀ Y,Y=y → run P C (.code x :: .code Y :: k) objs tm F):run P C (.code (.seq x y) :: k) objs tm F:=h y rfl
theorem zbI (J:List AV → Prop) (h:J tm) (hk:∀ t,J t → run P C k objs t F):run P C k objs tm F:=hk tm h
end
end Go.Proofs.YthmdohgkmdkeeaaGreatDoor.Sx
namespace Go.Proofs.YthmdohgkmdkeeaaGreatDoor
open Nat renaming reduceAdd → z6, reduceSub → z7, reduceLeDiff → z8, reduceLT → j4, reduceMul → j5, reduceEqDiff → j6
open Int renaming reduceToNat → j7, reduceAdd → j8, reduceSub → j9, reduceMul → x0, reduceNeg → x3, reduceLT → x4, reduceLE → x5, reduceEq → x6, reduceNe → x7
open Go.RowKit Sx
theorem iv {k:IntKind} {x y:Int} (h:x=y):some (AV.i k x)=some (AV.i k y):=by rw [h]
theorem zl7 (s:List UInt8) (i:Nat) (h:i < s.length):zaQ (s.drop i)=if zai s[i]=true then zaQ (s.drop (i + 1)) + 1 else 0:=by
 rw [List.drop_eq_getElem_cons h,zaQ]
theorem zl6 (s:List UInt8):zaQ (s.drop s.length)=0:=by rw [List.drop_length]; rfl
theorem get_some {s:List UInt8} {i:Nat} (h:i < s.length) {c:UInt8}:(s[i]? = some c) ↔ s[i]=c:=by
 rw [List.getElem?_eq_getElem h,Option.some.injEq]
theorem zbi {s:List UInt8} {i:Nat} (h:¬ i < s.length) {c:UInt8}:¬ s[i]? = some c:=by
 rw [List.getElem?_eq_none (by omega)]; simp
theorem zbN {c:UInt8} {k:Nat} (hk:k < 256):(((c.toNat:Nat):Int)=((k:Nat):Int)) ↔ c=UInt8.ofNat k:=by
 constructor
 ·intro h
  have h2:c.toNat=k:=by omega
  rw [← h2]; simp
 ·rintro rfl
  rw [UInt8.toNat_ofNat']; omega
theorem zeu {s:List UInt8} {i:Nat} (h:i < s.length) (k:Nat) (hk:k < 256):s[i]? = some (UInt8.ofNat k) ↔ ((s[i].toNat:Nat):Int)=((k:Nat):Int):=by
 rw [get_some h]
 exact (zbN hk).symm
theorem zft (s:List UInt8) (a i:Nat):(s.drop a)[i]? = s[a + i]?:=List.getElem?_drop
theorem zgI (s:List UInt8) (a i:Nat):(s.drop a).drop i=s.drop (a + i):=List.drop_drop
section
variable [Tabs Tryz.prog] {objs:List OB} {K:List OB → AV → Prop}
theorem zdE (s:List UInt8) (a:Nat) (ha:a ≤ s.length) (hs:s.length ≤ 9000000000000000000) (hk:K objs (.i .i64 ((a + zaQ (s.drop a):Nat):Int))):zad Tryz.prog 82 [.s s,.i .i64 (a:Nat)] objs K:=by
 refine zaX is_token_digitsEnd rfl fun C _ => ?_
 simp only [c_token_digitsEnd,sxZ,z6,z7,z8,j4,j5,j6,j7,j8,j9,x0,x3,x4,x5,x6,x7,reduceCtorEq,↓reduceIte]
 refine zaE (fun n objs tm => ∃ i:Nat,i ≤ s.length ∧ n=s.length - i ∧ objs=[] ∧ a + zaQ (s.drop a)=i + zaQ (s.drop i) ∧ tm.length=18 ∧ tm[0]? = some (.s s) ∧ tm[1]? = some (.i .i64 i)) (s.length - a) ⟨a,ha,rfl,rfl,rfl,rfl,rfl,rfl⟩ ?_
 rintro n _ tm ⟨i,hi,rfl,rfl,hr,hlen,t0,t1⟩
 by_cases hlt:(i:Int) < s.length
 ·have hlt':i < s.length:=by omega
  have hg:=zay hlt'
  have hrn:=zl7 s i hlt'
  simp only [sxZ,z6,z7,z8,j4,j5,j6,j7,j8,j9,x0,x3,x4,x5,x6,x7,reduceCtorEq,↓reduceIte,List.getElem?_set,hlen,t0,t1,hlt]
  refine ⟨by omega,?_⟩
  rw [hg]
  generalize s[i]=c at *
  refine zam (zkQ c ?_)
  by_cases hd:zai c=true
  ·rw [if_pos hd] at hrn
   simp only [hd,sxZ,z6,z7,z8,j4,j5,j6,j7,j8,j9,x0,x3,x4,x5,x6,x7,reduceCtorEq,↓reduceIte,List.getElem?_set,hlen,t0,t1]
   exact ⟨⟨by omega,by omega⟩,s.length - (i + 1),by omega,i + 1,by omega,rfl,by omega,rfl⟩
  ·rw [if_neg hd] at hrn
   simp only [Bool.not_eq_true] at hd
   simp only [hd,sxZ,z6,z7,z8,j4,j5,j6,j7,j8,j9,x0,x3,x4,x5,x6,x7,reduceCtorEq,↓reduceIte,List.getElem?_set,hlen,t0,t1]
   rw [hr,hrn] at hk
   exact hk
 ·obtain rfl:i=s.length:=by omega
  simp only [sxZ,z6,z7,z8,j4,j5,j6,j7,j8,j9,x0,x3,x4,x5,x6,x7,reduceCtorEq,↓reduceIte,List.getElem?_set,hlen,t0,t1,hlt]
  rw [hr,zl6] at hk
  exact hk
theorem znV (c:UInt8) (hk:K objs (.b (zbt c))):zad Tryz.prog 33 [.i .u8 c.toNat] objs K:=by
 refine zaX is_token_isSpace rfl fun C _ => ?_
 have h32:=zbN (c:=c) (k:=32) (by decide)
 have h9:=zbN (c:=c) (k:=9) (by decide)
 have h10:=zbN (c:=c) (k:=10) (by decide)
 have h13:=zbN (c:=c) (k:=13) (by decide)
 have hw:zbt c=decide (c=32 ∨ c=9 ∨ c=10 ∨ c=13):=by
  have:∀ n:Fin 256,zbt (UInt8.ofNat n.val)=decide (UInt8.ofNat n.val=32 ∨ UInt8.ofNat n.val=9 ∨ UInt8.ofNat n.val=10 ∨ UInt8.ofNat n.val=13):=by decide +kernel
  simpa using this ⟨c.toNat,c.toNat_lt⟩
 rw [hw] at hk
 by_cases c1:((c.toNat:Nat):Int)=32
 ·rw [decide_eq_true (by have:=h32.1 c1; simp [this])] at hk
  simp only [c_token_isSpace,c1,sxZ,z6,z7,z8,j4,j5,j6,j7,j8,j9,x0,x3,x4,x5,x6,x7,reduceCtorEq,↓reduceIte]; exact hk
 by_cases c2:((c.toNat:Nat):Int)=9
 ·rw [decide_eq_true (by have:=h9.1 c2; simp [this])] at hk
  simp only [c_token_isSpace,c1,c2,sxZ,z6,z7,z8,j4,j5,j6,j7,j8,j9,x0,x3,x4,x5,x6,x7,reduceCtorEq,↓reduceIte]; exact hk
 by_cases c3:((c.toNat:Nat):Int)=10
 ·rw [decide_eq_true (by have:=h10.1 c3; simp [this])] at hk
  simp only [c_token_isSpace,c1,c2,c3,sxZ,z6,z7,z8,j4,j5,j6,j7,j8,j9,x0,x3,x4,x5,x6,x7,reduceCtorEq,↓reduceIte]; exact hk
 by_cases c4:((c.toNat:Nat):Int)=13
 ·rw [decide_eq_true (by have:=h13.1 c4; simp [this])] at hk
  simp only [c_token_isSpace,c1,c2,c3,c4,sxZ,z6,z7,z8,j4,j5,j6,j7,j8,j9,x0,x3,x4,x5,x6,x7,reduceCtorEq,↓reduceIte]; exact hk
 rw [decide_eq_false (by
  rintro (h | h | h | h)
  ·exact c1 (h32.2 h)
  ·exact c2 (h9.2 h)
  ·exact c3 (h10.2 h)
  ·exact c4 (h13.2 h))] at hk
 simp only [c_token_isSpace,c1,c2,c3,c4,sxZ,z6,z7,z8,j4,j5,j6,j7,j8,j9,x0,x3,x4,x5,x6,x7,reduceCtorEq,↓reduceIte]; exact hk
end
section
variable [Tabs Tryz.prog] {objs:List OB} {K:List OB → AV → Prop}
set_option maxHeartbeats 4000000 in
theorem zdA (s:List UInt8) (a:Nat) (ha:a ≤ s.length) (hs:s.length ≤ 9000000000000000000) (hk:K objs (.i .i64 ((a + zc5 (s.drop a):Nat):Int))):zad Tryz.prog 58 [.s s,.i .i64 (a:Nat)] objs K:=by
 refine zaX is_token_numberEnd rfl fun C _ => ?_
 rw [c_token_numberEnd]
 refine zaa fun Y1 hY1 => ?_
 simp only [sxZ,z6,z7,z8,j4,j5,j6,j7,j8,j9,x0,x3,x4,x5,x6,x7,reduceCtorEq,↓reduceIte]
 subst hY1
 refine zaa fun Y1 hY1 => ?_
 simp only [sxZ,z6,z7,z8,j4,j5,j6,j7,j8,j9,x0,x3,x4,x5,x6,x7,reduceCtorEq,↓reduceIte]
 subst hY1
 refine zaa fun Y1 hY1 => ?_
 refine zaG (fun o t => o=[] ∧ t.length=99 ∧ t[0]? = some (.s s) ∧ t[1]? = some (.i .i64 (a:Nat)) ∧ t[5]? = some (.i .i64 ((a + za0 (s.drop a):Nat):Int))) ?_ ?_
 ·unfold za0
  rw [zft,Nat.add_zero]
  by_cases c1:(a:Int) < s.length
  ·have c1':a < s.length:=by omega
   have hg:=zay c1'
   have h45:s[a]? = some 45 ↔ ((s[a].toNat:Nat):Int)=45:=zeu c1' 45 (by decide)
   by_cases c2:((s[a].toNat:Nat):Int)=45
   ·rw [if_pos (h45.2 c2)]
    simp only [c1,hg,c2,zab,sxZ,z6,z7,z8,j4,j5,j6,j7,j8,j9,x0,x3,x4,x5,x6,x7,reduceCtorEq,↓reduceIte]
    and_intros <;> first | omega | exact iv (by omega) | rfl | assumption
   ·rw [if_neg (fun h => c2 (h45.1 h))]
    simp only [c1,hg,c2,zab,sxZ,z6,z7,z8,j4,j5,j6,j7,j8,j9,x0,x3,x4,x5,x6,x7,reduceCtorEq,↓reduceIte]
    exact ⟨by omega,rfl⟩
  ·rw [if_neg (zbi (by omega))]
   simp only [c1,zab,sxZ,z6,z7,z8,j4,j5,j6,j7,j8,j9,x0,x3,x4,x5,x6,x7,reduceCtorEq,↓reduceIte]
   rfl
 rintro _ tm ⟨rfl,hlen,t0,t1,t5⟩
 subst hY1
 have hsg:a + za0 (s.drop a) ≤ s.length:=by
  unfold za0
  split
  ·rename_i h
   have:=(List.getElem?_eq_some_iff.1 h).1
   rw [List.length_drop] at this; omega
  ·omega
 refine zaa fun Y1 hY1 => ?_
 simp only [sxZ,z6,z7,z8,j4,j5,j6,j7,j8,j9,x0,x3,x4,x5,x6,x7,reduceCtorEq,↓reduceIte,List.getElem?_set,hlen,t0,t1,t5]
 refine zam (zdE s _ hsg hs ?_)
 simp only [sxZ,z6,z7,z8,j4,j5,j6,j7,j8,j9,x0,x3,x4,x5,x6,x7,reduceCtorEq,↓reduceIte,List.getElem?_set,hlen,t0,t1,t5]
 subst hY1
 refine zaa fun Y1 hY1 => ?_
 unfold zc5 at hk
 rw [zgI] at hk
 have hw:zaA (s.drop a)=if s[a + za0 (s.drop a)]? = some 48 then za0 (s.drop a) + 1 else za0 (s.drop a) + zaQ (s.drop (a + za0 (s.drop a))):=by unfold zaA; rw [zft,zgI]
 have hrl:0 < zaQ (s.drop (a + za0 (s.drop a))) → a + za0 (s.drop a) + zaQ (s.drop (a + za0 (s.drop a))) ≤ s.length:=zaL s _
 generalize za0 (s.drop a)=g at *
 by_cases c0:zaQ (s.drop (a + g))=0
 ·rw [if_pos c0] at hk
  simp only [c0,Nat.add_zero,sxZ,z6,z7,z8,j4,j5,j6,j7,j8,j9,x0,x3,x4,x5,x6,x7,reduceCtorEq,↓reduceIte,List.getElem?_set,hlen,t0,t1,t5]
  exact hk
 rw [if_neg c0] at hk
 have c0':¬ ((a + g + zaQ (s.drop (a + g)):Nat):Int)=((a + g:Nat):Int):=by omega
 simp only [c0',sxZ,z6,z7,z8,j4,j5,j6,j7,j8,j9,x0,x3,x4,x5,x6,x7,reduceCtorEq,↓reduceIte,List.getElem?_set,hlen,t0,t1,t5]
 subst hY1
 refine zaa fun Y1 hY1 => ?_
 refine zaG (fun o t => o=[] ∧ t.length=99 ∧ t[0]? = some (.s s) ∧ t[6]? = some (.i .i64 ((a + zaA (s.drop a):Nat):Int))) ?_ ?_
 ·have c1':a + g < s.length:=by have:=hrl (by omega); omega
  have hg:=zay c1'
  have h48:s[a + g]? = some 48 ↔ ((s[a + g].toNat:Nat):Int)=48:=zeu c1' 48 (by decide)
  rw [hw]
  by_cases c2:((s[a + g].toNat:Nat):Int)=48
  ·rw [if_pos (h48.2 c2)]
   simp only [hg,c2,zab,sxZ,z6,z7,z8,j4,j5,j6,j7,j8,j9,x0,x3,x4,x5,x6,x7,reduceCtorEq,↓reduceIte,List.getElem?_set,hlen,t0,t1,t5]
   and_intros <;> first | omega | exact iv (by omega) | rfl | assumption
  ·rw [if_neg (fun h => c2 (h48.1 h))]
   simp only [hg,c2,zab,sxZ,z6,z7,z8,j4,j5,j6,j7,j8,j9,x0,x3,x4,x5,x6,x7,reduceCtorEq,↓reduceIte,List.getElem?_set,hlen,t0,t1,t5]
   and_intros <;> first | omega | exact iv (by omega) | rfl | assumption
 rintro _ tm ⟨rfl,hlen,t0,t6⟩
 subst hY1
 refine zaa fun Y1 hY1 => ?_
 have hwl:a + zaA (s.drop a) ≤ s.length:=by
  rw [hw]
  have:=hrl (by omega)
  split <;> omega
 have hf:zby (s.drop a) (zaA (s.drop a))=if s[a + zaA (s.drop a)]? = some 46 ∧ 0 < zaQ (s.drop (a + zaA (s.drop a) + 1)) then zaA (s.drop a) + 1 + zaQ (s.drop (a + zaA (s.drop a) + 1)) else zaA (s.drop a):=by unfold zby; rw [zft,zgI,Nat.add_assoc a]
 generalize zaA (s.drop a)=w at *
 clear hw hrl
 refine zaG (fun o t => o=[] ∧ t.length=99 ∧ t[0]? = some (.s s) ∧ t[6]? = some (.i .i64 ((a + zby (s.drop a) w:Nat):Int))) ?_ ?_
 ·rw [hf]
  by_cases c1:((a + w:Nat):Int) < s.length
  ·have c1':a + w < s.length:=by omega
   have hg:=zay c1'
   have h46:s[a + w]? = some 46 ↔ ((s[a + w].toNat:Nat):Int)=46:=zeu c1' 46 (by decide)
   by_cases c2:((s[a + w].toNat:Nat):Int)=46
   ·simp only [c1,hg,c2,zab,sxZ,z6,z7,z8,j4,j5,j6,j7,j8,j9,x0,x3,x4,x5,x6,x7,reduceCtorEq,↓reduceIte,List.getElem?_set,hlen,t0,t6]
    refine ⟨by omega,⟨by omega,by omega⟩,?_⟩
    refine zam (zdE s (a + w + 1) (by omega) hs ?_)
    have hr:=zaL s (a + w + 1)
    generalize zaQ (s.drop (a + w + 1))=r at *
    by_cases c3:0 < r
    ·rw [if_pos ⟨h46.2 c2,c3⟩]
     have c3':((a + w:Nat):Int) + 1 < ((a + w + 1 + r:Nat):Int):=by omega
     simp only [c3',zab,sxZ,z6,z7,z8,j4,j5,j6,j7,j8,j9,x0,x3,x4,x5,x6,x7,reduceCtorEq,↓reduceIte,List.getElem?_set,hlen,t0,t6]
     and_intros <;> first | omega | exact iv (by omega) | rfl | assumption
    ·rw [if_neg (fun h => c3 h.2)]
     have c3':¬ ((a + w:Nat):Int) + 1 < ((a + w + 1 + r:Nat):Int):=by omega
     simp only [c3',zab,sxZ,z6,z7,z8,j4,j5,j6,j7,j8,j9,x0,x3,x4,x5,x6,x7,reduceCtorEq,↓reduceIte,List.getElem?_set,hlen,t0,t6]
     and_intros <;> first | omega | exact iv (by omega) | rfl | assumption
   ·rw [if_neg (fun h => c2 (h46.1 h.1))]
    simp only [c1,hg,c2,zab,sxZ,z6,z7,z8,j4,j5,j6,j7,j8,j9,x0,x3,x4,x5,x6,x7,reduceCtorEq,↓reduceIte,List.getElem?_set,hlen,t0,t6]
    and_intros <;> first | omega | exact iv (by omega) | rfl | assumption
  ·rw [if_neg (fun h => zbi (by omega) h.1)]
   simp only [c1,zab,sxZ,z6,z7,z8,j4,j5,j6,j7,j8,j9,x0,x3,x4,x5,x6,x7,reduceCtorEq,↓reduceIte,List.getElem?_set,hlen,t0,t6]
 rintro _ tm ⟨rfl,hlen,t0,t6⟩
 subst hY1
 refine zaa fun Y1 hY1 => ?_
 have hfl:a + zby (s.drop a) w ≤ s.length:=by
  rw [hf]
  split
  ·rename_i h
   have:=zaL s (a + w + 1) h.2
   omega
  ·exact hwl
 generalize zby (s.drop a) w=f at *
 clear hf
 have hx:zaT (s.drop a) f=if s[a + f + 1]? = some 43 ∨ s[a + f + 1]? = some 45 then f + 2 else f + 1:=by unfold zaT; rw [zft,Nat.add_assoc a]
 have he:ziZ (s.drop a) f=if (s[a + f]? = some 101 ∨ s[a + f]? = some 69) ∧ 0 < zaQ (s.drop (a + zaT (s.drop a) f)) then zaT (s.drop a) f + zaQ (s.drop (a + zaT (s.drop a) f)) else f:=by unfold ziZ; rw [zft,zgI]
 refine zaG (fun o t => o=[] ∧ t.length=99 ∧ t[6]? = some (.i .i64 ((a + ziZ (s.drop a) f:Nat):Int))) ?_ ?_
 ·refine zaa fun Y2 hY2 => ?_
  refine zaG (fun o t => o=[] ∧ t.length=99 ∧ t[0]? = some (.s s) ∧ t[6]? = some (.i .i64 ((a + f:Nat):Int)) ∧ t[70]? = some (.b (decide (s[a + f]? = some 101 ∨ s[a + f]? = some 69)))) ?_ ?_
  ·by_cases c1:((a + f:Nat):Int) < s.length
   ·have c1':a + f < s.length:=by omega
    have hg:=zay c1'
    have h101:s[a + f]? = some 101 ↔ ((s[a + f].toNat:Nat):Int)=101:=zeu c1' 101 (by decide)
    have h69:s[a + f]? = some 69 ↔ ((s[a + f].toNat:Nat):Int)=69:=zeu c1' 69 (by decide)
    by_cases c2:((s[a + f].toNat:Nat):Int)=101
    ·have hE:s[a + f]? = some 101 ∨ s[a + f]? = some 69:=.inl (h101.2 c2)
     simp only [c1,hg,c2,hE,zab,sxZ,z6,z7,z8,j4,j5,j6,j7,j8,j9,x0,x3,x4,x5,x6,x7,reduceCtorEq,↓reduceIte,List.getElem?_set,hlen,t0,t6]
     and_intros <;> first | omega | exact iv (by omega) | rfl | assumption
    ·by_cases c3:((s[a + f].toNat:Nat):Int)=69
     ·have hE:s[a + f]? = some 101 ∨ s[a + f]? = some 69:=.inr (h69.2 c3)
      simp only [c1,hg,c2,c3,hE,zab,sxZ,z6,z7,z8,j4,j5,j6,j7,j8,j9,x0,x3,x4,x5,x6,x7,reduceCtorEq,↓reduceIte,List.getElem?_set,hlen,t0,t6]
      and_intros <;> first | omega | exact iv (by omega) | rfl | assumption
     ·have hE:¬ (s[a + f]? = some 101 ∨ s[a + f]? = some 69):=fun h => h.elim (fun h => c2 (h101.1 h)) (fun h => c3 (h69.1 h))
      simp only [c1,hg,c2,c3,hE,zab,sxZ,z6,z7,z8,j4,j5,j6,j7,j8,j9,x0,x3,x4,x5,x6,x7,reduceCtorEq,↓reduceIte,List.getElem?_set,hlen,t0,t6]
      and_intros <;> first | omega | exact iv (by omega) | rfl | assumption
   ·have hE:¬ (s[a + f]? = some 101 ∨ s[a + f]? = some 69):=fun h => h.elim (zbi (by omega)) (zbi (by omega))
    simp only [c1,hE,zab,sxZ,z6,z7,z8,j4,j5,j6,j7,j8,j9,x0,x3,x4,x5,x6,x7,reduceCtorEq,↓reduceIte,List.getElem?_set,hlen,t0,t6]
  rintro _ tm ⟨rfl,hlen,t0,t6,t70⟩
  subst hY2
  simp only [sxZ,z6,z7,z8,j4,j5,j6,j7,j8,j9,x0,x3,x4,x5,x6,x7,reduceCtorEq,↓reduceIte,List.getElem?_set,hlen,t70]
  refine kC_split (fun hE => ?_) (fun hE => ?_)
  ·have hE:=of_decide_eq_true hE
   have c1':a + f < s.length:=by
    rcases hE with h | h
    all_goals exact (List.getElem?_eq_some_iff.1 h).1
   refine zaa fun Y3 hY3 => ?_
   simp only [sxZ,z6,z7,z8,j4,j5,j6,j7,j8,j9,x0,x3,x4,x5,x6,x7,reduceCtorEq,↓reduceIte,List.getElem?_set,hlen,t0,t6]
   refine ⟨by omega,?_⟩
   subst hY3
   refine zaa fun Y3 hY3 => ?_
   refine zaG (fun o t => o=[] ∧ t.length=99 ∧ t[0]? = some (.s s) ∧ t[6]? = some (.i .i64 ((a + f:Nat):Int)) ∧ t[8]? = some (.i .i64 ((a + zaT (s.drop a) f:Nat):Int))) ?_ ?_
   ·rw [hx]
    by_cases d1:((a + f:Nat):Int) + 1 < s.length
    ·have d1':a + f + 1 < s.length:=by omega
     have hg:=zay d1'
     have h43:s[a + f + 1]? = some 43 ↔ ((s[a + f + 1].toNat:Nat):Int)=43:=zeu d1' 43 (by decide)
     have h45:s[a + f + 1]? = some 45 ↔ ((s[a + f + 1].toNat:Nat):Int)=45:=zeu d1' 45 (by decide)
     have e1:(((a + f:Nat):Int) + 1).toNat=a + f + 1:=by omega
     by_cases c2:((s[a + f + 1].toNat:Nat):Int)=43
     ·rw [if_pos (.inl (h43.2 c2))]
      simp only [d1,e1,hg,c2,zab,sxZ,z6,z7,z8,j4,j5,j6,j7,j8,j9,x0,x3,x4,x5,x6,x7,reduceCtorEq,↓reduceIte,List.getElem?_set,hlen,t0,t6]
      and_intros <;> first | omega | exact iv (by omega) | rfl | assumption
     ·by_cases c3:((s[a + f + 1].toNat:Nat):Int)=45
      ·rw [if_pos (.inr (h45.2 c3))]
       simp only [d1,e1,hg,c2,c3,zab,sxZ,z6,z7,z8,j4,j5,j6,j7,j8,j9,x0,x3,x4,x5,x6,x7,reduceCtorEq,↓reduceIte,List.getElem?_set,hlen,t0,t6]
       and_intros <;> first | omega | exact iv (by omega) | rfl | assumption
      ·rw [if_neg (fun h => h.elim (fun h => c2 (h43.1 h)) (fun h => c3 (h45.1 h)))]
       simp only [d1,e1,hg,c2,c3,zab,sxZ,z6,z7,z8,j4,j5,j6,j7,j8,j9,x0,x3,x4,x5,x6,x7,reduceCtorEq,↓reduceIte,List.getElem?_set,hlen,t0,t6]
       and_intros <;> first | omega | exact iv (by omega) | rfl | assumption
    ·rw [if_neg (fun h => h.elim (zbi (by omega)) (zbi (by omega)))]
     simp only [d1,zab,sxZ,z6,z7,z8,j4,j5,j6,j7,j8,j9,x0,x3,x4,x5,x6,x7,reduceCtorEq,↓reduceIte,List.getElem?_set,hlen,t0,t6]
     and_intros <;> first | omega | exact iv (by omega) | rfl | assumption
   rintro _ tm ⟨rfl,hlen,t0,t6,t8⟩
   subst hY3
   have hxl:a + zaT (s.drop a) f ≤ s.length:=by
    rw [hx]
    split
    ·rename_i h
     rcases h with h | h
     all_goals
      have:=(List.getElem?_eq_some_iff.1 h).1
      omega
    ·omega
   generalize zaT (s.drop a) f=x at *
   simp only [sxZ,z6,z7,z8,j4,j5,j6,j7,j8,j9,x0,x3,x4,x5,x6,x7,reduceCtorEq,↓reduceIte,List.getElem?_set,hlen,t0,t6,t8]
   refine zam (zdE s _ hxl hs ?_)
   generalize zaQ (s.drop (a + x))=r at *
   rw [he]
   by_cases c4:0 < r
   ·rw [if_pos ⟨hE,c4⟩]
    have c4':((a + x:Nat):Int) < ((a + x + r:Nat):Int):=by omega
    simp only [c4',zab,sxZ,z6,z7,z8,j4,j5,j6,j7,j8,j9,x0,x3,x4,x5,x6,x7,reduceCtorEq,↓reduceIte,List.getElem?_set,hlen,t0,t6,t8]
    and_intros <;> first | omega | exact iv (by omega) | rfl | assumption
   ·rw [if_neg (fun h => c4 h.2)]
    have c4':¬ ((a + x:Nat):Int) < ((a + x + r:Nat):Int):=by omega
    simp only [c4',zab,sxZ,z6,z7,z8,j4,j5,j6,j7,j8,j9,x0,x3,x4,x5,x6,x7,reduceCtorEq,↓reduceIte,List.getElem?_set,hlen,t0,t6,t8]
  ·have hE:=of_decide_eq_false hE
   rw [he,if_neg (fun h => hE h.1)]
   simp only [zab,sxZ,z6,z7,z8,j4,j5,j6,j7,j8,j9,x0,x3,x4,x5,x6,x7,reduceCtorEq,↓reduceIte,List.getElem?_set,hlen,t0,t6]
 rintro _ tm ⟨rfl,hlen,t6⟩
 subst hY1
 simp only [sxZ,z6,z7,z8,j4,j5,j6,j7,j8,j9,x0,x3,x4,x5,x6,x7,reduceCtorEq,↓reduceIte,List.getElem?_set,hlen,t6]
 exact hk
end
end Go.Proofs.YthmdohgkmdkeeaaGreatDoor
namespace Go.Proofs.YthmdohgkmdkeeaaGreatDoor
open Go.RowKit Sx
theorem zoQ:∀ w,(zeroValue 120).run Tryz.prog w=.ok (.agg (Array.replicate 256 (.bool false))) w:=(zero_of_info (n:=256) (by kernel_rfl)).1
set_option maxHeartbeats 8000000 in
set_option maxRecDepth 1000000 in
theorem zhV (s chars:ByteArray) (w:World) (h8:8 < s.size) (hs:s.size ≤ 9000000000000000000) (h2:chars.size=2) (h0:chars.data.toList=[101,69]) :
  Calls Tryz.prog 100 #[.string s,.string chars] w fun e w' => e=.returned (.int .i64 (Lib.indexAny s.data.toList [101,69])) ∧ Qb w w':=by
 have hM:=Tryz.strings_makeASCIISet zoQ chars w (by omega) (fun j b hb => by
  have:∀ c ∈ chars.data.toList,c.toNat < 128:=by rw [h0]; decide
  exact this _ (List.mem_of_getElem? hb))
 rw [h0] at hM
 have hemp:chars.toList.isEmpty=false:=by rw [Lib.toList_data,h0]; rfl
 clear h0
 have hn1:((chars.size:Int) == 1)=false:=beq_eq_false_iff_ne.2 (by omega)
 have h8z:decide ((8:Int) < (s.size:Int))=true:=decide_eq_true (by omega)
 have hsc:(storeCells ⟨w.heap.size + 1,0,none⟩ (Lib.setCells [101,69]).toList 0).run Tryz.prog ((w.alloc (.cells (Lib.setCells [101,69]) 120)).alloc (.cells (Array.replicate 256 (.bool false)) 120))=.ok () ((w.alloc (.cells (Lib.setCells [101,69]) 120)).alloc (.cells (Lib.setCells [101,69]) 120)):=by
  have:=run_storeCells_new (P:=Tryz.prog) (w.alloc (.cells (Lib.setCells [101,69]) 120)) 120 (Array.replicate 256 (.bool false)) (Lib.setCells [101,69]) (by rw [Lib.setCells_size]; kernel_rfl) (by rw [Lib.setCells_size,Array.size_replicate]) (Lib.setCells_one _)
  simpa using this
 have hsz:=Lib.setCells_size [101,69]
 have HC:Hid (∀ x:UInt8,((w.alloc (.cells (Lib.setCells [101,69]) 120)).alloc (.cells (Lib.setCells [101,69]) 120)).cell? ⟨w.heap.size + 1,x.toNat,none⟩=some (.bool (([101,69]:List UInt8).contains x))):=Lib.hid (fun x => by
  rw [World.cell?_alloc_at _ _ _ _ (by simp),Lib.setCells_at])
 go_enter Tryz.func100,Tryz.ntmps100
 go_wp2_with fail
 refine (Tryz.strings_shouldUseASCIISet _ _).mono ?_
 rintro e w1 ⟨rfl,rfl⟩
 rw [h8z]
 go_wp2_with fail
 refine hM.mono ?_
 rintro e w2 ⟨rfl,rfl⟩
 go_wp2_with fail
 have hz:Tryz.zeroCells120=Array.replicate 256 (.bool false):=by kernel_rfl
 rw [hz,hsc]
 simp only [Result.andThen]
 rw [Oper.upon_skip]
 clear hM hsc hz
 go_wp2_with fail
 go_loopg [8] s.size (fun g s8 wx => ∃ i:Nat,i + g=s.size ∧ s8=.int .i64 i ∧ wx=((w1.alloc (.cells (Lib.setCells [101,69]) 120)).alloc (.cells (Lib.setCells [101,69]) 120)) ∧ Hid (Lib.NoAny s.data.toList [101,69] i))
 case atStart => exact ⟨0,by omega,rfl,rfl,Lib.hid (Lib.NoAny.zero _ _)⟩
 case round =>
  obtain ⟨i,hig,rfl,rfl,HN⟩:=hrel
  have hq:Qb w1 ((w1.alloc (.cells (Lib.setCells [101,69]) 120)).alloc (.cells (Lib.setCells [101,69]) 120)):=((Qb.refl _).alloc _).alloc _
  cases gk with
  | zero =>
   obtain rfl:i=s.size:=by omega
   have hiz:¬ ((s.size:Int) < (s.size:Int)):=by omega
   go_wp2_with fail
   go_ret
   exact ⟨by rw [Lib.indexAny_none (by rw [← Lib.size_eq]; exact HN.out)]; rfl,hq⟩
  | succ g =>
   have hi:i < s.size:=by omega
   have hiz:(i:Int) < (s.size:Int):=by omega
   obtain ⟨x,hx⟩:∃ x:UInt8,s[i]'hi=x:=⟨_,rfl⟩
   have Hx:Hid (s.data.toList[i]? = some x):=Lib.hid (by rw [← hx]; exact Lib.data_getElem? s i hi)
   have hcx:=HC.out x
   cases hin:([101,69]:List UInt8).contains x <;> rw [hin] at hcx
   ·go_wp2_with fail
    refine (Tryz.asciiSet_contains _ x _ _ hcx).mono ?_
    rintro e w' ⟨rfl,hw⟩
    rw [hw]
    go_wp2_with fail
    go_roundg g
    case measure => omega
    case rel => exact ⟨i + 1,by omega,by first | rfl | simp,rfl,Lib.hid (HN.out.succ Hx.out hin)⟩
   ·go_wp2_with fail
    refine (Tryz.asciiSet_contains _ x _ _ hcx).mono ?_
    rintro e w' ⟨rfl,hw⟩
    rw [hw]
    go_wp2_with fail
    go_ret
    exact ⟨by rw [Lib.indexAny_hit HN.out Hx.out hin]; rfl,hq⟩
theorem zkX [Tabs Tryz.prog] {objs:List OB} {K:List OB → AV → Prop} (s:List UInt8) (hs:s.length ≤ 9000000000000000000) (ha:∀ c ∈ s,c.toNat < 128) (hk:K objs (.i .i64 (Lib.indexAny s [101,69]))):zad Tryz.prog 100 [.s s,.s [101,69]] objs K :=
 conv (vs:=[.string (S s),.string (S [101,69])]) rfl rfl (fun w => by
  by_cases h8:8 < s.length
  ·exact zhV (S s) (S [101,69]) w (by rw [zcj]; exact h8) (by rw [zcj]; exact hs) (by decide) rfl
  ·refine (Tryz.strings_IndexAny_laid (S s) (S [101,69]) w (by rw [zcj]; omega) (by decide) (fun j b hb => ha b (List.mem_of_getElem? hb)) (fun j b hb => ?_)).mono fun e w' ⟨h1,h2⟩ => ⟨h1,h2⟩
   have:∀ c ∈ (S [101,69]).data.toList,c.toNat < 128:=by decide
   exact this _ (List.mem_of_getElem? hb)) hk
end Go.Proofs.YthmdohgkmdkeeaaGreatDoor
namespace Go.Proofs.YthmdohgkmdkeeaaGreatDoor
open Nat renaming reduceAdd → z6, reduceSub → z7, reduceLeDiff → z8, reduceLT → j4, reduceMul → j5, reduceEqDiff → j6
open Int renaming reduceToNat → j7, reduceAdd → j8, reduceSub → j9, reduceMul → x0, reduceNeg → x3, reduceLT → x4, reduceLE → x5, reduceEq → x6, reduceNe → x7
open Go.RowKit Sx
theorem zf5 (cs v:List UInt8):∀ u:List UInt8,(∀ c ∈ u,cs.contains c=false) → Lib.indexAny (u ++ v) cs=if Lib.indexAny v cs=-1 then -1 else u.length + Lib.indexAny v cs
 | [],_ => by
  rw [List.nil_append]
  split
  ·rename_i h; exact h
  ·simp
 | c :: u,h => by
  rw [List.cons_append,Lib.indexAny,if_neg (by rw [h c (by simp)]; simp),zf5 cs v u (fun x hx => h x (by simp [hx]))]
  by_cases hv:Lib.indexAny v cs=-1
  ·rw [if_pos hv,if_pos hv]; rfl
  ·have:=Lib.indexAny_ge cs v
   rw [if_neg hv,if_neg hv,if_neg (by rw [beq_iff_eq]; omega),List.length_cons]
   omega
theorem zbE {c:UInt8} (h:zai c=true):c.toNat < 128 ∧ ([101,69]:List UInt8).contains c=false ∧ c ≠ 46:=by
 have:=zgK h
 refine ⟨by omega,?_,?_⟩
 ·have h1:c ≠ 101:=fun e => by subst e; exact absurd this (by decide)
  have h2:c ≠ 69:=fun e => by subst e; exact absurd this (by decide)
  simp [h1,h2]
 ·rintro rfl; exact absurd this (by decide)
def NumS.body (p:NumS):List UInt8:=p.int ++ (frT p.fr ++ exT p.ex)
theorem ziY {f:List UInt8} (hf:f.all zai=true):∀ c ∈ frT f,c.toNat < 128 ∧ ([101,69]:List UInt8).contains c=false:=by
 intro c hc
 cases f with
 | nil => cases hc
 | cons a t =>
  have hc:c=46 ∨ c ∈ a :: t:=by simpa [frT] using hc
  rcases hc with rfl | hc
  ·exact ⟨by decide,by decide⟩
  ·have:=zbE (List.all_eq_true.1 hf c hc)
   exact ⟨this.1,this.2.1⟩
theorem zlm {p:NumS} (hp:p.Good):∀ c ∈ p.body,c.toNat < 128:=by
 intro c hc
 unfold NumS.body at hc
 rcases List.mem_append.1 hc with h | h
 ·exact (zbE (List.all_eq_true.1 hp.i1 c h)).1
 rcases List.mem_append.1 h with h | h
 ·exact (ziY hp.f1 c h).1
 cases he:p.ex with
 | none => rw [he] at h; cases h
 | some e =>
  obtain ⟨k,s,d⟩:=e
  obtain ⟨h1,h2,h3,h4⟩:=hp.e1 k s d he
  rw [he] at h
  have h:c=k ∨ c ∈ s ∨ c ∈ d:=by simpa [exT] using h
  rcases h with rfl | h | h
  ·rcases h1 with rfl | rfl <;> decide
  ·rcases h2 with rfl | rfl | rfl
   ·cases h
   ·simp only [List.mem_singleton] at h; subst h; decide
   ·simp only [List.mem_singleton] at h; subst h; decide
  ·exact (zbE (List.all_eq_true.1 h4 c h)).1
theorem body_idx {p:NumS} (hp:p.Good):Lib.indexAny p.body [101,69]=match p.ex with | none => -1 | some _ => ((p.int ++ frT p.fr).length:Int):=by
 have hno:∀ c ∈ p.int ++ frT p.fr,([101,69]:List UInt8).contains c=false:=by
  intro c hc
  rcases List.mem_append.1 hc with h | h
  ·exact (zbE (List.all_eq_true.1 hp.i1 c h)).2.1
  ·exact (ziY hp.f1 c h).2
 unfold NumS.body
 rw [← List.append_assoc,zf5 _ _ _ hno]
 cases he:p.ex with
 | none => rw [if_pos (by rfl)]
 | some e =>
  obtain ⟨k,s,d⟩:=e
  obtain ⟨h1,_,_,_⟩:=hp.e1 k s d he
  have h0:Lib.indexAny (exT (some (k,s,d))) [101,69]=0:=by
   unfold exT
   rw [Lib.indexAny,if_pos]
   rcases h1 with rfl | rfl <;> decide
  rw [h0,if_neg (by decide)]
  simp
theorem za3 (c x:UInt8) (t:List UInt8):Lib.trimPrefix (x :: t) [c]=(if x=c then t else x :: t) ∧ Lib.hasPrefix (x :: t) [c]=decide (x=c):=by
 have h:Lib.hasPrefix (x :: t) [c]=decide (x=c):=by
  rw [pre_take]
  by_cases h:x=c
  ·subst h; simp
  ·rw [decide_eq_false h]; simp [h]
 refine ⟨?_,h⟩
 unfold Lib.trimPrefix
 rw [h]
 by_cases hx:x=c
 ·subst hx; simp
 ·simp [hx]
theorem zl0 {p:NumS} (hp:p.Good) {k:UInt8} {s d:List UInt8} (he:p.ex=some (k,s,d)):Lib.trimPrefix (Lib.trimPrefix (s ++ d) [45]) [43]=d ∧ Lib.hasPrefix (s ++ d) [45]=decide (s=[45]):=by
 obtain ⟨_,h2,h3,h4⟩:=hp.e1 k s d he
 obtain ⟨c,t,e1,e2⟩:=zbD h3 h4
 have n45:c ≠ 45:=zbg e2 rfl
 have n43:c ≠ 43:=zbg e2 rfl
 rcases h2 with rfl | rfl | rfl
 ·rw [List.nil_append,e1,(za3 45 c t).1,if_neg n45,(za3 43 c t).1,if_neg n43,(za3 45 c t).2]
  exact ⟨rfl,by simp [n45]⟩
 ·rw [show [43] ++ d=43 :: d from rfl,(za3 45 43 d).1,if_neg (by decide),(za3 43 43 d).1,if_pos rfl,(za3 45 43 d).2]
  exact ⟨rfl,by decide⟩
 ·rw [show [45] ++ d=45 :: d from rfl,(za3 45 45 d).1,if_pos rfl,(za3 45 45 d).2,e1,(za3 43 c t).1,if_neg n43]
  exact ⟨rfl,by decide⟩
theorem zh8 {p:NumS} (hp:p.Good):zfJ 46 (p.int ++ frT p.fr)=(p.int,p.fr,!p.fr.isEmpty):=by
 have key:∀ (u v:List UInt8),(∀ c ∈ u,c ≠ 46) → zfJ 46 (u ++ v)=(u ++ (zfJ 46 v).1,(zfJ 46 v).2.1,(zfJ 46 v).2.2):=by
  intro u v
  induction u with
  | nil => intro _; rfl
  | cons c u ih =>
   intro h
   rw [List.cons_append,zfy,if_neg (h c (by simp)),ih (fun x hx => h x (by simp [hx]))]
   rfl
 rw [key _ _ (fun c hc => (zbE (List.all_eq_true.1 hp.i1 c hc)).2.2)]
 cases hf:p.fr with
 | nil => simp [frT,zfJ]
 | cons a t => simp [frT,zfy]
section
variable [Tabs Tryz.prog] {objs:List OB} {K:List OB → AV → Prop}
theorem zgP (p:NumS) (hp:p.Good) (hs:p.body.length ≤ 140737488351232) (hk:K objs (.tup [.s (p.int ++ frT p.fr),.i .i64 (zeF 1099511627776 p.ex)])):zad Tryz.prog 85 [.s p.body] objs K:=by
 refine zaX is_token_cutExponent rfl fun C _ => ?_
 simp only [c_token_cutExponent,sxZ,z6,z7,z8,j4,j5,j6,j7,j8,j9,x0,x3,x4,x5,x6,x7,reduceCtorEq,↓reduceIte]
 refine zam (zkX _ (by omega) (zlm hp) ?_)
 have hi:=body_idx hp
 cases he:p.ex with
 | none =>
  rw [he] at hi hk
  rw [hi]
  simp only [sxZ,z6,z7,z8,j4,j5,j6,j7,j8,j9,x0,x3,x4,x5,x6,x7,reduceCtorEq,↓reduceIte]
  have:p.body=p.int ++ frT p.fr:=by unfold NumS.body; rw [he]; simp [exT]
  rw [this]
  exact hk
 | some e =>
  obtain ⟨k,s,d⟩:=e
  rw [he] at hi hk
  simp only at hi
  rw [hi]
  obtain ⟨g1,g2,g3,g4⟩:=hp.e1 k s d he
  have hb:p.body=(p.int ++ frT p.fr) ++ k :: (s ++ d):=by unfold NumS.body; rw [he]; simp [exT]
  have hst:=zl0 hp he
  rw [hb] at hs ⊢
  generalize p.int ++ frT p.fr=u at *
  have n0:¬ ((u.length:Nat):Int) < 0:=by omega
  have e1:(((u.length:Nat):Int) + 1).toNat=u.length + 1:=by omega
  have e2:(u ++ k :: (s ++ d)).drop (u.length + 1)=s ++ d:=by rw [← List.drop_drop,List.drop_left]; rfl
  have e3:(u ++ k :: (s ++ d)).take u.length=u:=List.take_left
  have e4:(u ++ k :: (s ++ d)).length=u.length + (s.length + d.length + 1):=by simp
  generalize u ++ k :: (s ++ d)=W at *
  simp only [n0,e1,e2,sxZ,z6,z7,z8,j4,j5,j6,j7,j8,j9,x0,x3,x4,x5,x6,x7,reduceCtorEq,↓reduceIte]
  (and_intros <;> try omega)
  refine zam (zez _ _ ?_)
  simp only [sxZ,z6,z7,z8,j4,j5,j6,j7,j8,j9,x0,x3,x4,x5,x6,x7,reduceCtorEq,↓reduceIte]
  refine zam (zgp _ _ ?_)
  simp only [hst.1,hst.2,sxZ,z6,z7,z8,j4,j5,j6,j7,j8,j9,x0,x3,x4,x5,x6,x7,reduceCtorEq,↓reduceIte]
  refine zam (nParse_k d 1099511627776 (by rw [zbC]; omega) (by decide) ?_)
  have hnum:=zlb 1099511627776 g3 g4
  simp only [zeF] at hk
  by_cases c1:zh7 d 0 ≤ 1099511627776
  ·have hw:IntKind.i64.wrap ((zh7 d 0:Nat):Int)=zh7 d 0:=by rw [IntKind.wrap_i64]; omega
   rw [Nat.min_eq_left c1] at hk
   rw [if_pos c1] at hnum
   by_cases c2:s=[45]
   ·rw [if_pos c2] at hk
    simp only [hnum,hw,c2,e3,sxZ,z6,z7,z8,j4,j5,j6,j7,j8,j9,x0,x3,x4,x5,x6,x7,reduceCtorEq,↓reduceIte]
    refine ⟨by omega,by omega,?_⟩
    rw [Int.zero_sub]
    exact hk
   ·rw [if_neg c2] at hk
    simp only [hnum,hw,c2,e3,sxZ,z6,z7,z8,j4,j5,j6,j7,j8,j9,x0,x3,x4,x5,x6,x7,reduceCtorEq,↓reduceIte]
    exact ⟨by omega,hk⟩
  ·rw [Nat.min_eq_right (by omega)] at hk
   rw [if_neg c1] at hnum
   by_cases c2:s=[45]
   ·rw [if_pos c2] at hk
    simp only [hnum,c2,e3,sxZ,z6,z7,z8,j4,j5,j6,j7,j8,j9,x0,x3,x4,x5,x6,x7,reduceCtorEq,↓reduceIte]
    refine ⟨by omega,?_⟩
    exact hk
   ·rw [if_neg c2] at hk
    simp only [hnum,c2,e3,sxZ,z6,z7,z8,j4,j5,j6,j7,j8,j9,x0,x3,x4,x5,x6,x7,reduceCtorEq,↓reduceIte]
    exact ⟨by omega,hk⟩
set_option maxHeartbeats 4000000 in
theorem number_k [Pow Tryz.prog] (s:List UInt8) (hs:s.length ≤ 140737488351232) (h1:(s=[] ∨ zc5 s ≠ s.length) → K objs (.tup [.s [],.i .i64 130]))
  (h2:∀ p:NumS,p.Good → s=p.txt → K objs (.tup [.s (zoF 1099511627776 p).2,.i .i64 (zoF 1099511627776 p).1])):zad Tryz.prog 61 [.s s] objs K:=by
 refine zaX is_token_Number rfl fun C _ => ?_
 have hmx:=zbC
 by_cases c0:s=[]
 ·have h1:=h1 (.inl c0)
  simp only [c0,c_token_Number,sxZ,z6,z7,z8,j4,j5,j6,j7,j8,j9,x0,x3,x4,x5,x6,x7,reduceCtorEq,↓reduceIte]
  exact h1
 rw [c_token_Number]
 refine zaa fun Y1 hY1 => ?_
 simp only [sxZ,z6,z7,z8,j4,j5,j6,j7,j8,j9,x0,x3,x4,x5,x6,x7,reduceCtorEq,↓reduceIte]
 subst hY1
 refine zaa fun Y1 hY1 => ?_
 simp only [c0,sxZ,z6,z7,z8,j4,j5,j6,j7,j8,j9,x0,x3,x4,x5,x6,x7,reduceCtorEq,↓reduceIte]
 refine zam (zdA s 0 (Nat.zero_le _) (by omega) ?_)
 rw [List.drop_zero,Nat.zero_add]
 by_cases c1:zc5 s=s.length
 case neg =>
  have c1':¬ ((zc5 s:Nat):Int)=s.length:=by omega
  simp only [c1',sxZ,z6,z7,z8,j4,j5,j6,j7,j8,j9,x0,x3,x4,x5,x6,x7,reduceCtorEq,↓reduceIte]
  exact h1 (.inr c1)
 clear h1
 obtain ⟨p,hp,rfl⟩:=zhJ c0 c1
 have h2:=h2 p hp rfl
 simp only [c1,sxZ,z6,z7,z8,j4,j5,j6,j7,j8,j9,x0,x3,x4,x5,x6,x7,reduceCtorEq,↓reduceIte]
 subst hY1
 refine zaa fun Y1 hY1 => ?_
 simp only [sxZ,z6,z7,z8,j4,j5,j6,j7,j8,j9,x0,x3,x4,x5,x6,x7,reduceCtorEq,↓reduceIte]
 refine zam (zez _ _ ?_)
 have hcp:Lib.trimPrefix p.txt [45]=p.body ∧ Lib.hasPrefix p.txt [45]=p.neg:=by
  obtain ⟨c,t,e1,e2⟩:=zbD hp.i0 hp.i1
  have n45:c ≠ 45:=zbg e2 rfl
  unfold NumS.txt NumS.body
  cases p.neg with
  | true =>
   have:=za3 45 45 (p.int ++ (frT p.fr ++ exT p.ex))
   rw [if_pos rfl] at this
   exact ⟨this.1,this.2⟩
  | false =>
   have:=za3 45 c (t ++ (frT p.fr ++ exT p.ex))
   rw [if_neg n45,decide_eq_false n45] at this
   rw [e1]
   exact this
 have hbl:p.body.length ≤ p.txt.length:=by unfold NumS.txt NumS.body; simp
 simp only [hcp.1,hcp.2,sxZ,z6,z7,z8,j4,j5,j6,j7,j8,j9,x0,x3,x4,x5,x6,x7,reduceCtorEq,↓reduceIte]
 subst hY1
 refine zaa fun Y1 hY1 => ?_
 simp only [sxZ,z6,z7,z8,j4,j5,j6,j7,j8,j9,x0,x3,x4,x5,x6,x7,reduceCtorEq,↓reduceIte]
 refine zam (zgP p hp (by omega) ?_)
 simp only [sxZ,z6,z7,z8,j4,j5,j6,j7,j8,j9,x0,x3,x4,x5,x6,x7,reduceCtorEq,↓reduceIte]
 subst hY1
 refine zaa fun Y1 hY1 => ?_
 simp only [sxZ,z6,z7,z8,j4,j5,j6,j7,j8,j9,x0,x3,x4,x5,x6,x7,reduceCtorEq,↓reduceIte]
 have hml:(p.int ++ frT p.fr).length ≤ p.txt.length:=by unfold NumS.txt; simp; omega
 refine zam (sCut_k _ 46 (by omega) ?_)
 rw [zh8 hp]
 simp only [sxZ,z6,z7,z8,j4,j5,j6,j7,j8,j9,x0,x3,x4,x5,x6,x7,reduceCtorEq,↓reduceIte]
 subst hY1
 refine zaa fun Y1 hY1 => ?_
 simp only [sxZ,z6,z7,z8,j4,j5,j6,j7,j8,j9,x0,x3,x4,x5,x6,x7,reduceCtorEq,↓reduceIte]
 have htl:=ziu p
 refine ⟨by omega,?_⟩
 refine zam (ziy _ 48 (by decide) ?_)
 have hzl:Lib.trimLeftB (p.int ++ p.fr) 48=zcl p:=rfl
 have hml2:=zgz p
 have hzr:=zlt (zcl p)
 have hei:=zn5 1099511627776 p.ex
 rw [hzl]
 unfold zoF at h2
 unfold expX at h2
 simp only [sxZ,z6,z7,z8,j4,j5,j6,j7,j8,j9,x0,x3,x4,x5,x6,x7,reduceCtorEq,↓reduceIte]
 subst hY1
 refine zaa fun Y1 hY1 => ?_
 by_cases c2:zcl p=[]
 ·rw [if_pos c2] at h2
  simp only [c2,sxZ,z6,z7,z8,j4,j5,j6,j7,j8,j9,x0,x3,x4,x5,x6,x7,reduceCtorEq,↓reduceIte]
  exact h2
 rw [if_neg c2] at h2
 generalize zeF 1099511627776 p.ex=E at *
 simp only [c2,sxZ,z6,z7,z8,j4,j5,j6,j7,j8,j9,x0,x3,x4,x5,x6,x7,reduceCtorEq,↓reduceIte]
 subst hY1
 refine zaa fun Y1 hY1 => ?_
 simp only [sxZ,z6,z7,z8,j4,j5,j6,j7,j8,j9,x0,x3,x4,x5,x6,x7,reduceCtorEq,↓reduceIte]
 refine zam (zhl _ 48 (by decide) (by omega) ?_)
 have hzr2:Lib.trimRightB (zcl p) 48=zR (zcl p):=rfl
 rw [hzr2]
 simp only [sxZ,z6,z7,z8,j4,j5,j6,j7,j8,j9,x0,x3,x4,x5,x6,x7,reduceCtorEq,↓reduceIte]
 subst hY1
 refine zaa fun Y1 hY1 => ?_
 simp only [sxZ,z6,z7,z8,j4,j5,j6,j7,j8,j9,x0,x3,x4,x5,x6,x7,reduceCtorEq,↓reduceIte]
 (and_intros <;> try omega)
 subst hY1
 refine zaa fun Y1 hY1 => ?_
 generalize E - (p.fr.length:Int) + (((zcl p).length:Int) - ((zR (zcl p)).length:Int))=x at *
 generalize zR (zcl p)=m at *
 by_cases d1:(40:Int) < m.length
 ·rw [if_pos (.inl (by omega))] at h2
  simp only [d1,sxZ,z6,z7,z8,j4,j5,j6,j7,j8,j9,x0,x3,x4,x5,x6,x7,reduceCtorEq,↓reduceIte]
  exact h2
 by_cases d2:x < -400
 ·rw [if_pos (.inr (.inl d2))] at h2
  simp only [d1,d2,sxZ,z6,z7,z8,j4,j5,j6,j7,j8,j9,x0,x3,x4,x5,x6,x7,reduceCtorEq,↓reduceIte]
  exact h2
 by_cases d3:400 < x
 ·rw [if_pos (.inr (.inr d3))] at h2
  simp only [d1,d2,d3,sxZ,z6,z7,z8,j4,j5,j6,j7,j8,j9,x0,x3,x4,x5,x6,x7,reduceCtorEq,↓reduceIte]
  exact h2
 rw [if_neg (by omega)] at h2
 simp only [d1,d2,d3,sxZ,z6,z7,z8,j4,j5,j6,j7,j8,j9,x0,x3,x4,x5,x6,x7,reduceCtorEq,↓reduceIte]
 subst hY1
 refine zaa fun Y1 hY1 => ?_
 have hit:=Lib.itoa_length_le x (by omega) (by omega)
 unfold expS sgT at h2
 cases hn:p.neg with
 | true =>
  rw [hn] at h2
  simp only [sxZ,z6,z7,z8,j4,j5,j6,j7,j8,j9,x0,x3,x4,x5,x6,x7,reduceCtorEq,↓reduceIte]
  (and_intros <;> try omega)
  subst hY1
  by_cases d4:x=0
  ·subst d4
   simp only [sxZ,z6,z7,z8,j4,j5,j6,j7,j8,j9,x0,x3,x4,x5,x6,x7,reduceCtorEq,↓reduceIte]
   simpa using h2
  ·rw [if_neg d4] at h2
   simp only [d4,sxZ,z6,z7,z8,j4,j5,j6,j7,j8,j9,x0,x3,x4,x5,x6,x7,reduceCtorEq,↓reduceIte]
   refine zam (zfq x (by omega) (by omega) ?_)
   simp only [sxZ,z6,z7,z8,j4,j5,j6,j7,j8,j9,x0,x3,x4,x5,x6,x7,reduceCtorEq,↓reduceIte]
   (and_intros <;> try omega)
   simpa using h2
 | false =>
  rw [hn] at h2
  simp only [sxZ,z6,z7,z8,j4,j5,j6,j7,j8,j9,x0,x3,x4,x5,x6,x7,reduceCtorEq,↓reduceIte]
  subst hY1
  by_cases d4:x=0
  ·subst d4
   simp only [sxZ,z6,z7,z8,j4,j5,j6,j7,j8,j9,x0,x3,x4,x5,x6,x7,reduceCtorEq,↓reduceIte]
   simpa using h2
  ·rw [if_neg d4] at h2
   simp only [d4,sxZ,z6,z7,z8,j4,j5,j6,j7,j8,j9,x0,x3,x4,x5,x6,x7,reduceCtorEq,↓reduceIte]
   refine zam (zfq x (by omega) (by omega) ?_)
   simp only [sxZ,z6,z7,z8,j4,j5,j6,j7,j8,j9,x0,x3,x4,x5,x6,x7,reduceCtorEq,↓reduceIte]
   (and_intros <;> try omega)
   simpa using h2
end
end Go.Proofs.YthmdohgkmdkeeaaGreatDoor
namespace Go.Proofs.YthmdohgkmdkeeaaGreatDoor
open Go.RowKit
theorem zmH {c:UInt8} (h:128 ≤ c.toNat):zbw c=[c]:=by
 have n:∀ k:UInt8,k.toNat < 128 → c ≠ k:=fun k hk e => by subst e; omega
 unfold zbw
 rw [if_neg (by rintro (e | e); exact n 34 (by decide) e; exact n 92 (by decide) e),if_neg (n 8 (by decide)),if_neg (n 12 (by decide)),if_neg (n 10 (by decide)),if_neg (n 13 (by decide)),if_neg (n 9 (by decide)),if_neg (by omega)]
theorem zov {c:UInt8} {t:List UInt8} {r n:Nat} (h:zbF (c :: t)=some (r,n)) (hc:128 ≤ c.toNat):∀ x ∈ (c :: t).take n,128 ≤ x.toNat:=by
 have hb:∀ k,(u8b (128 + k % 64)).toNat=128 + k % 64:=fun k => zaz (by omega)
 obtain ⟨h1,h2,h3,_⟩:=za9 h
 have hr:(r:Int) ≤ 1114111:=(of_decide_eq_true h1).2.1
 rw [← h2]
 have h0:¬ r < 128:=by
  intro hlt
  have:(zdN r).head? = some c:=by rw [h2]; cases n with | zero => omega | succ n => rfl
  unfold zdN at this
  rw [if_pos hlt] at this
  simp only [List.head?_cons,Option.some.injEq] at this
  rw [← this,zaz (by omega)] at hc
  omega
 unfold zdN
 rw [if_neg h0]
 intro x hx
 split at hx
 ·simp only [List.mem_cons,List.not_mem_nil,or_false] at hx
  rcases hx with rfl | rfl
  ·rw [zaz (by omega)]; omega
  ·rw [hb]; omega
 split at hx
 ·simp only [List.mem_cons,List.not_mem_nil,or_false] at hx
  rcases hx with rfl | rfl | rfl
  ·rw [zaz (by omega)]; omega
  ·rw [hb]; omega
  ·rw [hb]; omega
 ·simp only [List.mem_cons,List.not_mem_nil,or_false] at hx
  rcases hx with rfl | rfl | rfl | rfl
  ·rw [zaz (by omega)]; omega
  ·rw [hb]; omega
  ·rw [hb]; omega
  ·rw [hb]; omega
theorem zjI:∀ l:List UInt8,(∀ x ∈ l,128 ≤ x.toNat) → l.flatMap zbw=l
 | [],_ => rfl
 | c :: t,h => by
  rw [List.flatMap_cons,zmH (h c (by simp)),zjI t (fun x hx => h x (by simp [hx]))]; rfl
theorem quo_step (n:Nat) {c:UInt8} (hc:c.toNat < 128) (r out:List UInt8) (k:Nat):zcC (n + 1) (zbw c ++ r) out k=zcC n r (out ++ [c]) (k + (zbw c).length):=by
 have key:∀ m:Fin 128,zbw (UInt8.ofNat m.val)=[UInt8.ofNat m.val] ∧ UInt8.ofNat m.val ≠ 34 ∧ UInt8.ofNat m.val ≠ 92 ∧ 32 ≤ (UInt8.ofNat m.val).toNat ∨
   (∃ d,zbw (UInt8.ofNat m.val)=[92,d] ∧ zc2 d=some (UInt8.ofNat m.val)) ∨
   (zbw (UInt8.ofNat m.val)=[92,117,48,48,zdM (m.val / 16),zdM (m.val % 16)] ∧ zbx zbf 16 65535 [48,48,zdM (m.val / 16),zdM (m.val % 16)]=(0,m.val) ∧ zdN m.val=[UInt8.ofNat m.val] ∧ m.val < 32):=by
  intro m
  by_cases h:zbw (UInt8.ofNat m.val)=[UInt8.ofNat m.val]
  ·refine .inl ⟨h,?_⟩
   revert h; revert m; decide +kernel
  ·by_cases h2:m.val=34 ∨ m.val=92 ∨ m.val=8 ∨ m.val=12 ∨ m.val=10 ∨ m.val=13 ∨ m.val=9
   ·refine .inr (.inl ?_)
    obtain ⟨v,hv⟩:=m
    simp only at h2 ⊢
    rcases h2 with rfl | rfl | rfl | rfl | rfl | rfl | rfl
    ·exact ⟨34,by decide,by decide⟩
    ·exact ⟨92,by decide,by decide⟩
    ·exact ⟨98,by decide,by decide⟩
    ·exact ⟨102,by decide,by decide⟩
    ·exact ⟨110,by decide,by decide⟩
    ·exact ⟨114,by decide,by decide⟩
    ·exact ⟨116,by decide,by decide⟩
   ·refine .inr (.inr ?_)
    revert h h2; revert m; decide +kernel
 have hk:=key ⟨c.toNat,hc⟩
 simp only [UInt8.ofNat_toNat] at hk
 rcases hk with ⟨h1,h2,h3,h4⟩ | ⟨d,h1,h2⟩ | ⟨h1,h2,h3,h4⟩
 ·rw [h1]
  show zcC (n + 1) (c :: r) out k=_
  have hd:zbF (c :: r)=some (c.toNat,1):=by rw [zbF,if_pos hc]
  rw [zcC,if_neg h2,if_neg h3,if_neg (by omega),hd]
  rfl
 ·rw [h1]
  show zcC (n + 1) (92 :: d :: r) out k=_
  have he:zdD (92 :: d :: r)=(0,[c],2):=by
   unfold zdD
   simp only [List.getElem?_cons_succ,List.getElem?_cons_zero,Option.bind_some,h2]
  rw [zcC,if_neg (by decide),if_pos rfl,he]
  rfl
 ·rw [h1]
  show zcC (n + 1) (92 :: 117 :: 48 :: 48 :: zdM (c.toNat / 16) :: zdM (c.toNat % 16) :: r) out k=_
  have hu:zcY (92 :: 117 :: 48 :: 48 :: zdM (c.toNat / 16) :: zdM (c.toNat % 16) :: r)=some c.toNat:=by
   unfold zcY
   rw [if_neg (by simp)]
   show (if (zbx zbf 16 65535 [48,48,zdM (c.toNat / 16),zdM (c.toNat % 16)]).1=0 then some (zbx zbf 16 65535 [48,48,zdM (c.toNat / 16),zdM (c.toNat % 16)]).2 else none)=_
   rw [h2,if_pos rfl]
  have he:zdD (92 :: 117 :: 48 :: 48 :: zdM (c.toNat / 16) :: zdM (c.toNat % 16) :: r)=(0,[c],6):=by
   unfold zdD
   have hs:zc2 117=none:=by decide
   simp only [List.getElem?_cons_succ,List.getElem?_cons_zero,Option.bind_some,hs,hu]
   rw [if_pos (by omega),h3]
  rw [zcC,if_neg (by decide),if_pos rfl,he]
  rfl
theorem quo_len (c:UInt8):1 ≤ (zbw c).length:=by
 unfold zbw
 repeat' split
 all_goals simp
theorem quo_back (r:List UInt8):∀ (m:Nat) (l out:List UInt8) (n k:Nat),l.length ≤ m → 0 ≤ zlk l → l.length < n → zcC n (l.flatMap zbw ++ 34 :: r) out k=(0,out ++ l,k + (l.flatMap zbw).length + 1):=by
 intro m
 induction m with
 | zero =>
  intro l out n k hl _ hn
  have e:l=[]:=List.length_eq_zero_iff.1 (by omega)
  subst e
  cases n with
  | zero => omega
  | succ n => show zcC (n + 1) (34 :: r) out k=_; rw [zcC,if_pos rfl]; simp
 | succ m ih =>
  intro l out n k hl hv hn
  cases l with
  | nil =>
   cases n with
   | zero => omega
   | succ n => show zcC (n + 1) (34 :: r) out k=_; rw [zcC,if_pos rfl]; simp
  | cons c t =>
   cases n with
   | zero => omega
   | succ n =>
    simp only [List.length_cons] at hl hn
    cases hd:zbF (c :: t) with
    | none => rw [zia (by simp) hd] at hv; omega
    | some p =>
     obtain ⟨u,j⟩:=p
     rw [zh9 hd] at hv
     obtain ⟨g1,g2,g3,g4,g5⟩:=za9 hd
     have hv2:0 ≤ zlk ((c :: t).drop j):=by
      have:=zoC ((c :: t).drop j)
      unfold addC at hv
      split at hv
      ·omega
      ·omega
     by_cases hc:c.toNat < 128
     ·have hj:j=1:=by rw [zbF,if_pos hc] at hd; injection hd with hd; injection hd with _ hd; exact hd.symm
      subst hj
      rw [List.flatMap_cons,List.append_assoc,quo_step n hc,ih t _ n _ (by omega) hv2 (by omega)]
      simp only [List.append_assoc,List.cons_append,List.nil_append,List.length_append,Prod.mk.injEq,true_and]
      omega
     ·have hh:=zov hd (by omega)
      have hsp:(c :: t).flatMap zbw=(c :: t).take j ++ ((c :: t).drop j).flatMap zbw:=by
       conv => lhs; rw [← List.take_append_drop j (c :: t)]
       rw [List.flatMap_append,zjI _ hh]
      have hl2:((c :: t).drop j).length ≤ m:=by rw [List.length_drop,List.length_cons]; omega
      have hn2:((c :: t).drop j).length < n:=by rw [List.length_drop,List.length_cons]; omega
      have hD:zbF ((c :: t).take j ++ (((c :: t).drop j).flatMap zbw ++ 34 :: r))=some (u,j):=by
       rw [← g2]
       have:=zfx g1 (((c :: t).drop j).flatMap zbw ++ 34 :: r)
       rw [this,g2,List.length_take,Nat.min_eq_left g3]
      have hjl:((c :: t).take j).length=j:=by rw [List.length_take,Nat.min_eq_left g3]
      rw [hsp,List.append_assoc]
      obtain ⟨q,hq⟩:∃ q,(c :: t).take j=c :: q:=by
       cases j with
       | zero => omega
       | succ j => exact ⟨_,rfl⟩
      have h34:¬ c=34:=fun e => by subst e; exact absurd hc (by decide)
      have h92:¬ c=92:=fun e => by subst e; exact absurd hc (by decide)
      rw [hq] at hD hjl ⊢
      show zcC (n + 1) (c :: (q ++ (((c :: t).drop j).flatMap zbw ++ 34 :: r))) out k=_
      have hD2:zbF (c :: (q ++ (((c :: t).drop j).flatMap zbw ++ 34 :: r)))=some (u,j):=hD
      rw [zcC,if_neg h34,if_neg h92,if_neg (by omega),hD2]
      simp only
      have e1:(c :: (q ++ (((c :: t).drop j).flatMap zbw ++ 34 :: r))).drop j=((c :: t).drop j).flatMap zbw ++ 34 :: r:=by
       show ((c :: q) ++ (((c :: t).drop j).flatMap zbw ++ 34 :: r)).drop j=_
       rw [List.drop_left' hjl]
      have e2:(c :: (q ++ (((c :: t).drop j).flatMap zbw ++ 34 :: r))).take j=c :: q:=by
       show ((c :: q) ++ (((c :: t).drop j).flatMap zbw ++ 34 :: r)).take j=_
       rw [List.take_left' hjl]
      rw [e1,e2,ih _ _ n _ hl2 hv2 hn2]
      have e3:out ++ (c :: q) ++ (c :: t).drop j=out ++ c :: t:=by
       rw [List.append_assoc,← hq,List.take_append_drop]
      rw [e3,List.length_append,hjl]
      simp only [Prod.mk.injEq,true_and]
      omega
end Go.Proofs.YthmdohgkmdkeeaaGreatDoor
namespace Go.Proofs.YthmdohgkmdkeeaaGreatDoor
open Nat renaming reduceAdd → z6, reduceSub → z7, reduceLeDiff → z8, reduceLT → j4, reduceMul → j5, reduceEqDiff → j6
open Int renaming reduceToNat → j7, reduceAdd → j8, reduceSub → j9, reduceMul → x0, reduceNeg → x3, reduceLT → x4, reduceLE → x5, reduceEq → x6, reduceNe → x7
open Go.RowKit Sx
theorem zgQ (a b:List UInt8):byA (a ++ b)=byA a ++ byA b:=by simp [byA]
theorem hexS_at:∀ k:Fin 16,([48,49,50,51,52,53,54,55,56,57,97,98,99,100,101,102]:List UInt8).getD k.val 0=zdM k.val:=by decide +kernel
theorem quoB_hex {c:UInt8} (h1:c ≠ 34) (h2:c ≠ 92) (h3:c ≠ 8) (h4:c ≠ 12) (h5:c ≠ 10) (h6:c ≠ 13) (h7:c ≠ 9):zbw c=if c.toNat < 32 then [92,117,48,48,zdM (c.toNat / 16),zdM (c.toNat % 16)] else [c]:=by
 unfold zbw
 rw [if_neg (by rintro (h | h); exact h1 h; exact h2 h),if_neg h3,if_neg h4,if_neg h5,if_neg h6,if_neg h7]
theorem quoL_len (l:List UInt8):(l.flatMap zbw).length ≤ 6 * l.length:=by
 induction l with
 | nil => simp
 | cons c t ih =>
  have:(zbw c).length ≤ 6:=by
   unfold zbw
   repeat' split
   all_goals simp
  rw [List.flatMap_cons,List.length_append,List.length_cons]; omega
def quoP (s:List UInt8) (i:Nat):List UInt8:=34 :: (s.take i).flatMap zbw
theorem zmG (s:List UInt8) (i:Nat) (h:i < s.length):quoP s i ++ zbw s[i]=quoP s (i + 1):=by
 unfold quoP
 rw [List.take_add_one,List.getElem?_eq_getElem h,List.flatMap_append]
 simp
theorem quoP_end (s:List UInt8):byA (quoP s s.length) ++ [.i .u8 34]=byA (zdU s):=by
 unfold quoP zdU
 rw [List.take_length,← List.cons_append,zgQ]; rfl
def zdK (s:List UInt8):Int × List UInt8:=if 1048576 < s.length then (5,[]) else if za2 s=false then (7,[]) else (0,zdU s)
theorem zcX {l:List UInt8} {n:Nat} (h:zcY l=some n):6 ≤ l.length ∧ n ≤ 65535:=by
 unfold zcY at h
 split at h
 ·cases h
 ·rename_i g
  split at h
  ·injection h with h
   have:=zjU zbf 16 65535 ((l.drop 2).take 4)
   constructor
   ·apply Classical.byContradiction
    intro h1
    exact g (.inl (by omega))
   ·omega
  ·cases h
theorem zl2 {c d:UInt8} (h:zc2 c=some d):d ≠ 0:=by
 have:∀ n:Fin 256,zc2 (UInt8.ofNat n.val) ≠ some 0:=by decide +kernel
 have h2:=this ⟨c.toNat,c.toNat_lt⟩
 simp only [UInt8.ofNat_toNat] at h2
 rintro rfl
 exact h2 h
section
variable [Tabs Tryz.prog] {objs:List OB} {K:List OB → AV → Prop}
theorem zjl (l:List UInt8) (hl:l.length ≤ maxLen) (hk:match zcY l with | some n => K objs (.tup [.i .i64 (n:Nat),.b true]) | none => ∀ x,K objs (.tup [.i .i64 x,.b false])):zad Tryz.prog 97 [.s l] objs K:=by
 refine zaX is_token_unitAt rfl fun C _ => ?_
 have hw:∀ n:Nat,n ≤ 65535 → IntKind.i64.wrap ((n:Nat):Int)=n:=by
  intro n h
  rw [IntKind.wrap_i64]; omega
 have hb:=zjU zbf 16 65535 ((l.drop 2).take 4)
 unfold zcY at hk
 by_cases c0:(l.length:Int) < 6
 ·rw [if_pos (.inl (by omega))] at hk
  simp only [c0,c_token_unitAt,sxZ,z6,z7,z8,j4,j5,j6,j7,j8,j9,x0,x3,x4,x5,x6,x7,reduceCtorEq,↓reduceIte]
  exact hk 0
 have l0:0 < l.length:=by omega
 have l1:1 < l.length:=by omega
 have g0:=zay l0
 have g1:=zay l1
 have e0:l[0]? = some 92 ↔ ((l[0].toNat:Nat):Int)=92:=zeu l0 92 (by decide)
 have e1:l[1]? = some 117 ↔ ((l[1].toNat:Nat):Int)=117:=zeu l1 117 (by decide)
 by_cases c1:((l[0].toNat:Nat):Int)=92
 ·by_cases c2:((l[1].toNat:Nat):Int)=117
  ·rw [if_neg (by rintro (h | h | h); exact absurd h (by omega); exact h (e0.2 c1); exact h (e1.2 c2))] at hk
   simp only [c0,c1,c2,g0,g1,c_token_unitAt,sxZ,z6,z7,z8,j4,j5,j6,j7,j8,j9,x0,x3,x4,x5,x6,x7,reduceCtorEq,↓reduceIte]
   refine ⟨by omega,by omega,by omega,?_⟩
   rw [show (l.take 6).drop 2=(l.drop 2).take 4 by rw [List.drop_take]]
   refine zam (nHex_k _ 65535 (by rw [List.length_take,List.length_drop,zbC]; omega) (by decide) ?_)
   simp only [sxZ,z6,z7,z8,j4,j5,j6,j7,j8,j9,x0,x3,x4,x5,x6,x7,reduceCtorEq,↓reduceIte]
   generalize zbx zbf 16 65535 ((l.drop 2).take 4)=q at *
   obtain ⟨e,n⟩:=q
   simp only at hk hb ⊢
   rw [hw n hb]
   by_cases c3:e=0
   ·rw [if_pos c3] at hk
    rw [decide_eq_true c3]
    exact hk
   ·rw [if_neg c3] at hk
    rw [decide_eq_false c3]
    exact hk _
  ·rw [if_pos (.inr (.inr (fun h => c2 (e1.1 h))))] at hk
   simp only [c0,c1,c2,g0,g1,c_token_unitAt,sxZ,z6,z7,z8,j4,j5,j6,j7,j8,j9,x0,x3,x4,x5,x6,x7,reduceCtorEq,↓reduceIte]
   refine ⟨by omega,by omega,hk 0⟩
 ·rw [if_pos (.inr (.inl (fun h => c1 (e0.1 h))))] at hk
  simp only [c0,c1,g0,g1,c_token_unitAt,sxZ,z6,z7,z8,j4,j5,j6,j7,j8,j9,x0,x3,x4,x5,x6,x7,reduceCtorEq,↓reduceIte]
  refine ⟨by omega,hk 0⟩
theorem zgo (l:List UInt8) (hk:K objs (.i .u8 ((((l[1]?).bind zc2).getD 0).toNat:Nat))):zad Tryz.prog 96 [.s l] objs K:=by
 refine zaX is_token_shortEscape rfl fun C _ => ?_
 by_cases c0:(l.length:Int) < 2
 ·rw [List.getElem?_eq_none (by omega)] at hk
  simp only [c0,c_token_shortEscape,sxZ,z6,z7,z8,j4,j5,j6,j7,j8,j9,x0,x3,x4,x5,x6,x7,reduceCtorEq,↓reduceIte]
  exact hk
 have l1:1 < l.length:=by omega
 have g1:=zay l1
 rw [List.getElem?_eq_getElem l1,Option.bind_some] at hk
 generalize l[1]=c at *
 have e:=fun k (hk:k < 256) => zbN (c:=c) (k:=k) hk
 by_cases c1:((c.toNat:Nat):Int)=34
 ·rw [(e 34 (by decide)).1 c1] at hk
  simp only [c0,g1,c1,c_token_shortEscape,sxZ,z6,z7,z8,j4,j5,j6,j7,j8,j9,x0,x3,x4,x5,x6,x7,reduceCtorEq,↓reduceIte]
  exact ⟨by omega,by omega,hk⟩
 by_cases c2:((c.toNat:Nat):Int)=92
 ·rw [(e 92 (by decide)).1 c2] at hk
  simp only [c0,g1,c2,c_token_shortEscape,sxZ,z6,z7,z8,j4,j5,j6,j7,j8,j9,x0,x3,x4,x5,x6,x7,reduceCtorEq,↓reduceIte]
  exact ⟨by omega,by omega,hk⟩
 by_cases c3:((c.toNat:Nat):Int)=47
 ·rw [(e 47 (by decide)).1 c3] at hk
  simp only [c0,g1,c3,c_token_shortEscape,sxZ,z6,z7,z8,j4,j5,j6,j7,j8,j9,x0,x3,x4,x5,x6,x7,reduceCtorEq,↓reduceIte]
  exact ⟨by omega,by omega,hk⟩
 by_cases c4:((c.toNat:Nat):Int)=98
 ·rw [(e 98 (by decide)).1 c4] at hk
  simp only [c0,g1,c4,c_token_shortEscape,sxZ,z6,z7,z8,j4,j5,j6,j7,j8,j9,x0,x3,x4,x5,x6,x7,reduceCtorEq,↓reduceIte]
  exact ⟨by omega,hk⟩
 by_cases c5:((c.toNat:Nat):Int)=102
 ·rw [(e 102 (by decide)).1 c5] at hk
  simp only [c0,g1,c5,c_token_shortEscape,sxZ,z6,z7,z8,j4,j5,j6,j7,j8,j9,x0,x3,x4,x5,x6,x7,reduceCtorEq,↓reduceIte]
  exact ⟨by omega,hk⟩
 by_cases c6:((c.toNat:Nat):Int)=110
 ·rw [(e 110 (by decide)).1 c6] at hk
  simp only [c0,g1,c6,c_token_shortEscape,sxZ,z6,z7,z8,j4,j5,j6,j7,j8,j9,x0,x3,x4,x5,x6,x7,reduceCtorEq,↓reduceIte]
  exact ⟨by omega,hk⟩
 by_cases c7:((c.toNat:Nat):Int)=114
 ·rw [(e 114 (by decide)).1 c7] at hk
  simp only [c0,g1,c7,c_token_shortEscape,sxZ,z6,z7,z8,j4,j5,j6,j7,j8,j9,x0,x3,x4,x5,x6,x7,reduceCtorEq,↓reduceIte]
  exact ⟨by omega,hk⟩
 by_cases c8:((c.toNat:Nat):Int)=116
 ·rw [(e 116 (by decide)).1 c8] at hk
  simp only [c0,g1,c8,c_token_shortEscape,sxZ,z6,z7,z8,j4,j5,j6,j7,j8,j9,x0,x3,x4,x5,x6,x7,reduceCtorEq,↓reduceIte]
  exact ⟨by omega,hk⟩
 have hn:zc2 c=none:=by
  unfold zc2
  rw [if_neg (by rintro (h | h | h); exact c1 ((e 34 (by decide)).2 h); exact c2 ((e 92 (by decide)).2 h); exact c3 ((e 47 (by decide)).2 h)),if_neg (show ¬ c=98 from fun h => c4 ((e 98 (by decide)).2 h)),if_neg (show ¬ c=102 from fun h => c5 ((e 102 (by decide)).2 h)),if_neg (show ¬ c=110 from fun h => c6 ((e 110 (by decide)).2 h)),if_neg (show ¬ c=114 from fun h => c7 ((e 114 (by decide)).2 h)),if_neg (show ¬ c=116 from fun h => c8 ((e 116 (by decide)).2 h))]
 rw [hn] at hk
 simp only [c0,g1,c1,c2,c3,c4,c5,c6,c7,c8,c_token_shortEscape,sxZ,z6,z7,z8,j4,j5,j6,j7,j8,j9,x0,x3,x4,x5,x6,x7,reduceCtorEq,↓reduceIte]
 exact ⟨by omega,hk⟩
end
def RdSt (s:List UInt8) (i:Nat) (out:List UInt8) (objs:List OB):Prop :=
 (out=[] ∧ objs=[.box 100 [.s s,.i .i64 (i:Nat),.nil]]) ∨ ∃ g,objs=[.box 100 [.s s,.i .i64 (i:Nat),.orow 1 g],.orow 5 1 g out.length (byA out)]
theorem zow {s:List UInt8} {i:Nat} (h:i < s.length):zb3 s i=match zbF (s.drop i) with | none => (0,0,7) | some (r,n) => ((r:Int),((i + n:Nat):Int),0):=by
 unfold zb3
 rw [if_neg (by omega),Int.toNat_natCast]
 cases zbF (s.drop i) <;> simp
theorem zee (s:List UInt8) (i m:Nat):(s.take (i + m)).drop i=(s.drop i).take m:=by
 rw [List.drop_take,show i + m - i=m by omega]
def zfs (n:Nat) (r:List UInt8):Nat × Nat :=
 if 55296 ≤ n ∧ n < 56320 then (match zcY r with
  | some m => if 56320 ≤ m ∧ m ≤ 57343 then (65536 + (n - 55296) * 1024 + (m - 56320),12) else (n,6)
  | none => (n,6)) else (n,6)
theorem esc_of {l:List UInt8} {n:Nat} (h0:(l[1]?).bind zc2=none) (h:zcY l=some n):zdD l=if cpB ((zfs n (l.drop 6)).1:Int)=true then (0,zdN (zfs n (l.drop 6)).1,(zfs n (l.drop 6)).2) else (7,[],0):=by
 have hn:=(zcX h).2
 have hcp:∀ k:Nat,cpB (k:Int)=decide (k ≤ 1114111 ∧ (k < 55296 ∨ 57343 < k)):=by
  intro k
  unfold cpB
  by_cases h1:k ≤ 1114111 ∧ (k < 55296 ∨ 57343 < k)
  ·rw [decide_eq_true (by omega),decide_eq_true h1]
  ·rw [decide_eq_false (by omega),decide_eq_false h1]
 have hE:zdD l=(if n < 55296 ∨ 57343 < n then ((0:Int),zdN n,6)
   else if 56319 < n then (7,[],0)
   else match zcY (l.drop 6) with
    | none => (7,[],0)
    | some m => if m < 56320 ∨ 57343 < m then (7,[],0) else (0,zdN (65536 + (n - 55296) * 1024 + (m - 56320)),12)):=by
  unfold zdD
  rw [h0,h]
  rfl
 rw [hE]
 by_cases c1:n < 55296 ∨ 57343 < n
 ·have hU:zfs n (l.drop 6)=(n,6):=by unfold zfs; rw [if_neg (show ¬ (55296 ≤ n ∧ n < 56320) by omega)]
  rw [if_pos c1,hU,hcp,if_pos (decide_eq_true (by omega))]
 ·by_cases c2:56319 < n
  ·have hU:zfs n (l.drop 6)=(n,6):=by unfold zfs; rw [if_neg (show ¬ (55296 ≤ n ∧ n < 56320) by omega)]
   rw [if_neg c1,if_pos c2,hU,hcp,if_neg (by rw [decide_eq_true_eq]; omega)]
  ·rw [if_neg c1,if_neg c2]
   cases hu:zcY (l.drop 6) with
   | none =>
    have hU:zfs n (l.drop 6)=(n,6):=by unfold zfs; rw [if_pos (show 55296 ≤ n ∧ n < 56320 by omega),hu]
    rw [hU,hcp,if_neg (by rw [decide_eq_true_eq]; omega)]
   | some m =>
    by_cases c3:m < 56320 ∨ 57343 < m
    ·have hU:zfs n (l.drop 6)=(n,6):=by
      unfold zfs; rw [if_pos (show 55296 ≤ n ∧ n < 56320 by omega),hu]
      simp only
      rw [if_neg (show ¬ (56320 ≤ m ∧ m ≤ 57343) by omega)]
     simp only
     rw [if_pos c3,hU,hcp,if_neg (by rw [decide_eq_true_eq]; omega)]
    ·have hU:zfs n (l.drop 6)=(65536 + (n - 55296) * 1024 + (m - 56320),12):=by
      unfold zfs; rw [if_pos (show 55296 ≤ n ∧ n < 56320 by omega),hu]
      simp only
      rw [if_pos (show 56320 ≤ m ∧ m ≤ 57343 by omega)]
     simp only
     rw [if_neg c3,hU,hcp,if_pos (decide_eq_true (by omega))]
theorem escU_ge (n:Nat) (r:List UInt8):6 ≤ (zfs n r).2:=by
 unfold zfs
 repeat' split
 all_goals first | exact Nat.le_refl _ | (show 6 ≤ 12; omega)
theorem zkn {l:List UInt8} {n:Nat} (h:zcY l=some n):(zfs n (l.drop 6)).2 ≤ l.length ∧ (zfs n (l.drop 6)).1 ≤ 1114111:=by
 have h1:=zcX h
 unfold zfs
 split
 ·cases hu:zcY (l.drop 6) with
  | none => simp only; omega
  | some m =>
   have h2:=zcX hu
   rw [List.length_drop] at h2
   simp only
   split
   ·simp only; omega
   ·simp only; omega
 ·simp only; omega
theorem zko {l x:List UInt8} {n:Nat} (h:zdD l=(0,x,n)):x.length ≤ n ∧ 1 ≤ n ∧ n ≤ l.length:=by
 cases hse:(l[1]?).bind zc2 with
 | some d =>
  have he:zdD l=(0,[d],2):=by unfold zdD; rw [hse]
  rw [he] at h
  injection h with _ h; injection h with h1 h2
  subst h1 h2
  obtain ⟨c,h2,_⟩:=Option.bind_eq_some_iff.1 hse
  have:=(List.getElem?_eq_some_iff.1 h2).1
  exact ⟨by simp,by omega,by omega⟩
 | none =>
  cases hu:zcY l with
  | none =>
   have he:zdD l=(130,[],0):=by unfold zdD; rw [hse,hu]
   rw [he] at h
   injection h with h _; cases h
  | some k =>
   have he:=esc_of hse hu
   have h3:=zkn hu
   have h4:=escU_ge k (l.drop 6)
   have h5:=zkq (r:=(zfs k (l.drop 6)).1)
   rw [h] at he
   split at he
   ·injection he with _ he; injection he with h1 h2
    subst h1 h2
    omega
   ·injection he with he _; cases he
section
variable [Tabs Tryz.prog] [Utf Tryz.prog] {objs:List OB} {K:List OB → AV → Prop}
set_option maxHeartbeats 4000000 in
theorem plain_k (s out:List UInt8) (i:Nat) (h:RdSt s i out objs) (hs:s.length ≤ 140737488351232) (ho:out.length ≤ i) (hi:i < s.length) (h1:s[i].toNat < 32 → K objs (.i .i64 130)) (h2:32 ≤ s[i].toNat → zbF (s.drop i)=none → K objs (.i .i64 7))
  (h3:32 ≤ s[i].toNat → ∀ r m,zbF (s.drop i)=some (r,m) → ∀ o,RdSt s (i + m) (out ++ (s.drop i).take m) o → K o (.i .i64 0)):zad Tryz.prog 80 [.p 0 0] objs K:=by
 refine zcy is_token_stringReader_plain fun C _ => ?_
 have hg:=zay hi
 have hd:=zow hi
 rcases h with ⟨rfl,rfl⟩ | ⟨g,rfl⟩
 ·by_cases c1:((s[i].toNat:Nat):Int) < 32
  ·simp only [hg,c1,c_token_stringReader_plain,sxZ,z6,z7,z8,j4,j5,j6,j7,j8,j9,x0,x3,x4,x5,x6,x7,reduceCtorEq,↓reduceIte]
   exact ⟨by omega,h1 (by omega)⟩
  simp only [hg,c1,c_token_stringReader_plain,sxZ,z6,z7,z8,j4,j5,j6,j7,j8,j9,x0,x3,x4,x5,x6,x7,reduceCtorEq,↓reduceIte]
  refine ⟨by omega,?_⟩
  refine zd1 (zg4 s i hs ⟨rfl,rfl⟩) ?_
  cases hdu:zbF (s.drop i) with
  | none =>
   rw [hdu] at hd
   rw [hd]
   simp only [sxZ,z6,z7,z8,j4,j5,j6,j7,j8,j9,x0,x3,x4,x5,x6,x7,reduceCtorEq,↓reduceIte]
   exact h2 (by omega) hdu
  | some q =>
   obtain ⟨r,m⟩:=q
   rw [hdu] at hd
   rw [hd]
   obtain ⟨g1,g2,g3,g4,g5⟩:=za9 hdu
   rw [List.length_drop] at g3
   simp only [sxZ,z6,z7,z8,j4,j5,j6,j7,j8,j9,x0,x3,x4,x5,x6,x7,reduceCtorEq,↓reduceIte]
   rw [zee s i m]
   refine ⟨by omega,?_,h3 (by omega) r m hdu _ (.inr ⟨0,rfl⟩)⟩
   rw [List.length_take,List.length_drop]; omega
 ·by_cases c1:((s[i].toNat:Nat):Int) < 32
  ·simp only [hg,c1,c_token_stringReader_plain,sxZ,z6,z7,z8,j4,j5,j6,j7,j8,j9,x0,x3,x4,x5,x6,x7,reduceCtorEq,↓reduceIte]
   exact ⟨by omega,h1 (by omega)⟩
  simp only [hg,c1,c_token_stringReader_plain,sxZ,z6,z7,z8,j4,j5,j6,j7,j8,j9,x0,x3,x4,x5,x6,x7,reduceCtorEq,↓reduceIte]
  refine ⟨by omega,?_⟩
  refine zd1 (zg4 s i hs ⟨rfl,rfl⟩) ?_
  cases hdu:zbF (s.drop i) with
  | none =>
   rw [hdu] at hd
   rw [hd]
   simp only [sxZ,z6,z7,z8,j4,j5,j6,j7,j8,j9,x0,x3,x4,x5,x6,x7,reduceCtorEq,↓reduceIte]
   exact h2 (by omega) hdu
  | some q =>
   obtain ⟨r,m⟩:=q
   rw [hdu] at hd
   rw [hd]
   obtain ⟨g1,g2,g3,g4,g5⟩:=za9 hdu
   rw [List.length_drop] at g3
   simp only [sxZ,z6,z7,z8,j4,j5,j6,j7,j8,j9,x0,x3,x4,x5,x6,x7,reduceCtorEq,↓reduceIte]
   rw [zee s i m]
   have hl:((s.drop i).take m).length ≤ 4:=by rw [List.length_take]; omega
   refine ⟨by omega,by omega,h3 (by omega) r m hdu _ (.inr ⟨g + 1,?_⟩)⟩
   rw [zgQ,List.length_append]
set_option maxHeartbeats 4000000 in
theorem escape_k (s out:List UInt8) (i:Nat) (h:RdSt s i out objs) (hs:s.length ≤ 140737488351232) (ho:out.length ≤ i) (hi:i ≤ s.length) (h1:(zdD (s.drop i)).1 ≠ 0 → K objs (.i .i64 (zdD (s.drop i)).1))
  (h3:(zdD (s.drop i)).1=0 → ∀ o,RdSt s (i + (zdD (s.drop i)).2.2) (out ++ (zdD (s.drop i)).2.1) o → K o (.i .i64 0)):zad Tryz.prog 81 [.p 0 0] objs K:=by
 refine zcy is_token_stringReader_escape fun C _ => ?_
 have hmx:=zbC
 have hld:(s.drop i).length=s.length - i:=List.length_drop
 obtain ⟨X,T,rfl,hX⟩:∃ X T,objs=.box 100 [.s s,.i .i64 (i:Nat),X] :: T ∧ ((out=[] ∧ X=.nil ∧ T=[]) ∨ ∃ g,X=.orow 1 g ∧ T=[.orow 5 1 g out.length (byA out)]):=by
  rcases h with ⟨h1,h2⟩ | ⟨g,h2⟩
  ·exact ⟨_,_,h2,.inl ⟨h1,rfl,rfl⟩⟩
  ·exact ⟨_,_,h2,.inr ⟨g,rfl,rfl⟩⟩
 have push:∀ (x:List UInt8) (m:Nat),zdD (s.drop i)=(0,x,m) → ∀ o,RdSt s (i + m) (out ++ x) o → K o (.i .i64 0):=by
  intro x m e o ho
  rw [e] at h3
  exact h3 rfl o ho
 have fail:∀ e:Int,e ≠ 0 → zdD (s.drop i)=(e,[],0) → K (.box 100 [.s s,.i .i64 (i:Nat),X] :: T) (.i .i64 e):=by
  intro e he h
  rw [h] at h1
  exact h1 he
 clear h h1 h3
 rw [c_token_stringReader_escape]
 refine zaa fun Y1 hY1 => ?_
 simp only [sxZ,z6,z7,z8,j4,j5,j6,j7,j8,j9,x0,x3,x4,x5,x6,x7,reduceCtorEq,↓reduceIte]
 subst hY1
 refine zaa fun Y1 hY1 => ?_
 simp only [sxZ,z6,z7,z8,j4,j5,j6,j7,j8,j9,x0,x3,x4,x5,x6,x7,reduceCtorEq,↓reduceIte]
 refine ⟨by omega,?_⟩
 subst hY1
 refine zaa fun Y1 hY1 => ?_
 simp only [sxZ,z6,z7,z8,j4,j5,j6,j7,j8,j9,x0,x3,x4,x5,x6,x7,reduceCtorEq,↓reduceIte]
 refine zam (zgo (s.drop i) ?_)
 cases hse:((s.drop i)[1]?).bind zc2 with
 | some d =>
  have hne:d ≠ 0:=by
   obtain ⟨c,_,h2⟩:=Option.bind_eq_some_iff.1 hse
   exact zl2 h2
  have hd0:¬ ((d.toNat:Nat):Int)=0:=by
   intro h
   apply hne
   have h2:d.toNat=0:=by omega
   exact UInt8.toNat_inj.1 h2
  have he:zdD (s.drop i)=(0,[d],2):=by unfold zdD; rw [hse]
  rcases hX with ⟨rfl,rfl,rfl⟩ | ⟨g,rfl,rfl⟩
  ·simp only [hd0,sxZ,z6,z7,z8,j4,j5,j6,j7,j8,j9,x0,x3,x4,x5,x6,x7,reduceCtorEq,↓reduceIte]
   exact ⟨by omega,push _ _ he _ (.inr ⟨0,rfl⟩)⟩
  ·simp only [hd0,sxZ,z6,z7,z8,j4,j5,j6,j7,j8,j9,x0,x3,x4,x5,x6,x7,reduceCtorEq,↓reduceIte]
   refine ⟨by omega,by omega,push _ _ he _ (.inr ⟨g + 1,?_⟩)⟩
   rw [zgQ,List.length_append]; rfl
 | none =>
  have e0:(((Option.getD (none:Option UInt8) 0).toNat:Nat):Int)=0:=rfl
  rw [e0]
  simp only [sxZ,z6,z7,z8,j4,j5,j6,j7,j8,j9,x0,x3,x4,x5,x6,x7,reduceCtorEq,↓reduceIte]
  subst hY1
  refine zaa fun Y1 hY1 => ?_
  simp only [sxZ,z6,z7,z8,j4,j5,j6,j7,j8,j9,x0,x3,x4,x5,x6,x7,reduceCtorEq,↓reduceIte]
  refine zam (zjl (s.drop i) (by omega) ?_)
  cases hu:zcY (s.drop i) with
  | none =>
   intro x
   have he:zdD (s.drop i)=(130,[],0):=by unfold zdD; rw [hse,hu]
   simp only [sxZ,z6,z7,z8,j4,j5,j6,j7,j8,j9,x0,x3,x4,x5,x6,x7,reduceCtorEq,↓reduceIte]
   subst hY1
   simp only [sxZ,z6,z7,z8,j4,j5,j6,j7,j8,j9,x0,x3,x4,x5,x6,x7,reduceCtorEq,↓reduceIte]
   exact fail 130 (by decide) he
  | some n =>
   have hul:=zcX hu
   have hel:=zkn hu
   have heo:=esc_of hse hu
   simp only [sxZ,z6,z7,z8,j4,j5,j6,j7,j8,j9,x0,x3,x4,x5,x6,x7,reduceCtorEq,↓reduceIte]
   subst hY1
   refine zaa fun Y1 hY1 => ?_
   simp only [sxZ,z6,z7,z8,j4,j5,j6,j7,j8,j9,x0,x3,x4,x5,x6,x7,reduceCtorEq,↓reduceIte]
   subst hY1
   refine zaa fun Y1 hY1 => ?_
   simp only [sxZ,z6,z7,z8,j4,j5,j6,j7,j8,j9,x0,x3,x4,x5,x6,x7,reduceCtorEq,↓reduceIte]
   subst hY1
   refine zaa fun Y1 hY1 => ?_
   refine zaG (fun o t => o=.box 100 [.s s,.i .i64 (i:Nat),X] :: T ∧ t.length=103 ∧ t[0]? = some (.p 0 0) ∧ t[5]? = some (.i .i64 ((zfs n ((s.drop i).drop 6)).1:Nat)) ∧ t[7]? = some (.i .i64 ((zfs n ((s.drop i).drop 6)).2:Nat))) ?_ ?_
   ·unfold zfs
    by_cases c1:(55296:Int) ≤ n
    ·by_cases c2:(n:Int) < 56320
     ·rw [if_pos (by omega)]
      simp only [c1,c2,sxZ,z6,z7,z8,j4,j5,j6,j7,j8,j9,x0,x3,x4,x5,x6,x7,reduceCtorEq,↓reduceIte]
      refine ⟨by omega,?_⟩
      refine zam (zjl _ (by rw [List.length_drop]; omega) ?_)
      cases hu2:zcY ((s.drop i).drop 6) with
      | none =>
       intro x
       simp only [zab,sxZ,z6,z7,z8,j4,j5,j6,j7,j8,j9,x0,x3,x4,x5,x6,x7,reduceCtorEq,↓reduceIte]
       and_intros <;> first | omega | exact iv (by omega) | rfl | assumption
      | some m =>
       have hm:=(zcX hu2).2
       by_cases c3:(56320:Int) ≤ m
       ·by_cases c4:(m:Int) ≤ 57343
        ·simp only
         rw [if_pos (show 56320 ≤ m ∧ m ≤ 57343 by omega)]
         simp only [c3,c4,zab,sxZ,z6,z7,z8,j4,j5,j6,j7,j8,j9,x0,x3,x4,x5,x6,x7,reduceCtorEq,↓reduceIte]
         and_intros <;> first | omega | exact iv (by omega) | rfl | assumption
        ·simp only
         rw [if_neg (show ¬ (56320 ≤ m ∧ m ≤ 57343) by omega)]
         simp only [c3,c4,zab,sxZ,z6,z7,z8,j4,j5,j6,j7,j8,j9,x0,x3,x4,x5,x6,x7,reduceCtorEq,↓reduceIte]
         and_intros <;> first | omega | exact iv (by omega) | rfl | assumption
       ·simp only
        rw [if_neg (show ¬ (56320 ≤ m ∧ m ≤ 57343) by omega)]
        simp only [c3,zab,sxZ,z6,z7,z8,j4,j5,j6,j7,j8,j9,x0,x3,x4,x5,x6,x7,reduceCtorEq,↓reduceIte]
        and_intros <;> first | omega | exact iv (by omega) | rfl | assumption
     ·rw [if_neg (by omega)]
      simp only [c1,c2,zab,sxZ,z6,z7,z8,j4,j5,j6,j7,j8,j9,x0,x3,x4,x5,x6,x7,reduceCtorEq,↓reduceIte]
      and_intros <;> first | omega | exact iv (by omega) | rfl | assumption
    ·rw [if_neg (by omega)]
     simp only [c1,zab,sxZ,z6,z7,z8,j4,j5,j6,j7,j8,j9,x0,x3,x4,x5,x6,x7,reduceCtorEq,↓reduceIte]
     and_intros <;> first | omega | exact iv (by omega) | rfl | assumption
   rintro _ tm ⟨rfl,hlen,t0,t5,t7⟩
   subst hY1
   generalize zfs n ((s.drop i).drop 6)=q at *
   obtain ⟨U,Z⟩:=q
   simp only at hel heo t5 t7
   simp only [sxZ,z6,z7,z8,j4,j5,j6,j7,j8,j9,x0,x3,x4,x5,x6,x7,reduceCtorEq,↓reduceIte,List.getElem?_set,hlen,t0,t5,t7]
   refine zam (zlG _ ?_)
   unfold zeW
   by_cases c5:cpB ((U:Nat):Int)=true
   ·rw [if_pos c5] at heo ⊢
    have hxl:=(zkq (r:=U))
    rw [Int.toNat_natCast]
    rcases hX with ⟨rfl,rfl,rfl⟩ | ⟨g,rfl,rfl⟩
    ·simp only [sxZ,z6,z7,z8,j4,j5,j6,j7,j8,j9,x0,x3,x4,x5,x6,x7,reduceCtorEq,↓reduceIte,List.getElem?_set,hlen,t0,t5,t7]
     refine ⟨by omega,by omega,?_⟩
     have:=push _ _ heo (.box 100 [.s s,.i .i64 ((i + Z:Nat):Int),.orow 1 0] :: [.orow 5 1 0 (zdN U).length (byA (zdN U))]) (.inr ⟨0,rfl⟩)
     exact this
    ·simp only [sxZ,z6,z7,z8,j4,j5,j6,j7,j8,j9,x0,x3,x4,x5,x6,x7,reduceCtorEq,↓reduceIte,List.getElem?_set,hlen,t0,t5,t7]
     refine ⟨by omega,by omega,?_⟩
     refine push _ _ heo _ (.inr ⟨g + 1,?_⟩)
     rw [zgQ,List.length_append]; rfl
   ·rw [if_neg c5] at heo ⊢
    simp only [sxZ,z6,z7,z8,j4,j5,j6,j7,j8,j9,x0,x3,x4,x5,x6,x7,reduceCtorEq,↓reduceIte,List.getElem?_set,hlen,t0,t5,t7]
    exact fail 7 (by decide) heo
omit [Tabs Tryz.prog] [Utf Tryz.prog] in
theorem zk9:IsFn Tryz.prog 80:=⟨_,Tryz.func80,by kernel_rfl,of_decide_eq_true (by kernel_rfl)⟩
omit [Tabs Tryz.prog] [Utf Tryz.prog] in
theorem zi1:IsFn Tryz.prog 81:=⟨_,Tryz.func81,by kernel_rfl,of_decide_eq_true (by kernel_rfl)⟩
set_option maxHeartbeats 4000000 in
theorem zhv (s:List UInt8) (a:Nat) (hs:s.length ≤ 140737488351232) (ha:a < s.length) (R:Int × List UInt8 × Nat) (hR:zcC ((s.drop (a + 1)).length + 1) (s.drop (a + 1)) [] 0=R)
  (h1:R.1 ≠ 0 → K objs (.tup [.s [],.i .i64 0,.i .i64 R.1])) (h0:R.1=0 → K objs (.tup [.s R.2.1,.i .i64 ((a + 1 + R.2.2:Nat):Int),.i .i64 0])):zad Tryz.prog 56 [.s s,.i .i64 (a:Nat)] objs K:=by
 refine zaX is_token_readString rfl fun C _ => ?_
 simp only [c_token_readString,sxZ,z6,z7,z8,j4,j5,j6,j7,j8,j9,x0,x3,x4,x5,x6,x7,reduceCtorEq,↓reduceIte]
 refine ⟨by omega,?_⟩
 refine zaE (fun n o tm => ∃ (i:Nat) (out:List UInt8) (m:Nat),i ≤ s.length ∧ a + 1 ≤ i ∧ n=s.length - i ∧ RdSt s i out o ∧ out.length ≤ i ∧ s.length - i < m ∧ zcC m (s.drop i) out (i - (a + 1))=R ∧ tm.length=53 ∧ tm[0]? = some (.s s) ∧ tm[7]? = some (.p 0 0) ∧ tm[8]? = some (.fn 80 [.p 0 0] []) ∧ tm[9]? = some (.fn 81 [.p 0 0] [])) (s.length - (a + 1))
  ⟨a + 1,[],(s.drop (a + 1)).length + 1,ha,Nat.le_refl _,rfl,.inl ⟨rfl,rfl⟩,Nat.zero_le _,by rw [List.length_drop]; omega,by rw [Nat.sub_self]; exact hR,rfl,rfl,rfl,rfl,rfl⟩ ?_
 rintro n o tm ⟨i,out,m,hi,hai,rfl,hst,ho,hm,hT,hlen,t0,t7,t8,t9⟩
 have hst2:=hst
 obtain ⟨X,T,rfl,hX⟩:∃ X T,o=.box 100 [.s s,.i .i64 (i:Nat),X] :: T ∧ ((out=[] ∧ X=.nil ∧ T=[]) ∨ ∃ g,X=.orow 1 g ∧ T=[.orow 5 1 g out.length (byA out)]):=by
  rcases hst with ⟨h1,h2⟩ | ⟨g,h2⟩
  ·exact ⟨_,_,h2,.inl ⟨h1,rfl,rfl⟩⟩
  ·exact ⟨_,_,h2,.inr ⟨g,rfl,rfl⟩⟩
 clear hst
 obtain ⟨m,rfl⟩:∃ m',m=m' + 1:=⟨m - 1,by omega⟩
 by_cases hlt:(i:Int) < s.length
 ·have hlt':i < s.length:=by omega
  have hne:¬ (i:Int)=s.length:=by omega
  have hg:=zay hlt'
  have hdc:=List.drop_eq_getElem_cons hlt'
  by_cases c1:((s[i].toNat:Nat):Int)=34
  ·have hc:s[i]=34:=(zbN (by decide)).1 c1
   rw [hdc,zcC,if_pos hc] at hT
   subst hT
   have h0:=h0 rfl
   rcases hX with ⟨rfl,rfl,rfl⟩ | ⟨g,rfl,rfl⟩
   ·simp only [hlt,hne,hg,c1,sxZ,z6,z7,z8,j4,j5,j6,j7,j8,j9,x0,x3,x4,x5,x6,x7,reduceCtorEq,↓reduceIte,List.getElem?_set,hlen,t0,t7,t8,t9]
    refine ⟨by omega,by omega,?_⟩
    rw [show a + 1 + (i - (a + 1) + 1)=i + 1 by omega] at h0
    exact h0
   ·simp only [hlt,hne,hg,c1,sxZ,z6,z7,z8,j4,j5,j6,j7,j8,j9,x0,x3,x4,x5,x6,x7,reduceCtorEq,↓reduceIte,List.getElem?_set,hlen,t0,t7,t8,t9]
    refine ⟨by omega,⟨rfl,rfl⟩,out,rfl,?_⟩
    simp only [hlt,hne,hg,c1,sxZ,z6,z7,z8,j4,j5,j6,j7,j8,j9,x0,x3,x4,x5,x6,x7,reduceCtorEq,↓reduceIte,List.getElem?_set,hlen,t0,t7,t8,t9]
    refine ⟨by omega,?_⟩
    rw [show a + 1 + (i - (a + 1) + 1)=i + 1 by omega] at h0
    exact h0
  ·have hc:¬ s[i]=34:=fun h => c1 ((zbN (by decide)).2 h)
   by_cases c2:((s[i].toNat:Nat):Int)=92
   ·have hc2:s[i]=92:=(zbN (by decide)).1 c2
    rw [hdc,zcC,if_neg hc,if_pos hc2,← hdc] at hT
    simp only [hlt,hg,c1,c2,sxZ,z6,z7,z8,j4,j5,j6,j7,j8,j9,x0,x3,x4,x5,x6,x7,reduceCtorEq,↓reduceIte,List.getElem?_set,hlen,t0,t7,t8,t9]
    refine ⟨by omega,by omega,?_⟩
    refine znh zi1 (escape_k s out i hst2 hs ho hi (fun he => ?_) (fun he o' ho' => ?_))
    ·rw [if_pos he] at hT
     subst hT
     simp only [he,sxZ,z6,z7,z8,j4,j5,j6,j7,j8,j9,x0,x3,x4,x5,x6,x7,reduceCtorEq,↓reduceIte,List.getElem?_set,hlen,t0,t7,t8,t9]
     exact h1 he
    ·rw [if_neg (by rw [he]; simp)] at hT
     generalize hq:zdD (s.drop i)=q at *
     obtain ⟨e,x,m'⟩:=q
     simp only at he hT ho'
     subst he
     have hl:=zko hq
     rw [List.length_drop] at hl
     simp only [sxZ,z6,z7,z8,j4,j5,j6,j7,j8,j9,x0,x3,x4,x5,x6,x7,reduceCtorEq,↓reduceIte,List.getElem?_set,hlen,t0,t7,t8,t9]
     exact ⟨s.length - (i + m'),by omega,i + m',out ++ x,m,by omega,by omega,rfl,ho',by rw [List.length_append]; omega,by omega,by rw [← List.drop_drop,show i + m' - (a + 1)=i - (a + 1) + m' by omega]; exact hT⟩
   ·have hc2:¬ s[i]=92:=fun h => c2 ((zbN (by decide)).2 h)
    rw [hdc,zcC,if_neg hc,if_neg hc2,← hdc] at hT
    simp only [hlt,hg,c1,c2,sxZ,z6,z7,z8,j4,j5,j6,j7,j8,j9,x0,x3,x4,x5,x6,x7,reduceCtorEq,↓reduceIte,List.getElem?_set,hlen,t0,t7,t8,t9]
    refine ⟨by omega,by omega,?_⟩
    refine znh zk9 (plain_k s out i hst2 hs ho hlt' (fun he => ?_) (fun he hd => ?_) (fun he r m' hd o' ho' => ?_))
    ·rw [if_pos he] at hT
     subst hT
     simp only [sxZ,z6,z7,z8,j4,j5,j6,j7,j8,j9,x0,x3,x4,x5,x6,x7,reduceCtorEq,↓reduceIte,List.getElem?_set,hlen,t0,t7,t8,t9]
     exact h1 (by decide)
    ·rw [if_neg (by omega),hd] at hT
     simp only at hT
     subst hT
     simp only [sxZ,z6,z7,z8,j4,j5,j6,j7,j8,j9,x0,x3,x4,x5,x6,x7,reduceCtorEq,↓reduceIte,List.getElem?_set,hlen,t0,t7,t8,t9]
     exact h1 (by decide)
    ·rw [if_neg (by omega),hd] at hT
     simp only at hT
     have gg:m' ≤ (s.drop i).length ∧ 1 ≤ m':=⟨(za9 hd).2.2.1,(za9 hd).2.2.2.1⟩
     have hxl:((s.drop i).take m').length ≤ m':=by rw [List.length_take]; omega
     rw [List.length_drop] at gg
     simp only [sxZ,z6,z7,z8,j4,j5,j6,j7,j8,j9,x0,x3,x4,x5,x6,x7,reduceCtorEq,↓reduceIte,List.getElem?_set,hlen,t0,t7,t8,t9]
     exact ⟨s.length - (i + m'),by omega,i + m',out ++ (s.drop i).take m',m,by omega,by omega,rfl,ho',by rw [List.length_append]; omega,by omega,by rw [← List.drop_drop,show i + m' - (a + 1)=i - (a + 1) + m' by omega]; exact hT⟩
 ·obtain rfl:i=s.length:=by omega
  rw [List.drop_length,zcC] at hT
  subst hT
  simp only [sxZ,z6,z7,z8,j4,j5,j6,j7,j8,j9,x0,x3,x4,x5,x6,x7,reduceCtorEq,↓reduceIte,List.getElem?_set,hlen,t0,t7,hlt]
  exact h1 (by decide)
end
def zaB (s:List UInt8) (a:Int):(Int × List UInt8 × Int) × Int × Int :=
 if a < 0 ∨ (s.length:Int) < a then ((0,[],0),0,4)
 else if (zaM (s.drop (a.toNat + zaV (s.drop a.toNat)))).1 ≠ 0 then ((0,[],0),0,(zaM (s.drop (a.toNat + zaV (s.drop a.toNat)))).1)
 else (((zaM (s.drop (a.toNat + zaV (s.drop a.toNat)))).2.1,(zaM (s.drop (a.toNat + zaV (s.drop a.toNat)))).2.2.1,((a.toNat + zaV (s.drop a.toNat):Nat):Int)),((a.toNat + zaV (s.drop a.toNat) + (zaM (s.drop (a.toNat + zaV (s.drop a.toNat)))).2.2.2:Nat):Int),0)
def zna (r:(Int × List UInt8 × Int) × Int × Int):AV:=.tup [.agg [.i .i64 r.1.1,.s r.1.2.1,.i .i64 r.1.2.2],.i .i64 r.2.1,.i .i64 r.2.2]
theorem word_at (s:List UInt8) (i:Nat) (h:i < s.length):za7 (s.drop i)=if zc6 s[i]=true then za7 (s.drop (i + 1)) + 1 else 0:=by
 rw [List.drop_eq_getElem_cons h,za7]
theorem white_at (s:List UInt8) (i:Nat) (h:i < s.length):zaV (s.drop i)=if zbt s[i]=true then zaV (s.drop (i + 1)) + 1 else 0:=by
 rw [List.drop_eq_getElem_cons h,zaV]
theorem zjf:∀ l:List UInt8,za7 l ≤ l.length
 | [] => Nat.le_refl _
 | c :: t => by
  have:=zjf t
  unfold za7
  split <;> simp only [List.length_cons] <;> omega
theorem ze2:∀ l:List UInt8,zaV l ≤ l.length
 | [] => Nat.le_refl _
 | c :: t => by
  have:=ze2 t
  unfold zaV
  split <;> simp only [List.length_cons] <;> omega
section
variable [Tabs Tryz.prog] [Utf Tryz.prog] {objs:List OB} {K:List OB → AV → Prop}
set_option maxHeartbeats 4000000 in
theorem read_k (s:List UInt8) (a:Nat) (hs:s.length ≤ 140737488351232) (ha:a ≤ s.length)
  (h1:(zaM (s.drop a)).1 ≠ 0 → ∀ (kd:Int) (t:List UInt8) (b:Int),K objs (.tup [.i .i64 kd,.s t,.i .i64 b,.i .i64 (zaM (s.drop a)).1]))
  (h0:(zaM (s.drop a)).1=0 → K objs (.tup [.i .i64 (zaM (s.drop a)).2.1,.s (zaM (s.drop a)).2.2.1,.i .i64 ((a + (zaM (s.drop a)).2.2.2:Nat):Int),.i .i64 0])):zad Tryz.prog 34 [.s s,.i .i64 (a:Nat)] objs K:=by
 refine zaX is_token_read rfl fun C _ => ?_
 by_cases c0:(a:Int)=s.length
 ·obtain rfl:a=s.length:=by omega
  have he:zaM (s.drop s.length)=(0,1,[],0):=by rw [List.drop_length]; rfl
  rw [he] at h0
  simp only [c_token_read,sxZ,z6,z7,z8,j4,j5,j6,j7,j8,j9,x0,x3,x4,x5,x6,x7,reduceCtorEq,↓reduceIte]
  exact h0 rfl
 have hlt:a < s.length:=by omega
 have hg:=zay hlt
 have hdc:=List.drop_eq_getElem_cons hlt
 rw [c_token_read]
 refine zaa fun Y1 hY1 => ?_
 simp only [sxZ,z6,z7,z8,j4,j5,j6,j7,j8,j9,x0,x3,x4,x5,x6,x7,reduceCtorEq,↓reduceIte]
 subst hY1
 refine zaa fun Y1 hY1 => ?_
 simp only [c0,sxZ,z6,z7,z8,j4,j5,j6,j7,j8,j9,x0,x3,x4,x5,x6,x7,reduceCtorEq,↓reduceIte]
 subst hY1
 refine zaa fun Y1 hY1 => ?_
 simp only [hg,sxZ,z6,z7,z8,j4,j5,j6,j7,j8,j9,x0,x3,x4,x5,x6,x7,reduceCtorEq,↓reduceIte]
 refine ⟨by omega,?_⟩
 refine zam (zhm _ s[a] ?_)
 by_cases c1:zbp s[a] [123,125,91,93,58,44]=true
 ·have he:zaM (s.drop a)=(0,2,[s[a]],1):=by rw [hdc,zaM,if_pos c1]
  rw [he] at h0
  have hi:=znY [123,125,91,93,58,44] s[a]
  rw [c1] at hi
  have hi:=of_decide_eq_true hi
  have hx:(s.take (a + 1)).drop a=[s[a]]:=by rw [zee,hdc]; rfl
  have e1:((a:Int) + 1).toNat=a + 1:=by omega
  simp only [hi,c0,hg,e1,hx,sxZ,z6,z7,z8,j4,j5,j6,j7,j8,j9,x0,x3,x4,x5,x6,x7,reduceCtorEq,↓reduceIte]
  (and_intros <;> try omega)
  exact h0 rfl
 have hi:¬ (0:Int) ≤ Lib.indexByte [123,125,91,93,58,44] s[a]:=by
  intro h
  have hi:=znY [123,125,91,93,58,44] s[a]
  rw [decide_eq_true h] at hi
  exact c1 hi.symm
 by_cases c2:((s[a].toNat:Nat):Int)=34
 ·have hc:s[a]=34:=(zbN (by decide)).1 c2
  simp only [hi,c2,sxZ,z6,z7,z8,j4,j5,j6,j7,j8,j9,x0,x3,x4,x5,x6,x7,reduceCtorEq,↓reduceIte]
  have he:zaM (s.drop a)=if (zcC ((s.drop (a + 1)).length + 1) (s.drop (a + 1)) [] 0).1 ≠ 0 then ((zcC ((s.drop (a + 1)).length + 1) (s.drop (a + 1)) [] 0).1,0,[],0) else (0,3,(zcC ((s.drop (a + 1)).length + 1) (s.drop (a + 1)) [] 0).2.1,(zcC ((s.drop (a + 1)).length + 1) (s.drop (a + 1)) [] 0).2.2 + 1):=by
   rw [hdc,zaM,if_neg c1,if_pos hc]
  refine zam (zhv s a hs hlt _ rfl (fun hR => ?_) (fun hR => ?_))
  ·rw [if_pos hR] at he
   rw [he] at h1
   simp only [sxZ,z6,z7,z8,j4,j5,j6,j7,j8,j9,x0,x3,x4,x5,x6,x7,reduceCtorEq,↓reduceIte]
   exact h1 hR _ _ _
  ·rw [if_neg (by rw [hR]; simp)] at he
   rw [he] at h0
   simp only [sxZ,z6,z7,z8,j4,j5,j6,j7,j8,j9,x0,x3,x4,x5,x6,x7,reduceCtorEq,↓reduceIte]
   have:=h0 rfl
   rw [show a + ((zcC ((s.drop (a + 1)).length + 1) (s.drop (a + 1)) [] 0).2.2 + 1)=a + 1 + (zcC ((s.drop (a + 1)).length + 1) (s.drop (a + 1)) [] 0).2.2 by omega] at this
   exact this
 have hc:¬ s[a]=34:=fun h => c2 ((zbN (by decide)).2 h)
 have num:(s[a]=45 ∨ zai s[a]=true) → ∀ (e:Int) (x:List UInt8) (n:Nat),zc5 (s.drop a)=n → zaM (s.drop a)=if n=0 then (130,0,[],0) else (0,4,(s.drop a).take n,n):=by
  rintro h e x n rfl
  conv => lhs; rw [hdc]
  rw [zaM,if_neg c1,if_neg hc,if_pos h,← hdc]
 have hnl:=ziK (s.drop a)
 rw [List.length_drop] at hnl
 by_cases c3:((s[a].toNat:Nat):Int)=45
 ·have he:=num (.inl ((zbN (by decide)).1 c3)) 0 [] _ rfl
  simp only [hi,c3,sxZ,z6,z7,z8,j4,j5,j6,j7,j8,j9,x0,x3,x4,x5,x6,x7,reduceCtorEq,↓reduceIte]
  refine zam (zdA s a ha (by omega) ?_)
  generalize zc5 (s.drop a)=n at *
  by_cases c4:n=0
  ·subst c4
   rw [if_pos rfl] at he
   rw [he] at h1
   simp only [Nat.add_zero,sxZ,z6,z7,z8,j4,j5,j6,j7,j8,j9,x0,x3,x4,x5,x6,x7,reduceCtorEq,↓reduceIte]
   exact h1 (by decide) _ _ _
  ·have c4':¬ ((a + n:Nat):Int)=a:=by omega
   rw [if_neg c4] at he
   rw [he] at h0
   simp only [c4',sxZ,z6,z7,z8,j4,j5,j6,j7,j8,j9,x0,x3,x4,x5,x6,x7,reduceCtorEq,↓reduceIte]
   rw [zee]
   refine ⟨by omega,h0 rfl⟩
 have hc3:¬ s[a]=45:=fun h => c3 ((zbN (by decide)).2 h)
 simp only [hi,c2,c3,sxZ,z6,z7,z8,j4,j5,j6,j7,j8,j9,x0,x3,x4,x5,x6,x7,reduceCtorEq,↓reduceIte]
 refine zam (zkQ s[a] ?_)
 by_cases c5:zai s[a]=true
 ·have he:=num (.inr c5) 0 [] _ rfl
  simp only [c5,sxZ,z6,z7,z8,j4,j5,j6,j7,j8,j9,x0,x3,x4,x5,x6,x7,reduceCtorEq,↓reduceIte]
  refine zam (zdA s a ha (by omega) ?_)
  generalize zc5 (s.drop a)=n at *
  by_cases c4:n=0
  ·subst c4
   rw [if_pos rfl] at he
   rw [he] at h1
   simp only [Nat.add_zero,sxZ,z6,z7,z8,j4,j5,j6,j7,j8,j9,x0,x3,x4,x5,x6,x7,reduceCtorEq,↓reduceIte]
   exact h1 (by decide) _ _ _
  ·have c4':¬ ((a + n:Nat):Int)=a:=by omega
   rw [if_neg c4] at he
   rw [he] at h0
   simp only [c4',sxZ,z6,z7,z8,j4,j5,j6,j7,j8,j9,x0,x3,x4,x5,x6,x7,reduceCtorEq,↓reduceIte]
   rw [zee]
   refine ⟨by omega,h0 rfl⟩
 have he:zaM (s.drop a)=if (s.drop a).take (za7 (s.drop a))=[116,114,117,101] ∨ (s.drop a).take (za7 (s.drop a))=[102,97,108,115,101] ∨ (s.drop a).take (za7 (s.drop a))=[110,117,108,108] then (0,5,(s.drop a).take (za7 (s.drop a)),za7 (s.drop a)) else (130,0,[],0):=by
  conv => lhs; rw [hdc]
  rw [zaM,if_neg c1,if_neg hc,if_neg (fun h => h.elim hc3 c5),← hdc]
 simp only [c5,sxZ,z6,z7,z8,j4,j5,j6,j7,j8,j9,x0,x3,x4,x5,x6,x7,reduceCtorEq,↓reduceIte]
 subst hY1
 refine zaa fun Y1 hY1 => ?_
 simp only [sxZ,z6,z7,z8,j4,j5,j6,j7,j8,j9,x0,x3,x4,x5,x6,x7,reduceCtorEq,↓reduceIte]
 subst hY1
 refine zaa fun Y1 hY1 => ?_
 refine zaG (fun o t => ∃ i:Nat,i ≤ s.length ∧ a ≤ i ∧ o=[] ∧ a + za7 (s.drop a)=i ∧ t.length=89 ∧ t[0]? = some (.s s) ∧ t[1]? = some (.i .i64 a) ∧ t[13]? = some (.i .i64 i)) ?_ ?_
 ·simp only [sxZ,z6,z7,z8,j4,j5,j6,j7,j8,j9,x0,x3,x4,x5,x6,x7,reduceCtorEq,↓reduceIte]
  refine zaE (fun n objs tm => ∃ i:Nat,i ≤ s.length ∧ a ≤ i ∧ n=s.length - i ∧ objs=[] ∧ a + za7 (s.drop a)=i + za7 (s.drop i) ∧ tm.length=89 ∧ tm[0]? = some (.s s) ∧ tm[1]? = some (.i .i64 a) ∧ tm[13]? = some (.i .i64 i)) (s.length - a) ⟨a,ha,Nat.le_refl _,rfl,rfl,rfl,rfl,rfl,rfl,rfl⟩ ?_
  rintro n _ tm ⟨i,hil,hai,rfl,rfl,hr,hlen,t0,t1,t13⟩
  by_cases hlt2:(i:Int) < s.length
  ·have hlt':i < s.length:=by omega
   have hg2:=zay hlt'
   have hrn:=word_at s i hlt'
   simp only [sxZ,z6,z7,z8,j4,j5,j6,j7,j8,j9,x0,x3,x4,x5,x6,x7,reduceCtorEq,↓reduceIte,List.getElem?_set,hlen,t0,t1,t13,hlt2]
   refine ⟨by omega,?_⟩
   rw [hg2]
   refine zam (aAlpha_k s[i] ?_)
   by_cases hd:zc6 s[i]=true
   ·rw [if_pos hd] at hrn
    simp only [hd,sxZ,z6,z7,z8,j4,j5,j6,j7,j8,j9,x0,x3,x4,x5,x6,x7,reduceCtorEq,↓reduceIte,List.getElem?_set,hlen,t0,t1,t13]
    exact ⟨⟨by omega,by omega⟩,s.length - (i + 1),by omega,i + 1,by omega,by omega,rfl,by omega,rfl⟩
   ·rw [if_neg hd] at hrn
    simp only [Bool.not_eq_true] at hd
    simp only [hd,zbv,zab,sxZ,z6,z7,z8,j4,j5,j6,j7,j8,j9,x0,x3,x4,x5,x6,x7,reduceCtorEq,↓reduceIte,List.getElem?_set,hlen,t0,t1,t13]
    exact ⟨i,hil,hai,by omega,rfl⟩
  ·obtain rfl:i=s.length:=by omega
   have hw:za7 (s.drop s.length)=0:=by rw [List.drop_length]; rfl
   simp only [hlt2,zbv,zab,sxZ,z6,z7,z8,j4,j5,j6,j7,j8,j9,x0,x3,x4,x5,x6,x7,reduceCtorEq,↓reduceIte,List.getElem?_set,hlen,t0,t1,t13]
   exact ⟨s.length,hil,hai,by omega,rfl⟩
 rintro _ tm ⟨i,hil,hai,rfl,hw,hlen,t0,t1,t13⟩
 subst hY1
 have hx:(s.take i).drop a=(s.drop a).take (za7 (s.drop a)):=by
  have:=zee s a (za7 (s.drop a))
  rw [hw] at this
  exact this
 rw [← hx] at he
 simp only [sxZ,z6,z7,z8,j4,j5,j6,j7,j8,j9,x0,x3,x4,x5,x6,x7,reduceCtorEq,↓reduceIte,List.getElem?_set,hlen,t0,t1,t13]
 refine ⟨by omega,?_⟩
 generalize (s.take i).drop a=x at *
 rw [hw.symm] at *
 by_cases d1:x=[116,114,117,101]
 ·rw [if_pos (.inl d1)] at he
  rw [he] at h0
  simp only [d1,sxZ,z6,z7,z8,j4,j5,j6,j7,j8,j9,x0,x3,x4,x5,x6,x7,reduceCtorEq,↓reduceIte,List.getElem?_set,hlen,t0,t1,t13]
  rw [d1] at h0
  exact h0 rfl
 by_cases d2:x=[102,97,108,115,101]
 ·rw [if_pos (.inr (.inl d2))] at he
  rw [he] at h0
  have n1:¬ ([102,97,108,115,101]:List UInt8)=[116,114,117,101]:=by decide
  simp only [d2,n1,sxZ,z6,z7,z8,j4,j5,j6,j7,j8,j9,x0,x3,x4,x5,x6,x7,reduceCtorEq,↓reduceIte,List.getElem?_set,hlen,t0,t1,t13]
  rw [d2] at h0
  exact h0 rfl
 by_cases d3:x=[110,117,108,108]
 ·rw [if_pos (.inr (.inr d3))] at he
  rw [he] at h0
  have n1:¬ ([110,117,108,108]:List UInt8)=[116,114,117,101]:=by decide
  have n2:¬ ([110,117,108,108]:List UInt8)=[102,97,108,115,101]:=by decide
  simp only [d3,n1,n2,sxZ,z6,z7,z8,j4,j5,j6,j7,j8,j9,x0,x3,x4,x5,x6,x7,reduceCtorEq,↓reduceIte,List.getElem?_set,hlen,t0,t1,t13]
  rw [d3] at h0
  exact h0 rfl
 rw [if_neg (by rintro (h | h | h); exact d1 h; exact d2 h; exact d3 h)] at he
 rw [he] at h1
 simp only [d1,d2,d3,sxZ,z6,z7,z8,j4,j5,j6,j7,j8,j9,x0,x3,x4,x5,x6,x7,reduceCtorEq,↓reduceIte,List.getElem?_set,hlen,t0,t1,t13]
 exact h1 (by decide) _ _ _
theorem zlM (s:List UInt8) (a:Int) (hs:s.length ≤ 140737488351232) (hk:K objs (zna (zaB s a))):zad Tryz.prog 21 [.s s,.i .i64 a] objs K:=by
 refine zaX is_token_Next rfl fun C _ => ?_
 unfold zaB zna at hk
 by_cases c0:a < 0
 ·rw [if_pos (.inl c0)] at hk
  simp only [c0,c_token_Next,sxZ,z6,z7,z8,j4,j5,j6,j7,j8,j9,x0,x3,x4,x5,x6,x7,reduceCtorEq,↓reduceIte]
  exact hk
 by_cases c1:(s.length:Int) < a
 ·rw [if_pos (.inr c1)] at hk
  simp only [c0,c1,c_token_Next,sxZ,z6,z7,z8,j4,j5,j6,j7,j8,j9,x0,x3,x4,x5,x6,x7,reduceCtorEq,↓reduceIte]
  exact hk
 rw [if_neg (by omega)] at hk
 obtain ⟨a,rfl⟩:∃ n:Nat,a=n:=⟨a.toNat,by omega⟩
 rw [Int.toNat_natCast] at hk
 rw [c_token_Next]
 refine zaa fun Y1 hY1 => ?_
 simp only [sxZ,z6,z7,z8,j4,j5,j6,j7,j8,j9,x0,x3,x4,x5,x6,x7,reduceCtorEq,↓reduceIte]
 subst hY1
 refine zaa fun Y1 hY1 => ?_
 simp only [c0,c1,sxZ,z6,z7,z8,j4,j5,j6,j7,j8,j9,x0,x3,x4,x5,x6,x7,reduceCtorEq,↓reduceIte]
 subst hY1
 refine zaa fun Y1 hY1 => ?_
 have hwl:=ze2 (s.drop a)
 rw [List.length_drop] at hwl
 refine zaG (fun o t => o=[.box 51 [.i .i64 0,.s [],.i .i64 0]] ∧ t.length=49 ∧ t[0]? = some (.s s) ∧ t[1]? = some (.i .i64 ((a + zaV (s.drop a):Nat):Int)) ∧ t[4]? = some (.p 0 0)) ?_ ?_
 ·simp only [sxZ,z6,z7,z8,j4,j5,j6,j7,j8,j9,x0,x3,x4,x5,x6,x7,reduceCtorEq,↓reduceIte]
  refine zaE (fun n objs tm => ∃ i:Nat,i ≤ s.length ∧ n=s.length - i ∧ objs=[.box 51 [.i .i64 0,.s [],.i .i64 0]] ∧ a + zaV (s.drop a)=i + zaV (s.drop i) ∧ tm.length=49 ∧ tm[0]? = some (.s s) ∧ tm[1]? = some (.i .i64 i) ∧ tm[4]? = some (.p 0 0)) (s.length - a) ⟨a,by omega,rfl,rfl,rfl,rfl,rfl,rfl,rfl⟩ ?_
  rintro n _ tm ⟨i,hil,rfl,rfl,hr,hlen,t0,t1,t4⟩
  by_cases hlt2:(i:Int) < s.length
  ·have hlt':i < s.length:=by omega
   have hg2:=zay hlt'
   have hrn:=white_at s i hlt'
   simp only [sxZ,z6,z7,z8,j4,j5,j6,j7,j8,j9,x0,x3,x4,x5,x6,x7,reduceCtorEq,↓reduceIte,List.getElem?_set,hlen,t0,t1,t4,hlt2]
   refine ⟨by omega,?_⟩
   rw [hg2]
   refine zam (znV s[i] ?_)
   by_cases hd:zbt s[i]=true
   ·rw [if_pos hd] at hrn
    simp only [hd,sxZ,z6,z7,z8,j4,j5,j6,j7,j8,j9,x0,x3,x4,x5,x6,x7,reduceCtorEq,↓reduceIte,List.getElem?_set,hlen,t0,t1,t4]
    exact ⟨⟨by omega,by omega⟩,s.length - (i + 1),by omega,i + 1,by omega,rfl,by omega,rfl⟩
   ·rw [if_neg hd] at hrn
    simp only [Bool.not_eq_true] at hd
    simp only [hd,zbv,zab,sxZ,z6,z7,z8,j4,j5,j6,j7,j8,j9,x0,x3,x4,x5,x6,x7,reduceCtorEq,↓reduceIte,List.getElem?_set,hlen,t0,t1,t4]
    rw [hr,hrn]; rfl
  ·obtain rfl:i=s.length:=by omega
   have hw:zaV (s.drop s.length)=0:=by rw [List.drop_length]; rfl
   simp only [hlt2,zbv,zab,sxZ,z6,z7,z8,j4,j5,j6,j7,j8,j9,x0,x3,x4,x5,x6,x7,reduceCtorEq,↓reduceIte,List.getElem?_set,hlen,t0,t1,t4]
   rw [hr,hw]; rfl
 rintro _ tm ⟨rfl,hlen,t0,t1,t4⟩
 subst hY1
 have hwl:a + zaV (s.drop a) ≤ s.length:=by omega
 generalize a + zaV (s.drop a)=i at *
 simp only [sxZ,z6,z7,z8,j4,j5,j6,j7,j8,j9,x0,x3,x4,x5,x6,x7,reduceCtorEq,↓reduceIte,List.getElem?_set,hlen,t0,t1,t4]
 refine zam (read_k s i hs hwl (fun hR kd t b => ?_) (fun hR => ?_))
 ·rw [if_pos hR] at hk
  simp only [hR,sxZ,z6,z7,z8,j4,j5,j6,j7,j8,j9,x0,x3,x4,x5,x6,x7,reduceCtorEq,↓reduceIte,List.getElem?_set,hlen,t0,t1,t4]
  exact hk
 ·rw [if_neg (by rw [hR]; simp)] at hk
  simp only [sxZ,z6,z7,z8,j4,j5,j6,j7,j8,j9,x0,x3,x4,x5,x6,x7,reduceCtorEq,↓reduceIte,List.getElem?_set,hlen,t0,t1,t4]
  exact hk
end
theorem rn_condH {P:Program} [Tabs P] {C:Cx} {F:zaI} {k:List IT} {objs:List OB} {tm:List AV} {c:SV} {x y:SCode} (h:∀ X,X=x → run P C (.code (.cond c X y) :: k) objs tm F):run P C (.code (.cond c x y) :: k) objs tm F:=h x rfl
section
variable [Tabs Tryz.prog] {objs:List OB} {K:List OB → AV → Prop}
theorem ziA (s:List UInt8) (a:Nat) (hk:K objs (.s (s.drop a))):zad Tryz.prog 68 [.s s,.i .i64 (a:Nat)] objs K:=by
 refine zaX is_ref13_tail rfl fun C _ => ?_
 by_cases c0:(s.length:Int) ≤ a
 ·rw [List.drop_of_length_le (by omega)] at hk
  simp only [c0,c_ref13_tail,sxZ,z6,z7,z8,j4,j5,j6,j7,j8,j9,x0,x3,x4,x5,x6,x7,reduceCtorEq,↓reduceIte]
  exact hk
 ·simp only [c0,c_ref13_tail,sxZ,z6,z7,z8,j4,j5,j6,j7,j8,j9,x0,x3,x4,x5,x6,x7,reduceCtorEq,↓reduceIte]
  exact ⟨by omega,hk⟩
theorem zma (s:List UInt8) (hs:s.length ≤ 9000000000000000000) (hk:K objs (.i .i64 (zaQ s:Nat))):zad Tryz.prog 90 [.s s] objs K:=by
 refine zaX is_ref13_run rfl fun C _ => ?_
 simp only [c_ref13_run,sxZ,z6,z7,z8,j4,j5,j6,j7,j8,j9,x0,x3,x4,x5,x6,x7,reduceCtorEq,↓reduceIte]
 refine zaE (fun n objs tm => ∃ i:Nat,i ≤ s.length ∧ n=s.length - i ∧ objs=[] ∧ zaQ s=i + zaQ (s.drop i) ∧ tm.length=17 ∧ tm[0]? = some (.s s) ∧ tm[3]? = some (.i .i64 i)) s.length ⟨0,Nat.zero_le _,rfl,rfl,by simp,rfl,rfl,rfl⟩ ?_
 rintro n _ tm ⟨i,hi,rfl,rfl,hr,hlen,t0,t3⟩
 by_cases hlt:(i:Int) < s.length
 ·have hlt':i < s.length:=by omega
  have hg:=zay hlt'
  have hrn:=zl7 s i hlt'
  simp only [sxZ,z6,z7,z8,j4,j5,j6,j7,j8,j9,x0,x3,x4,x5,x6,x7,reduceCtorEq,↓reduceIte,List.getElem?_set,hlen,t0,t3,hlt]
  refine ⟨by omega,?_⟩
  rw [hg]
  refine zam (zhz s[i] ?_)
  by_cases hd:zai s[i]=true
  ·rw [if_pos hd] at hrn
   simp only [hd,sxZ,z6,z7,z8,j4,j5,j6,j7,j8,j9,x0,x3,x4,x5,x6,x7,reduceCtorEq,↓reduceIte,List.getElem?_set,hlen,t0,t3]
   exact ⟨⟨by omega,by omega⟩,s.length - (i + 1),by omega,i + 1,by omega,rfl,by omega,rfl⟩
  ·rw [if_neg hd] at hrn
   simp only [Bool.not_eq_true] at hd
   simp only [hd,sxZ,z6,z7,z8,j4,j5,j6,j7,j8,j9,x0,x3,x4,x5,x6,x7,reduceCtorEq,↓reduceIte,List.getElem?_set,hlen,t0,t3]
   rw [hr,hrn] at hk
   exact hk
 ·obtain rfl:i=s.length:=by omega
  simp only [sxZ,z6,z7,z8,j4,j5,j6,j7,j8,j9,x0,x3,x4,x5,x6,x7,reduceCtorEq,↓reduceIte,List.getElem?_set,hlen,t0,t3,hlt]
  rw [hr,zl6] at hk
  exact hk
set_option maxHeartbeats 4000000 in
theorem zk1 (s:List UInt8) (hs:s.length ≤ 140737488351232) (hk:K objs (.i .i64 (zc5 s:Nat))):zad Tryz.prog 65 [.s s] objs K:=by
 refine zaX is_ref13_numeral rfl fun C _ => ?_
 have hmx:=zbC
 rw [c_ref13_numeral]
 refine zaa fun Y1 hY1 => ?_
 simp only [sxZ,z6,z7,z8,j4,j5,j6,j7,j8,j9,x0,x3,x4,x5,x6,x7,reduceCtorEq,↓reduceIte]
 subst hY1
 refine zaa fun Y1 hY1 => ?_
 simp only [sxZ,z6,z7,z8,j4,j5,j6,j7,j8,j9,x0,x3,x4,x5,x6,x7,reduceCtorEq,↓reduceIte]
 subst hY1
 refine zaa fun Y1 hY1 => ?_
 refine zaG (fun o t => o=[] ∧ t.length=99 ∧ t[0]? = some (.s s) ∧ t[3]? = some (.i .i64 (za0 s:Nat))) ?_ ?_
 ·unfold za0
  by_cases c1:(0:Int) < s.length
  ·have c1':0 < s.length:=by omega
   have hg:=zay c1'
   have h45:s[0]? = some 45 ↔ ((s[0].toNat:Nat):Int)=45:=zeu c1' 45 (by decide)
   by_cases c2:((s[0].toNat:Nat):Int)=45
   ·rw [if_pos (h45.2 c2)]
    simp only [c1,hg,c2,zab,sxZ,z6,z7,z8,j4,j5,j6,j7,j8,j9,x0,x3,x4,x5,x6,x7,reduceCtorEq,↓reduceIte]
    rfl
   ·rw [if_neg (fun h => c2 (h45.1 h))]
    simp only [c1,hg,c2,zab,sxZ,z6,z7,z8,j4,j5,j6,j7,j8,j9,x0,x3,x4,x5,x6,x7,reduceCtorEq,↓reduceIte]
    rfl
  ·rw [if_neg (zbi (by omega))]
   simp only [c1,zab,sxZ,z6,z7,z8,j4,j5,j6,j7,j8,j9,x0,x3,x4,x5,x6,x7,reduceCtorEq,↓reduceIte]
   rfl
 rintro _ tm ⟨rfl,hlen,t0,t3⟩
 subst hY1
 have hsg:za0 s ≤ s.length:=by
  unfold za0
  split
  ·rename_i h
   have:=(List.getElem?_eq_some_iff.1 h).1
   omega
  ·omega
 refine zaa fun Y1 hY1 => ?_
 unfold zc5 at hk
 have hw:zaA s=if s[za0 s]? = some 48 then za0 s + 1 else za0 s + zaQ (s.drop (za0 s)):=rfl
 have hrl:0 < zaQ (s.drop (za0 s)) → za0 s + zaQ (s.drop (za0 s)) ≤ s.length:=zaL s _
 generalize za0 s=g at *
 by_cases c0:(g:Int)=s.length
 ·have hr0:zaQ (s.drop g)=0:=by rw [List.drop_of_length_le (by omega)]; rfl
  rw [if_pos hr0] at hk
  simp only [c0,sxZ,z6,z7,z8,j4,j5,j6,j7,j8,j9,x0,x3,x4,x5,x6,x7,reduceCtorEq,↓reduceIte,List.getElem?_set,hlen,t0,t3]
  exact hk
 have c1':g < s.length:=by omega
 have hg:=zay c1'
 have hrun:=zl7 s g c1'
 simp only [c0,hg,sxZ,z6,z7,z8,j4,j5,j6,j7,j8,j9,x0,x3,x4,x5,x6,x7,reduceCtorEq,↓reduceIte,List.getElem?_set,hlen,t0,t3]
 refine ⟨by omega,?_⟩
 refine zam (zhz s[g] ?_)
 by_cases c2:zai s[g]=true
 case neg =>
  rw [if_neg c2] at hrun
  rw [if_pos hrun] at hk
  simp only [Bool.not_eq_true] at c2
  simp only [c2,sxZ,z6,z7,z8,j4,j5,j6,j7,j8,j9,x0,x3,x4,x5,x6,x7,reduceCtorEq,↓reduceIte,List.getElem?_set,hlen,t0,t3]
  exact hk
 rw [if_pos c2] at hrun
 rw [if_neg (by omega)] at hk
 simp only [c2,sxZ,z6,z7,z8,j4,j5,j6,j7,j8,j9,x0,x3,x4,x5,x6,x7,reduceCtorEq,↓reduceIte,List.getElem?_set,hlen,t0,t3]
 subst hY1
 refine zaa fun Y1 hY1 => ?_
 refine zaG (fun o t => o=[] ∧ t.length=99 ∧ t[0]? = some (.s s) ∧ t[3]? = some (.i .i64 (zaA s:Nat))) ?_ ?_
 ·have h48:s[g]? = some 48 ↔ ((s[g].toNat:Nat):Int)=48:=zeu c1' 48 (by decide)
  rw [hw]
  by_cases c3:((s[g].toNat:Nat):Int)=48
  ·rw [if_pos (h48.2 c3)]
   simp only [hg,c3,zab,sxZ,z6,z7,z8,j4,j5,j6,j7,j8,j9,x0,x3,x4,x5,x6,x7,reduceCtorEq,↓reduceIte,List.getElem?_set,hlen,t0,t3]
   and_intros <;> first | omega | exact iv (by omega) | rfl | assumption
  ·rw [if_neg (fun h => c3 (h48.1 h))]
   simp only [hg,c3,zab,sxZ,z6,z7,z8,j4,j5,j6,j7,j8,j9,x0,x3,x4,x5,x6,x7,reduceCtorEq,↓reduceIte,List.getElem?_set,hlen,t0,t3]
   refine ⟨by omega,by omega,?_⟩
   refine zam (zma _ (by rw [List.length_drop]; omega) ?_)
   have:=hrl (by omega)
   simp only [zab,sxZ,z6,z7,z8,j4,j5,j6,j7,j8,j9,x0,x3,x4,x5,x6,x7,reduceCtorEq,↓reduceIte,List.getElem?_set,hlen,t0,t3]
   and_intros <;> first | omega | exact iv (by omega) | rfl | assumption
 rintro _ tm ⟨rfl,hlen,t0,t3⟩
 subst hY1
 refine zaa fun Y1 hY1 => ?_
 have hwl:zaA s ≤ s.length:=by
  rw [hw]
  have:=hrl (by omega)
  split <;> omega
 have hf:zby s (zaA s)=if s[zaA s]? = some 46 ∧ 0 < zaQ (s.drop (zaA s + 1)) then zaA s + 1 + zaQ (s.drop (zaA s + 1)) else zaA s:=rfl
 generalize zaA s=w at *
 clear hw hrl hrun hg c2 c0 c1'
 refine zaG (fun o t => o=[] ∧ t.length=99 ∧ t[0]? = some (.s s) ∧ t[3]? = some (.i .i64 (zby s w:Nat))) ?_ ?_
 ·rw [hf]
  simp only [sxZ,z6,z7,z8,j4,j5,j6,j7,j8,j9,x0,x3,x4,x5,x6,x7,reduceCtorEq,↓reduceIte,List.getElem?_set,hlen,t0,t3]
  refine ⟨by omega,?_⟩
  refine zam (ziA s (w + 1) ?_)
  simp only [sxZ,z6,z7,z8,j4,j5,j6,j7,j8,j9,x0,x3,x4,x5,x6,x7,reduceCtorEq,↓reduceIte,List.getElem?_set,hlen,t0,t3]
  refine zam (zma _ (by rw [List.length_drop]; omega) ?_)
  have hr:=zaL s (w + 1)
  generalize zaQ (s.drop (w + 1))=r at *
  by_cases c1:(w:Int) < s.length
  ·have c1':w < s.length:=by omega
   have hg:=zay c1'
   have h46:s[w]? = some 46 ↔ ((s[w].toNat:Nat):Int)=46:=zeu c1' 46 (by decide)
   by_cases c2:((s[w].toNat:Nat):Int)=46
   ·by_cases c3:0 < r
    ·rw [if_pos ⟨h46.2 c2,c3⟩]
     have c3':(0:Int) < r:=by omega
     simp only [c1,hg,c2,c3',zab,sxZ,z6,z7,z8,j4,j5,j6,j7,j8,j9,x0,x3,x4,x5,x6,x7,reduceCtorEq,↓reduceIte,List.getElem?_set,hlen,t0,t3]
     and_intros <;> first | omega | exact iv (by omega) | rfl | assumption
    ·rw [if_neg (fun h => c3 h.2)]
     have c3':¬ (0:Int) < r:=by omega
     simp only [c1,hg,c2,c3',zab,sxZ,z6,z7,z8,j4,j5,j6,j7,j8,j9,x0,x3,x4,x5,x6,x7,reduceCtorEq,↓reduceIte,List.getElem?_set,hlen,t0,t3]
     and_intros <;> first | omega | exact iv (by omega) | rfl | assumption
   ·rw [if_neg (fun h => c2 (h46.1 h.1))]
    simp only [c1,hg,c2,zab,sxZ,z6,z7,z8,j4,j5,j6,j7,j8,j9,x0,x3,x4,x5,x6,x7,reduceCtorEq,↓reduceIte,List.getElem?_set,hlen,t0,t3]
    and_intros <;> first | omega | exact iv (by omega) | rfl | assumption
  ·rw [if_neg (fun h => zbi (by omega) h.1)]
   simp only [c1,zab,sxZ,z6,z7,z8,j4,j5,j6,j7,j8,j9,x0,x3,x4,x5,x6,x7,reduceCtorEq,↓reduceIte,List.getElem?_set,hlen,t0,t3]
 rintro _ tm ⟨rfl,hlen,t0,t3⟩
 subst hY1
 refine zaa fun Y1 hY1 => ?_
 have hfl:zby s w ≤ s.length:=by
  rw [hf]
  split
  ·rename_i h
   have:=zaL s (w + 1) h.2
   omega
  ·exact hwl
 generalize zby s w=f at *
 clear hf
 have hx:zaT s f=if s[f + 1]? = some 43 ∨ s[f + 1]? = some 45 then f + 2 else f + 1:=rfl
 have he:ziZ s f=if (s[f]? = some 101 ∨ s[f]? = some 69) ∧ 0 < zaQ (s.drop (zaT s f)) then zaT s f + zaQ (s.drop (zaT s f)) else f:=rfl
 have in2:∀ (i:Nat) (hi:i < s.length) (x y:UInt8),zbp s[i] [x,y]=decide (s[i]? = some x ∨ s[i]? = some y):=by
  intro i hi x y
  rw [List.getElem?_eq_getElem hi]
  simp [zbp,eq_comm]
 refine zaG (fun o t => o=[] ∧ t.length=99 ∧ t[3]? = some (.i .i64 (ziZ s f:Nat))) ?_ ?_
 ·refine zaa fun Y2 hY2 => ?_
  refine zaG (fun o t => o=[] ∧ t.length=99 ∧ t[0]? = some (.s s) ∧ t[3]? = some (.i .i64 (f:Nat)) ∧ t[74]? = some (.b (decide (s[f]? = some 101 ∨ s[f]? = some 69)))) ?_ ?_
  ·by_cases c1:(f:Int) < s.length
   ·have c1':f < s.length:=by omega
    have hg:=zay c1'
    simp only [c1,hg,sxZ,z6,z7,z8,j4,j5,j6,j7,j8,j9,x0,x3,x4,x5,x6,x7,reduceCtorEq,↓reduceIte,List.getElem?_set,hlen,t0,t3]
    refine ⟨by omega,?_⟩
    refine zam (zmE _ _ (by decide) ?_)
    rw [in2 f c1']
    generalize decide (s[f]? = some 101 ∨ s[f]? = some 69)=E
    simp only [zab,sxZ,z6,z7,z8,j4,j5,j6,j7,j8,j9,x0,x3,x4,x5,x6,x7,reduceCtorEq,↓reduceIte,List.getElem?_set,hlen,t0,t3]
   ·have hE:¬ (s[f]? = some 101 ∨ s[f]? = some 69):=fun h => h.elim (zbi (by omega)) (zbi (by omega))
    simp only [c1,hE,zab,sxZ,z6,z7,z8,j4,j5,j6,j7,j8,j9,x0,x3,x4,x5,x6,x7,reduceCtorEq,↓reduceIte,List.getElem?_set,hlen,t0,t3]
  rintro _ tm ⟨rfl,hlen,t0,t3,t74⟩
  subst hY2
  refine rn_condH fun X hX => ?_
  by_cases hE:s[f]? = some 101 ∨ s[f]? = some 69
  case neg =>
   rw [he,if_neg (fun h => hE h.1)]
   simp only [hE,zab,sxZ,z6,z7,z8,j4,j5,j6,j7,j8,j9,x0,x3,x4,x5,x6,x7,reduceCtorEq,↓reduceIte,List.getElem?_set,hlen,t0,t3,t74]
  have c1':f < s.length:=by
   rcases hE with h | h
   all_goals exact (List.getElem?_eq_some_iff.1 h).1
  simp only [hE,sxZ,z6,z7,z8,j4,j5,j6,j7,j8,j9,x0,x3,x4,x5,x6,x7,reduceCtorEq,↓reduceIte,List.getElem?_set,hlen,t0,t3,t74]
  subst hX
  refine zaa fun Y2 hY2 => ?_
  refine zaG (fun o t => o=[] ∧ t.length=99 ∧ t[0]? = some (.s s) ∧ t[3]? = some (.i .i64 (f:Nat)) ∧ t[5]? = some (.i .i64 ((f:Int) + 1))) ?_ ?_
  ·simp only [zab,sxZ,z6,z7,z8,j4,j5,j6,j7,j8,j9,x0,x3,x4,x5,x6,x7,reduceCtorEq,↓reduceIte,List.getElem?_set,hlen,t0,t3]
   and_intros <;> first | omega | exact iv (by omega) | rfl | assumption
  rintro _ tm ⟨rfl,hlen,t0,t3,t5⟩
  subst hY2
  refine zaa fun Y2 hY2 => ?_
  refine zaG (fun o t => o=[] ∧ t.length=99 ∧ t[0]? = some (.s s) ∧ t[3]? = some (.i .i64 (f:Nat)) ∧ t[5]? = some (.i .i64 (zaT s f:Nat))) ?_ ?_
  ·rw [hx]
   by_cases d1:(f:Int) + 1 < s.length
   ·have d1':f + 1 < s.length:=by omega
    have hg2:=zay d1'
    have e1:((f:Int) + 1).toNat=f + 1:=by omega
    simp only [d1,e1,hg2,sxZ,z6,z7,z8,j4,j5,j6,j7,j8,j9,x0,x3,x4,x5,x6,x7,reduceCtorEq,↓reduceIte,List.getElem?_set,hlen,t0,t3,t5]
    refine ⟨by omega,?_⟩
    refine zam (zmE _ _ (by decide) ?_)
    rw [in2 (f + 1) d1']
    by_cases c4:s[f + 1]? = some 43 ∨ s[f + 1]? = some 45
    ·rw [if_pos c4]
     simp only [c4,zab,sxZ,z6,z7,z8,j4,j5,j6,j7,j8,j9,x0,x3,x4,x5,x6,x7,reduceCtorEq,↓reduceIte,List.getElem?_set,hlen,t0,t3,t5]
     and_intros <;> first | omega | exact iv (by omega) | rfl | assumption
    ·rw [if_neg c4]
     simp only [c4,zab,sxZ,z6,z7,z8,j4,j5,j6,j7,j8,j9,x0,x3,x4,x5,x6,x7,reduceCtorEq,↓reduceIte,List.getElem?_set,hlen,t0,t3,t5]
     and_intros <;> first | omega | exact iv (by omega) | rfl | assumption
   ·rw [if_neg (fun h => h.elim (zbi (by omega)) (zbi (by omega)))]
    simp only [d1,zab,sxZ,z6,z7,z8,j4,j5,j6,j7,j8,j9,x0,x3,x4,x5,x6,x7,reduceCtorEq,↓reduceIte,List.getElem?_set,hlen,t0,t3,t5]
    and_intros <;> first | omega | exact iv (by omega) | rfl | assumption
  rintro _ tm ⟨rfl,hlen,t0,t3,t5⟩
  subst hY2
  have hxl:zaT s f ≤ s.length:=by
   rw [hx]
   split
   ·rename_i h
    rcases h with h | h
    all_goals
     have:=(List.getElem?_eq_some_iff.1 h).1
     omega
   ·omega
  have hrl:=zaL s (zaT s f)
  generalize zaT s f=x at *
  simp only [sxZ,z6,z7,z8,j4,j5,j6,j7,j8,j9,x0,x3,x4,x5,x6,x7,reduceCtorEq,↓reduceIte,List.getElem?_set,hlen,t0,t3,t5]
  refine zam (ziA s x ?_)
  simp only [sxZ,z6,z7,z8,j4,j5,j6,j7,j8,j9,x0,x3,x4,x5,x6,x7,reduceCtorEq,↓reduceIte,List.getElem?_set,hlen,t0,t3,t5]
  refine zam (zma _ (by rw [List.length_drop]; omega) ?_)
  generalize zaQ (s.drop x)=r at *
  rw [he]
  by_cases c4:0 < r
  ·rw [if_pos ⟨hE,c4⟩]
   have c4':(0:Int) < r:=by omega
   simp only [c4',zab,sxZ,z6,z7,z8,j4,j5,j6,j7,j8,j9,x0,x3,x4,x5,x6,x7,reduceCtorEq,↓reduceIte,List.getElem?_set,hlen,t0,t3,t5]
   and_intros <;> first | omega | exact iv (by omega) | rfl | assumption
  ·rw [if_neg (fun h => c4 h.2)]
   have c4':¬ (0:Int) < r:=by omega
   simp only [c4',zab,sxZ,z6,z7,z8,j4,j5,j6,j7,j8,j9,x0,x3,x4,x5,x6,x7,reduceCtorEq,↓reduceIte,List.getElem?_set,hlen,t0,t3,t5]
 rintro _ tm ⟨rfl,hlen,t3⟩
 subst hY1
 simp only [sxZ,z6,z7,z8,j4,j5,j6,j7,j8,j9,x0,x3,x4,x5,x6,x7,reduceCtorEq,↓reduceIte,List.getElem?_set,hlen,t3]
 exact hk
end
end Go.Proofs.YthmdohgkmdkeeaaGreatDoor
namespace Go.Proofs.YthmdohgkmdkeeaaGreatDoor
open Go.RowKit
theorem read_quo {l:List UInt8} {e:Int} {x:List UInt8} {n:Nat} (h:zcC (l.length + 1) l [] 0=(e,x,n)):zaM (34 :: l)=if e ≠ 0 then (e,0,[],0) else (0,3,x,n + 1):=by
 rw [zaM,if_neg (by decide),if_pos rfl,h]
end Go.Proofs.YthmdohgkmdkeeaaGreatDoor
namespace Go.Proofs.YthmdohgkmdkeeaaGreatDoor
open Go.RowKit Sx
theorem zlH {p:NumS} (hp:p.Good):p.neg=decide (p.txt[0]? = some 45):=by
 obtain ⟨c,t,e1,e2⟩:=zbD hp.i0 hp.i1
 unfold NumS.txt
 cases p.neg with
 | true => rfl
 | false =>
  rw [e1]
  have:c ≠ 45:=zbg e2 rfl
  simp [sgT,this]
theorem num_uniq {p q:NumS} (hp:p.Good) (hq:q.Good) (h:p.txt=q.txt):p=q:=by
 have hn:p.neg=q.neg:=by rw [zlH hp,zlH hq,h]
 unfold NumS.txt at h
 rw [hn] at h
 have h:=List.append_cancel_left h
 have r1:=zca p.int _ hp.i1 (zfg hp)
 have r2:=zca q.int _ hq.i1 (zfg hq)
 rw [h,r2] at r1
 obtain ⟨hi,hR⟩:=List.append_inj h r1.symm
 have hx:p.fr=q.fr ∧ exT p.ex=exT q.ex:=by
  cases h1:p.fr with
  | nil =>
   cases h2:q.fr with
   | nil => rw [h1,h2] at hR; exact ⟨rfl,hR⟩
   | cons b u =>
    rw [h1,h2] at hR
    exfalso
    rcases zd6 hp 46 (by rw [show exT p.ex=frT (b :: u) ++ exT q.ex from hR]; rfl) with h3 | h3 <;> cases h3
  | cons a t =>
   cases h2:q.fr with
   | nil =>
    rw [h1,h2] at hR
    exfalso
    rcases zd6 hq 46 (by rw [show exT q.ex=frT (a :: t) ++ exT p.ex from hR.symm]; rfl) with h3 | h3 <;> cases h3
   | cons b u =>
    rw [h1,h2] at hR
    have hR:(46:UInt8) :: ((a :: t) ++ exT p.ex)=46 :: ((b :: u) ++ exT q.ex):=hR
    injection hR with _ hR
    have hd:∀ {r:NumS},r.Good → ∀ c,(exT r.ex)[0]? = some c → zai c=false:=fun hr c h => by
     rcases zd6 hr c h with rfl | rfl <;> rfl
    have k1:=zca (a :: t) _ (by rw [← h1]; exact hp.f1) (hd hp)
    have k2:=zca (b :: u) _ (by rw [← h2]; exact hq.f1) (hd hq)
    rw [hR,k2] at k1
    exact List.append_inj hR k1.symm
 have he:p.ex=q.ex:=by
  have h3:=hx.2
  cases h1:p.ex with
  | none =>
   cases h2:q.ex with
   | none => rfl
   | some e => obtain ⟨c,s,d⟩:=e; rw [h1,h2] at h3; cases h3
  | some e =>
   obtain ⟨c,s,d⟩:=e
   cases h2:q.ex with
   | none => rw [h1,h2] at h3; cases h3
   | some e' =>
    obtain ⟨c',s',d'⟩:=e'
    have k1:=(zi0 0 hp h1).2
    have k2:=(zi0 0 hq h2).2
    rw [h1,h2] at h3
    have h3:c :: (s ++ d)=c' :: (s' ++ d'):=h3
    injection h3 with e1 e2
    rw [e2,k2] at k1
    subst k1
    rw [e1,List.append_cancel_right e2]
 obtain ⟨pn,pi,pf,pe⟩:=p
 obtain ⟨qn,qi,qf,qe⟩:=q
 simp only at hn hi hx he
 rw [hn,hi,hx.1,he]
section
variable [Tabs Tryz.prog] {objs:List OB} {K:List OB → AV → Prop}
end
end Go.Proofs.YthmdohgkmdkeeaaGreatDoor
namespace Go.Proofs.YthmdohgkmdkeeaaGreatDoor
open Nat renaming reduceAdd → z6, reduceSub → z7, reduceLeDiff → z8, reduceLT → j4, reduceMul → j5, reduceEqDiff → j6
open Int renaming reduceToNat → j7, reduceAdd → j8, reduceSub → j9, reduceMul → x0, reduceNeg → x3, reduceLT → x4, reduceLE → x5, reduceEq → x6, reduceNe → x7
open Go.RowKit Sx
theorem minV_at (c:Nat) (l:List UInt8) (i n:Nat) (h:i < l.length):ziM c (l.drop i) n=ziM c (l.drop (i + 1)) (min (n * 10 + (l[i].toNat - 48)) c):=by
 rw [List.drop_eq_getElem_cons h,ziM]
theorem zoI {p:NumS} (hp:p.Good):zlg p.body [101,69]=(p.int ++ frT p.fr).length:=by
 have hno:(p.int ++ frT p.fr).findIdx (fun c => zbp c [101,69])=(p.int ++ frT p.fr).length:=by
  rw [List.findIdx_eq_length]
  intro c hc
  rcases List.mem_append.1 hc with h | h
  ·exact (zbE (List.all_eq_true.1 hp.i1 c h)).2.1
  ·exact (ziY hp.f1 c h).2
 unfold zlg NumS.body
 rw [← List.append_assoc,List.findIdx_append,hno,if_neg (by omega)]
 cases he:p.ex with
 | none => simp [exT]
 | some e =>
  obtain ⟨k,s,d⟩:=e
  have:(exT (some (k,s,d))).findIdx (fun c => zbp c [101,69])=0:=by
   unfold exT
   rw [List.findIdx_cons]
   rcases (hp.e1 k s d he).1 with rfl | rfl <;> rfl
  rw [this,Nat.zero_add]
theorem zic (p:NumS):p.body.take (p.int ++ frT p.fr).length=p.int ++ frT p.fr:=by
 unfold NumS.body
 rw [← List.append_assoc,List.take_left]
theorem body_exp {p:NumS} (hp:p.Good) (c:Nat):expC c (p.body.drop ((p.int ++ frT p.fr).length + 1))=zeF c p.ex ∧ (zeh (p.body.drop ((p.int ++ frT p.fr).length + 1))).all zai=true:=by
 have hd:p.body.drop ((p.int ++ frT p.fr).length + 1)=(exT p.ex).drop 1:=by
  unfold NumS.body
  rw [← List.append_assoc,← List.drop_drop,List.drop_left]
 rw [hd]
 cases he:p.ex with
 | none => exact ⟨rfl,rfl⟩
 | some e =>
  obtain ⟨k,s,d⟩:=e
  have h:=zi0 c hp he
  have h4:=(hp.e1 k s d he).2.2.2
  rw [he] at h
  show expC c (s ++ d)=_ ∧ (zeh (s ++ d)).all zai=true
  rw [h.2]
  exact ⟨h.1,h4⟩
theorem zR_last {l:List UInt8} (h:l ≠ []) (h2:l.getLast h ≠ 48):zR l=l:=by
 unfold zR
 rw [zL_id,List.reverse_reverse]
 intro c hc
 rw [← List.head?_eq_getElem?,List.head?_reverse,List.getLast?_eq_some_getLast h] at hc
 injection hc with hc
 rw [← hc]; exact h2
section
variable [Tabs Tryz.prog] {objs:List OB} {K:List OB → AV → Prop}
set_option maxHeartbeats 2000000 in
theorem ziB (l:List UInt8) (hl:l.length ≤ 140737488351232) (hd:(zeh l).all zai=true) (hk:K objs (.i .i64 (expC 1073741824 l))):zad Tryz.prog 67 [.s l] objs K:=by
 refine zaX is_ref13_exponent rfl fun C _ => ?_
 rw [c_ref13_exponent]
 refine zaa fun Y1 hY1 => ?_
 simp only [sxZ,z6,z7,z8,j4,j5,j6,j7,j8,j9,x0,x3,x4,x5,x6,x7,reduceCtorEq,↓reduceIte]
 subst hY1
 refine zaa fun Y1 hY1 => ?_
 refine zaG (fun o t => o=[] ∧ t.length=41 ∧ t[0]? = some (.s l) ∧ t[3]? = some (.b (negE l))) ?_ ?_
 ·unfold negE
  by_cases c0:l=[]
  ·subst c0
   simp [zab,sxZ,z6,z7,z8,j4,j5,j6,j7,j8,j9,x0,x3,x4,x5,x6,x7,reduceCtorEq,↓reduceIte]
  ·have l0:0 < l.length:=List.length_pos_iff.2 c0
   have g0:=zay l0
   have h45:l[0]? = some 45 ↔ ((l[0].toNat:Nat):Int)=45:=zeu l0 45 (by decide)
   simp only [c0,g0,zab,sxZ,z6,z7,z8,j4,j5,j6,j7,j8,j9,x0,x3,x4,x5,x6,x7,reduceCtorEq,↓reduceIte]
   refine ⟨by omega,?_⟩
   by_cases c1:((l[0].toNat:Nat):Int)=45
   ·rw [decide_eq_true c1,decide_eq_true (h45.2 c1)]
   ·rw [decide_eq_false c1,decide_eq_false (fun h => c1 (h45.1 h))]
 rintro _ tm ⟨rfl,hlen,t0,t3⟩
 subst hY1
 refine zaa fun Y1 hY1 => ?_
 refine zaG (fun o t => o=[] ∧ t.length=41 ∧ t[0]? = some (.s (zeh l)) ∧ t[3]? = some (.b (negE l))) ?_ ?_
 ·unfold zeh
  by_cases c0:l=[]
  ·subst c0
   simp only [zab,sxZ,z6,z7,z8,j4,j5,j6,j7,j8,j9,x0,x3,x4,x5,x6,x7,reduceCtorEq,↓reduceIte,List.getElem?_set,hlen,t0,t3]
   rfl
  ·have l0:0 < l.length:=List.length_pos_iff.2 c0
   have g0:=zay l0
   simp only [c0,g0,sxZ,z6,z7,z8,j4,j5,j6,j7,j8,j9,x0,x3,x4,x5,x6,x7,reduceCtorEq,↓reduceIte,List.getElem?_set,hlen,t0,t3]
   refine ⟨by omega,?_⟩
   refine zam (zmE _ _ (by decide) ?_)
   have hin:zbp l[0] [43,45]=decide (l[0]? = some 43 ∨ l[0]? = some 45):=by
    rw [List.getElem?_eq_getElem l0]
    simp [zbp,eq_comm]
   rw [hin]
   by_cases c1:l[0]? = some 43 ∨ l[0]? = some 45
   ·rw [if_pos c1]
    simp only [c1,zab,sxZ,z6,z7,z8,j4,j5,j6,j7,j8,j9,x0,x3,x4,x5,x6,x7,reduceCtorEq,↓reduceIte,List.getElem?_set,hlen,t0,t3]
    and_intros <;> first | omega | exact iv (by omega) | rfl | assumption
   ·rw [if_neg c1]
    simp only [c1,zab,sxZ,z6,z7,z8,j4,j5,j6,j7,j8,j9,x0,x3,x4,x5,x6,x7,reduceCtorEq,↓reduceIte,List.getElem?_set,hlen,t0,t3]
 rintro _ tm ⟨rfl,hlen,t0,t3⟩
 subst hY1
 have hsl:(zeh l).length ≤ l.length:=by unfold zeh; split <;> simp
 unfold expC at hk
 generalize negE l=ng at *
 generalize zeh l=d at *
 refine zaa fun Y1 hY1 => ?_
 simp only [sxZ,z6,z7,z8,j4,j5,j6,j7,j8,j9,x0,x3,x4,x5,x6,x7,reduceCtorEq,↓reduceIte,List.getElem?_set,hlen,t0,t3]
 subst hY1
 refine zaa fun Y1 hY1 => ?_
 refine zaG (fun o t => o=[] ∧ t.length=41 ∧ t[3]? = some (.b ng) ∧ t[4]? = some (.i .i64 (ziM 1073741824 d 0:Nat))) ?_ ?_
 ·simp only [sxZ,z6,z7,z8,j4,j5,j6,j7,j8,j9,x0,x3,x4,x5,x6,x7,reduceCtorEq,↓reduceIte,List.getElem?_set,hlen,t0,t3]
  refine zaE (fun k objs tm => ∃ (i n:Nat),i ≤ d.length ∧ k=d.length - i ∧ objs=[] ∧ n ≤ 1073741824 ∧ ziM 1073741824 d 0=ziM 1073741824 (d.drop i) n ∧ tm.length=41 ∧ tm[0]? = some (.s d) ∧ tm[3]? = some (.b ng) ∧ tm[4]? = some (.i .i64 (n:Nat)) ∧ tm[5]? = some (.i .i64 (i:Nat))) d.length
   ⟨0,0,Nat.zero_le _,rfl,rfl,by omega,rfl,by simp [hlen],by simp [t0],by simp [t3],by simp [hlen],by simp [hlen]⟩ ?_
  rintro k _ tm ⟨i,n,hi,rfl,rfl,hn,hm,hlen,t0,t3,t4,t5⟩
  by_cases hlt:(i:Int) < d.length
  ·have hlt':i < d.length:=by omega
   have hg:=zay hlt'
   have hdi:=zgK (List.all_eq_true.1 hd _ (List.getElem_mem hlt'))
   have hmv:=minV_at 1073741824 d i n hlt'
   have hw:IntKind.u8.wrap (((d[i].toNat:Nat):Int) - 48)=((d[i].toNat - 48:Nat):Int):=by
    simp [IntKind.wrap,IntKind.bits,IntKind.signed]; omega
   have hw2:IntKind.i64.wrap ((d[i].toNat - 48:Nat):Int)=((d[i].toNat - 48:Nat):Int):=by rw [IntKind.wrap_i64]; omega
   simp only [hlt,hg,hw,hw2,sxZ,z6,z7,z8,j4,j5,j6,j7,j8,j9,x0,x3,x4,x5,x6,x7,reduceCtorEq,↓reduceIte,List.getElem?_set,hlen,t0,t3,t4,t5]
   have hv:d[i].toNat - 48 ≤ 9:=by omega
   generalize d[i].toNat - 48=v at *
   exact ⟨by omega,by omega,by omega,by omega,d.length - (i + 1),by omega,i + 1,min (n * 10 + v) 1073741824,by omega,rfl,by omega,by rw [hm,hmv],iv (by split <;> omega),iv (by omega)⟩
  ·obtain rfl:i=d.length:=by omega
   rw [List.drop_length,ziM] at hm
   simp only [hlt,zbv,zab,sxZ,z6,z7,z8,j4,j5,j6,j7,j8,j9,x0,x3,x4,x5,x6,x7,reduceCtorEq,↓reduceIte,List.getElem?_set,hlen,t0,t3,t4,t5]
   rw [hm]
 rintro _ tm ⟨rfl,hlen,t3,t4⟩
 subst hY1
 have hml:=minV_le 1073741824 d 0 (by omega)
 generalize ziM 1073741824 d 0=n at *
 cases ng with
 | true =>
  simp only [sxZ,z6,z7,z8,j4,j5,j6,j7,j8,j9,x0,x3,x4,x5,x6,x7,reduceCtorEq,↓reduceIte,List.getElem?_set,hlen,t3,t4]
  rw [if_pos rfl] at hk
  refine ⟨by omega,?_⟩
  rw [Int.zero_sub]
  exact hk
 | false =>
  simp only [sxZ,z6,z7,z8,j4,j5,j6,j7,j8,j9,x0,x3,x4,x5,x6,x7,reduceCtorEq,↓reduceIte,List.getElem?_set,hlen,t3,t4]
  rw [if_neg (by simp)] at hk
  exact hk
set_option maxHeartbeats 4000000 in
theorem zmd (s:List UInt8) (hs:s.length ≤ 140737488351232) (h1:(s=[] ∨ zc5 s ≠ s.length) → K objs (.tup [.s [],.i .i64 130]))
  (h2:∀ p:NumS,p.Good → s=p.txt → K objs (.tup [.s (zoF 1073741824 p).2,.i .i64 (zoF 1073741824 p).1])):zad Tryz.prog 42 [.s s] objs K:=by
 refine zaX is_ref13_Number rfl fun C _ => ?_
 have hmx:=zbC
 by_cases c0:s=[]
 ·have h1:=h1 (.inl c0)
  simp only [c0,c_ref13_Number,sxZ,z6,z7,z8,j4,j5,j6,j7,j8,j9,x0,x3,x4,x5,x6,x7,reduceCtorEq,↓reduceIte]
  exact h1
 rw [c_ref13_Number]
 refine zaa fun Y1 hY1 => ?_
 simp only [sxZ,z6,z7,z8,j4,j5,j6,j7,j8,j9,x0,x3,x4,x5,x6,x7,reduceCtorEq,↓reduceIte]
 subst hY1
 refine zaa fun Y1 hY1 => ?_
 simp only [c0,sxZ,z6,z7,z8,j4,j5,j6,j7,j8,j9,x0,x3,x4,x5,x6,x7,reduceCtorEq,↓reduceIte]
 refine zam (zk1 s hs ?_)
 by_cases c1:zc5 s=s.length
 case neg =>
  have c1':¬ ((zc5 s:Nat):Int)=s.length:=by omega
  simp only [c1',sxZ,z6,z7,z8,j4,j5,j6,j7,j8,j9,x0,x3,x4,x5,x6,x7,reduceCtorEq,↓reduceIte]
  exact h1 (.inr c1)
 clear h1
 obtain ⟨p,hp,rfl⟩:=zhJ c0 c1
 have h2:=h2 p hp rfl
 simp only [c1,sxZ,z6,z7,z8,j4,j5,j6,j7,j8,j9,x0,x3,x4,x5,x6,x7,reduceCtorEq,↓reduceIte]
 subst hY1
 refine zaa fun Y1 hY1 => ?_
 simp only [sxZ,z6,z7,z8,j4,j5,j6,j7,j8,j9,x0,x3,x4,x5,x6,x7,reduceCtorEq,↓reduceIte]
 subst hY1
 refine zaa fun Y1 hY1 => ?_
 have hbl:p.body.length ≤ p.txt.length:=by unfold NumS.txt NumS.body; simp
 have htl:=ziu p
 have hml:(p.int ++ frT p.fr).length ≤ p.txt.length:=by unfold NumS.txt; simp; omega
 refine zaG (fun o t => o=[] ∧ t.length=117 ∧ t[0]? = some (.s p.body) ∧ t[4]? = some (.s (sgT p.neg))) ?_ ?_
 ·obtain ⟨c,t,e1,e2⟩:=zbD hp.i0 hp.i1
  have n45:¬ ((c.toNat:Nat):Int)=45:=by have:=zgK e2; omega
  have hb:p.txt=sgT p.neg ++ p.body:=rfl
  have hpos:0 < p.txt.length:=List.length_pos_iff.2 c0
  cases hn:p.neg with
  | true =>
   have g1:(((p.txt.getD 0 0).toNat:Nat):Int)=45:=by rw [hb,hn]; rfl
   have g2:p.txt.drop 1=p.body:=by rw [hb,hn]; rfl
   generalize p.txt=W at *
   simp only [sgT,g1,g2,zab,sxZ,z6,z7,z8,j4,j5,j6,j7,j8,j9,x0,x3,x4,x5,x6,x7,reduceCtorEq,↓reduceIte]
   and_intros <;> first | omega | exact iv (by omega) | rfl | assumption
  | false =>
   have g1:(p.txt.getD 0 0)=c:=by rw [hb,hn]; unfold NumS.body; rw [e1]; rfl
   have g2:p.txt=p.body:=by rw [hb,hn]; rfl
   rw [g2] at g1 hpos ⊢
   generalize p.body=W at *
   simp only [sgT,g1,n45,zab,sxZ,z6,z7,z8,j4,j5,j6,j7,j8,j9,x0,x3,x4,x5,x6,x7,reduceCtorEq,↓reduceIte]
   and_intros <;> first | omega | exact iv (by omega) | rfl | assumption
 rintro _ tm ⟨rfl,hlen,t0,t4⟩
 subst hY1
 clear c0 c1
 have hbe:=body_exp hp 1073741824
 have hbt:=zic p
 have hil:(p.int ++ frT p.fr).length ≤ p.body.length:=by
  have h:=congrArg List.length (zic p)
  rw [List.length_take] at h; omega
 have hbi:=zoI hp
 generalize hG:p.int ++ frT p.fr=G at *
 refine zaa fun Y1 hY1 => ?_
 simp only [sxZ,z6,z7,z8,j4,j5,j6,j7,j8,j9,x0,x3,x4,x5,x6,x7,reduceCtorEq,↓reduceIte,List.getElem?_set,hlen,t0,t4]
 refine zam (zjH _ _ (by omega) (by decide) ?_)
 rw [hbi]
 simp only [sxZ,z6,z7,z8,j4,j5,j6,j7,j8,j9,x0,x3,x4,x5,x6,x7,reduceCtorEq,↓reduceIte,List.getElem?_set,hlen,t0,t4]
 subst hY1
 refine zaa fun Y1 hY1 => ?_
 refine zaG (fun o t => o=[] ∧ t.length=117 ∧ t[4]? = some (.s (sgT p.neg)) ∧ t[6]? = some (.i .i64 (zeF 1073741824 p.ex)) ∧ t[7]? = some (.s G)) ?_ ?_
 ·simp only [sxZ,z6,z7,z8,j4,j5,j6,j7,j8,j9,x0,x3,x4,x5,x6,x7,reduceCtorEq,↓reduceIte,List.getElem?_set,hlen,t0,t4]
  refine ⟨by omega,?_⟩
  refine zd1 (ziA p.body (G.length + 1) ⟨rfl,rfl⟩) ?_
  simp only [sxZ,z6,z7,z8,j4,j5,j6,j7,j8,j9,x0,x3,x4,x5,x6,x7,reduceCtorEq,↓reduceIte,List.getElem?_set,hlen,t0,t4]
  refine zd1 (ziB _ (by rw [List.length_drop]; omega) hbe.2 ⟨rfl,rfl⟩) ?_
  simp only [hbe.1,hbt,zab,sxZ,z6,z7,z8,j4,j5,j6,j7,j8,j9,x0,x3,x4,x5,x6,x7,reduceCtorEq,↓reduceIte,List.getElem?_set,hlen,t0,t4]
  and_intros <;> first | omega | exact iv (by omega) | rfl | assumption
 rintro _ tm ⟨rfl,hlen,t4,t6,t7⟩
 subst hY1
 refine zaa fun Y1 hY1 => ?_
 have hei:=zn5 1073741824 p.ex
 have hcp:=zh8 hp
 rw [hG] at hcp
 have hi1:zlg G [46]=p.int.length:=by rw [zki,hcp]
 have hGt:G.take p.int.length=p.int:=by rw [← hG,List.take_left]
 have hGd:G.drop (p.int.length + 1)=p.fr:=by
  rw [← hG,← List.drop_drop,List.drop_left]
  cases p.fr <;> rfl
 have hGl:G.length=p.int.length + (frT p.fr).length:=by rw [← hG,List.length_append]
 refine zaG (fun o t => o=[] ∧ t.length=117 ∧ t[4]? = some (.s (sgT p.neg)) ∧ t[6]? = some (.i .i64 (zeF 1073741824 p.ex - (p.fr.length:Int))) ∧ t[7]? = some (.s (p.int ++ p.fr))) ?_ ?_
 ·simp only [sxZ,z6,z7,z8,j4,j5,j6,j7,j8,j9,x0,x3,x4,x5,x6,x7,reduceCtorEq,↓reduceIte,List.getElem?_set,hlen,t4,t6,t7]
  refine zam (zjH _ _ (by omega) (by decide) ?_)
  rw [hi1]
  cases hf:p.fr with
  | nil =>
   have c2:¬ ((p.int.length:Nat):Int) < G.length:=by rw [hf] at hGl; simp [frT] at hGl; omega
   have hG2:G=p.int:=by rw [← hG,hf]; simp [frT]
   simp only [c2,zab,sxZ,z6,z7,z8,j4,j5,j6,j7,j8,j9,x0,x3,x4,x5,x6,x7,reduceCtorEq,↓reduceIte,List.getElem?_set,hlen,t4,t6,t7]
   rw [hG2]
   and_intros <;> first | omega | exact iv (by omega) | rfl | assumption
  | cons a u =>
   rw [hf] at hGd
   have c2:((p.int.length:Nat):Int) < G.length:=by rw [hf] at hGl; simp [frT] at hGl; omega
   have hfl:G.length=p.int.length + (u.length + 1) + 1:=by rw [hf] at hGl; simp [frT] at hGl; omega
   have e1:(((p.int.length:Nat):Int) + 1).toNat=p.int.length + 1:=by omega
   simp only [c2,e1,hGt,hGd,zab,sxZ,z6,z7,z8,j4,j5,j6,j7,j8,j9,x0,x3,x4,x5,x6,x7,reduceCtorEq,↓reduceIte,List.getElem?_set,hlen,t4,t6,t7]
   and_intros <;> first | omega | exact iv (by omega) | rfl | assumption
 rintro _ tm ⟨rfl,hlen,t4,t6,t7⟩
 subst hY1
 clear hbe hbt hil hcp hbi hi1 hGt hGd hGl hG hml
 refine zaa fun Y1 hY1 => ?_
 have hzl:=zL_len (p.int ++ p.fr)
 rw [List.length_append] at hzl
 refine zaG (fun o t => o=[] ∧ t.length=117 ∧ t[4]? = some (.s (sgT p.neg)) ∧ t[6]? = some (.i .i64 (zeF 1073741824 p.ex - (p.fr.length:Int))) ∧ t[7]? = some (.s (zcl p))) ?_ ?_
 ·simp only [sxZ,z6,z7,z8,j4,j5,j6,j7,j8,j9,x0,x3,x4,x5,x6,x7,reduceCtorEq,↓reduceIte]
  refine zaE (fun k o t => ∃ l:List UInt8,k=l.length ∧ o=[] ∧ zL l=zcl p ∧ t.length=117 ∧ t[4]? = some (.s (sgT p.neg)) ∧ t[6]? = some (.i .i64 (zeF 1073741824 p.ex - (p.fr.length:Int))) ∧ t[7]? = some (.s l)) (p.int ++ p.fr).length ⟨p.int ++ p.fr,rfl,rfl,rfl,hlen,t4,t6,t7⟩ ?_
  rintro k _ tm ⟨l,rfl,rfl,hz,hlen,t4,t6,t7⟩
  cases l with
  | nil =>
   have z:¬ (0:Int) < ((0:Nat):Int):=by decide
   simp only [z,zbv,zab,sxZ,z6,z7,z8,j4,j5,j6,j7,j8,j9,x0,x3,x4,x5,x6,x7,reduceCtorEq,↓reduceIte,List.getElem?_set,hlen,t4,t6,t7]
   rw [← hz]; rfl
  | cons c u =>
   have hp1:(0:Int) < ((u.length + 1:Nat):Int):=by omega
   have hp2:(c :: u).getD 0 0=c:=rfl
   rw [zge] at hz
   by_cases c1:((c.toNat:Nat):Int)=48
   ·have hc:c=48:=(zbN (by decide)).1 c1
    rw [if_pos hc] at hz
    simp only [hp1,hp2,c1,zbv,zab,sxZ,z6,z7,z8,j4,j5,j6,j7,j8,j9,x0,x3,x4,x5,x6,x7,reduceCtorEq,↓reduceIte,List.getElem?_set,hlen,t4,t6,t7]
    exact ⟨by omega,u.length,by omega,u,rfl,hz,rfl⟩
   ·have hc:¬ c=48:=fun h => c1 ((zbN (by decide)).2 h)
    rw [if_neg hc] at hz
    simp only [hp1,hp2,c1,zbv,zab,sxZ,z6,z7,z8,j4,j5,j6,j7,j8,j9,x0,x3,x4,x5,x6,x7,reduceCtorEq,↓reduceIte,List.getElem?_set,hlen,t4,t6,t7]
    rw [hz]
 rintro _ tm ⟨rfl,hlen,t4,t6,t7⟩
 subst hY1
 refine zaa fun Y1 hY1 => ?_
 have hmh:=znd p
 unfold zoF at h2
 unfold expX at h2
 by_cases c2:zcl p=[]
 ·rw [if_pos c2] at h2
  simp only [c2,sxZ,z6,z7,z8,j4,j5,j6,j7,j8,j9,x0,x3,x4,x5,x6,x7,reduceCtorEq,↓reduceIte,List.getElem?_set,hlen,t4,t6,t7]
  exact h2
 rw [if_neg c2] at h2
 have hml2:=zgz p
 simp only [c2,sxZ,z6,z7,z8,j4,j5,j6,j7,j8,j9,x0,x3,x4,x5,x6,x7,reduceCtorEq,↓reduceIte,List.getElem?_set,hlen,t4,t6,t7]
 subst hY1
 have hX:-(300000000000000:Int) ≤ zeF 1073741824 p.ex - (p.fr.length:Int) ∧ zeF 1073741824 p.ex - (p.fr.length:Int) ≤ 300000000000000:=by omega
 generalize zeF 1073741824 p.ex - (p.fr.length:Int)=X at *
 generalize zcl p=M at *
 refine zaa fun Y1 hY1 => ?_
 refine zaG (fun o t => o=[] ∧ t.length=117 ∧ t[4]? = some (.s (sgT p.neg)) ∧ t[6]? = some (.i .i64 (X + ((M.length:Int) - (zR M).length))) ∧ t[7]? = some (.s (zR M))) ?_ ?_
 ·simp only [sxZ,z6,z7,z8,j4,j5,j6,j7,j8,j9,x0,x3,x4,x5,x6,x7,reduceCtorEq,↓reduceIte]
  refine zaE (fun k o t => ∃ (l:List UInt8) (j:Nat),k=l.length ∧ o=[] ∧ l ≠ [] ∧ M=l ++ List.replicate j 48 ∧ t.length=117 ∧ t[4]? = some (.s (sgT p.neg)) ∧ t[6]? = some (.i .i64 (X + (j:Nat))) ∧ t[7]? = some (.s l)) M.length ⟨M,0,rfl,rfl,c2,by simp,by simp [hlen],by simp [t4],by simp [t6],by simp [t7]⟩ ?_
  rintro k _ tm ⟨l,j,rfl,rfl,hl0,hM,hlen,t4,t6,t7⟩
  have hl1:0 < l.length:=List.length_pos_iff.2 hl0
  have hi:l.length - 1 < l.length:=by omega
  have hg:=zay hi
  have e1:(((l.length:Nat):Int) - 1).toNat=l.length - 1:=by omega
  have hll:l.getLast hl0=l[l.length - 1]:=List.getLast_eq_getElem hl0
  have hMl:M.length=l.length + j:=by rw [hM]; simp
  by_cases c3:((l[l.length - 1].toNat:Nat):Int)=48
  ·have hc:l[l.length - 1]=48:=(zbN (by decide)).1 c3
   have hsp:l=l.take (l.length - 1) ++ [48]:=by
    have h:=List.dropLast_concat_getLast hl0
    rw [hll,hc,List.dropLast_eq_take] at h
    exact h.symm
   have hM2:M=l.take (l.length - 1) ++ List.replicate (j + 1) 48:=by
    conv => lhs; rw [hM,hsp]
    rw [List.append_assoc,List.replicate_succ]; rfl
   have hne:¬ l.take (l.length - 1)=[]:=by
    intro h
    rw [h,List.nil_append,List.replicate_succ] at hM2
    exact hmh 48 (by rw [hM2]; rfl) rfl
   have htk:(l.take (l.length - 1)).length=l.length - 1:=by rw [List.length_take]; omega
   simp only [e1,hg,c3,sxZ,z6,z7,z8,j4,j5,j6,j7,j8,j9,x0,x3,x4,x5,x6,x7,reduceCtorEq,↓reduceIte,List.getElem?_set,hlen,t4,t6,t7]
   exact ⟨by omega,by omega,by omega,by omega,by omega,(l.take (l.length - 1)).length,by omega,l.take (l.length - 1),j + 1,rfl,hne,hM2,iv (by omega),rfl⟩
  ·have hc:¬ l[l.length - 1]=48:=fun h => c3 ((zbN (by decide)).2 h)
   have hz:zR M=l:=by rw [hM,zR_rep,zR_last hl0 (by rw [hll]; exact hc)]
   simp only [e1,hg,c3,zbv,zab,sxZ,z6,z7,z8,j4,j5,j6,j7,j8,j9,x0,x3,x4,x5,x6,x7,reduceCtorEq,↓reduceIte,List.getElem?_set,hlen,t4,t6,t7]
   rw [hz]
   exact ⟨by omega,by omega,iv (by omega),rfl⟩
 rintro _ tm ⟨rfl,hlen,t4,t6,t7⟩
 subst hY1
 have hzr:=zlt M
 generalize X + ((M.length:Int) - ((zR M).length:Int))=x at *
 generalize zR M=m at *
 by_cases d1:(40:Int) < m.length
 ·rw [if_pos (.inl (by omega))] at h2
  simp only [d1,sxZ,z6,z7,z8,j4,j5,j6,j7,j8,j9,x0,x3,x4,x5,x6,x7,reduceCtorEq,↓reduceIte,List.getElem?_set,hlen,t4,t6,t7]
  exact h2
 by_cases d3:400 < x
 ·rw [if_pos (.inr (.inr d3))] at h2
  simp only [d1,d3,sxZ,z6,z7,z8,j4,j5,j6,j7,j8,j9,x0,x3,x4,x5,x6,x7,reduceCtorEq,↓reduceIte,List.getElem?_set,hlen,t4,t6,t7]
  exact h2
 by_cases d2:x < -400
 ·rw [if_pos (.inr (.inl d2))] at h2
  simp only [d1,d2,d3,sxZ,z6,z7,z8,j4,j5,j6,j7,j8,j9,x0,x3,x4,x5,x6,x7,reduceCtorEq,↓reduceIte,List.getElem?_set,hlen,t4,t6,t7]
  exact h2
 rw [if_neg (by omega)] at h2
 have hsg:(sgT p.neg).length ≤ 1:=by unfold sgT; split <;> simp
 unfold expS at h2
 generalize sgT p.neg=sg at *
 have hdl:(Lib.decDigits x.natAbs).length ≤ 20:=by rw [Lib.decDigits_length]; exact Lib.nDigits_le20 _ (by omega)
 by_cases d4:x < 0
 ·rw [if_neg (show ¬ x=0 by omega)] at h2
  have hw:IntKind.u64.wrap (0 - x)=((x.natAbs:Nat):Int):=by rw [zjc _ (by omega) (by omega)]; omega
  have hit:=Lib.itoa_neg x.natAbs (by omega)
  rw [show -((x.natAbs:Nat):Int)=x by omega] at hit
  rw [hit] at h2
  simp only [d1,d2,d3,d4,hw,sxZ,z6,z7,z8,j4,j5,j6,j7,j8,j9,x0,x3,x4,x5,x6,x7,reduceCtorEq,↓reduceIte,List.getElem?_set,hlen,t4,t6,t7]
  (and_intros <;> try omega)
  refine zam (zfY _ (by omega) ?_)
  simp only [sxZ,z6,z7,z8,j4,j5,j6,j7,j8,j9,x0,x3,x4,x5,x6,x7,reduceCtorEq,↓reduceIte,List.getElem?_set,hlen,t4,t6,t7]
  (and_intros <;> try omega)
  simpa using h2
 by_cases d5:0 < x
 ·rw [if_neg (show ¬ x=0 by omega)] at h2
  have hw:IntKind.u64.wrap x=((x.natAbs:Nat):Int):=by rw [zjc _ (by omega) (by omega)]; omega
  have hit:=Lib.itoa_nonneg x.natAbs
  rw [show ((x.natAbs:Nat):Int)=x by omega] at hit
  rw [hit] at h2
  simp only [d1,d2,d3,d4,d5,hw,sxZ,z6,z7,z8,j4,j5,j6,j7,j8,j9,x0,x3,x4,x5,x6,x7,reduceCtorEq,↓reduceIte,List.getElem?_set,hlen,t4,t6,t7]
  (and_intros <;> try omega)
  refine zam (zfY _ (by omega) ?_)
  simp only [sxZ,z6,z7,z8,j4,j5,j6,j7,j8,j9,x0,x3,x4,x5,x6,x7,reduceCtorEq,↓reduceIte,List.getElem?_set,hlen,t4,t6,t7]
  (and_intros <;> try omega)
  simpa using h2
 ·rw [if_pos (show x=0 by omega)] at h2
  simp only [d1,d2,d3,d4,d5,sxZ,z6,z7,z8,j4,j5,j6,j7,j8,j9,x0,x3,x4,x5,x6,x7,reduceCtorEq,↓reduceIte,List.getElem?_set,hlen,t4,t6,t7]
  (and_intros <;> try omega)
  simpa using h2
end
end Go.Proofs.YthmdohgkmdkeeaaGreatDoor
namespace Go.Proofs.YthmdohgkmdkeeaaGreatDoor
open Go.RowKit Sx
section
variable [Tabs Tryz.prog] {objs:List OB} {K:List OB → AV → Prop}
end
end Go.Proofs.YthmdohgkmdkeeaaGreatDoor
namespace Go.Proofs.YthmdohgkmdkeeaaGreatDoor
open Go.RowKit Sx
end Go.Proofs.YthmdohgkmdkeeaaGreatDoor
namespace Go.Proofs.YthmdohgkmdkeeaaGreatDoor
open Go.RowKit Sx
section
variable [Tabs Tryz.prog] {objs:List OB} {K:List OB → AV → Prop}
end
end Go.Proofs.YthmdohgkmdkeeaaGreatDoor
namespace Go.Proofs.YthmdohgkmdkeeaaGreatDoor
open Go.RowKit Sx
section
variable [Tabs Tryz.prog] {objs:List OB} {K:List OB → AV → Prop}
end
end Go.Proofs.YthmdohgkmdkeeaaGreatDoor
namespace Go.Proofs.YthmdohgkmdkeeaaGreatDoor
open Go.RowKit Sx
section
attribute [local irreducible] run
def intN (l:List UInt8):List UInt8:=if l[za0 l]? = some 48 then [48] else (l.drop (za0 l)).take (zaQ (l.drop (za0 l)))
def frN (l:List UInt8) (t:Nat):List UInt8:=if l[t]? = some 46 ∧ 0 < zaQ (l.drop (t + 1)) then (l.drop (t + 1)).take (zaQ (l.drop (t + 1))) else []
def sgnX (l:List UInt8) (f:Nat):List UInt8:=if l[f + 1]? = some 43 then [43] else if l[f + 1]? = some 45 then [45] else []
def exN (l:List UInt8) (f:Nat):Option (UInt8 × List UInt8 × List UInt8) :=
 if (l[f]? = some 101 ∨ l[f]? = some 69) ∧ 0 < zaQ (l.drop (zaT l f)) then some (if l[f]? = some 101 then 101 else 69,sgnX l f,l.drop (zaT l f)) else none
def zjM (l:List UInt8):NumS:=⟨decide (l[0]? = some 45),intN l,frN l (zaA l),exN l (zby l (zaA l))⟩
theorem zmR {l:List UInt8} (h0:l ≠ []) (h:zc5 l=l.length):(zjM l).Good ∧ l=(zjM l).txt:=by
 have hl:0 < l.length:=List.length_pos_iff.2 h0
 unfold zc5 at h
 by_cases hr:zaQ (l.drop (za0 l))=0
 ·rw [if_pos hr] at h; omega
 rw [if_neg hr] at h
 have hsg:l=sgT (decide (l[0]? = some 45)) ++ l.drop (za0 l):=by
  unfold za0 sgT
  by_cases hc:l[0]? = some 45
  ·rw [if_pos hc,if_pos (by rw [hc]; rfl)]
   conv => lhs; rw [← List.drop_zero (l:=l),zbj hc]
   rfl
  ·rw [if_neg hc,if_neg (by rw [decide_eq_false hc]; exact Bool.false_ne_true)]; simp
 have hrl:=zaL l (za0 l) (by omega)
 obtain ⟨I,hIe,hI0,hI1,hI2,hIl,hI⟩:∃ I:List UInt8,I=intN l ∧ I ≠ [] ∧ I.all zai=true ∧ (I[0]? = some 48 → I=[48]) ∧ zaA l ≤ l.length ∧ l.drop (za0 l)=I ++ l.drop (zaA l):=by
  have hd:=zek (l.drop (za0 l)) 0 (by omega)
  obtain ⟨c,hc1,hc2⟩:=hd
  rw [List.getElem?_drop,Nat.add_zero] at hc1
  have hdc:=zbj hc1
  unfold zaA
  by_cases hz:l[za0 l]? = some 48
  ·rw [if_pos hz]
   refine ⟨[48],by unfold intN; rw [if_pos hz],by simp,rfl,fun _ => rfl,?_,?_⟩
   ·have:=(List.getElem?_eq_some_iff.1 hz).1; omega
   ·exact zbj hz
  ·rw [if_neg hz]
   refine ⟨(l.drop (za0 l)).take (zaQ (l.drop (za0 l))),by unfold intN; rw [if_neg hz],zgn (by omega) (zdy _),zb1 _,?_,hrl,?_⟩
   ·intro h1
    exfalso
    rw [List.getElem?_take,if_pos (by omega),List.getElem?_drop,Nat.add_zero] at h1
    exact hz h1
   ·have:=zeX l (show za0 l ≤ za0 l + zaQ (l.drop (za0 l)) by omega)
    rw [show za0 l + zaQ (l.drop (za0 l)) - za0 l=zaQ (l.drop (za0 l)) by omega] at this
    exact this
 unfold zjM
 rw [← hIe]
 clear hIe
 generalize zaA l=t at *
 obtain ⟨F,hFe,hF1,hFl,hF⟩:∃ F:List UInt8,F=frN l t ∧ F.all zai=true ∧ zby l t ≤ l.length ∧ l.drop t=frT F ++ l.drop (zby l t):=by
  unfold zby
  by_cases hc:l[t]? = some 46 ∧ 0 < zaQ (l.drop (t + 1))
  ·rw [if_pos hc]
   have hb:=zaL l (t + 1) hc.2
   refine ⟨(l.drop (t + 1)).take (zaQ (l.drop (t + 1))),by unfold frN; rw [if_pos hc],zb1 _,hb,?_⟩
   have h1:=zeX l (show t + 1 ≤ t + 1 + zaQ (l.drop (t + 1)) by omega)
   rw [show t + 1 + zaQ (l.drop (t + 1)) - (t + 1)=zaQ (l.drop (t + 1)) by omega] at h1
   have hne:=zgn hc.2 (zdy (l.drop (t + 1)))
   rw [zbj hc.1]
   generalize (l.drop (t + 1)).take (zaQ (l.drop (t + 1)))=F at *
   cases F with
   | nil => exact absurd rfl hne
   | cons a F =>
    show 46 :: l.drop (t + 1)=46 :: (a :: F ++ _)
    rw [← h1]
  ·rw [if_neg hc]
   exact ⟨[],by unfold frN; rw [if_neg hc],rfl,hIl,rfl⟩
 rw [← hFe]
 clear hFe
 generalize zby l t=f at *
 obtain ⟨E,hEe,hE1,hE⟩:∃ E:Option (UInt8 × List UInt8 × List UInt8),E=exN l f ∧ (∀ c s d,E=some (c,s,d) → (c=101 ∨ c=69) ∧ (s=[] ∨ s=[43] ∨ s=[45]) ∧ d ≠ [] ∧ d.all zai=true) ∧ l.drop f=exT E:=by
  unfold ziZ at h
  by_cases hc:(l[f]? = some 101 ∨ l[f]? = some 69) ∧ 0 < zaQ (l.drop (zaT l f))
  ·rw [if_pos hc] at h
   have hex:exN l f=some (if l[f]? = some 101 then 101 else 69,sgnX l f,l.drop (zaT l f)):=by unfold exN; rw [if_pos hc]
   obtain ⟨c,hc1,hc2,hc3⟩:∃ c,l[f]? = some c ∧ (c=101 ∨ c=69) ∧ (if l[f]? = some 101 then 101 else 69)=c:=by
    rcases hc.1 with h1 | h1
    ·exact ⟨_,h1,.inl rfl,by rw [if_pos h1]⟩
    ·exact ⟨_,h1,.inr rfl,by rw [h1]; rfl⟩
   rw [hc3] at hex
   have hdig:l.drop (zaT l f) ≠ [] ∧ (l.drop (zaT l f)).all zai=true:=by
    have h1:=zb1 (l.drop (zaT l f))
    have h2:zaQ (l.drop (zaT l f))=(l.drop (zaT l f)).length:=by rw [List.length_drop]; omega
    rw [h2,List.take_length] at h1
    refine ⟨fun e => ?_,h1⟩
    rw [e] at hc
    exact absurd hc.2 (by simp [zaQ])
   rw [zbj hc1]
   unfold zaT at hdig hc hex
   by_cases hs:l[f + 1]? = some 43 ∨ l[f + 1]? = some 45
   ·rw [if_pos hs] at hdig hex
    obtain ⟨s,hs1,hs2,hs3⟩:∃ s,l[f + 1]? = some s ∧ (s=43 ∨ s=45) ∧ sgnX l f=[s]:=by
     unfold sgnX
     rcases hs with h1 | h1
     ·exact ⟨_,h1,.inl rfl,by rw [if_pos h1]⟩
     ·exact ⟨_,h1,.inr rfl,by rw [h1]; rfl⟩
    refine ⟨some (c,[s],l.drop (f + 2)),by rw [hex,hs3],?_,?_⟩
    ·intro c' s' d' e
     injection e with e; injection e with e1 e2; injection e2 with e2 e3
     subst e1 e2 e3
     exact ⟨hc2,by rcases hs2 with rfl | rfl <;> simp,hdig.1,hdig.2⟩
    ·rw [zbj hs1]; rfl
   ·rw [if_neg hs] at hdig hex
    have hs3:sgnX l f=[]:=by
     unfold sgnX
     rw [if_neg (fun h => hs (.inl h)),if_neg (fun h => hs (.inr h))]
    refine ⟨some (c,[],l.drop (f + 1)),by rw [hex,hs3],?_,rfl⟩
    intro c' s' d' e
    injection e with e; injection e with e1 e2; injection e2 with e2 e3
    subst e1 e2 e3
    exact ⟨hc2,.inl rfl,hdig.1,hdig.2⟩
  ·rw [if_neg hc] at h
   subst h
   exact ⟨none,by unfold exN; rw [if_neg hc],fun _ _ _ e => (by cases e),by simp [exT]⟩
 rw [← hEe]
 refine ⟨⟨hI0,hI1,hI2,hF1,hE1⟩,?_⟩
 show l=sgT _ ++ (I ++ (frT F ++ exT E))
 rw [← hE,← hF,← hI,← hsg]
def zcL (l:List UInt8):Int × List UInt8:=if l=[] ∨ ¬ zc5 l=l.length then (130,[]) else zoF 1099511627776 (zjM l)
theorem zm9 {p:NumS} (hp:p.Good):zcL p.txt=zoF 1099511627776 p:=by
 obtain ⟨h1,h2⟩:=num_txt hp
 unfold zcL
 rw [if_neg (fun h => h.elim h2 (fun h => h h1))]
 obtain ⟨q1,q2⟩:=zmR h2 h1
 exact congrArg _ (num_uniq hp q1 q2).symm
theorem can_cut2 (p:NumS) (h:p.txt.length ≤ 100000):zoF 1099511627776 p=zoF 1073741824 p:=by
 have h1:=ziu p
 have h2:=zgz p
 have h3:=zlt (zcl p)
 unfold zoF
 by_cases hm:zcl p=[]
 ·rw [if_pos hm,if_pos hm]
 rw [if_neg hm,if_neg hm]
 by_cases he:zeF 1099511627776 p.ex=zeF 1073741824 p.ex
 ·have:expX 1099511627776 p=expX 1073741824 p:=by unfold expX; rw [he]
  rw [this]
 ·have key:(zeF 1099511627776 p.ex < -1000000 ∧ zeF 1073741824 p.ex < -1000000) ∨ (1000000 < zeF 1099511627776 p.ex ∧ 1000000 < zeF 1073741824 p.ex):=by
   cases hx:p.ex with
   | none => rw [hx] at he; exact absurd rfl he
   | some e =>
    obtain ⟨c,s,d⟩:=e
    rw [hx] at he
    simp only [zeF] at he ⊢
    by_cases hs:s=[45]
    ·rw [if_pos hs,if_pos hs] at he ⊢; left; omega
    ·rw [if_neg hs,if_neg hs] at he ⊢; right; omega
  rw [if_pos,if_pos]
  ·unfold expX; omega
  ·unfold expX; omega
theorem zgl:∀ (n:Nat) (l out x:List UInt8) (k m:Nat),zcC n l out k=(0,x,m) → k < m ∧ m ≤ k + l.length ∧ x.length ≤ out.length + (m - k)
 | 0,l,out,x,k,m,h => by rw [zcC] at h; cases h
 | n + 1,[],out,x,k,m,h => by rw [zcC] at h; cases h
 | n + 1,c :: t,out,x,k,m,h => by
  rw [zcC] at h
  have hl:(c :: t).length=t.length + 1:=rfl
  split at h
  ·cases h; exact ⟨by omega,by omega,by omega⟩
  ·split at h
   ·split at h
    ·rename_i g; injection h with h _; exact absurd h g
    ·rename_i g
     have g:(zdD (c :: t)).1=0:=by simpa using g
     obtain ⟨⟨e,y,j⟩,hE⟩:∃ r,zdD (c :: t)=r:=⟨_,rfl⟩
     rw [hE] at h g
     simp only at g h
     subst g
     have hl2:=zko hE
     have:=zgl n _ _ _ _ _ h
     rw [List.length_drop,List.length_append] at this
     omega
   ·split at h
    ·cases h
    ·split at h
     ·cases h
     ·rename_i r j hd
      have hd':=za9 hd
      have:=zgl n _ _ _ _ _ h
      rw [List.length_drop,List.length_append,List.length_take] at this
      omega
theorem zmz {l:List UInt8} (h:(zaM l).1=0):(zaM l).2.2.2 ≤ l.length ∧ (¬ (zaM l).2.1=1 → 1 ≤ (zaM l).2.2.2) ∧ ((zaM l).2.1=1 → l=[]) ∧ (zaM l).2.2.1.length ≤ l.length ∧ 1 ≤ (zaM l).2.1 ∧ (zaM l).2.1 ≤ 5:=by
 cases l with
 | nil => exact ⟨by simp [zaM],fun h => absurd rfl h,fun _ => rfl,by simp [zaM],by decide,by decide⟩
 | cons c t =>
  have hl:(c :: t).length=t.length + 1:=rfl
  rw [zaM] at h ⊢
  by_cases c1:zbp c [123,125,91,93,58,44]=true
  ·simp only [if_pos c1]
   exact ⟨by simp,fun _ => by simp,fun h => by simp at h,by simp,by decide,by decide⟩
  simp only [if_neg c1] at h ⊢
  by_cases c2:c=34
  ·simp only [if_pos c2] at h ⊢
   by_cases c3:(zcC (t.length + 1) t [] 0).1 ≠ 0
   ·simp only [if_pos c3] at h; exact absurd h c3
   ·simp only [if_neg c3] at h ⊢
    obtain ⟨⟨e,x,m⟩,hE⟩:∃ r,zcC (t.length + 1) t [] 0=r:=⟨_,rfl⟩
    have c3:e=0:=by rw [hE] at c3; simpa using c3
    subst c3
    have:=zgl _ _ _ _ _ _ hE
    rw [List.length_nil] at this
    rw [hE]
    exact ⟨by show m + 1 ≤ _; omega,fun _ => by show 1 ≤ m + 1; omega,fun h => by simp at h,by show x.length ≤ _; omega,by decide,by decide⟩
  simp only [if_neg c2] at h ⊢
  by_cases c3:c=45 ∨ zai c=true
  ·simp only [if_pos c3] at h ⊢
   by_cases c4:zc5 (c :: t)=0
   ·simp only [if_pos c4] at h; cases h
   ·simp only [if_neg c4] at h ⊢
    have:=ziK (c :: t)
    exact ⟨by show zc5 (c :: t) ≤ _; omega,fun _ => by show 1 ≤ zc5 (c :: t); omega,fun h => by simp at h,by show (List.take _ _).length ≤ _; rw [List.length_take]; omega,by decide,by decide⟩
  simp only [if_neg c3] at h ⊢
  split at h
  ·rename_i c4
   rw [if_pos c4]
   have hw:=zjf (c :: t)
   refine ⟨hw,fun _ => ?_,fun h => by simp at h,by show (List.take _ _).length ≤ _; rw [List.length_take]; omega,by show (1:Int) ≤ 5; decide,by show (5:Int) ≤ 5; decide⟩
   show 1 ≤ za7 (c :: t)
   rcases Nat.eq_zero_or_pos (za7 (c :: t)) with h0 | h0
   ·rw [h0] at c4; simp at c4
   ·exact h0
  ·cases h
theorem zjW {s:List UInt8} {a:Int} (h0:0 ≤ a) (h:(zaB s a).2.2=0) :
  (a ≤ (zaB s a).2.1 ∧ (zaB s a).2.1 ≤ s.length ∧ ((zaB s a).1.1 ≠ 1 → a < (zaB s a).2.1) ∧ ((zaB s a).1.1=1 → (zaB s a).2.1=s.length)) ∧ (zaB s a).1.2.1.length ≤ s.length ∧ 1 ≤ (zaB s a).1.1 ∧ (zaB s a).1.1 ≤ 5 ∧ 0 ≤ (zaB s a).1.2.2 ∧ (zaB s a).1.2.2 ≤ s.length:=by
 unfold zaB at h ⊢
 by_cases c1:a < 0 ∨ (s.length:Int) < a
 ·simp only [if_pos c1] at h; cases h
 simp only [if_neg c1] at h ⊢
 obtain ⟨x,hx⟩:=Int.eq_ofNat_of_zero_le h0
 subst hx
 simp only [Int.toNat_natCast] at h ⊢
 have hw:=ze2 (s.drop x)
 rw [List.length_drop] at hw
 generalize hA:x + zaV (s.drop x)=A at *
 by_cases c2:(zaM (s.drop A)).1 ≠ 0
 ·simp only [if_pos c2] at h; exact absurd h c2
 simp only [if_neg c2]
 have c2:(zaM (s.drop A)).1=0:=by simpa using c2
 obtain ⟨r1,r2,r3,r4,r5,r6⟩:=zmz c2
 rw [List.length_drop] at r1 r4
 refine ⟨⟨?_,?_,?_,?_⟩,?_,r5,r6,?_,?_⟩
 ·show (x:Int) ≤ ((A + _:Nat):Int); omega
 ·show ((A + _:Nat):Int) ≤ _; omega
 ·intro h; have:=r2 h; show (x:Int) < ((A + _:Nat):Int); omega
 ·intro h
  have h1:=r3 h
  have h2:=congrArg List.length h1
  rw [List.length_drop,List.length_nil] at h2
  show ((A + _:Nat):Int)=_; omega
 ·show (zaM (s.drop A)).2.2.1.length ≤ _; omega
 ·show (0:Int) ≤ ((A:Nat):Int); omega
 ·show ((A:Nat):Int) ≤ _; omega
theorem next_lt {s:List UInt8} {a:Int} (h0:0 ≤ a) (h:(zaB s a).2.2=0):a ≤ (zaB s a).2.1 ∧ (zaB s a).2.1 ≤ s.length ∧ ((zaB s a).1.1 ≠ 1 → a < (zaB s a).2.1) ∧ ((zaB s a).1.1=1 → (zaB s a).2.1=s.length):=(zjW h0 h).1
section
variable [Tabs Tryz.prog] [Pow Tryz.prog] {objs:List OB} {K:List OB → AV → Prop}
theorem number_e (s:List UInt8) (hs:s.length ≤ 140737488351232) (hk:K objs (.tup [.s (zcL s).2,.i .i64 (zcL s).1])):zad Tryz.prog 61 [.s s] objs K :=
 number_k s hs (fun h => by unfold zcL at hk; rw [if_pos (by simpa using h)] at hk; exact hk) (fun p hp e => by subst e; rw [zm9 hp] at hk; exact hk)
omit [Pow Tryz.prog] in
theorem zme (s:List UInt8) (hs:s.length ≤ 100000) (hk:K objs (.tup [.s (zcL s).2,.i .i64 (zcL s).1])):zad Tryz.prog 42 [.s s] objs K :=
 zmd s (by omega) (fun h => by unfold zcL at hk; rw [if_pos (by simpa using h)] at hk; exact hk) (fun p hp e => by subst e; rw [zm9 hp,can_cut2 p hs] at hk; exact hk)
end
end
end Go.Proofs.YthmdohgkmdkeeaaGreatDoor
namespace Go.Proofs.YthmdohgkmdkeeaaGreatDoor
open Go.RowKit Sx
section
attribute [local irreducible] run
inductive JV where
 | mk (k:Int) (t:List UInt8) (ks:List (List UInt8)) (its:List JV)
def jvZ:JV:=.mk 0 [] [] []
abbrev Tk:=Int × List UInt8 × Int
def tkZ:Tk:=(0,[],0)
def isP (t:Tk) (c:UInt8):Bool:=decide (t.1=2) && decide (t.2.1=[c])
def zeJ:List UInt8:=[116,114,117,101]
def zcS:List UInt8:=[102,97,108,115,101]
def zgi (l:List UInt8):Int:=if l=zeJ then 3 else if l=zcS then 2 else 1
def vkE (t:Tk):Int :=
 if t.1=3 then 5 else if t.1=4 then 4 else if isP t 91=true then 6 else if isP t 123=true then 7 else if ¬ t.1=5 then 0 else zgi t.2.1
structure Fr where
 obj:Bool
 ks:List (List UInt8)
 its:List JV
structure Ms where
 st:Int
 stk:List Fr
 nodes:Nat
 root:JV
def ms0:Ms:=⟨0,[],0,jvZ⟩
def zcU (σ:Ms) (v:JV):Ms:=match σ.stk with
 | [] => ⟨6,[],σ.nodes,v⟩
 | f :: r => ⟨5,⟨f.obj,f.ks,f.its ++ [v]⟩ :: r,σ.nodes,σ.root⟩
def Fr.val (f:Fr):JV:=.mk (if f.obj=true then 7 else 6) [] f.ks f.its
def zcA (σ:Ms):Ms:=match σ.stk with
 | [] => σ
 | f :: r => zcU ⟨σ.st,r,σ.nodes,σ.root⟩ f.val
def zbP (σ:Ms) (o:Bool):Ms:=⟨if o=true then 3 else 1,⟨o,[],[]⟩ :: σ.stk,σ.nodes + 1,σ.root⟩
def zgm (t:Tk):Int × List UInt8:=if vkE t=4 then zcL t.2.1 else (0,if vkE t=5 then t.2.1 else [])
def zaS (σ:Ms) (t:Tk):Int × Ms :=
 if vkE t=0 then (140,σ)
 else if vkE t=6 ∨ vkE t=7 then
  (if 64 ≤ σ.stk.length then (141,σ) else if 20000 ≤ σ.nodes then (142,σ) else (0,zbP σ (decide (vkE t=7))))
 else if ¬ (zgm t).1=0 then ((zgm t).1,σ)
 else if 20000 ≤ σ.nodes then (142,σ)
 else (0,zcU ⟨σ.st,σ.stk,σ.nodes + 1,σ.root⟩ (.mk (vkE t) (zgm t).2 [] []))
def zdL (σ:Ms) (t:Tk):Bool:=match σ.stk with
 | [] => false
 | f :: _ => isP t (if f.obj=true then 125 else 93)
def zil (σ:Ms) (t:Tk):Int × Ms:=match σ.stk with
 | [] => (140,σ)
 | f :: r => if ¬ t.1=3 then (140,σ) else if t.2.1 ∈ f.ks then (143,σ) else (0,⟨4,⟨f.obj,f.ks ++ [t.2.1],f.its⟩ :: r,σ.nodes,σ.root⟩)
def onM (σ:Ms) (t:Tk):Int × Ms:=match σ.stk with
 | [] => (140,σ)
 | f :: r => if zdL σ t=true then (0,zcA σ) else if isP t 44=false then (140,σ) else (0,⟨if f.obj=true then 2 else 0,σ.stk,σ.nodes,σ.root⟩)
def zar (σ:Ms) (t:Tk):Int × Ms :=
 if σ.st=0 then zaS σ t
 else if σ.st=1 then (if zdL σ t=true then (0,zcA σ) else zaS σ t)
 else if σ.st=3 then (if zdL σ t=true then (0,zcA σ) else zil σ t)
 else if σ.st=2 then zil σ t
 else if σ.st=4 then (if isP t 58=true then (0,⟨0,σ.stk,σ.nodes,σ.root⟩) else (140,σ))
 else if σ.st=5 then onM σ t
 else if σ.st=6 then (if t.1=1 then (0,⟨7,σ.stk,σ.nodes,σ.root⟩) else (140,σ))
 else (140,σ)
inductive MRes (s:List UInt8):Int → Ms → JV × Int × Int → Prop
 | fin {a:Int} {σ:Ms}:σ.st=7 → MRes s a σ (σ.root,a,0)
 | tok {a:Int} {σ:Ms}:¬ σ.st=7 → ¬ (zaB s a).2.2=0 → MRes s a σ (jvZ,a,(zaB s a).2.2)
 | bad {a:Int} {σ:Ms}:¬ σ.st=7 → (zaB s a).2.2=0 → ¬ (zar σ (zaB s a).1).1=0 → MRes s a σ (jvZ,(zaB s a).1.2.2,(zar σ (zaB s a).1).1)
 | step {a:Int} {σ:Ms} {R:JV × Int × Int}:¬ σ.st=7 → (zaB s a).2.2=0 → (zar σ (zaB s a).1).1=0 → MRes s (zaB s a).2.1 (zar σ (zaB s a).1).2 R → MRes s a σ R
structure Rs where
 pos:Int
 nodes:Nat
 fail:Int
 wh:Int
def zbr (ρ:Rs) (a e:Int):Rs:=if ρ.fail=0 then ⟨ρ.pos,ρ.nodes,e,a⟩ else ρ
def zaC (s:List UInt8) (ρ:Rs):Tk × Rs :=
 if ¬ ρ.fail=0 then (tkZ,ρ)
 else if ¬ (zaB s ρ.pos).2.2=0 then (tkZ,zbr ρ ρ.pos (zaB s ρ.pos).2.2)
 else ((zaB s ρ.pos).1,⟨(zaB s ρ.pos).2.1,ρ.nodes,ρ.fail,ρ.wh⟩)
def zdp (ρ:Rs) (t:Tk) (c:UInt8):Rs:=if ρ.fail=0 ∧ isP t c=false then zbr ρ t.2.2 140 else ρ
def zem (s:List UInt8) (val:Rs → Tk → JV × Rs):Nat → Rs → Tk → List JV → List JV × Rs
 | 0,ρ,_,acc => (acc,ρ)
 | n + 1,ρ,t,acc =>
  if ¬ ρ.fail=0 then (acc,ρ) else
  let a:=val ρ t
  let b:=zaC s a.2
  if isP b.1 93=true then (acc ++ [a.1],b.2) else
  let c:=zaC s (zdp b.2 b.1 44)
  zem s val n c.2 c.1 (acc ++ [a.1])
def rkey (ρ:Rs) (t:Tk) (ks:List (List UInt8)):Rs :=
 let ρ:=if ¬ t.1=3 then zbr ρ t.2.2 140 else ρ
 if t.2.1 ∈ ks then zbr ρ t.2.2 143 else ρ
def zdR (s:List UInt8) (val:Rs → Tk → JV × Rs):Nat → Rs → Tk → List (List UInt8) → List JV → (List (List UInt8) × List JV) × Rs
 | 0,ρ,_,ks,its => ((ks,its),ρ)
 | n + 1,ρ,t,ks,its =>
  if ¬ ρ.fail=0 then ((ks,its),ρ) else
  let a:=zaC s (rkey ρ t ks)
  let b:=zaC s (zdp a.2 a.1 58)
  let v:=val b.2 b.1
  let c:=zaC s v.2
  if isP c.1 125=true then ((ks ++ [t.2.1],its ++ [v.1]),c.2) else
  let d:=zaC s (zdp c.2 c.1 44)
  zdR s val n d.2 d.1 (ks ++ [t.2.1]) (its ++ [v.1])
def zmD (s:List UInt8) (val:Rs → Tk → JV × Rs) (ρ:Rs):JV × Rs :=
 let a:=zaC s ρ
 if isP a.1 93=true then (.mk 6 [] [] [],a.2) else
 let b:=zem s val (s.length + 2) a.2 a.1 []
 (.mk 6 [] [] b.1,b.2)
def zmc (s:List UInt8) (val:Rs → Tk → JV × Rs) (ρ:Rs):JV × Rs :=
 let a:=zaC s ρ
 if isP a.1 125=true then (.mk 7 [] [] [],a.2) else
 let b:=zdR s val (s.length + 2) a.2 a.1 [] []
 (.mk 7 [] b.1.1 b.1.2,b.2)
def zbQ (ρ:Rs) (t:Tk):Rs :=
 let ρ:=if t.1=4 ∧ ¬ (zcL t.2.1).1=0 then zbr ρ t.2.2 (zcL t.2.1).1 else ρ
 if 20000 < ρ.nodes + 1 then zbr ⟨ρ.pos,ρ.nodes + 1,ρ.fail,ρ.wh⟩ t.2.2 142 else ⟨ρ.pos,ρ.nodes + 1,ρ.fail,ρ.wh⟩
def zdQ (s:List UInt8):Nat → Rs → Tk → Nat → JV × Rs
 | 0,ρ,_,_ => (jvZ,ρ)
 | f + 1,ρ,t,d =>
  if ¬ ρ.fail=0 then (jvZ,ρ)
  else if vkE t=0 then (jvZ,zbr ρ t.2.2 140)
  else if t.1=2 ∧ d=64 then (jvZ,zbr ρ t.2.2 141)
  else if t.1=5 then (.mk (zgi t.2.1) [] [] [],zbQ ρ t)
  else if isP t 91=true then zmD s (fun ρ t => zdQ s f ρ t (d + 1)) (zbQ ρ t)
  else if isP t 123=true then zmc s (fun ρ t => zdQ s f ρ t (d + 1)) (zbQ ρ t)
  else if t.1=4 then (.mk 4 (zcL t.2.1).2 [] [],zbQ ρ t)
  else (.mk 5 t.2.1 [] [],zbQ ρ t)
def rs0:Rs:=⟨0,0,0,0⟩
def zbs (s:List UInt8):JV × Int × Int :=
 if 1048576 < s.length then (jvZ,0,142) else
 let a:=zaC s rs0
 let v:=zdQ s 65 a.2 a.1 0
 let b:=zaC s v.2
 let ρ:=if b.2.fail=0 ∧ ¬ b.1.1=1 then zbr b.2 b.1.2.2 140 else b.2
 if ¬ ρ.fail=0 then (jvZ,ρ.wh,ρ.fail) else (v.1,s.length,0)
def zij (ρ ρ':Rs):Prop:=¬ ρ.fail=0 → ρ'.fail=ρ.fail ∧ ρ'.wh=ρ.wh
theorem zij.refl (ρ:Rs):zij ρ ρ:=fun _ => ⟨rfl,rfl⟩
theorem zij.trans {a b c:Rs} (h:zij a b) (k:zij b c):zij a c:=fun ha => by
 obtain ⟨h1,h2⟩:=h ha
 obtain ⟨k1,k2⟩:=k (by rw [h1]; exact ha)
 exact ⟨k1.trans h1,k2.trans h2⟩
theorem zkZ (ρ:Rs) (a e:Int):zij ρ (zbr ρ a e):=fun h => by unfold zbr; rw [if_neg h]; exact ⟨rfl,rfl⟩
theorem zat (s:List UInt8) (ρ:Rs):zij ρ (zaC s ρ).2:=fun h => by unfold zaC; rw [if_pos h]; exact ⟨rfl,rfl⟩
theorem zbB (ρ:Rs) (t:Tk) (c:UInt8):zij ρ (zdp ρ t c):=by
 unfold zdp; split
 ·exact zkZ _ _ _
 ·exact zij.refl _
theorem zfd (s:List UInt8) (f:Nat) (ρ:Rs) (t:Tk) (d:Nat):zij ρ (zdQ s f ρ t d).2:=fun h => by
 cases f with
 | zero => exact ⟨rfl,rfl⟩
 | succ f => rw [zdQ,if_pos h]; exact ⟨rfl,rfl⟩
theorem zbV (s:List UInt8) (val:Rs → Tk → JV × Rs) (n:Nat) (ρ:Rs) (t:Tk) (acc:List JV):zij ρ (zem s val n ρ t acc).2:=fun h => by
 cases n with
 | zero => exact ⟨rfl,rfl⟩
 | succ f => rw [zem,if_pos h]; exact ⟨rfl,rfl⟩
theorem zbU (s:List UInt8) (val:Rs → Tk → JV × Rs) (n:Nat) (ρ:Rs) (t:Tk) (ks:List (List UInt8)) (its:List JV):zij ρ (zdR s val n ρ t ks its).2:=fun h => by
 cases n with
 | zero => exact ⟨rfl,rfl⟩
 | succ f => rw [zdR,if_pos h]; exact ⟨rfl,rfl⟩
def AT (s:List UInt8) (t:Tk) (to:Int) (σ:Ms) (R:JV × Int × Int):Prop :=
 (¬ (zar σ t).1=0 ∧ R=(jvZ,t.2.2,(zar σ t).1)) ∨ ((zar σ t).1=0 ∧ MRes s to (zar σ t).2 R)
theorem mres_inv {s:List UInt8} {a:Int} {σ:Ms} {R:JV × Int × Int} (h:MRes s a σ R) (h7:¬ σ.st=7) :
  (¬ (zaB s a).2.2=0 ∧ R=(jvZ,a,(zaB s a).2.2)) ∨ ((zaB s a).2.2=0 ∧ AT s (zaB s a).1 (zaB s a).2.1 σ R):=by
 cases h with
 | fin h => exact absurd h h7
 | tok _ h => exact .inl ⟨h,rfl⟩
 | bad _ h1 h2 => exact .inr ⟨h1,.inl ⟨h2,rfl⟩⟩
 | step _ h1 h2 h3 => exact .inr ⟨h1,.inr ⟨h2,h3⟩⟩
def Bad (ρ:Rs) (R:JV × Int × Int):Prop:=¬ ρ.fail=0 ∧ R=(jvZ,ρ.wh,ρ.fail)
theorem Bad.froz {ρ ρ':Rs} {R:JV × Int × Int} (h:Bad ρ R) (k:zij ρ ρ'):Bad ρ' R:=by
 obtain ⟨k1,k2⟩:=k h.1
 exact ⟨by rw [k1]; exact h.1,by rw [k1,k2]; exact h.2⟩
theorem zbJ {s:List UInt8} {ρ:Rs} {σ:Ms} {R:JV × Int × Int} (h:MRes s ρ.pos σ R) (h7:¬ σ.st=7) (hf:ρ.fail=0) (h0:0 ≤ ρ.pos) :
  (Bad (zaC s ρ).2 R) ∨ ((zaC s ρ).2.fail=0 ∧ (zaC s ρ).2.nodes=ρ.nodes ∧ AT s (zaC s ρ).1 (zaC s ρ).2.pos σ R ∧ ρ.pos ≤ (zaC s ρ).2.pos ∧ (zaC s ρ).2.pos ≤ s.length ∧ ((zaC s ρ).1.1 ≠ 1 → ρ.pos < (zaC s ρ).2.pos) ∧ ((zaC s ρ).1.1=1 → (zaC s ρ).2.pos=s.length)):=by
 have e1:¬ ¬ ρ.fail=0:=fun h => h hf
 unfold zaC
 rw [if_neg e1]
 rcases mres_inv h h7 with ⟨h1,h2⟩ | ⟨h1,h2⟩
 ·rw [if_pos h1]
  left
  unfold zbr
  rw [if_pos hf]
  exact ⟨h1,h2⟩
 ·rw [if_neg (fun h => h h1)]
  have:=next_lt h0 h1
  exact .inr ⟨hf,rfl,h2,this⟩
theorem zfE {s:List UInt8} {t:Tk} {to:Int} {σ σ':Ms} {R:JV × Int × Int} (h:AT s t to σ R) (e:zar σ t=(0,σ')):MRes s to σ' R:=by
 unfold AT at h; rw [e] at h
 rcases h with ⟨h,_⟩ | ⟨_,h⟩
 ·exact absurd rfl h
 ·exact h
theorem zdb {s:List UInt8} {t:Tk} {to e:Int} {σ σ':Ms} {R:JV × Int × Int} (h:AT s t to σ R) (h1:zar σ t=(e,σ')) (he:¬ e=0):R=(jvZ,t.2.2,e):=by
 unfold AT at h; rw [h1] at h
 rcases h with ⟨_,h⟩ | ⟨h,_⟩
 ·exact h
 ·exact absurd h he
theorem vk_val (t:Tk):vkE t=0 ∨ vkE t=1 ∨ vkE t=2 ∨ vkE t=3 ∨ vkE t=4 ∨ vkE t=5 ∨ vkE t=6 ∨ vkE t=7:=by
 unfold vkE zgi
 repeat' split
 all_goals simp
theorem vk_kind {t:Tk}:(vkE t=5 ↔ t.1=3) ∧ (vkE t=4 ↔ t.1=4) ∧ ((vkE t=1 ∨ vkE t=2 ∨ vkE t=3) ↔ t.1=5) ∧ (vkE t=6 ↔ isP t 91=true) ∧ (vkE t=7 ↔ isP t 123=true) ∧ (t.1=5 → vkE t=zgi t.2.1):=by
 have e1:∀ c,isP t c=true ↔ t.1=2 ∧ t.2.1=[c]:=fun c => by simp [isP]
 have hw:zgi t.2.1=1 ∨ zgi t.2.1=2 ∨ zgi t.2.1=3:=by
  unfold zgi
  by_cases a1:t.2.1=zeJ
  ·rw [if_pos a1]; exact .inr (.inr rfl)
  ·rw [if_neg a1]
   by_cases a2:t.2.1=zcS
   ·rw [if_pos a2]; exact .inr (.inl rfl)
   ·rw [if_neg a2]; exact .inl rfl
 unfold vkE
 simp only [e1]
 by_cases h3:t.1=3
 ·simp [h3]
 by_cases h4:t.1=4
 ·simp [h4]
 by_cases h6:t.1=2 ∧ t.2.1=[91]
 ·simp [h6]
 by_cases h7:t.1=2 ∧ t.2.1=[123]
 ·simp [h7]
 by_cases h5:t.1=5
 ·simp only [h5]
  rcases hw with h | h | h <;> simp [h]
 ·simp only [h3,h4,h6,h7,h5]
  simp
theorem zbK (x y:Int) (S:List Fr) (n:Nat) (r:JV) (v:JV):zcU ⟨x,S,n,r⟩ v=zcU ⟨y,S,n,r⟩ v:=by unfold zcU; cases S <;> rfl
theorem zhw {ρ:Rs} {t:Tk} (hf:ρ.fail=0):(Bad (zbQ ρ t) (jvZ,t.2.2,if t.1=4 ∧ ¬ (zcL t.2.1).1=0 then (zcL t.2.1).1 else 142) ∧ (t.1=4 ∧ ¬ (zcL t.2.1).1=0 ∨ 20000 ≤ ρ.nodes)) ∨ (zbQ ρ t=⟨ρ.pos,ρ.nodes + 1,0,ρ.wh⟩ ∧ ¬ (t.1=4 ∧ ¬ (zcL t.2.1).1=0) ∧ ¬ 20000 ≤ ρ.nodes):=by
 unfold zbQ
 by_cases h1:t.1=4 ∧ ¬ (zcL t.2.1).1=0
 ·left
  refine ⟨?_,.inl h1⟩
  simp only [if_pos h1]
  unfold zbr Bad
  simp only [if_pos hf]
  by_cases h2:20000 < ρ.nodes + 1
  ·simp only [if_pos h2,if_neg h1.2]
   exact ⟨h1.2,trivial⟩
  ·simp only [if_neg h2]
   exact ⟨h1.2,trivial⟩
 ·simp only [if_neg h1]
  by_cases h2:20000 < ρ.nodes + 1
  ·left
   simp only [if_pos h2]
   unfold zbr Bad
   simp only [if_pos hf]
   exact ⟨⟨by decide,trivial⟩,.inr (by omega)⟩
  ·right
   simp only [if_neg h2]
   exact ⟨by rw [hf],h1,by omega⟩
def zig (s:List UInt8) (val:Rs → Tk → JV × Rs) (d:Nat):Prop :=
 ∀ (ρ:Rs) (t:Tk) (σ:Ms) (R:JV × Int × Int),ρ.fail=0 → 0 ≤ ρ.pos → ρ.pos ≤ s.length → σ.stk.length=d → σ.nodes=ρ.nodes → zar σ t=zaS σ t → AT s t ρ.pos σ R →
  Bad (val ρ t).2 R ∨ ((val ρ t).2.fail=0 ∧ ρ.pos ≤ (val ρ t).2.pos ∧ (val ρ t).2.pos ≤ s.length ∧ MRes s (val ρ t).2.pos (zcU ⟨σ.st,σ.stk,(val ρ t).2.nodes,σ.root⟩ (val ρ t).1) R)
def zfF (val:Rs → Tk → JV × Rs):Prop:=∀ ρ t,zij ρ (val ρ t).2
theorem zfc {ρ:Rs} {t:Tk} {c:UInt8} (hf:ρ.fail=0):(isP t c=true ∧ zdp ρ t c=ρ) ∨ (isP t c=false ∧ (zdp ρ t c).fail=140 ∧ (zdp ρ t c).wh=t.2.2):=by
 unfold zdp
 cases h:isP t c
 ·right
  refine ⟨rfl,?_⟩
  rw [if_pos ⟨hf,rfl⟩]
  unfold zbr
  rw [if_pos hf]
  exact ⟨rfl,rfl⟩
 ·left
  refine ⟨rfl,?_⟩
  rw [if_neg (fun h => by cases h.2)]
theorem zdk {t:Tk} {c:UInt8} (h:isP t c=true):t.1=2 ∧ t.2.1=[c]:=by
 simpa [isP] using h
theorem zhy {s:List UInt8} {val:Rs → Tk → JV × Rs} {d:Nat} (hv:zig s val (d + 1)) (hz:zfF val):∀ (n:Nat) (ρ:Rs) (t:Tk) (acc:List JV) (σ:Ms) (S:List Fr) (R:JV × Int × Int),
  ρ.fail=0 → 0 ≤ ρ.pos → ρ.pos ≤ s.length → s.length + 1 < n + ρ.pos → S.length=d → σ.stk=⟨false,[],acc⟩ :: S → σ.nodes=ρ.nodes → zar σ t=zaS σ t → AT s t ρ.pos σ R →
  Bad (zem s val n ρ t acc).2 R ∨ ((zem s val n ρ t acc).2.fail=0 ∧ ρ.pos ≤ (zem s val n ρ t acc).2.pos ∧ (zem s val n ρ t acc).2.pos ≤ s.length ∧ MRes s (zem s val n ρ t acc).2.pos (zcU ⟨σ.st,S,(zem s val n ρ t acc).2.nodes,σ.root⟩ (.mk 6 [] [] (zem s val n ρ t acc).1)) R)
 | 0,ρ,t,acc,σ,S,R,hf,h0,hl,hn,hS,hσ,hc,hb,hA => by omega
 | n + 1,ρ,t,acc,σ,S,R,hf,h0,hl,hn,hS,hσ,hc,hb,hA => by
  rw [zem,if_neg (fun h => h hf)]
  dsimp only
  have frz:∀ (p:JV × Rs),Bad p.2 R → Bad (if isP (zaC s p.2).1 93=true then (acc ++ [p.1],(zaC s p.2).2) else zem s val n (zaC s (zdp (zaC s p.2).2 (zaC s p.2).1 44)).2 (zaC s (zdp (zaC s p.2).2 (zaC s p.2).1 44)).1 (acc ++ [p.1])).2 R:=by
   intro p hp
   split
   ·exact hp.froz (zat _ _)
   ·exact hp.froz ((zat _ _).trans ((zbB _ _ _).trans ((zat _ _).trans (zbV _ _ _ _ _ _))))
  have h1:=hv ρ t σ R hf h0 hl (by rw [hσ,List.length_cons,hS]) hc hb hA
  generalize val ρ t=a at h1 ⊢
  rcases h1 with h1 | ⟨f1,p1,q1,m1⟩
  ·exact .inl (frz a h1)
  simp only [hσ,zcU] at m1
  have h2:=zbJ m1 (by simp) f1 (by omega)
  generalize zaC s a.2=b at h2 ⊢
  rcases h2 with h2 | ⟨f2,c2,a2,p2,q2,r2,_⟩
  ·left
   split
   ·exact h2
   ·exact h2.froz ((zbB _ _ _).trans ((zat _ _).trans (zbV _ _ _ _ _ _)))
  by_cases hcl:isP b.1 93=true
  ·rw [if_pos hcl]
   right
   have e:zar ⟨5,⟨false,[],acc ++ [a.1]⟩ :: S,a.2.nodes,σ.root⟩ b.1=(0,zcU ⟨5,S,a.2.nodes,σ.root⟩ (.mk 6 [] [] (acc ++ [a.1]))):=by
    simp [zar,onM,zdL,hcl,zcA,Fr.val]
   have m2:=zfE a2 e
   refine ⟨f2,by show ρ.pos ≤ b.2.pos; omega,q2,?_⟩
   show MRes s b.2.pos (zcU ⟨σ.st,S,b.2.nodes,σ.root⟩ _) R
   rw [c2,show zcU ⟨σ.st,S,a.2.nodes,σ.root⟩ (.mk 6 [] [] (acc ++ [a.1]))=zcU ⟨5,S,a.2.nodes,σ.root⟩ (.mk 6 [] [] (acc ++ [a.1])) from zbK _ _ _ _ _ _]
   exact m2
  ·rw [if_neg hcl]
   rcases zfc (t:=b.1) (c:=44) f2 with ⟨h3,h4⟩ | ⟨h3,h4,h5⟩
   ·have e:zar ⟨5,⟨false,[],acc ++ [a.1]⟩ :: S,a.2.nodes,σ.root⟩ b.1=(0,⟨0,⟨false,[],acc ++ [a.1]⟩ :: S,a.2.nodes,σ.root⟩):=by
     simp [zar,onM,zdL,hcl,h3]
    have m2:=zfE a2 e
    simp only [h4]
    have h6:=zbJ m2 (by simp) f2 (by omega)
    generalize zaC s b.2=c at h6 ⊢
    rcases h6 with h6 | ⟨f3,c3,a3,p3,q3,r3,_⟩
    ·exact .inl (h6.froz (zbV _ _ _ _ _ _))
    have r2:=r2 (by rw [(zdk h3).1]; decide)
    have ih:=zhy hv hz n c.2 c.1 (acc ++ [a.1]) _ S R f3 (by omega) q3 (by omega) hS rfl (c2.symm.trans c3.symm) rfl a3
    rcases ih with ih | ⟨g1,g2,g3,g4⟩
    ·exact .inl ih
    ·right
     refine ⟨g1,by omega,g3,?_⟩
     rw [zbK σ.st 0]
     exact g4
   ·have e:zar ⟨5,⟨false,[],acc ++ [a.1]⟩ :: S,a.2.nodes,σ.root⟩ b.1=(140,⟨5,⟨false,[],acc ++ [a.1]⟩ :: S,a.2.nodes,σ.root⟩):=by
     simp [zar,onM,zdL,hcl,h3]
    have hR:=zdb a2 e (by decide)
    left
    refine Bad.froz (ρ:=zdp b.2 b.1 44) ⟨by rw [h4]; decide,by rw [h4,h5]; exact hR⟩ ((zat _ _).trans (zbV _ _ _ _ _ _))
theorem rkey_sim {ρ:Rs} {t:Tk} {ks:List (List UInt8)} (hf:ρ.fail=0):(t.1=3 ∧ t.2.1 ∉ ks ∧ rkey ρ t ks=ρ) ∨ (¬ t.1=3 ∧ (rkey ρ t ks).fail=140 ∧ (rkey ρ t ks).wh=t.2.2) ∨ (t.1=3 ∧ t.2.1 ∈ ks ∧ (rkey ρ t ks).fail=143 ∧ (rkey ρ t ks).wh=t.2.2):=by
 unfold rkey
 by_cases h1:t.1=3
 ·have e:¬ ¬ t.1=3:=fun h => h h1
  simp only [if_neg e]
  by_cases h2:t.2.1 ∈ ks
  ·right; right
   simp only [if_pos h2]
   unfold zbr
   simp only [if_pos hf]
   exact ⟨h1,h2,trivial,trivial⟩
  ·left
   simp only [if_neg h2]
   exact ⟨h1,h2,trivial⟩
 ·right; left
  simp only [if_pos h1]
  have e2:zbr ρ t.2.2 140=⟨ρ.pos,ρ.nodes,140,t.2.2⟩:=by unfold zbr; rw [if_pos hf]
  rw [e2]
  by_cases h2:t.2.1 ∈ ks
  ·simp only [if_pos h2]
   unfold zbr
   exact ⟨h1,rfl,rfl⟩
  ·simp only [if_neg h2]
   exact ⟨h1,trivial,trivial⟩
theorem zhp {s:List UInt8} {val:Rs → Tk → JV × Rs} {d:Nat} (hv:zig s val (d + 1)) (hz:zfF val):∀ (n:Nat) (ρ:Rs) (t:Tk) (ks:List (List UInt8)) (its:List JV) (σ:Ms) (S:List Fr) (R:JV × Int × Int),
  ρ.fail=0 → 0 ≤ ρ.pos → ρ.pos ≤ s.length → s.length + 1 < n + ρ.pos → S.length=d → σ.stk=⟨true,ks,its⟩ :: S → σ.nodes=ρ.nodes → zar σ t=zil σ t → AT s t ρ.pos σ R →
  Bad (zdR s val n ρ t ks its).2 R ∨ ((zdR s val n ρ t ks its).2.fail=0 ∧ ρ.pos ≤ (zdR s val n ρ t ks its).2.pos ∧ (zdR s val n ρ t ks its).2.pos ≤ s.length ∧ MRes s (zdR s val n ρ t ks its).2.pos (zcU ⟨σ.st,S,(zdR s val n ρ t ks its).2.nodes,σ.root⟩ (.mk 7 [] (zdR s val n ρ t ks its).1.1 (zdR s val n ρ t ks its).1.2)) R)
 | 0,ρ,t,ks,its,σ,S,R,hf,h0,hl,hn,hS,hσ,hc,hb,hA => by omega
 | n + 1,ρ,t,ks,its,σ,S,R,hf,h0,hl,hn,hS,hσ,hc,hb,hA => by
  rw [zdR,if_neg (fun h => h hf)]
  dsimp only
  have key:zar σ t=if ¬ t.1=3 then (140,σ) else if t.2.1 ∈ ks then (143,σ) else (0,⟨4,⟨true,ks ++ [t.2.1],its⟩ :: S,σ.nodes,σ.root⟩):=by
   rw [hb]; unfold zil; rw [hσ]
  have last:∀ (v:JV × Rs),Bad v.2 R → Bad (if isP (zaC s v.2).1 125=true then ((ks ++ [t.2.1],its ++ [v.1]),(zaC s v.2).2) else zdR s val n (zaC s (zdp (zaC s v.2).2 (zaC s v.2).1 44)).2 (zaC s (zdp (zaC s v.2).2 (zaC s v.2).1 44)).1 (ks ++ [t.2.1]) (its ++ [v.1])).2 R:=by
   intro p hp
   split
   ·exact hp.froz (zat _ _)
   ·exact hp.froz ((zat _ _).trans ((zbB _ _ _).trans ((zat _ _).trans (zbU _ _ _ _ _ _ _))))
  rcases rkey_sim (t:=t) (ks:=ks) hf with ⟨k1,k2,k3⟩ | ⟨k1,k2,k3⟩ | ⟨k1,k2,k3,k4⟩
  rotate_left
  ·rw [if_pos k1] at key
   have hR:=zdb hA key (by decide)
   left
   refine last _ (Bad.froz (ρ:=rkey ρ t ks) ⟨by rw [k2]; decide,by rw [k2,k3]; exact hR⟩ ?_)
   exact (zat _ _).trans ((zbB _ _ _).trans ((zat _ _).trans (hz _ _)))
  ·rw [if_neg (fun h => h k1),if_pos k2] at key
   have hR:=zdb hA key (by decide)
   left
   refine last _ (Bad.froz (ρ:=rkey ρ t ks) ⟨by rw [k3]; decide,by rw [k3,k4]; exact hR⟩ ?_)
   exact (zat _ _).trans ((zbB _ _ _).trans ((zat _ _).trans (hz _ _)))
  rw [if_neg (fun h => h k1),if_neg k2] at key
  have m0:=zfE hA key
  rw [k3]
  have h1:=zbJ m0 (by simp) hf h0
  generalize zaC s ρ=a at h1 ⊢
  rcases h1 with h1 | ⟨f1,c1,a1,p1,q1,r1,_⟩
  ·exact .inl (last _ (h1.froz ((zbB _ _ _).trans ((zat _ _).trans (hz _ _)))))
  rcases zfc (t:=a.1) (c:=58) f1 with ⟨h3,h4⟩ | ⟨h3,h4,h5⟩
  rotate_left
  ·have e:zar ⟨4,⟨true,ks ++ [t.2.1],its⟩ :: S,σ.nodes,σ.root⟩ a.1=(140,⟨4,⟨true,ks ++ [t.2.1],its⟩ :: S,σ.nodes,σ.root⟩):=by
    simp [zar,h3]
   have hR:=zdb a1 e (by decide)
   left
   exact last _ (Bad.froz (ρ:=zdp a.2 a.1 58) ⟨by rw [h4]; decide,by rw [h4,h5]; exact hR⟩ ((zat _ _).trans (hz _ _)))
  have e:zar ⟨4,⟨true,ks ++ [t.2.1],its⟩ :: S,σ.nodes,σ.root⟩ a.1=(0,⟨0,⟨true,ks ++ [t.2.1],its⟩ :: S,σ.nodes,σ.root⟩):=by
   simp [zar,h3]
  have m1:=zfE a1 e
  rw [h4]
  have h2:=zbJ m1 (by simp) f1 (by omega)
  generalize zaC s a.2=b at h2 ⊢
  rcases h2 with h2 | ⟨f2,c2,a2,p2,q2,_,_⟩
  ·exact .inl (last _ (h2.froz (hz _ _)))
  have hV:=hv b.2 b.1 _ R f2 (by omega) q2 (by simp [hS]) (by show σ.nodes=_; omega) rfl a2
  generalize val b.2 b.1=v at hV ⊢
  rcases hV with hV | ⟨f3,p3,q3,m3⟩
  ·exact .inl (last v hV)
  simp only [zcU] at m3
  have h6:=zbJ m3 (by simp) f3 (by omega)
  generalize zaC s v.2=c at h6 ⊢
  rcases h6 with h6 | ⟨f4,c4,a4,p4,q4,r4,_⟩
  ·left
   split
   ·exact h6
   ·exact h6.froz ((zbB _ _ _).trans ((zat _ _).trans (zbU _ _ _ _ _ _ _)))
  by_cases hcl:isP c.1 125=true
  ·rw [if_pos hcl]
   right
   have e:zar ⟨5,⟨true,ks ++ [t.2.1],its ++ [v.1]⟩ :: S,v.2.nodes,σ.root⟩ c.1=(0,zcU ⟨5,S,v.2.nodes,σ.root⟩ (.mk 7 [] (ks ++ [t.2.1]) (its ++ [v.1]))):=by
    simp [zar,onM,zdL,hcl,zcA,Fr.val]
   have m2:=zfE a4 e
   refine ⟨f4,by show ρ.pos ≤ c.2.pos; omega,q4,?_⟩
   show MRes s c.2.pos (zcU ⟨σ.st,S,c.2.nodes,σ.root⟩ _) R
   rw [c4,zbK σ.st 5]
   exact m2
  ·rw [if_neg hcl]
   rcases zfc (t:=c.1) (c:=44) f4 with ⟨g3,g4⟩ | ⟨g3,g4,g5⟩
   ·have e:zar ⟨5,⟨true,ks ++ [t.2.1],its ++ [v.1]⟩ :: S,v.2.nodes,σ.root⟩ c.1=(0,⟨2,⟨true,ks ++ [t.2.1],its ++ [v.1]⟩ :: S,v.2.nodes,σ.root⟩):=by
     simp [zar,onM,zdL,hcl,g3]
    have m2:=zfE a4 e
    simp only [g4]
    have h6:=zbJ m2 (by simp) f4 (by omega)
    generalize zaC s c.2=x at h6 ⊢
    rcases h6 with h6 | ⟨f5,c5,a5,p5,q5,_,_⟩
    ·exact .inl (h6.froz (zbU _ _ _ _ _ _ _))
    have r4:=r4 (by rw [(zdk g3).1]; decide)
    have ih:=zhp hv hz n x.2 x.1 (ks ++ [t.2.1]) (its ++ [v.1]) _ S R f5 (by omega) q5 (by omega) hS rfl (c4.symm.trans c5.symm) rfl a5
    rcases ih with ih | ⟨i1,i2,i3,i4⟩
    ·exact .inl ih
    ·right
     refine ⟨i1,by omega,i3,?_⟩
     rw [zbK σ.st 2]
     exact i4
   ·have e:zar ⟨5,⟨true,ks ++ [t.2.1],its ++ [v.1]⟩ :: S,v.2.nodes,σ.root⟩ c.1=(140,⟨5,⟨true,ks ++ [t.2.1],its ++ [v.1]⟩ :: S,v.2.nodes,σ.root⟩):=by
     simp [zar,onM,zdL,hcl,g3]
    have hR:=zdb a4 e (by decide)
    left
    exact Bad.froz (ρ:=zdp c.2 c.1 44) ⟨by rw [g4]; decide,by rw [g4,g5]; exact hR⟩ ((zat _ _).trans (zbU _ _ _ _ _ _ _))
theorem rarr_sim {s:List UInt8} {val:Rs → Tk → JV × Rs} {d:Nat} (hv:zig s val (d + 1)) (hz:zfF val) (ρ:Rs) (σ:Ms) (R:JV × Int × Int) (hf:ρ.fail=0) (h0:0 ≤ ρ.pos) (hl:ρ.pos ≤ s.length) (hS:σ.stk.length=d)
  (hc:σ.nodes + 1=ρ.nodes) (hm:MRes s ρ.pos (zbP σ false) R) :
  Bad (zmD s val ρ).2 R ∨ ((zmD s val ρ).2.fail=0 ∧ ρ.pos ≤ (zmD s val ρ).2.pos ∧ (zmD s val ρ).2.pos ≤ s.length ∧ MRes s (zmD s val ρ).2.pos (zcU ⟨σ.st,σ.stk,(zmD s val ρ).2.nodes,σ.root⟩ (zmD s val ρ).1) R):=by
 unfold zmD
 dsimp only
 have h1:=zbJ hm (by simp [zbP]) hf h0
 generalize zaC s ρ=a at h1 ⊢
 rcases h1 with h1 | ⟨f1,c1,a1,p1,q1,r1,_⟩
 ·left
  split
  ·exact h1
  ·exact h1.froz (zbV _ _ _ _ _ _)
 by_cases hcl:isP a.1 93=true
 ·rw [if_pos hcl]
  right
  have e:zar (zbP σ false) a.1=(0,zcU ⟨1,σ.stk,σ.nodes + 1,σ.root⟩ (.mk 6 [] [] [])):=by
   simp [zar,zbP,zdL,hcl,zcA,Fr.val]
  have m2:=zfE a1 e
  refine ⟨f1,p1,q1,?_⟩
  show MRes s a.2.pos (zcU ⟨σ.st,σ.stk,a.2.nodes,σ.root⟩ _) R
  rw [c1,← hc,zbK σ.st 1]
  exact m2
 ·rw [if_neg hcl]
  have e:zar (zbP σ false) a.1=zaS (zbP σ false) a.1:=by
   simp [zar,zbP,zdL,hcl]
  have hL:=zhy hv hz (s.length + 2) a.2 a.1 [] (zbP σ false) σ.stk R f1 (by omega) q1 (by omega) hS rfl (by rw [c1,← hc]; rfl) e a1
  rcases hL with hL | ⟨g1,g2,g3,g4⟩
  ·exact .inl hL
  ·right
   refine ⟨g1,Int.le_trans p1 g2,g3,?_⟩
   show MRes s _ (zcU ⟨σ.st,σ.stk,_,σ.root⟩ _) R
   rw [zbK σ.st (zbP σ false).st]
   exact g4
theorem robj_sim {s:List UInt8} {val:Rs → Tk → JV × Rs} {d:Nat} (hv:zig s val (d + 1)) (hz:zfF val) (ρ:Rs) (σ:Ms) (R:JV × Int × Int) (hf:ρ.fail=0) (h0:0 ≤ ρ.pos) (hl:ρ.pos ≤ s.length) (hS:σ.stk.length=d)
  (hc:σ.nodes + 1=ρ.nodes) (hm:MRes s ρ.pos (zbP σ true) R) :
  Bad (zmc s val ρ).2 R ∨ ((zmc s val ρ).2.fail=0 ∧ ρ.pos ≤ (zmc s val ρ).2.pos ∧ (zmc s val ρ).2.pos ≤ s.length ∧ MRes s (zmc s val ρ).2.pos (zcU ⟨σ.st,σ.stk,(zmc s val ρ).2.nodes,σ.root⟩ (zmc s val ρ).1) R):=by
 unfold zmc
 dsimp only
 have h1:=zbJ hm (by simp [zbP]) hf h0
 generalize zaC s ρ=a at h1 ⊢
 rcases h1 with h1 | ⟨f1,c1,a1,p1,q1,r1,_⟩
 ·left
  split
  ·exact h1
  ·exact h1.froz (zbU _ _ _ _ _ _ _)
 by_cases hcl:isP a.1 125=true
 ·rw [if_pos hcl]
  right
  have e:zar (zbP σ true) a.1=(0,zcU ⟨3,σ.stk,σ.nodes + 1,σ.root⟩ (.mk 7 [] [] [])):=by
   simp [zar,zbP,zdL,hcl,zcA,Fr.val]
  have m2:=zfE a1 e
  refine ⟨f1,p1,q1,?_⟩
  show MRes s a.2.pos (zcU ⟨σ.st,σ.stk,a.2.nodes,σ.root⟩ _) R
  rw [c1,← hc,zbK σ.st 3]
  exact m2
 ·rw [if_neg hcl]
  have e:zar (zbP σ true) a.1=zil (zbP σ true) a.1:=by
   simp [zar,zbP,zdL,hcl]
  have hL:=zhp hv hz (s.length + 2) a.2 a.1 [] [] (zbP σ true) σ.stk R f1 (by omega) q1 (by omega) hS rfl (by rw [c1,← hc]; rfl) e a1
  rcases hL with hL | ⟨g1,g2,g3,g4⟩
  ·exact .inl hL
  ·right
   refine ⟨g1,Int.le_trans p1 g2,g3,?_⟩
   show MRes s _ (zcU ⟨σ.st,σ.stk,_,σ.root⟩ _) R
   rw [zbK σ.st (zbP σ true).st]
   exact g4
theorem zmC (s:List UInt8) (val:Rs → Tk → JV × Rs) (ρ:Rs):zij ρ (zmD s val ρ).2:=by
 unfold zmD
 dsimp only
 split
 ·exact zat _ _
 ·exact (zat _ _).trans (zbV _ _ _ _ _ _)
theorem zmb (s:List UInt8) (val:Rs → Tk → JV × Rs) (ρ:Rs):zij ρ (zmc s val ρ).2:=by
 unfold zmc
 dsimp only
 split
 ·exact zat _ _
 ·exact (zat _ _).trans (zbU _ _ _ _ _ _ _)
theorem zei (s:List UInt8):∀ (f d:Nat),f + d=65 → d ≤ 64 → zig s (fun ρ t => zdQ s f ρ t d) d
 | 0,d,hd,hd2 => by omega
 | f + 1,d,hd,hd2 => by
  intro ρ t σ R hf h0 hl hS hc hb hA
  obtain ⟨k5,k4,kw,k6,k7,kw2⟩:=vk_kind (t:=t)
  have hz:zfF (fun ρ t => zdQ s f ρ t (d + 1)):=fun ρ t => zfd s f ρ t (d + 1)
  dsimp only
  rw [zdQ,if_neg (fun h => h hf)]
  by_cases c0:vkE t=0
  ·rw [if_pos c0]
   have e:zar σ t=(140,σ):=by rw [hb]; unfold zaS; rw [if_pos c0]
   have hR:=zdb hA e (by decide)
   left
   unfold zbr; rw [if_pos hf]
   exact ⟨by simp,hR⟩
  rw [if_neg c0]
  have hv:=vk_val t
  by_cases c1:t.1=2 ∧ d=64
  ·rw [if_pos c1]
   have hk:vkE t=6 ∨ vkE t=7:=by
    have n3:¬ vkE t=5:=fun h => by have:=k5.1 h; omega
    have n4:¬ vkE t=4:=fun h => by have:=k4.1 h; omega
    have nw:¬ (vkE t=1 ∨ vkE t=2 ∨ vkE t=3):=fun h => by have:=kw.1 h; omega
    omega
   have e:zar σ t=(141,σ):=by rw [hb]; unfold zaS; rw [if_neg c0,if_pos hk,if_pos (by omega)]
   have hR:=zdb hA e (by decide)
   left
   unfold zbr; rw [if_pos hf]
   exact ⟨by simp,hR⟩
  rw [if_neg c1]
  have leaf:∀ (k:Int) (x:List UInt8),vkE t=k → ¬ (k=6 ∨ k=7) → zgm t=((if t.1=4 then (zcL t.2.1).1 else 0),x) →
    Bad (zbQ ρ t) R ∨ ((zbQ ρ t).fail=0 ∧ ρ.pos ≤ (zbQ ρ t).pos ∧ (zbQ ρ t).pos ≤ s.length ∧ MRes s (zbQ ρ t).pos (zcU ⟨σ.st,σ.stk,(zbQ ρ t).nodes,σ.root⟩ (.mk k x [] [])) R):=by
   intro k x hk hn hx
   have hb':=hb
   unfold zaS at hb'
   rw [if_neg c0,if_neg (by rw [hk]; exact hn),hx] at hb'
   simp only at hb'
   rcases zhw (t:=t) hf with ⟨q1,q2⟩ | ⟨q1,q2,q3⟩
   ·left
    have q3:R=(jvZ,t.2.2,if t.1=4 ∧ ¬ (zcL t.2.1).1=0 then (zcL t.2.1).1 else 142):=by
     by_cases c4:t.1=4 ∧ ¬ (zcL t.2.1).1=0
     ·rw [if_pos c4]
      rw [if_pos c4.1,if_pos c4.2] at hb'
      exact zdb hA hb' c4.2
     ·rw [if_neg c4]
      have:¬ ¬ (if t.1=4 then (zcL t.2.1).1 else 0)=0:=by
       intro h
       by_cases c5:t.1=4
       ·rw [if_pos c5] at h; exact c4 ⟨c5,h⟩
       ·rw [if_neg c5] at h; exact h rfl
      rcases q2 with q2 | q2
      ·exact absurd q2 c4
      ·rw [if_neg this,if_pos (by omega)] at hb'
       exact zdb hA hb' (by decide)
    rw [q3]
    exact q1
   ·right
    have:¬ ¬ (if t.1=4 then (zcL t.2.1).1 else 0)=0:=by
     intro h
     by_cases c5:t.1=4
     ·rw [if_pos c5] at h; exact q2 ⟨c5,h⟩
     ·rw [if_neg c5] at h; exact h rfl
    rw [if_neg this,if_neg (by omega)] at hb'
    have m:=zfE hA hb'
    rw [q1]
    refine ⟨rfl,Int.le_refl _,hl,?_⟩
    rw [← hc,← hk]
    exact m
  have open_:∀ (b:Bool),vkE t=(if b=true then 7 else 6) → Bad (zbQ ρ t) R ∨ (zbQ ρ t=⟨ρ.pos,ρ.nodes + 1,0,ρ.wh⟩ ∧ MRes s ρ.pos (zbP σ b) R):=by
   intro b hk
   have hk':vkE t=6 ∨ vkE t=7:=by cases b <;> simp at hk <;> simp [hk]
   have n4:¬ t.1=4:=fun h => by have:=k4.2 h; omega
   have h2:t.1=2:=by
    rcases hk' with h | h
    ·exact (zdk (k6.1 h)).1
    ·exact (zdk (k7.1 h)).1
   have hb':=hb
   unfold zaS at hb'
   rw [if_neg c0,if_pos hk',if_neg (by omega)] at hb'
   rcases zhw (t:=t) hf with ⟨q1,q2⟩ | ⟨q1,q2,q3⟩
   ·left
    rcases q2 with q2 | q2
    ·exact absurd q2.1 n4
    rw [if_pos (by omega)] at hb'
    rw [if_neg (fun h => n4 h.1)] at q1
    rw [zdb hA hb' (by decide)]
    exact q1
   ·right
    rw [if_neg (by omega)] at hb'
    refine ⟨q1,?_⟩
    have m:=zfE hA hb'
    have:decide (vkE t=7)=b:=by cases b <;> simp at hk <;> simp [hk]
    rw [this] at m
    exact m
  by_cases c5:t.1=5
  ·rw [if_pos c5]
   have hk:=kw.2 c5
   exact leaf _ _ (kw2 c5) (by rw [← kw2 c5]; omega) (by unfold zgm; rw [if_neg (by omega),if_neg (by omega),if_neg (by omega)])
  rw [if_neg c5]
  by_cases c6:isP t 91=true
  ·rw [if_pos c6]
   have hk:=k6.2 c6
   have h2:=(zdk c6).1
   rcases open_ false hk with h | ⟨h1,h3⟩
   ·exact .inl (h.froz (zmC _ _ _))
   ·rw [h1]
    exact rarr_sim (zei s f (d + 1) (by omega) (by omega)) hz ⟨ρ.pos,ρ.nodes + 1,0,ρ.wh⟩ σ R rfl h0 hl hS (by show σ.nodes + 1=ρ.nodes + 1; omega) h3
  rw [if_neg c6]
  by_cases c7:isP t 123=true
  ·rw [if_pos c7]
   have hk:=k7.2 c7
   have h2:=(zdk c7).1
   rcases open_ true hk with h | ⟨h1,h3⟩
   ·exact .inl (h.froz (zmb _ _ _))
   ·rw [h1]
    exact robj_sim (zei s f (d + 1) (by omega) (by omega)) hz ⟨ρ.pos,ρ.nodes + 1,0,ρ.wh⟩ σ R rfl h0 hl hS (by show σ.nodes + 1=ρ.nodes + 1; omega) h3
  rw [if_neg c7]
  by_cases c4:t.1=4
  ·rw [if_pos c4]
   have hk:=k4.2 c4
   exact leaf 4 _ hk (by omega) (by unfold zgm; rw [if_pos hk,if_pos c4])
  ·rw [if_neg c4]
   have hk:vkE t=5:=by
    have n4:¬ vkE t=4:=fun h => c4 (k4.1 h)
    have nw:¬ (vkE t=1 ∨ vkE t=2 ∨ vkE t=3):=fun h => c5 (kw.1 h)
    have n6:¬ vkE t=6:=fun h => c6 (k6.1 h)
    have n7:¬ vkE t=7:=fun h => c7 (k7.1 h)
    omega
   exact leaf 5 _ hk (by omega) (by unfold zgm; rw [if_neg (by omega),if_pos hk,if_neg c4])
theorem zeS {s:List UInt8} {R:JV × Int × Int} (hs:s.length ≤ 1048576) (h:MRes s 0 ms0 R):R=zbs s:=by
 unfold zbs
 rw [if_neg (by omega)]
 dsimp only
 have h1:=zbJ (ρ:=rs0) h (by decide) rfl (by decide)
 generalize zaC s rs0=a at h1 ⊢
 have bad:∀ (ρ:Rs) (p:JV × Rs) (b:Tk × Rs),b=zaC s p.2 → Bad p.2 R → R=if ¬ (if b.2.fail=0 ∧ ¬ b.1.1=1 then zbr b.2 b.1.2.2 140 else b.2).fail=0 then (jvZ,(if b.2.fail=0 ∧ ¬ b.1.1=1 then zbr b.2 b.1.2.2 140 else b.2).wh,(if b.2.fail=0 ∧ ¬ b.1.1=1 then zbr b.2 b.1.2.2 140 else b.2).fail) else (p.1,(s.length:Int),0):=by
  intro ρ p b hb hp
  subst hb
  have h2:=hp.froz (zat s p.2)
  have e:(if (zaC s p.2).2.fail=0 ∧ ¬ (zaC s p.2).1.1=1 then zbr (zaC s p.2).2 (zaC s p.2).1.2.2 140 else (zaC s p.2).2)=(zaC s p.2).2:=if_neg (fun h => h2.1 h.1)
  rw [e,if_pos h2.1]
  exact h2.2
 rcases h1 with h1 | ⟨f1,c1,a1,p1,q1,_,_⟩
 ·exact bad a.2 _ _ rfl (h1.froz (zfd _ _ _ _ _))
 have h0:(0:Int) ≤ a.2.pos:=p1
 have h2:=zei s 65 0 rfl (by omega) a.2 a.1 ms0 R f1 h0 q1 rfl (by rw [c1]; rfl) rfl a1
 dsimp only at h2
 generalize zdQ s 65 a.2 a.1 0=v at h2 ⊢
 rcases h2 with h2 | ⟨f2,p2,q2,m2⟩
 ·exact bad a.2 v _ rfl h2
 simp only [ms0,zcU] at m2
 have h3:=zbJ m2 (by simp) f2 (by omega)
 have hb:=bad a.2 v (zaC s v.2) rfl
 generalize zaC s v.2=b at h3 hb ⊢
 rcases h3 with h3 | ⟨f3,c3,a3,p3,q3,r3,e3⟩
 ·have e:(if b.2.fail=0 ∧ ¬ b.1.1=1 then zbr b.2 b.1.2.2 140 else b.2)=b.2:=if_neg (fun h => h3.1 h.1)
  rw [e,if_pos h3.1]
  exact h3.2
 by_cases c1:b.1.1=1
 ·have e:zar ⟨6,[],v.2.nodes,v.1⟩ b.1=(0,⟨7,[],v.2.nodes,v.1⟩):=by simp [zar,c1]
  have m3:=zfE a3 e
  have e2:(if b.2.fail=0 ∧ ¬ b.1.1=1 then zbr b.2 b.1.2.2 140 else b.2)=b.2:=if_neg (fun h => h.2 c1)
  rw [e2,if_neg (fun h => h f3),← e3 c1]
  cases m3 with
  | fin _ => rfl
  | tok g _ => exact absurd rfl g
  | bad g _ _ => exact absurd rfl g
  | step g _ _ _ => exact absurd rfl g
 ·have e:zar ⟨6,[],v.2.nodes,v.1⟩ b.1=(140,⟨6,[],v.2.nodes,v.1⟩):=by simp [zar,c1]
  have hR:=zdb a3 e (by decide)
  have e2:(if b.2.fail=0 ∧ ¬ b.1.1=1 then zbr b.2 b.1.2.2 140 else b.2)=⟨b.2.pos,b.2.nodes,140,b.1.2.2⟩:=by
   rw [if_pos ⟨f3,c1⟩]; unfold zbr; rw [if_pos f3]
  rw [e2,if_pos (by simp)]
  exact hR
end
end Go.Proofs.YthmdohgkmdkeeaaGreatDoor
namespace Go.Proofs.YthmdohgkmdkeeaaGreatDoor.Sx
open Go.RowKit
def zck (b gen n:Nat) (xs:List AV):AV → AV
 | .orow b' g' => if b'=b ∧ g'=gen then .row n xs else .orow b' g'
 | x => x
def zhb (b gen n:Nat) (xs:List AV):OB → OB
 | .box T cs => .box T (cs.map (zck b gen n xs))
 | x => x
def pubO (objs:List OB) (b gen n:Nat) (xs:List AV):List OB:=(objs.map (zhb b gen n xs)).set b .dead
def zhB (G:Gh) (b gen:Nat):Gh:=⟨G.blk,fun x => if x=b then some (gen + 1,.slice none 0 0) else G.cur x⟩
theorem ziG {G:Gh} {b gen:Nat} {v:Value} (h:G.cur b=some (gen,v)):G.le (zhB G b gen) where
 blk:=fun _ _ h => h
 cur:=fun x n w hx => by
  by_cases hb:x=b
  ·subst hb
   rw [h] at hx; injection hx with hx; injection hx with h1 h2
   exact ⟨gen + 1,.slice none 0 0,by simp [zhB],.inr (by omega)⟩
  ·exact ⟨n,w,by simp [zhB,hb,hx],.inl ⟨rfl,rfl⟩⟩
theorem zdW {G:Gh} {b gen:Nat} (hb:G.blk b=none) {x g:Nat} (h:(zhB G b gen).own x=some g):x ≠ b ∧ G.own x=some g:=by
 by_cases hx:x=b
 ·subst hx
  exfalso
  unfold Gh.own zhB at h
  simp only [hb] at h
  simp [Value.ownBlock] at h
 ·refine ⟨hx,?_⟩
  unfold Gh.own zhB at h
  simp only [if_neg hx] at h
  exact h
def zls (I:Imm) (G:Gh) (b:Nat) (w:World):Imm:=fun g o v => I g o v ∨ (w.cell? ⟨g,o,none⟩=some v ∧ G.own b=some g)
theorem zor {G:Gh} {I:Imm} {objs:List OB} {w:World} (hm:MemOk G I objs w) {b E sz gen n:Nat} {xs:List AV} (hb:objs[b]? = some (.orow E sz gen n xs)) (x:AV) (y:Value) (h:Den G I x y):Den (zhB G b gen) (zls I G b w) (zck b gen n xs x) y:=by
 obtain ⟨v',vs,m1,m2,m3,m4,m5⟩:=hm.row b E sz gen n xs hb
 have hG:=ziG m1
 have hI:Imm.le I (zls I G b w):=fun _ _ _ h => .inl h
 have other:zck b gen n xs x=x → Den (zhB G b gen) (zls I G b w) (zck b gen n xs x) y:=fun e => by rw [e]; exact Den.mono hG hI x y h
 cases x with
 | orow b' g' =>
  by_cases hh:b'=b ∧ g'=gen
  ·obtain ⟨rfl,rfl⟩:=hh
   have e:zck b' g' n xs (.orow b' g')=.row n xs:=by simp [zck]
   rw [e]
   simp only [Den] at h ⊢
   obtain ⟨g0,v,k1,k2,k3,_⟩:=h
   rw [k1] at m1; injection m1 with m1; injection m1 with m1 m6
   have hv:=k3 m1.symm
   subst m1 m6 hv
   have hown:=zbm m5 k1
   have q1:=zag.mono hG hI xs vs m3
   rcases m2.2 with ⟨rfl,rfl⟩ | ⟨g,cap,cur,rfl,hx1,hx2,hx3,hx4⟩
   ·have hvs:vs=[]:=List.eq_nil_of_length_eq_zero (by simpa using m2.1)
    subst hvs
    exact ⟨none,0,[],rfl,⟨Nat.le_refl _,by intro _ e; cases e⟩,q1,by simp,by simp⟩
   ·refine ⟨some ⟨g,0,none⟩,cap,vs,rfl,⟨hx3,by rintro _ ⟨⟩ _; rfl⟩,q1,m4,fun j u hj => ⟨g,0,rfl,.inr ⟨?_,hown⟩⟩⟩
    have:=m2.cells (g:=g) rfl j u hj
    rwa [zav] at this
  ·exact other (by simp only [zck,if_neg hh])
 | _ => exact other rfl
theorem zgL {G:Gh} {I:Imm} {objs:List OB} {w:World} (hm:MemOk G I objs w) {b E sz gen n:Nat} {xs:List AV} (hb:objs[b]? = some (.orow E sz gen n xs)):∀ (l:List AV) (ys:List Value),zag G I l ys → zag (zhB G b gen) (zls I G b w) (l.map (zck b gen n xs)) ys
 | [],ys,h => by simpa [zag] using h
 | x :: l,ys,h => by
  simp only [zag] at h
  obtain ⟨y,ys',rfl,h1,h2⟩:=h
  exact zag.cons (zor hm hb x y h1) (zgL hm hb l ys' h2)
theorem mem_pub {P:Program} [Tabs P] {C:Cx} {G:Gh} {I:Imm} {w:World} {objs:List OB} {b E sz gen n:Nat} {xs:List AV} (hb:objs[b]? = some (.orow E sz gen n xs)) (hin:In C G I w) (hm:MemOk G I objs w) :
  In C (zhB G b gen) (zls I G b w) w ∧ MemOk (zhB G b gen) (zls I G b w) (pubO objs b gen n xs) w:=by
 obtain ⟨v',vs,m1,m2,m3,m4,m5⟩:=hm.row b E sz gen n xs hb
 have hlt:b < objs.length:=by
  by_cases h:b < objs.length
  ·exact h
  ·rw [List.getElem?_eq_none (by omega)] at hb; cases hb
 have hG:=ziG m1
 have hI:Imm.le I (zls I G b w):=fun _ _ _ h => .inl h
 have hin':In C (zhB G b gen) (zls I G b w) w:={
  os:=hin.os,tape:=hin.tape,output:=hin.output,size:=hin.size,block:=hin.block
  imm:=fun g o v h => .inl (hin.imm g o v h)
  news:=fun g o v h => by
   rcases h with h | ⟨_,h⟩
   ·exact hin.news g o v h
   ·exact .inr (hin.blk b g h)
  blk:=fun x g h => hin.blk x g (zdW m5 h).2
  gh:=hin.gh.trans hG }
 have hat:∀ x o,(pubO objs b gen n xs)[x]? = some o → o=.dead ∨ (x ≠ b ∧ ∃ o',objs[x]? = some o' ∧ zhb b gen n xs o'=o):=by
  intro x o h
  unfold pubO at h
  by_cases hx:x=b
  ·subst hx
   rw [List.getElem?_set_self (by simpa using hlt)] at h
   injection h with h; exact .inl h.symm
  ·rw [List.getElem?_set_ne (Ne.symm hx),List.getElem?_map] at h
   obtain ⟨o',h1,h2⟩:=Option.map_eq_some_iff.1 h
   exact .inr ⟨hx,o',h1,h2⟩
 have hm':MemOk (zhB G b gen) (zls I G b w) (pubO objs b gen n xs) w:={
  imm:=fun g o v h => by
   rcases h with h | ⟨h,_⟩
   ·exact hm.imm g o v h
   ·exact h
  box:=fun x T cs h => by
   rcases hat x _ h with h | ⟨hx,o',h1,h2⟩
   ·cases h
   ·cases o' with
    | box T' cs' =>
     injection h2 with e1 e2
     subst e1 e2
     obtain ⟨g,ys,k1,k2,k3,k4⟩:=hm.box x _ _ h1
     exact ⟨g,ys,k1,k2,zgL hm hb _ _ k3,k4⟩
    | orow => cases h2
    | mp => cases h2
    | dead => cases h2
  row:=fun x E' sz' gen' n' xs' h => by
   rcases hat x _ h with h | ⟨hx,o',h1,h2⟩
   ·cases h
   ·cases o' with
    | box T' cs' => cases h2
    | orow =>
     injection h2 with e1 e2 e3 e4 e5
     subst e1 e2 e3 e4 e5
     obtain ⟨v,ys,k1,k2,k3,k4,k5⟩:=hm.row x _ _ _ _ _ h1
     exact ⟨v,ys,by simp [zhB,hx,k1],k2,zag.mono hG hI _ _ k3,k4,k5⟩
    | mp => cases h2
    | dead => cases h2
  map:=fun x es h => by
   rcases hat x _ h with h | ⟨hx,o',h1,h2⟩
   ·cases h
   ·cases o' with
    | box T' cs' => cases h2
    | orow => cases h2
    | mp =>
     injection h2 with e1
     subst e1
     obtain ⟨g,en,ck,k1,k2,k3⟩:=hm.map x _ h1
     exact ⟨g,en,ck,k1,k2,k3.mono hG hI⟩
    | dead => cases h2
  inj:=fun x x' g h h' => hm.inj x x' g (zdW m5 h).2 (zdW m5 h').2
  lt:=fun x g h => hm.lt x g (zdW m5 h).2
  apart:=fun x g o v h h' => by
   obtain ⟨hx,h1⟩:=zdW m5 h
   rcases h' with h' | ⟨_,h'⟩
   ·exact hm.apart x g o v h1 h'
   ·exact hx (hm.inj x b g h1 h')
  fresh:=fun x hx => by
   have hx':objs.length ≤ x:=by simpa [pubO] using hx
   obtain ⟨k1,k2⟩:=hm.fresh x hx'
   exact ⟨k1,by simp [zhB,k2]; omega⟩ }
 exact ⟨hin',hm'⟩
end Go.Proofs.YthmdohgkmdkeeaaGreatDoor.Sx
namespace Go.Proofs.YthmdohgkmdkeeaaGreatDoor.Sx
open Go.RowKit
section
variable {P:Program} [Tabs P] {C:Cx} [On P C] {F:zaI} {objs:List OB} {tm:List AV}
end
section
variable {P:Program} [Tabs P]
end
end Go.Proofs.YthmdohgkmdkeeaaGreatDoor.Sx
namespace Go.Proofs.YthmdohgkmdkeeaaGreatDoor
open Go.RowKit Sx
section
variable [Tabs Tryz.prog] {objs:List OB} {K:List OB → AV → Prop}
end
end Go.Proofs.YthmdohgkmdkeeaaGreatDoor
namespace Go.Proofs.YthmdohgkmdkeeaaGreatDoor
open Go.RowKit Sx
section
attribute [local irreducible] run
mutual
/-- a JSON value, cell for cell -/
def zaj:JV → List AV
 | .mk k t ks its => [.i .i64 k,.s t,.row ks.length (ks.map .s),.row its.length (zac its)]
def zac:List JV → List AV
 | [] => []
 | v :: l => zaj v ++ zac l
end
def JV.kind:JV → Int | .mk k _ _ _ => k
def JV.text:JV → List UInt8 | .mk _ t _ _ => t
def JV.keys:JV → List (List UInt8) | .mk _ _ ks _ => ks
def JV.items:JV → List JV | .mk _ _ _ its => its
theorem zal (v:JV):zaj v=[.i .i64 v.kind,.s v.text,.row v.keys.length (v.keys.map .s),.row v.items.length (zac v.items)]:=by cases v; rw [zaj]; rfl
theorem zaw:zac []=[]:=by rw [zac]
theorem zaD (v:JV) (l:List JV):zac (v :: l)=zaj v ++ zac l:=by rw [zac]
theorem zeq (v:JV):(zaj v).length=4:=by rw [zal]; rfl
theorem zax (l:List JV):(zac l).length=l.length * 4:=by
 induction l with
 | nil => rw [zaw]; rfl
 | cons v l ih => rw [zaD,List.length_append,zeq,ih,List.length_cons]; omega
theorem zdB (a b:List JV):zac (a ++ b)=zac a ++ zac b:=by
 induction a with
 | nil => rw [zaw]; rfl
 | cons v l ih => rw [List.cons_append,zaD,zaD,ih,List.append_assoc]
theorem zd4:∀ {l:List JV} {i:Nat} (hi:i < l.length),((zac l).drop (i * 4)).take 4=zaj l[i]
 | a :: l,0,hi => by
  rw [zaD,Nat.zero_mul,List.drop_zero]
  exact List.take_left' (zeq a)
 | a :: l,i + 1,hi => by
  rw [zaD,show (i + 1) * 4=4 + i * 4 by omega,← List.drop_drop,List.drop_left' (zeq a)]
  simpa using zd4 (l:=l) (i:=i) (by simpa using hi)
theorem zaN (l:List (List UInt8)):zan (l.map AV.s)=true:=by
 induction l with
 | nil => rfl
 | cons a l ih => simp [zan,AV.plain,ih]
theorem ziQ (a b:List AV):zan (a ++ b)=(zan a && zan b):=by
 induction a with
 | nil => simp [zan]
 | cons x a ih => simp [zan,ih,Bool.and_assoc]
mutual
theorem zaR:∀ v:JV,zan (zaj v)=true
 | .mk k t ks its => by
  rw [zaj]
  simp only [zan,AV.plain,zaN,zcv its,Bool.and_self]
theorem zcv:∀ l:List JV,zan (zac l)=true
 | [] => by rw [zac]; rfl
 | v :: l => by rw [zac,ziQ,zaR v,zcv l]; rfl
end
mutual
/-- equal field by field -/
def zdx:JV → JV → Bool
 | .mk k t ks its,.mk k' t' ks' its' => decide (k=k') && (decide (t=t') && (decide (ks=ks') && zbL its its'))
def zbL:List JV → List JV → Bool
 | [],[] => true
 | v :: l,w :: m => zdx v w && zbL l m
 | _,_ => false
end
mutual
theorem zfW:∀ v,zdx v v=true
 | .mk k t ks its => by rw [zdx,zfb its]; simp
theorem zfb:∀ l,zbL l l=true
 | [] => by rw [zbL]
 | v :: l => by rw [zbL,zfW v,zfb l]; rfl
end
mutual
/-- how many values there are in a value -/
def JV.size:JV → Nat
 | .mk _ _ _ its => JV.sizes its + 1
def JV.sizes:List JV → Nat
 | [] => 0
 | v :: l => JV.size v + JV.sizes l
end
theorem zlZ:∀ {l:List JV} {i:Nat} (hi:i < l.length),JV.size l[i] ≤ JV.sizes l
 | a :: l,0,hi => by rw [JV.sizes]; simp
 | a :: l,i + 1,hi => by
  rw [JV.sizes]
  have:=zlZ (l:=l) (i:=i) (by simpa using hi)
  simp only [List.getElem_cons_succ]
  omega
theorem zbd {v:JV} {i:Nat} (hi:i < v.items.length):JV.size v.items[i] < JV.size v:=by
 cases v with
 | mk k t ks its =>
  have:=zlZ (l:=its) (i:=i) hi
  rw [JV.size.eq_def (.mk k t ks its)]
  show JV.size its[i] < _
  simp only
  omega
def zaH {α:Type} (L:List (Nat × α)) (o:List α):Prop:=(L.map (·.1)).Nodup ∧ ∀ x ∈ L,o[x.1]? = some x.2
theorem zaH.get {α:Type} {L:List (Nat × α)} {o:List α} (h:zaH L o) {i:Nat} {x:α} (hx:(i,x) ∈ L):o[i]? = some x:=h.2 _ hx
theorem zaH.perm {α:Type} {L L':List (Nat × α)} {o:List α} (h:zaH L o) (p:L.Perm L'):zaH L' o :=
 ⟨(p.map _).nodup_iff.1 h.1,fun x hx => h.2 x (p.mem_iff.2 hx)⟩
theorem zaH.sub {α:Type} {L L':List (Nat × α)} {o:List α} (h:zaH L o) (p:L'.Sublist L):zaH L' o :=
 ⟨(p.map _).nodup h.1,fun x hx => h.2 x (p.subset hx)⟩
theorem zaH.set {α:Type} {A B:List (Nat × α)} {o:List α} {i:Nat} {x:α} (y:α) (h:zaH (A ++ (i,x) :: B) o):zaH (A ++ (i,y) :: B) (o.set i y):=by
 obtain ⟨h1,h2⟩:=h
 simp only [List.map_append,List.map_cons] at h1
 have hi:o[i]? = some x:=h2 (i,x) (by simp)
 have hlt:=(List.getElem?_eq_some_iff.1 hi).1
 have hne:∀ z ∈ A ++ B,z.1 ≠ i:=by
  intro z hz e
  rw [List.nodup_append] at h1
  obtain ⟨n1,n2,n3⟩:=h1
  rcases List.mem_append.1 hz with hz | hz
  ·exact n3 z.1 (List.mem_map_of_mem hz) i (by simp) e
  ·rw [List.nodup_cons] at n2
   exact n2.1 (e ▸ List.mem_map_of_mem hz)
 refine ⟨by simpa only [List.map_append,List.map_cons] using h1,fun z hz => ?_⟩
 rcases List.mem_append.1 hz with hz | hz
 ·rw [List.getElem?_set_ne (hne z (List.mem_append_left _ hz)).symm]
  exact h2 z (List.mem_append_left _ hz)
 ·rcases List.mem_cons.1 hz with rfl | hz
  ·exact List.getElem?_set_self hlt
  ·rw [List.getElem?_set_ne (hne z (List.mem_append_right _ hz)).symm]
   exact h2 z (List.mem_append_right _ (List.mem_cons_of_mem _ hz))
theorem zaH.lt {α:Type} {L:List (Nat × α)} {o:List α} (h:zaH L o) {i:Nat} {x:α} (hx:(i,x) ∈ L):i < o.length:=(List.getElem?_eq_some_iff.1 (h.get hx)).1
theorem zaH.app {α:Type} {L:List (Nat × α)} {o:List α} (h:zaH L o) (more:List α):zaH L (o ++ more) :=
 ⟨h.1,fun x hx => by rw [List.getElem?_append_left (h.lt (i:=x.1) (x:=x.2) hx)]; exact h.2 x hx⟩
theorem zaH.new {α:Type} {L:List (Nat × α)} {o:List α} (h:zaH L o) (x:α):zaH ((o.length,x) :: L) (o ++ [x]):=by
 refine ⟨?_,fun z hz => ?_⟩
 ·rw [List.map_cons,List.nodup_cons]
  refine ⟨fun hm => ?_,h.1⟩
  obtain ⟨z,hz,e⟩:=List.mem_map.1 hm
  have:=h.lt (i:=z.1) (x:=z.2) hz
  simp only at e
  omega
 ·rcases List.mem_cons.1 hz with rfl | hz
  ·simp
  ·exact (h.app [x]).2 z hz
theorem zaH.mapset {α:Type} {L:List (Nat × α)} {o:List α} {b:Nat} {x d:α} (f:α → α) (h:zaH ((b,x) :: L) o) (hf:∀ z ∈ L,f z.2=z.2):zaH L ((o.map f).set b d):=by
 obtain ⟨h1,h2⟩:=h
 rw [List.map_cons,List.nodup_cons] at h1
 refine ⟨h1.2,fun z hz => ?_⟩
 have hne:¬ b=z.1:=fun e => h1.1 (by show b ∈ _; rw [e]; exact List.mem_map_of_mem hz)
 rw [List.getElem?_set_ne hne,List.getElem?_map,h2 z (List.mem_cons_of_mem _ hz),Option.map_some,hf z hz]
theorem jweak {P:Program} [Tabs P] {f:FuncId} {args args':List AV} {objs:List OB} {K:List OB → AV → Prop} (h:∀ G I ys,zag G I args ys → zag G I args' ys) (hc:zad P f args' objs K):zad P f args objs K :=
 fun C _ G I w hin hm ys hd => hc C G I w hin hm ys (h G I ys hd)
theorem zd2 {G:Gh} {I:Imm} {y:Value} (h:Den G I .nil y):Den G I (.row 0 []) y:=by
 simp only [Den] at h ⊢
 exact ⟨none,0,[],h,⟨Nat.le_refl _,fun ad h => by cases h⟩,zag.nil,by simp,by simp⟩
def subD (b gen n:Nat) (xs:List AV):AV → AV
 | .agg cs => .agg (cs.map (zck b gen n xs))
 | x => zck b gen n xs x
theorem den_subD {G:Gh} {I:Imm} {objs:List OB} {w:World} (hm:MemOk G I objs w) {b E sz gen n:Nat} {xs:List AV} (hb:objs[b]? = some (.orow E sz gen n xs)) (x:AV) (y:Value) (h:Den G I x y):Den (zhB G b gen) (zls I G b w) (subD b gen n xs x) y:=by
 cases x with
 | agg cs =>
  simp only [Den,subD] at h ⊢
  obtain ⟨ys,h1,h2,h3⟩:=h
  exact ⟨ys,h1,zgL hm hb _ _ h2,h3⟩
 | _ => exact zor hm hb _ _ h
theorem zh5 {G:Gh} {I:Imm} {objs:List OB} {w:World} (hm:MemOk G I objs w) {b E sz gen n:Nat} {xs:List AV} (hb:objs[b]? = some (.orow E sz gen n xs)):∀ (l:List AV) (ys:List Value),zag G I l ys → zag (zhB G b gen) (zls I G b w) (l.map (subD b gen n xs)) ys
 | [],ys,h => by simpa [zag] using h
 | x :: l,ys,h => by
  simp only [zag] at h
  obtain ⟨y,ys',rfl,h1,h2⟩:=h
  exact zag.cons (den_subD hm hb x y h1) (zh5 hm hb l ys' h2)
theorem zfB {P:Program} [Tabs P] {f:FuncId} {args:List AV} {objs:List OB} {K:List OB → AV → Prop} {b E sz gen n:Nat} {xs:List AV} (hb:objs[b]? = some (.orow E sz gen n xs)) (hc:zad P f (args.map (subD b gen n xs)) (pubO objs b gen n xs) K):zad P f args objs K:=by
 intro C _ G I w hin hm ys hd
 obtain ⟨v',vs,m1,m2,m3,m4,m5⟩:=hm.row b E sz gen n xs hb
 have hG:=ziG m1
 have hI:Imm.le I (zls I G b w):=fun _ _ _ h => .inl h
 obtain ⟨hin',hm'⟩:=mem_pub (P:=P) hb hin hm
 refine (hc C _ _ w hin' hm' ys (zh5 hm hb _ _ hd)).mono ?_
 rintro e w' ⟨y,objs',r,G',I',he,hk,h1,h2,h3,h4,hy⟩
 exact ⟨y,objs',r,G',I',he,hk,hG.trans h1,fun g o v h => h2 g o v (hI g o v h),h3,h4,hy⟩
theorem zcZ {b gen n:Nat} {xs:List AV} {x:AV} (h:x.plain=true):zck b gen n xs x=x:=by
 cases x <;> first | rfl | (simp [AV.plain] at h)
end
end Go.Proofs.YthmdohgkmdkeeaaGreatDoor
namespace Go.Proofs.YthmdohgkmdkeeaaGreatDoor.Sx
open Go.RowKit Go.WideShapes Go.ChangeShapes Go.ChangeAt
inductive TT where
 | s
 | b
 | i (k:IntKind)
 | st (ts:List TT)
 | sl (t:TT)
 | rv
inductive RV where
 | mk (k:Int) (t:List UInt8) (ks:List (List UInt8)) (its:List RV)
mutual
def zdT:RV → List AV
 | .mk k t ks its => [.i .i64 k,.s t,.row ks.length (ks.map .s),.row its.length (zc4 its)]
def zc4:List RV → List AV
 | [] => []
 | v :: l => zdT v ++ zc4 l
end
mutual
def RVok:RV → Prop
 | .mk k t ks its => (Lit.int .i64 k).wf=true ∧ t.length ≤ 140737488351232 ∧ ks.length ≤ 140737488351232 ∧ (∀ k ∈ ks,k.length ≤ 140737488351232) ∧ its.length ≤ 140737488351232 ∧ zi7 its
def zi7:List RV → Prop
 | [] => True
 | v :: l => RVok v ∧ zi7 l
end
mutual
def ShT:TT → List AV → Prop
 | .s,xs => ∃ l:List UInt8,xs=[.s l] ∧ l.length ≤ 140737488351232
 | .b,xs => ∃ b,xs=[.b b]
 | .i k,xs => ∃ n,xs=[.i k n] ∧ (Lit.int k n).wf=true
 | .st ts,xs => ShTs ts xs
 | .sl t,xs => ∃ gs:List (List AV),xs=[.row gs.length gs.flatten] ∧ gs.length ≤ 140737488351232 ∧ ∀ g ∈ gs,ShT t g
 | .rv,xs => ∃ r:RV,xs=zdT r ∧ RVok r
def ShTs:List TT → List AV → Prop
 | [],xs => xs=[]
 | t :: ts,xs => ∃ a b,xs=a ++ b ∧ ShT t a ∧ ShTs ts b
end
def ShA:TT → AV → Prop
 | .st ts,x => ∃ cs,x=.agg cs ∧ ShTs ts cs
 | .rv,x => ∃ r:RV,x=.agg (zdT r) ∧ RVok r
 | t,x => ShT t [x]
def ShAs:List TT → List AV → Prop
 | [],xs => xs=[]
 | t :: ts,xs => ∃ x ys,xs=x :: ys ∧ ShA t x ∧ ShAs ts ys
def trTs (P:Program) (rc:TypeId → Option TT):Nat → List Field → Option (List TT)
 | o,[] => some []
 | o,f :: fs => match rc f.type,trTs P rc (o + P.cellsOf f.type) fs with
  | some t,some ts => if f.offset=o then some (t :: ts) else none
  | _,_ => none
def zfA (P:Program):List Field → Nat
 | [] => 0
 | f :: fs => P.cellsOf f.type + zfA P fs
def isRV (P:Program) (t:TypeId):List Field → Bool
 | [a,b,c,d] => (a.offset == 0 && b.offset == 1 && c.offset == 2 && d.offset == 3) && (P.cellsOf t == 4 && P.cellsOf a.type == 1 && P.cellsOf b.type == 1 && P.cellsOf c.type == 1 && P.cellsOf d.type == 1) && decide (0 < P.bytesOf t) && (match P.underlying a.type,P.underlying b.type,P.underlying c.type,P.underlying d.type with
  | some (.int .i64),some .string,some (.slice e),some (.slice f) => f == t && P.cellsOf e == 1 && decide (0 < P.bytesOf e) && (match P.underlying e with | some .string => true | _ => false)
  | _,_,_,_ => false)
 | _ => false
def trT (P:Program):Nat → TypeId → Option TT
 | 0,_ => none
 | d + 1,t => match P.underlying t with
  | some .string => some .s
  | some .bool => some .b
  | some (.int k) => some (.i k)
  | some (.struct fs) => if isRV P t fs.toList=true then some .rv else if P.cellsOf t=zfA P fs.toList then (trTs P (trT P d) 0 fs.toList).map .st else none
  | some (.slice e) => if 0 < P.cellsOf e ∧ 0 < P.bytesOf e then (trT P d e).map .sl else none
  | _ => none
theorem zcW {H:Type} {P:Program} {e:TypeId}:∀ {ds:List (DataW H)} {d:DataW H},d ∈ ds → ∀ n ∈ d.weights P e,n ∈ DataW.weightsAll P e ds
 | [],d,hd,n,hn => by cases hd
 | d0 :: ds,d,hd,n,hn => by
  simp only [DataW.weightsAll,List.mem_append]
  rcases List.mem_cons.1 hd with rfl | hd
  ·exact .inl hn
  ·exact .inr (zcW hd n hn)
theorem zjt {w:World} {G:Gh} {I:Imm} {t:TT} (a:Addr) (c:Nat) (hI:∀ g o v,w.cell? ⟨g,o,none⟩=some v → I g o v):∀ k:Nat,
  (∀ i,i < k → ∃ (g:List AV) (ys:List Value),ys.length=c ∧ (∀ j,j < c → w.cell? ((a.add (i * c)).add j)=ys[j]?) ∧ zag G I g ys ∧ ShT t g ∧ ∀ u ∈ ys,u.oneCell'=true) →
  ∃ (gs:List (List AV)) (ys:List Value),gs.length=k ∧ ys.length=k * c ∧ zag G I gs.flatten ys ∧ (∀ g ∈ gs,ShT t g) ∧ (∀ u ∈ ys,u.oneCell'=true) ∧ ∀ j,j < k * c → w.cell? (a.add j)=ys[j]?
 | 0,_ => ⟨[],[],rfl,by simp,zag.nil,by simp,by simp,fun j hj => by simp at hj⟩
 | k + 1,h => by
  obtain ⟨gs,ys,h1,h2,h3,h4,h5,h6⟩:=zjt a c hI k (fun i hi => h i (by omega))
  obtain ⟨g,zs,k1,k2,k3,k4,k5⟩:=h k (by omega)
  have hm:(k + 1) * c=k * c + c:=Nat.succ_mul k c
  refine ⟨gs ++ [g],ys ++ zs,by simp [h1],by rw [List.length_append,h2,k1,hm],?_,?_,?_,?_⟩
  ·rw [List.flatten_append,List.flatten_cons,List.flatten_nil,List.append_nil]
   exact zag.append h3 k3
  ·intro x hx
   rcases List.mem_append.1 hx with hx | hx
   ·exact h4 x hx
   ·rw [List.mem_singleton] at hx; subst hx; exact k4
  ·intro u hu
   rcases List.mem_append.1 hu with hu | hu
   ·exact h5 u hu
   ·exact k5 u hu
  ·intro j hj
   by_cases hjk:j < k * c
   ·rw [h6 j hjk,List.getElem?_append_left (by omega)]
   ·have:=k2 (j - k * c) (by omega)
    rw [Addr.add_add,show k * c + (j - k * c)=j by omega] at this
    rw [this,List.getElem?_append_right (by omega),h2]
theorem add_flat {a:Addr} {j:Nat} (ha:a.spot=none):a.add j=⟨a.block,a.off + j,none⟩:=by
 cases a
 simp only at ha
 subst ha
 unfold Addr.add
 split
 ·rename_i h; subst h; rfl
 ·rfl
section
variable {H:Type} {enc:TypeId × Value → H} {P:Program} {w:World} {base:Nat} {spare:Nat → Bool} {held:Bool} {G:Gh} {I:Imm}
theorem zf0 (d:Nat) (ih:∀ (t:TypeId) (tt:TT) (fuel:Nat) (cs:List Value) (x:DataW H × List MemPlace),trT P d t=some tt → DataW.trod enc P w base spare held fuel t cs=some x → (∀ n ∈ x.1.weights P t,n ≤ reachBytes) → ∃ xs,zag G I xs cs ∧ ShT tt xs ∧ ∀ u ∈ cs,u.oneCell'=true) (n:Nat) :
  ∀ (fs:List Field) (ts:List TT) (o:Nat) (cs:List Value),trTs P (trT P d) o fs=some ts → cs.length=o + zfA P fs → (∀ f ∈ fs,∃ x,DataW.trod enc P w base spare held n f.type ((cs.drop f.offset).take (P.cellsOf f.type))=some x ∧ ∀ m ∈ x.1.weights P f.type,m ≤ reachBytes) →
   ∃ xs,zag G I xs (cs.drop o) ∧ ShTs ts xs ∧ ∀ u ∈ cs.drop o,u.oneCell'=true
 | [],ts,o,cs,ht,hl,hf => by
  simp only [trTs,Option.some.injEq] at ht; subst ht
  have:cs.drop o=[]:=List.drop_eq_nil_of_le (by simp [zfA] at hl; omega)
  rw [this]
  exact ⟨[],zag.nil,rfl,by simp⟩
 | f :: fs,ts,o,cs,ht,hl,hf => by
  simp only [trTs] at ht
  split at ht
  ·rename_i t ts' h1 h2
   split at ht
   ·rename_i ho
    injection ht with ht; subst ht
    obtain ⟨x,hx,hxw⟩:=hf f (List.mem_cons_self ..)
    rw [ho] at hx
    obtain ⟨xs,k1,k2,k3⟩:=ih _ _ _ _ _ h1 hx hxw
    simp only [zfA] at hl
    obtain ⟨ys,m1,m2,m3⟩:=zf0 d ih n fs ts' (o + P.cellsOf f.type) cs h2 (by omega) (fun f' hf' => hf f' (List.mem_cons_of_mem _ hf'))
    have e:cs.drop o=(cs.drop o).take (P.cellsOf f.type) ++ cs.drop (o + P.cellsOf f.type):=by
     rw [← List.drop_drop,List.take_append_drop]
    refine ⟨xs ++ ys,?_,?_,?_⟩
    ·rw [e]; exact zag.append k1 m1
    ·exact ⟨xs,ys,rfl,k2,m2⟩
    ·rw [e]; intro u hu
     rcases List.mem_append.1 hu with hu | hu
     ·exact k3 u hu
     ·exact m3 u hu
   ·cases ht
  ·cases ht
theorem zeo (hI:∀ g o v,w.cell? ⟨g,o,none⟩=some v → I g o v) (hspa:∀ b,spare b=true) {t e:TypeId} {te:TT} {fuel:Nat} {cs:List Value} {x:DataW H × List MemPlace} (hu:P.underlying t=some (.slice e)) (hc:0 < P.cellsOf e ∧ 0 < P.bytesOf e)
  (ih:∀ (n:Nat) (ys:List Value) (x:DataW H × List MemPlace),n < fuel → DataW.trod enc P w base spare held n e ys=some x → (∀ n ∈ x.1.weights P e,n ≤ reachBytes) → ∃ g,zag G I g ys ∧ ShT te g ∧ ∀ u ∈ ys,u.oneCell'=true)
  (h:DataW.trod enc P w base spare held fuel t cs=some x) (hwt:∀ n ∈ x.1.weights P t,n ≤ reachBytes):∃ xs,zag G I xs cs ∧ ShT (.sl te) xs ∧ ∀ u ∈ cs,u.oneCell'=true:=by
 rcases DataW.trod_slice hu h with ⟨rfl,rfl⟩ | ⟨a,len,cap,elems,rest,n,hfu,rfl,rfl,hb,hl,hm,hlen,hel,hsr,_⟩
 ·exact ⟨[.row 0 []],zag.cons (by simp only [Den]; exact ⟨none,0,[],rfl,⟨Nat.le_refl _,fun ad h => by cases h⟩,zag.nil,by simp,by simp⟩) zag.nil,⟨[],rfl,by simp,by simp⟩,by simp; rfl⟩
 ·have hw2:(elems.length + rest.length) * P.bytesOf e ≤ reachBytes:=by
   have:=hwt ((elems.map (·.1)).length + (rest.map (·.1)).length |> (· * P.bytesOf e)) (by simp [DataW.weights,hu])
   simpa using this
  have hel2:elems.length ≤ 140737488351232:=by
   have h1:elems.length * 1 ≤ (elems.length + rest.length) * P.bytesOf e:=Nat.mul_le_mul (by omega) hc.2
   have:reachBytes=140737488351232:=rfl
   omega
  have hel3:∀ i,i < len → ∃ (g:List AV) (ys:List Value),ys.length=P.cellsOf e ∧ (∀ j,j < P.cellsOf e → w.cell? ((a.add (i * P.cellsOf e)).add j)=ys[j]?) ∧ zag G I g ys ∧ ShT te g ∧ ∀ u ∈ ys,u.oneCell'=true:=by
   intro i hi
   have h1:=hel i hi
   have hil:i < elems.length:=by omega
   rw [List.getElem?_eq_getElem hil,Option.bind_eq_some_iff] at h1
   obtain ⟨ys,y1,y2⟩:=h1
   obtain ⟨_,z1,z2⟩:=World.cells?_some y1
   obtain ⟨g,g1,g2,g3⟩:=ih n ys _ (by omega) y2 (fun m hm => hwt m (by
    simp only [DataW.weights,hu,List.mem_cons,List.mem_append]
    exact .inr (.inl (zcW (List.mem_map.2 ⟨_,List.getElem_mem hil,rfl⟩) m hm))))
   exact ⟨g,ys,z1,z2,g1,g2,g3⟩
  obtain ⟨gs,ys,k1,k2,k3,k4,k5,k6⟩:=zjt (G:=G) a (P.cellsOf e) hI len hel3
  have hsp0:cap ≠ 0 → a.spot=none:=by
   intro hcap
   by_cases hl0:0 < len
   ·have hp:0 < len * P.cellsOf e:=Nat.mul_pos hl0 hc.1
    have h2:=k6 0 hp
    rw [List.getElem?_eq_getElem (by omega)] at h2
    have:=World.cell?_spot h2
    simpa [Addr.add] using this
   ·have hr:=(hsr (hspa _)).2 0 (by omega)
    have hrl:=(hsr (hspa _)).1
    rw [List.getElem?_eq_getElem (by omega),Option.bind_eq_some_iff] at hr
    obtain ⟨zs,y1,_⟩:=hr
    obtain ⟨_,z1,z2⟩:=World.cells?_some y1
    have h2:=z2 0 hc.1
    rw [List.getElem?_eq_getElem (by omega)] at h2
    have:=World.cell?_spot h2
    have hl1:len=0:=by omega
    subst hl1
    simpa [Addr.add] using this
  refine ⟨[.row gs.length gs.flatten],zag.cons ?_ zag.nil,⟨gs,rfl,by omega,k4⟩,by simp; rfl⟩
  simp only [Den]
  refine ⟨some a,cap,ys,by rw [k1],⟨by omega,fun ad h hc0 => by injection h with h; subst h; exact hsp0 hc0⟩,k3,k5,fun j u hj => ?_⟩
  have hjl:=(List.getElem?_eq_some_iff.1 hj).1
  have hlp:len ≠ 0:=by rintro rfl; rw [k2,Nat.zero_mul] at hjl; omega
  have hs:=hsp0 (by omega)
  refine ⟨a.block,a.off,by cases a; simp only at hs; subst hs; rfl,hI _ _ _ ?_⟩
  have h2:=k6 j (k2 ▸ hjl)
  rw [add_flat hs] at h2
  rw [h2,hj]
theorem isRV_of {t:TypeId} {fs:List Field} (h:isRV P t fs=true):∃ a b c d e,fs=[a,b,c,d] ∧ (a.offset=0 ∧ b.offset=1 ∧ c.offset=2 ∧ d.offset=3) ∧ (P.cellsOf t=4 ∧ P.cellsOf a.type=1 ∧ P.cellsOf b.type=1 ∧ P.cellsOf c.type=1 ∧ P.cellsOf d.type=1) ∧ 0 < P.bytesOf t ∧
  P.underlying a.type=some (.int .i64) ∧ P.underlying b.type=some .string ∧ P.underlying c.type=some (.slice e) ∧ P.underlying d.type=some (.slice t) ∧ P.cellsOf e=1 ∧ 0 < P.bytesOf e ∧ P.underlying e=some .string:=by
 unfold isRV at h
 split at h
 ·rename_i a b c d
  simp only [Bool.and_eq_true,beq_iff_eq,decide_eq_true_eq] at h
  obtain ⟨⟨⟨h1,h2⟩,h3⟩,h4⟩:=h
  split at h4
  ·rename_i e f u1 u2 u3 u4
   simp only [Bool.and_eq_true,beq_iff_eq,decide_eq_true_eq] at h4
   obtain ⟨⟨⟨k1,k2⟩,k3⟩,k4⟩:=h4
   subst k1
   split at k4
   ·rename_i u5
    exact ⟨a,b,c,d,e,rfl,⟨h1.1.1.1,h1.1.1.2,h1.1.2,h1.2⟩,⟨h2.1.1.1.1,h2.1.1.1.2,h2.1.1.2,h2.1.2,h2.2⟩,h3,u1,u2,u3,u4,k2,k3,u5⟩
   ·cases k4
  ·cases h4
 ·cases h
theorem zl3:∀ gs:List (List AV),(∀ g ∈ gs,ShT .s g) → ∃ ks:List (List UInt8),gs.flatten=ks.map .s ∧ ks.length=gs.length ∧ ∀ k ∈ ks,k.length ≤ 140737488351232
 | [],_ => ⟨[],rfl,rfl,by simp⟩
 | g :: gs,h => by
  obtain ⟨ks,h1,h2,h3⟩:=zl3 gs (fun g hg => h g (List.mem_cons_of_mem _ hg))
  obtain ⟨l,hl,hl2⟩:=h g (List.mem_cons_self ..)
  refine ⟨l :: ks,by rw [List.flatten_cons,hl,h1]; rfl,by simp [h2],fun k hk => ?_⟩
  rcases List.mem_cons.1 hk with rfl | hk
  ·exact hl2
  ·exact h3 k hk
theorem zjs:∀ gs:List (List AV),(∀ g ∈ gs,ShT .rv g) → ∃ rs:List RV,gs.flatten=zc4 rs ∧ rs.length=gs.length ∧ zi7 rs
 | [],_ => ⟨[],by rw [zc4]; rfl,rfl,by rw [zi7]; trivial⟩
 | g :: gs,h => by
  obtain ⟨rs,h1,h2,h3⟩:=zjs gs (fun g hg => h g (List.mem_cons_of_mem _ hg))
  obtain ⟨r,hr,hr2⟩:=h g (List.mem_cons_self ..)
  exact ⟨r :: rs,by rw [List.flatten_cons,hr,h1,zc4],by simp [h2],by rw [zi7]; exact ⟨hr2,h3⟩⟩
theorem open_rv (hI:∀ g o v,w.cell? ⟨g,o,none⟩=some v → I g o v) (hspa:∀ b,spare b=true) {t:TypeId} {fs:Array Field} (hu:P.underlying t=some (.struct fs)) (hrv:isRV P t fs.toList=true):∀ (m fuel:Nat) (cs:List Value) (x:DataW H × List MemPlace),fuel < m → DataW.trod enc P w base spare held fuel t cs=some x → (∀ n ∈ x.1.weights P t,n ≤ reachBytes) → ∃ xs,zag G I xs cs ∧ ShT .rv xs ∧ ∀ u ∈ cs,u.oneCell'=true:=by
 intro m
 induction m with
 | zero => intro fuel cs x hm; omega
 | succ m ih =>
  intro fuel cs x hm h hwt
  obtain ⟨a,b,c,d,e,hfs,⟨o1,o2,o3,o4⟩,⟨c0,c1,c2,c3,c4⟩,hb,u1,u2,u3,u4,e1,e2,e3⟩:=isRV_of hrv
  obtain ⟨xs,n,hfu,rfl,hlen,hxl,hf⟩:=DataW.trod_struct hu h
  have hsz:fs.size=4:=by rw [← Array.length_toList,hfs]; rfl
  have gf:∀ j,fs[j]? = [a,b,c,d][j]?:=fun j => by rw [← hfs,Array.getElem?_toList]
  have hall:∀ (j:Nat) (f:Field),[a,b,c,d][j]? = some f → ∃ x,DataW.trod enc P w base spare held n f.type ((cs.drop f.offset).take (P.cellsOf f.type))=some x ∧ ∀ m ∈ x.1.weights P f.type,m ≤ reachBytes:=by
   intro j f hj
   have h1:=hf j f (by rw [gf]; exact hj)
   have hjl:j < xs.length:=by
    rw [hxl,hsz]
    exact (List.getElem?_eq_some_iff.1 hj).1
   rw [List.getElem?_eq_getElem hjl] at h1
   refine ⟨_,h1,fun m hm => hwt m ?_⟩
   have hj2:(fs.toList.map (·.type))[j]? = some f.type:=by rw [List.getElem?_map,hfs,hj]; rfl
   have:=DataW.weights_mem_each hj2 (show (xs.map (·.1))[j]? = some xs[j].1 by rw [List.getElem?_map,List.getElem?_eq_getElem hjl]; rfl) m hm
   simpa [DataW.weights,hu] using this
  obtain ⟨xa,ha,wa⟩:=hall 0 a rfl
  obtain ⟨xb,hb',wb⟩:=hall 1 b rfl
  obtain ⟨xc,hc',wc⟩:=hall 2 c rfl
  obtain ⟨xd,hd',wd⟩:=hall 3 d rfl
  rw [o1,c1] at ha
  rw [o2,c2] at hb'
  rw [o3,c3] at hc'
  rw [o4,c4] at hd'
  rw [c0] at hlen
  obtain ⟨v0,v1,v2,v3,rfl⟩:∃ v0 v1 v2 v3,cs=[v0,v1,v2,v3]:=by
   match cs,hlen with
   | [v0,v1,v2,v3],_ => exact ⟨v0,v1,v2,v3,rfl⟩
  simp only [List.drop_zero,List.drop_succ_cons,List.take_succ_cons,List.take_zero] at ha hb' hc' hd'
  obtain ⟨i0,r0,_,w0⟩:=DataW.trod_int u1 ha
  injection r0 with r0 _
  obtain ⟨s0,r1,rx1,_⟩:=DataW.trod_string u2 hb'
  injection r1 with r1 _
  subst r0 r1
  obtain ⟨ys2,d2,⟨g2,q2,l2,m2⟩,oc2⟩:=zeo (te:=.s) (G:=G) (I:=I) hI hspa u3 ⟨by omega,e2⟩ (fun n' ys y hn' hy hyw => by
   obtain ⟨s,rfl,rfl,hs⟩:=DataW.trod_string e3 hy
   exact ⟨[.s s.data.toList],zag.cons (by simp [Den]) zag.nil,⟨_,rfl,hyw _ (by simp [DataW.weights])⟩,by simp; rfl⟩) hc' wc
  obtain ⟨ys3,d3,⟨g3,q3,l3,m3⟩,oc3⟩:=zeo (te:=.rv) (G:=G) (I:=I) hI hspa u4 ⟨by omega,hb⟩ (fun n' ys y hn' hy hyw => ih n' ys y (by omega) hy hyw) hd' wd
  subst q2 q3
  obtain ⟨ks,k1,k2,k3⟩:=zl3 g2 m2
  obtain ⟨rs,j1,j2,j3⟩:=zjs g3 m3
  refine ⟨zdT (.mk i0 s0.data.toList ks rs),?_,⟨_,rfl,?_⟩,?_⟩
  ·rw [zdT,k2,j2,← k1,← j1]
   exact zag.cons (by simp [Den]) (zag.cons (by simp [Den]) (zag.append d2 d3))
  ·rw [RVok]
   refine ⟨w0,?_,by omega,k3,by omega,j3⟩
   subst rx1
   exact wb _ (by simp [DataW.weights])
  ·intro u hu'
   simp only [List.mem_cons,List.not_mem_nil,or_false] at hu'
   rcases hu' with rfl | rfl | rfl | rfl
   ·rfl
   ·rfl
   ·exact oc2 _ (by simp)
   ·exact oc3 _ (by simp)
theorem zmZ (hI:∀ g o v,w.cell? ⟨g,o,none⟩=some v → I g o v) (hspa:∀ b,spare b=true):∀ (d:Nat) (t:TypeId) (tt:TT) (fuel:Nat) (cs:List Value) (x:DataW H × List MemPlace),trT P d t=some tt → DataW.trod enc P w base spare held fuel t cs=some x → (∀ n ∈ x.1.weights P t,n ≤ reachBytes) → ∃ xs,zag G I xs cs ∧ ShT tt xs ∧ ∀ u ∈ cs,u.oneCell'=true:=by
 intro d
 induction d with
 | zero => intro t tt fuel cs x ht; simp [trT] at ht
 | succ d ih =>
  intro t tt fuel cs x ht h hwt
  simp only [trT] at ht
  split at ht
  ·rename_i hu
   injection ht with ht; subst ht
   obtain ⟨s,rfl,rfl,hs⟩:=DataW.trod_string hu h
   refine ⟨[.s s.data.toList],zag.cons (by simp [Den]) zag.nil,⟨_,rfl,?_⟩,by simp; rfl⟩
   exact hwt _ (by simp [DataW.weights])
  ·rename_i hu
   injection ht with ht; subst ht
   obtain ⟨b,rfl,_⟩:=DataW.trod_bool hu h
   exact ⟨[.b b],zag.cons (by simp [Den]) zag.nil,⟨_,rfl⟩,by simp; rfl⟩
  ·rename_i k hu
   injection ht with ht; subst ht
   obtain ⟨n,rfl,_,hw⟩:=DataW.trod_int hu h
   exact ⟨[.i k n],zag.cons (by simp [Den]) zag.nil,⟨_,rfl,hw⟩,by simp; rfl⟩
  ·rename_i fs hu
   split at ht
   ·rename_i hrv
    injection ht with ht; subst ht
    exact open_rv hI hspa hu hrv (fuel + 1) fuel cs x (by omega) h hwt
   split at ht
   ·rename_i hc
    cases hts:trTs P (trT P d) 0 fs.toList with
    | none => rw [hts] at ht; cases ht
    | some ts =>
     rw [hts] at ht; injection ht with ht; subst ht
     obtain ⟨xs,n,_,rfl,hlen,hxl,hf⟩:=DataW.trod_struct hu h
     have hall:∀ f ∈ fs.toList,∃ x,DataW.trod enc P w base spare held n f.type ((cs.drop f.offset).take (P.cellsOf f.type))=some x ∧ ∀ m ∈ x.1.weights P f.type,m ≤ reachBytes:=by
      intro f hfm
      obtain ⟨j,hj⟩:=List.mem_iff_getElem?.1 hfm
      have h1:=hf j f (by simpa using hj)
      have hjl:j < xs.length:=by
       rw [hxl]
       have:=(List.getElem?_eq_some_iff.1 hj).1
       simpa using this
      rw [List.getElem?_eq_getElem hjl] at h1
      refine ⟨_,h1,fun m hm => hwt m ?_⟩
      have hj2:(fs.toList.map (·.type))[j]? = some f.type:=by rw [List.getElem?_map,hj]; rfl
      have:=DataW.weights_mem_each hj2 (show (xs.map (·.1))[j]? = some xs[j].1 by rw [List.getElem?_map,List.getElem?_eq_getElem hjl]; rfl) m hm
      simpa [DataW.weights,hu] using this
     obtain ⟨ys,k1,k2,k3⟩:=zf0 d ih n fs.toList ts 0 cs hts (by rw [hlen,hc]; omega) hall
     exact ⟨ys,by simpa using k1,k2,by simpa using k3⟩
   ·cases ht
  ·rename_i e hu
   split at ht
   ·rename_i hc
    cases hte:trT P d e with
    | none => rw [hte] at ht; cases ht
    | some te =>
     rw [hte] at ht; injection ht with ht; subst ht
     exact zeo hI hspa hu hc (fun n ys y _ hy hyw => ih e te n ys y hte hy hyw) h hwt
   ·cases ht
  ·cases ht
theorem open_arg (hI:∀ g o v,w.cell? ⟨g,o,none⟩=some v → I g o v) (hspa:∀ b,spare b=true) {r:Reach} {b0:Nat} {t:TypeId} {tt:TT} {v:Value} {dd:DataW H} {ps:List MemPlace} (ht:trT P 20 t=some tt) (hv:Value.okWide P w r b0 t v) (h:DataW.Trod enc P w base spare held t v dd ps) (hwt:∀ n ∈ dd.weights P t,n ≤ reachBytes):∃ x,Den G I x v ∧ ShA tt x:=by
 obtain ⟨fuel,hf⟩:=h
 obtain ⟨xs,h1,h2,h3⟩:=zmZ hI hspa 20 t tt fuel _ _ ht hf hwt
 have ht':=ht
 unfold trT at ht
 cases tt with
 | st ts =>
  split at ht <;> first | (injection ht with ht; cases ht; done) | skip
  ·rename_i fs hu
   obtain ⟨cs,rfl,_⟩:=okWide_struct hu hv
   refine ⟨.agg xs,?_,⟨xs,rfl,h2⟩⟩
   simp only [Den]
   exact ⟨cs.toList,by simp,h1,h3⟩
  ·split at ht
   ·cases hq:trT P 19 _ with
    | none => rw [hq] at ht; cases ht
    | some q => rw [hq] at ht; injection ht with ht; cases ht
   ·cases ht
  ·cases ht
 | rv =>
  split at ht <;> first | (injection ht with ht; cases ht; done) | skip
  ·rename_i fs hu
   obtain ⟨cs,rfl,_⟩:=okWide_struct hu hv
   obtain ⟨r,rfl,hr⟩:=h2
   refine ⟨.agg (zdT r),?_,⟨r,rfl,hr⟩⟩
   simp only [Den]
   exact ⟨cs.toList,by simp,h1,h3⟩
  ·split at ht
   ·cases hq:trT P 19 _ with
    | none => rw [hq] at ht; cases ht
    | some q => rw [hq] at ht; injection ht with ht; cases ht
   ·cases ht
  ·cases ht
 | sl t =>
  split at ht <;> first | (injection ht with ht; cases ht; done) | skip
  ·split at ht
   ·injection ht with ht; cases ht
   split at ht
   ·cases hq:trTs P (trT P 19) 0 _ with
    | none => rw [hq] at ht; cases ht
    | some q => rw [hq] at ht; injection ht with ht; cases ht
   ·cases ht
  ·rename_i e hu
   obtain ⟨a,len,cap,rfl⟩:=okWide_slice hu hv
   obtain ⟨gs,rfl,hl,hg⟩:=h2
   simp only [zag] at h1
   obtain ⟨y,ys,e1,k1,k2⟩:=h1
   subst k2
   have e2:[Value.slice a len cap]=[y]:=e1
   injection e2 with e2 _
   subst e2
   exact ⟨.row gs.length gs.flatten,k1,⟨gs,rfl,hl,hg⟩⟩
  ·cases ht
 | s =>
  split at ht <;> first | (injection ht with ht; cases ht; done) | skip
  ·rename_i hu
   obtain ⟨s,rfl⟩:=okWide_string hu hv
   obtain ⟨l,rfl,hl⟩:=h2
   simp only [zag] at h1
   obtain ⟨y,ys,e,k1,k2⟩:=h1
   subst k2
   have e2:[Value.string s]=[y]:=e
   injection e2 with e2 _
   subst e2
   exact ⟨.s l,k1,⟨l,rfl,hl⟩⟩
  ·split at ht
   ·injection ht with ht; cases ht
   split at ht
   ·cases hq:trTs P (trT P 19) 0 _ with
    | none => rw [hq] at ht; cases ht
    | some q => rw [hq] at ht; injection ht with ht; cases ht
   ·cases ht
  ·split at ht
   ·cases hq:trT P 19 _ with
    | none => rw [hq] at ht; cases ht
    | some q => rw [hq] at ht; injection ht with ht; cases ht
   ·cases ht
  ·cases ht
 | b =>
  split at ht <;> first | (injection ht with ht; cases ht; done) | skip
  ·rename_i hu
   obtain ⟨s,rfl⟩:=okWide_bool hu hv
   obtain ⟨l,rfl⟩:=h2
   simp only [zag] at h1
   obtain ⟨y,ys,e,k1,k2⟩:=h1
   subst k2
   have e2:[Value.bool s]=[y]:=e
   injection e2 with e2 _
   subst e2
   exact ⟨.b l,k1,⟨l,rfl⟩⟩
  ·split at ht
   ·injection ht with ht; cases ht
   split at ht
   ·cases hq:trTs P (trT P 19) 0 _ with
    | none => rw [hq] at ht; cases ht
    | some q => rw [hq] at ht; injection ht with ht; cases ht
   ·cases ht
  ·split at ht
   ·cases hq:trT P 19 _ with
    | none => rw [hq] at ht; cases ht
    | some q => rw [hq] at ht; injection ht with ht; cases ht
   ·cases ht
  ·cases ht
 | i k =>
  split at ht <;> first | (injection ht with ht; cases ht; done) | skip
  ·rename_i k' hu
   injection ht with ht; injection ht with ht; subst ht
   obtain ⟨s,rfl⟩:=okWide_int hu hv
   obtain ⟨l,rfl,hl⟩:=h2
   simp only [zag] at h1
   obtain ⟨y,ys,e,k1,k2⟩:=h1
   subst k2
   have e2:[Value.int _ s]=[y]:=e
   injection e2 with e2 _
   subst e2
   exact ⟨.i _ l,k1,⟨l,rfl,hl⟩⟩
  ·split at ht
   ·injection ht with ht; cases ht
   split at ht
   ·cases hq:trTs P (trT P 19) 0 _ with
    | none => rw [hq] at ht; cases ht
    | some q => rw [hq] at ht; injection ht with ht; cases ht
   ·cases ht
  ·split at ht
   ·cases hq:trT P 19 _ with
    | none => rw [hq] at ht; cases ht
    | some q => rw [hq] at ht; injection ht with ht; cases ht
   ·cases ht
  ·cases ht
theorem open_args (hI:∀ g o v,w.cell? ⟨g,o,none⟩=some v → I g o v) (hspa:∀ b,spare b=true) {r:Reach} {b0:Nat}:∀ (ts:List TypeId) (tts:List TT) (vs:List Value) (ds:List (DataW H)) (ps:List MemPlace),ts.mapM (trT P 20)=some tts → (∀ (j:Nat) t v,ts[j]? = some t → vs[j]? = some v → Value.okWide P w r b0 t v) → DataW.TrodAll enc P w base spare held ts vs ds ps → (∀ n ∈ DataW.weightsEach P ts ds,n ≤ reachBytes) → ∃ xs,zag G I xs vs ∧ ShAs tts xs
 | [],tts,vs,ds,ps,ht,hv,h,hwt => by
  simp at ht; subst ht
  obtain ⟨rfl,_,_⟩:=trodAll_nil h
  exact ⟨[],zag.nil,rfl⟩
 | t :: ts,tts,vs,ds,ps,ht,hv,h,hwt => by
  simp only [List.mapM_cons,Option.bind_eq_bind,Option.pure_def] at ht
  cases h1:trT P 20 t with
  | none => simp [h1] at ht
  | some tt =>
   cases h2:ts.mapM (trT P 20) with
   | none => simp [h1,h2] at ht
   | some tts' =>
    simp [h1,h2] at ht
    subst ht
    obtain ⟨v,vs',d,ds',p,q,rfl,rfl,rfl,k1,k2⟩:=trodAll_cons h
    obtain ⟨x,x1,x2⟩:=open_arg (G:=G) (I:=I) hI hspa h1 (hv 0 t v rfl rfl) k1 (fun n hn => hwt n (by simp only [DataW.weightsEach,List.mem_append]; exact .inl hn))
    obtain ⟨xs,y1,y2⟩:=open_args hI hspa ts tts' vs' ds' q h2 (fun j t v hj hv' => hv (j + 1) t v (by simpa using hj) (by simpa using hv')) k2 (fun n hn => hwt n (by simp only [DataW.weightsEach,List.mem_append]; exact .inr hn))
    exact ⟨x :: xs,zag.cons x1 y1,⟨x,xs,rfl,x2,y2⟩⟩
theorem zdO (hl:laidOutB P=true) {W W':World} {sp':Nat → Bool}:∀ (ts:List TypeId) (vs:List Value) (ds:List (DataW H)) (ps:List MemPlace),(∀ t ∈ ts,P.readableRec t=true ∧ t < P.types.size) → DataW.TrodAll enc P W 0 (fun _ => true) true ts vs ds ps → Below W.heap.size W W' → (∀ p ∈ ps,p.block < W.heap.size) → (∀ p ∈ ps,sp' p.block=true) → DataW.TrodAll enc P W' 0 sp' true ts vs ds ps
 | [],vs,ds,ps,hr,h,hb,hlt,hs => by
  obtain ⟨rfl,rfl,rfl⟩:=trodAll_nil h
  exact trodAll_mk0
 | t :: ts,vs,ds,ps,hr,h,hb,hlt,hs => by
  obtain ⟨v,vs',d,ds',p,q,rfl,rfl,rfl,k1,k2⟩:=trodAll_cons h
  have h1:=hr t (List.mem_cons_self ..)
  exact trodAll_cons_mk (WideElems.Trod_stays hl h1.1 h1.2 k1 (fun x hx => hb.same (hlt x (List.mem_append_left _ hx))) (fun x hx => hs x (List.mem_append_left _ hx)))
   (zdO hl ts vs' ds' q (fun t ht => hr t (List.mem_cons_of_mem _ ht)) k2 hb (fun x hx => hlt x (List.mem_append_right _ hx)) (fun x hx => hs x (List.mem_append_right _ hx)))
end
theorem post_true {H:Type} {enc:TypeId × Value → H} {P:Program} {f:Func} {s:ChangeSpec} {apart fresh handsOn again:Bool} {W W':World} {args:Array Value} {ds gs:List (DataW H)} {before:List MemPlace}
  (hl:laidOutB P=true) (hts:∀ t ∈ f.params.toList,P.readableRec t=true ∧ t < P.types.size) {tb:TypeId} (hrt:f.resultTypes=#[tb]) (hub:P.underlying tb=some .bool) (hsv:s.vars=[])
  (hW:DataW.Whole enc P f.params.toList s.vars apart W args.toList ds gs before) (hfn:s.fn H (ds ++ gs)={ results:=[.lit (.bool true)],args:=ds }) (hb:Below W.heap.size W W'):s.post enc P f apart fresh handsOn again W args (.bool true) W':=by
 have hlt:∀ p ∈ before,p.block < W.heap.size:=fun p hp => hW.lt p hp
 have hold:∀ p ∈ before,(fun b => decide (b < W.heap.size)) p.block=true:=fun p hp => by simpa using hlt p hp
 have hW':=hW
 obtain ⟨p,q,hA,hV,rfl,hz,hn⟩:=hW'
 rw [hsv] at hV
 have hvars:gs=[] ∧ q=[]:=by
  cases gs with
  | nil => exact ⟨rfl,hV⟩
  | cons g gs => exact hV.elim
 obtain ⟨rfl,rfl⟩:=hvars
 simp only [List.append_nil] at *
 have hres:∀ (b:Nat) (sp:Nat → Bool) (hd:Bool),DataW.TrodAll enc P W' b sp hd f.resultTypes.toList ((Value.bool true).resultList f.resultTypes.size) (s.fn H ds).results []:=by
  intro b sp hd
  rw [hfn,hrt]
  exact trodAll_cons_mk (shut_bool hub _) trodAll_mk0
 have hargs:∀ sp:Nat → Bool,(∀ x ∈ p,sp x.block=true) → DataW.TrodAll enc P W' 0 sp true f.params.toList args.toList (s.fn H ds).args p:=by
  intro sp hsp
  rw [hfn]
  exact zdO hl _ _ _ _ hts hA hb hlt hsp
 have hvs:∀ sp:Nat → Bool,DataW.TrodVars enc P W' sp s.vars (s.fn H ds).vars []:=by
  intro sp
  rw [hsv,hfn]; rfl
 refine ⟨ds,[],p,[],p,[],hW,by simpa using hres _ _ _,by simpa using hargs _ hold,by simpa using hvs _,World.keptBut_mono (fun x hx => ⟨hx,?_⟩) (hb.frame (· ∈ p)),fun _ => ?_⟩
 ·exact Or.inr (Or.inl hx)
 ·refine ⟨?_,_,_,([] ++ p) ++ [],⟨[] ++ p,[],trodAll_append (by simpa using hargs _ (fun _ _ => rfl)) (by simpa using hres _ _ _),by simpa using hvs _,rfl,?_,?_⟩,?_⟩
  ·intro j t r hj hr
   rw [hrt] at hj hr
   cases j with
   | zero =>
    simp at hj; subst hj
    have:r=.bool true:=by simpa [Value.resultList] using hr.symm
    subst this
    exact okWide_bool_mk hub _
   | succ j => simp at hj
  ·intro b off hp
   have hin:MemPlace.cell b off ∈ p:=by simpa using hp
   rw [hb.frozen (hlt _ hin)]
   exact hz b off hin
  ·intro ha
   simpa using hn ha
  ·intro x hx _
   simpa using hx
section
variable {H:Type} {enc:TypeId × Value → H}
end
end Go.Proofs.YthmdohgkmdkeeaaGreatDoor.Sx
