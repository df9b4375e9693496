/- The texts that the proofs of these statements reach, in their order, as few files. -/
import Derived.Lib.IndexAny
import Derived.Shelf.Strings.IndexAnyAll
import Derived.Lib.OthersKept
import Derived.Test.YthmdohgkmdkeeaaGreatDoorJp4
set_option linter.unusedVariables false
set_option linter.unusedSimpArgs false
set_option maxRecDepth 100000
namespace Go.Proofs.YthmdohgkmdkeeaaGreatDoor
open Go.RowKit
def zeR (c:UInt8):Nat:=if c.toNat < 128 then 1 else if c.toNat < 192 then 0 else if c.toNat < 224 then 2 else if c.toNat < 240 then 3 else if c.toNat < 248 then 4 else 0
theorem zjC:∀ n:Fin 256,lensT.getD (n.val / 8) 0=(zeR (UInt8.ofNat n.val):Int):=by decide +kernel
theorem ziu (c:UInt8):lensT.getD (c.toNat / 8) 0=(zeR c:Int):=by
 have:=zjC ⟨c.toNat,c.toNat_lt⟩
 simp only at this
 rw [this]; congr 2; exact UInt8.ofNat_toNat
def zbu (c:UInt8) (n:Nat):Nat:=if n=1 then c.toNat else if n=2 then c.toNat % 32 else if n=3 then c.toNat % 16 else c.toNat % 8
def zmt:List UInt8 → Nat → Option Nat
 | [],r => some r
 | c :: t,r => if zcH c=true then zmt t (r * 64 + (c.toNat - 128)) else none
def endU (n r:Nat):Option (Nat × Nat):=if mostT.getD (n - 1) 0 < (r:Int) ∧ cpB (r:Int)=true then some (r,n) else none
def zdw (n:Nat) (t:List UInt8) (r:Nat):Option (Nat × Nat):=match zmt t r with | none => none | some r => endU n r
theorem zcP (n r:Nat):zdw n [] r=endU n r:=rfl
theorem zbk (n r:Nat) (c:UInt8) (t:List UInt8):zdw n (c :: t) r=if zcH c=true then zdw n t (r * 64 + (c.toNat - 128)) else none:=by
 unfold zdw
 rw [zmt]
 by_cases h:zcH c=true
 ·rw [if_pos h,if_pos h]
 ·rw [if_neg h,if_neg h]
theorem zfX {n r:Nat} {p:Prop} [Decidable p] (h:(mostT.getD (n - 1) 0 < (r:Int) ∧ cpB (r:Int)=true) ↔ p):endU n r=if p then some (r,n) else none:=by
 unfold endU
 by_cases hp:p
 ·rw [if_pos hp,if_pos (h.2 hp)]
 ·rw [if_neg hp,if_neg (fun e => hp (h.1 e))]
theorem zjF {c:UInt8} {t:List UInt8} (h:zeR c=0 ∨ t.length + 1 < zeR c):zch (c :: t)=none:=by
 unfold zeR at h
 rw [zch]
 by_cases h1:c.toNat < 128
 ·rw [if_pos h1] at h; omega
 rw [if_neg h1] at h ⊢
 by_cases h2:c.toNat < 192
 ·rw [if_pos h2]
 rw [if_neg h2] at h ⊢
 by_cases h3:c.toNat < 224
 ·rw [if_pos h3] at h ⊢
  rcases t with _ | ⟨a,t⟩
  ·rfl
  ·simp at h; omega
 rw [if_neg h3] at h ⊢
 by_cases h4:c.toNat < 240
 ·rw [if_pos h4] at h ⊢
  rcases t with _ | ⟨a,_ | ⟨b,t⟩⟩
  ·rfl
  ·rfl
  ·simp at h; omega
 rw [if_neg h4] at h ⊢
 by_cases h5:c.toNat < 248
 ·rw [if_pos h5] at h ⊢
  rcases t with _ | ⟨a,_ | ⟨b,_ | ⟨d,t⟩⟩⟩
  ·rfl
  ·rfl
  ·rfl
  ·simp at h; omega
 ·rw [if_neg h5]
theorem zca (c:UInt8):zcH c=true ↔ 128 ≤ c.toNat ∧ c.toNat < 192:=by unfold zcH; exact decide_eq_true_iff
theorem zi9 {r:Nat} (h:r < 55296):cpB (r:Int)=true:=decide_eq_true (by omega)
theorem zmr {c:UInt8} {t:List UInt8} (h0:zeR c ≠ 0) (h:zeR c ≤ t.length + 1):zch (c :: t)=zdw (zeR c) (t.take (zeR c - 1)) (zbu c (zeR c)):=by
 have hc:=c.toNat_lt
 unfold zeR at h0 h ⊢
 rw [zch]
 by_cases h1:c.toNat < 128
 ·rw [if_pos h1] at h0 h ⊢
  rw [if_pos h1,Nat.sub_self,List.take_zero,zcP,zfX (p:=True)]
  ·rw [if_pos trivial]; rfl
  ·simp only [iff_true]
   exact ⟨by show (-1:Int) < _; omega,zi9 (by unfold zbu; rw [if_pos rfl]; omega)⟩
 rw [if_neg h1] at h0 h ⊢
 rw [if_neg h1]
 by_cases h2:c.toNat < 192
 ·rw [if_pos h2] at h0; exact absurd rfl h0
 rw [if_neg h2] at h0 h ⊢
 rw [if_neg h2]
 by_cases h3:c.toNat < 224
 ·rw [if_pos h3] at h0 h ⊢
  rw [if_pos h3]
  rcases t with _ | ⟨a,t⟩
  ·simp at h
  show dec2 c (a :: t)=zdw 2 [a] (zbu c 2)
  rw [dec2,zbk,zcP]
  have e:zbu c 2=c.toNat - 192:=by unfold zbu; rw [if_neg (by decide),if_pos rfl]; omega
  by_cases ha:zcH a=true
  ·have ha':=(zca a).1 ha
   rw [if_pos ha,e,zfX (p:=128 ≤ r2 c a)]
   ·by_cases hr:128 ≤ r2 c a
    ·rw [if_pos ⟨ha,hr⟩,if_pos hr]; rfl
    ·rw [if_neg (fun x => hr x.2),if_neg hr]
   ·show ((127:Int) < _ ∧ _) ↔ _
    unfold r2
    constructor
    ·intro x; have:=x.1; omega
    ·intro x; exact ⟨by omega,zi9 (by omega)⟩
  ·rw [if_neg ha,if_neg (fun x => ha x.1)]
 rw [if_neg h3] at h0 h ⊢
 rw [if_neg h3]
 by_cases h4:c.toNat < 240
 ·rw [if_pos h4] at h0 h ⊢
  rw [if_pos h4]
  rcases t with _ | ⟨a,_ | ⟨b,t⟩⟩
  ·simp at h
  ·simp at h
  show dec3 c (a :: b :: t)=zdw 3 [a,b] (zbu c 3)
  rw [dec3,zbk,zbk,zcP]
  have e:zbu c 3=c.toNat - 224:=by unfold zbu; rw [if_neg (by decide),if_neg (by decide),if_pos rfl]; omega
  by_cases ha:zcH a=true
  ·by_cases hb:zcH b=true
   ·have ha':=(zca a).1 ha
    have hb':=(zca b).1 hb
    have er:((c.toNat - 224) * 64 + (a.toNat - 128)) * 64 + (b.toNat - 128)=r3 c a b:=by unfold r3; omega
    rw [if_pos ha,if_pos hb,e,er,zfX (p:=2048 ≤ r3 c a b ∧ cpB (r3 c a b:Int)=true)]
    ·by_cases hr:2048 ≤ r3 c a b ∧ cpB (r3 c a b:Int)=true
     ·rw [if_pos ⟨ha,hb,hr⟩,if_pos hr]
     ·rw [if_neg (fun x => hr x.2.2),if_neg hr]
    ·show ((2047:Int) < _ ∧ _) ↔ _
     constructor
     ·intro x; exact ⟨by omega,x.2⟩
     ·intro x; exact ⟨by omega,x.2⟩
   ·rw [if_pos ha,if_neg hb,if_neg (fun x => hb x.2.1)]
  ·rw [if_neg ha,if_neg (fun x => ha x.1)]
 rw [if_neg h4] at h0 h ⊢
 rw [if_neg h4]
 by_cases h5:c.toNat < 248
 ·rw [if_pos h5] at h0 h ⊢
  rw [if_pos h5]
  rcases t with _ | ⟨a,_ | ⟨b,_ | ⟨d,t⟩⟩⟩
  ·simp at h
  ·simp at h
  ·simp at h
  show dec4 c (a :: b :: d :: t)=zdw 4 [a,b,d] (zbu c 4)
  rw [dec4,zbk,zbk,zbk,zcP]
  have e:zbu c 4=c.toNat - 240:=by unfold zbu; rw [if_neg (by decide),if_neg (by decide),if_neg (by decide)]; omega
  by_cases ha:zcH a=true
  ·by_cases hb:zcH b=true
   ·by_cases hd:zcH d=true
    ·have ha':=(zca a).1 ha
     have hb':=(zca b).1 hb
     have hd':=(zca d).1 hd
     have er:(((c.toNat - 240) * 64 + (a.toNat - 128)) * 64 + (b.toNat - 128)) * 64 + (d.toNat - 128)=r4 c a b d:=by unfold r4; omega
     rw [if_pos ha,if_pos hb,if_pos hd,e,er,zfX (p:=65536 ≤ r4 c a b d ∧ r4 c a b d ≤ 1114111)]
     ·by_cases hr:65536 ≤ r4 c a b d ∧ r4 c a b d ≤ 1114111
      ·rw [if_pos ⟨ha,hb,hd,hr⟩,if_pos hr]
      ·rw [if_neg (fun x => hr x.2.2.2),if_neg hr]
     ·show ((65535:Int) < _ ∧ _) ↔ _
      constructor
      ·intro x
       have:=of_decide_eq_true x.2
       exact ⟨by omega,by omega⟩
      ·intro x; exact ⟨by omega,decide_eq_true (by omega)⟩
    ·rw [if_pos ha,if_pos hb,if_neg hd,if_neg (fun x => hd x.2.2.1)]
   ·rw [if_pos ha,if_neg hb,if_neg (fun x => hb x.2.1)]
  ·rw [if_neg ha,if_neg (fun x => ha x.1)]
 ·rw [if_neg h5] at h0; exact absurd rfl h0
theorem and31 (a:Nat):a &&& 31=a % 32:=Nat.and_two_pow_sub_one_eq_mod a 5
theorem and15 (a:Nat):a &&& 15=a % 16:=Nat.and_two_pow_sub_one_eq_mod a 4
theorem and7 (a:Nat):a &&& 7=a % 8:=Nat.and_two_pow_sub_one_eq_mod a 3
theorem zfT (c:UInt8) (n:Nat) (h1:1 ≤ n) (h2:n ≤ 4) (w:World) :
  Calls Tryz.prog 115 #[.int .u8 c.toNat,.int .i64 n] w fun e w' => e=.returned (.int .i64 (zbu c n)) ∧ w=w':=by
 have hc:=c.toNat_lt
 have a1:bits .and .i64 (c.toNat:Int) 31=((c.toNat % 32:Nat):Int):=by rw [← and31]; exact zbj c.toNat 31 (by omega) (by omega)
 have a2:bits .and .i64 (c.toNat:Int) 15=((c.toNat % 16:Nat):Int):=by rw [← and15]; exact zbj c.toNat 15 (by omega) (by omega)
 have a3:bits .and .i64 (c.toNat:Int) 7=((c.toNat % 8:Nat):Int):=by rw [← and7]; exact zbj c.toNat 7 (by omega) (by omega)
 have H:=Lib.hid (And.intro a1 (And.intro a2 a3))
 clear a1 a2 a3
 have hn:n=1 ∨ n=2 ∨ n=3 ∨ n=4:=by omega
 rcases hn with rfl | rfl | rfl | rfl
 ·go_enter Tryz.func115,Tryz.ntmps115
  go_wp2
  go_ret
  exact ⟨rfl,rfl⟩
 ·go_enter Tryz.func115,Tryz.ntmps115
  go_wp2
  go_ret
  exact ⟨za7 (by rw [H.out.1]; rfl),rfl⟩
 ·go_enter Tryz.func115,Tryz.ntmps115
  go_wp2
  go_ret
  exact ⟨za7 (by rw [H.out.2.1]; rfl),rfl⟩
 ·go_enter Tryz.func115,Tryz.ntmps115
  go_wp2
  go_ret
  exact ⟨za7 (by rw [H.out.2.2]; rfl),rfl⟩
def zbv (l:List UInt8) (at_:Int):Int × Int × Int :=
 if at_ < 0 ∨ (l.length:Int) ≤ at_ then (0,0,4) else match zch (l.drop at_.toNat) with
  | none => (0,0,7)
  | some (r,n) => ((r:Int),at_ + n,0)
def triV (x:Int × Int × Int):Value:=.tuple #[.int .i64 x.1,.int .i64 x.2.1,.int .i64 x.2.2]
theorem zfh {l:List UInt8} {a:Int} (h:a < 0 ∨ (l.length:Int) ≤ a):zbv l a=(0,0,4):=if_pos h
theorem zbB {l:List UInt8} {k:Nat} (h:k < l.length) (hd:zch (l.drop k)=none):zbv l k=(0,0,7):=by
 unfold zbv; rw [if_neg (by omega),Int.toNat_natCast,hd]
theorem zeJ {l:List UInt8} {k r n:Nat} (h:k < l.length) (hd:zch (l.drop k)=some (r,n)):zbv l k=((r:Int),(k:Int) + n,0):=by
 unfold zbv; rw [if_neg (by omega),Int.toNat_natCast,hd]
theorem zjM (s:ByteArray) (a:Int) (w:World) (h:a < 0 ∨ (s.size:Int) ≤ a) :
  Calls Tryz.prog 95 #[.string s,.int .i64 a] w fun e w' => e=.returned (triV (zbv s.data.toList a)) ∧ Qb w w':=by
 rw [zfh (by rw [zah]; exact h)]
 rcases h with h | h
 ·go_enter Tryz.func95,Tryz.ntmps95
  go_wp2_with fail
  go_ret3
  exact ⟨rfl,Qb.refl _⟩
 ·by_cases h0:a < 0
  ·go_enter Tryz.func95,Tryz.ntmps95
   go_wp2_with fail
   go_ret3
   exact ⟨rfl,Qb.refl _⟩
  ·go_enter Tryz.func95,Tryz.ntmps95
   go_wp2_with fail
   go_ret3
   exact ⟨rfl,Qb.refl _⟩
theorem zg9 (s:ByteArray) (k:Nat) (w:World) (hs:s.size ≤ 140737488351232) (hk:k < s.size) (hT:UTabs w) (h:zeR s[k]=0 ∨ s.size - k < zeR s[k]) :
  Calls Tryz.prog 95 #[.string s,.int .i64 k] w fun e w' => e=.returned (triV (zbv s.data.toList k)) ∧ Qb w w':=by
 have hd:zch (s.data.toList.drop k)=none:=by
  rw [zbe s k hk]
  exact zjF (by rw [List.length_drop,zah]; omega)
 rw [zbB (by rw [zah]; exact hk) hd]
 have hc:=s[k].toNat_lt
 have hcell:w.cell? ⟨1,s[k].toNat / 8,none⟩=some (.int .i64 (zeR s[k])):=by rw [← ziu]; exact hT.lens _ (by omega)
 clear hT hd
 by_cases h0:zeR s[k]=0
 ·rw [h0] at hcell
  clear h
  have hi:(s[k].toNat:Int) / 8 < 32:=by omega
  go_enter Tryz.func95,Tryz.ntmps95
  go_wp2_with fail
  go_ret3
  exact ⟨rfl,Qb.refl _⟩
 ·have h1:s.size - k < zeR s[k]:=by omega
  clear h
  generalize zeR s[k]=n at *
  have h2:((n:Int) == 0)=false:=by rw [beq_eq_false_iff_ne]; omega
  go_enter Tryz.func95,Tryz.ntmps95
  go_wp2_with fail
  go_ret3
  exact ⟨rfl,Qb.refl _⟩
theorem pow64 (i:Nat):256 * 64 ^ (i + 1)=64 * (256 * 64 ^ i):=by rw [Nat.pow_succ]; omega
theorem pow64_le {i:Nat} (h:i ≤ 3):256 * 64 ^ i ≤ 67108864:=by
 have:i=0 ∨ i=1 ∨ i=2 ∨ i=3:=by omega
 rcases this with rfl | rfl | rfl | rfl <;> decide
theorem zeU (s:ByteArray) (m i:Nat) (h:i < s.size) (hm:0 < m):(s.data.toList.drop i).take m=s[i] :: (s.data.toList.drop (i + 1)).take (m - 1):=by
 rw [zbe s i h,show m=(m - 1) + 1 from by omega,List.take_succ_cons,Nat.add_sub_cancel]
theorem zkL {n r:Nat} {c:UInt8} {t:List UInt8} (h:zcH c=false):zdw n (c :: t) r=none:=by rw [zbk,if_neg (by rw [h]; exact Bool.false_ne_true)]
theorem zjt {n r:Nat} {c:UInt8} {t:List UInt8} (h:zcH c=true):zdw n (c :: t) r=zdw n t (r * 64 + c.toNat % 64):=by
 rw [zbk,if_pos h]
 have:=(zca c).1 h
 rw [show c.toNat - 128=c.toNat % 64 from by omega]
theorem zhT (s:ByteArray) (k n:Nat) (w:World) (hs:s.size ≤ 140737488351232) (hk:k < s.size) (hT:UTabs w) (hn:zeR s[k]=n) (h1:1 ≤ n) (h4:n ≤ 4) (hl:k + n ≤ s.size) :
  Calls Tryz.prog 95 #[.string s,.int .i64 k] w fun e w' => e=.returned (triV (zbv s.data.toList k)) ∧ Qb w w':=by
 have hd:zch (s.data.toList.drop k)=zdw n ((s.data.toList.drop (k + 1)).take (n - 1)) (zbu s[k] n):=by
  rw [zbe s k hk,← hn]
  exact zmr (by omega) (by rw [List.length_drop,zah]; omega)
 have HD:=Lib.hid hd
 have hc:=s[k].toNat_lt
 have hcell:w.cell? ⟨1,s[k].toNat / 8,none⟩=some (.int .i64 n):=by rw [← hn,← ziu]; exact hT.lens _ (by omega)
 have hmost:w.cell? ⟨2,n - 1,none⟩=some (.int .i64 (mostT.getD (n - 1) 0)):=hT.most _ (by omega)
 have hf:zbu s[k] n < 256:=by
  unfold zbu; repeat' split
  all_goals omega
 clear hT hd hn
 have h2:((n:Int) == 0)=false:=by rw [beq_eq_false_iff_ne]; omega
 generalize hm:mostT.getD (n - 1) 0=mo at *
 have HM:=Lib.hid hm
 clear hm
 go_enter Tryz.func95,Tryz.ntmps95
 go_wp2_with (go_at_call 115; refine (zfT _ n h1 h4 _).mono ?_; rintro e w1 ⟨rfl,rfl⟩)
 go_loop [8,9,10,42] (fun r _ _ x => ∃ i q:Nat,i + 1 ≤ n ∧ x=.int .i64 i ∧ r=.int .i64 q ∧ q < 256 * 64 ^ i ∧ Hid (zch (s.data.toList.drop k)=zdw n ((s.data.toList.drop (k + 1 + i)).take (n - 1 - i)) q)) (fun _ _ _ x => n - (intOf x).toNat)
 case atStart => exact ⟨0,zbu s[k] n,by omega,rfl,rfl,by omega,HD⟩
 case round =>
  obtain ⟨i,q,hi,rfl,rfl,hq,HR⟩:=hrel
  have hp:=pow64_le (show i ≤ 3 by omega)
  have hq2:q < 67108864:=by omega
  by_cases hlt:i + 1 < n
  ·have hidx:k + 1 + i < s.size:=by omega
   have hcc:=s[k + 1 + i].toNat_lt
   have HS:=Lib.hid (zeU s (n - 1 - i) (k + 1 + i) hidx (by omega))
   have HP:=Lib.hid (pow64 i)
   have Hq:=Lib.hid hq
   clear hp hq
   rcases hco:zcH s[k + 1 + i] with _ | _
   ·have hne:((s[k + 1 + i].toNat:Int) / 64 != 2)=true:=by
     rw [bne_iff_ne]
     intro e
     have:=of_decide_eq_false hco
     omega
    have HN:Hid (zch (s.data.toList.drop k)=none):=Lib.hid (by rw [HR.out,HS.out,zkL hco])
    go_wp2_with fail
    go_ret3
    exact ⟨by rw [zbB (by rw [zah]; exact hk) HN.out]; rfl,Qb.refl _⟩
   ·have hne:((s[k + 1 + i].toNat:Int) / 64 != 2)=false:=by
     have:=(zca _).1 hco
     rw [bne_eq_false_iff_eq]
     omega
    have hand:bits .and .u8 (s[k + 1 + i].toNat:Int) 63=((s[k + 1 + i].toNat % 64:Nat):Int):=u8and63 ⟨s[k + 1 + i].toNat,hcc⟩
    have hor:=or64 q (s[k + 1 + i].toNat % 64) (by omega) (by omega)
    have HN:Hid (zch (s.data.toList.drop k)=zdw n ((s.data.toList.drop (k + 1 + (i + 1))).take (n - 1 - (i + 1))) (q * 64 + s[k + 1 + i].toNat % 64)):=Lib.hid (by
     rw [HR.out,HS.out,zjt hco,show n - 1 - i - 1=n - 1 - (i + 1) from by omega]; rfl)
    have HO:Hid (bits .or .i64 ((q:Int) * 64) ((s[k + 1 + i].toNat:Int) % 64)=((q * 64 + s[k + 1 + i].toNat % 64:Nat):Int)):=Lib.hid hor
    clear hco hor
    go_wp2_with fail
    go_round
    case rel =>
     refine ⟨i + 1,q * 64 + s[k + 1 + i].toNat % 64,by omega,by go_num,by rw [HO.out],?_,HN⟩
     rw [HP.out]
     have:=Hq.out
     generalize 256 * 64 ^ i=P at *
     omega
    case measure => simp [intOf]; omega
  ·obtain rfl:i=n - 1:=by omega
   have HE:Hid (zch (s.data.toList.drop k)=endU n q):=Lib.hid (by rw [HR.out,Nat.sub_self,List.take_zero,zcP])
   clear hp hq
   by_cases hle:(q:Int) ≤ mo
   ·have HN:Hid (zch (s.data.toList.drop k)=none):=Lib.hid (by
     rw [HE.out]; unfold endU; rw [HM.out,if_neg (fun x => by omega)])
    go_wp2_with fail
    go_ret3
    exact ⟨by rw [zbB (by rw [zah]; exact hk) HN.out]; rfl,Qb.refl _⟩
   ·rcases hcp:cpB (q:Int) with _ | _
    ·have HN:Hid (zch (s.data.toList.drop k)=none):=Lib.hid (by
      rw [HE.out]; unfold endU; rw [hcp,if_neg (fun x => by cases x.2)])
     go_wp2_with (go_at_call 116; refine (zaP _ _).mono ?_; rintro e w1 ⟨rfl,rfl⟩)
     go_ret3
     exact ⟨by rw [zbB (by rw [zah]; exact hk) HN.out]; rfl,Qb.refl _⟩
    ·have HN:Hid (zch (s.data.toList.drop k)=some (q,n)):=Lib.hid (by
      rw [HE.out]; unfold endU; rw [HM.out,if_pos ⟨by omega,hcp⟩])
     go_wp2_with (go_at_call 116; refine (zaP _ _).mono ?_; rintro e w1 ⟨rfl,rfl⟩)
     go_ret3
     exact ⟨by rw [zeJ (by rw [zah]; exact hk) HN.out]; rfl,Qb.refl _⟩
theorem zjN (s:ByteArray) (a:Int) (w:World) (hs:s.size ≤ 140737488351232) (hT:UTabs w) :
  Calls Tryz.prog 95 #[.string s,.int .i64 a] w fun e w' => e=.returned (triV (zbv s.data.toList a)) ∧ Qb w w':=by
 by_cases h:a < 0 ∨ (s.size:Int) ≤ a
 ·exact zjM s a w h
 ·obtain ⟨k,rfl⟩:=Int.eq_ofNat_of_zero_le (show 0 ≤ a by omega)
  have hk:k < s.size:=by omega
  by_cases h2:zeR s[k]=0 ∨ s.size - k < zeR s[k]
  ·exact zg9 s k w hs hk hT h2
  ·have h4:zeR s[k] ≤ 4:=by
    unfold zeR; repeat' split
    all_goals omega
   exact zhT s k _ w hs hk hT rfl (by omega) h4 (by omega)
end Go.Proofs.YthmdohgkmdkeeaaGreatDoor
namespace Go.Proofs.YthmdohgkmdkeeaaGreatDoor
open Go.RowKit
end Go.Proofs.YthmdohgkmdkeeaaGreatDoor
namespace Go.Proofs.YthmdohgkmdkeeaaGreatDoor
open Go.RowKit
theorem zmJ (q:Int) (h0:0 ≤ q) (h:q ≤ 4503599627370496):bits .and .i64 q 63=q % 64:=by
 obtain ⟨n,rfl⟩:=Int.eq_ofNat_of_zero_le h0
 exact zg6 n (by omega)
theorem zk6 (q:Int) (h0:0 ≤ q) (h:q < 64):bits .or .i64 128 q=128 + q:=by
 obtain ⟨n,rfl⟩:=Int.eq_ofNat_of_zero_le h0
 exact or128 n (by omega)
theorem zcQ (r:Int) (w:World) :
  Calls Tryz.prog 113 #[.int .i64 r] w fun e w' => e=.returned (resV (zee r)) ∧ Qb w w':=by
 rcases hp:cpB r with _ | _
 ·have he:zee r=(4,[]):=by unfold zee; rw [hp]; rfl
  rw [he]
  go_enter Tryz.func113,Tryz.ntmps113
  go_wp2_with (go_at_call 135; refine (zcq _ _).mono ?_; rintro e w1 ⟨rfl,rfl⟩)
  go_ret2
  exact ⟨rfl,Qb.refl _⟩
 ·obtain ⟨n,rfl,hn⟩:=zms hp
  have a0:=zmJ (n:Int) (by omega) (by omega)
  have a1:=zmJ ((n:Int) / 64) (by omega) (by omega)
  have a2:=zmJ ((n:Int) / 4096) (by omega) (by omega)
  have o0:=zk6 ((n:Int) % 64) (by omega) (by omega)
  have o1:=zk6 ((n:Int) / 64 % 64) (by omega) (by omega)
  have o2:=zk6 ((n:Int) / 4096 % 64) (by omega) (by omega)
  by_cases h1:n < 128
  ·rw [encV_1 hp h1]
   have hst:=zbQ w [(n:Int)] 1 rfl
   simp only [List.map_cons,List.map_nil] at hst
   go_enter Tryz.func113,Tryz.ntmps113
   go_wp2_with (go_at_call 135; refine (zcq _ _).mono ?_; rintro e w1 ⟨rfl,rfl⟩)
   go_ret2
   exact ⟨rfl,(Qb.refl _).alloc _⟩
  ·by_cases h2:n < 2048
   ·rw [encV_2 hp h1 h2]
    have hst:=zbQ w [192 + (n:Int) / 64,128 + (n:Int) % 64] 2 rfl
    simp only [List.map_cons,List.map_nil] at hst
    have ho:bits .or .i64 192 ((n:Int) / 64)=192 + (n:Int) / 64:=or192 (n / 64) (by omega)
    go_enter Tryz.func113,Tryz.ntmps113
    go_wp2_with (go_at_call 135; refine (zcq _ _).mono ?_; rintro e w1 ⟨rfl,rfl⟩)
    go_ret2
    exact ⟨rfl,(Qb.refl _).alloc _⟩
   ·by_cases h3:n < 65536
    ·rw [encV_3 hp h2 h3]
     have hst:=zbQ w [224 + (n:Int) / 4096,128 + (n:Int) / 64 % 64,128 + (n:Int) % 64] 3 rfl
     simp only [List.map_cons,List.map_nil] at hst
     have ho:bits .or .i64 224 ((n:Int) / 4096)=224 + (n:Int) / 4096:=or224 (n / 4096) (by omega)
     have hb3:decide ((n:Int) < 65536)=true:=decide_eq_true (by omega)
     have hb1:decide ((n:Int) < 128)=false:=decide_eq_false (by omega)
     have hb2:decide ((n:Int) < 2048)=false:=decide_eq_false (by omega)
     have H3:=Lib.hid h3
     have nb:(n:Int) / 4096 < 16:=by omega
     clear h1 h2 h3
     go_enter Tryz.func113,Tryz.ntmps113
     go_wp2_with (go_at_call 135; refine (zcq _ _).mono ?_; rintro e w1 ⟨rfl,rfl⟩)
     go_ret2
     exact ⟨rfl,(Qb.refl _).alloc _⟩
    ·rw [encV_4 hp h3]
     have hst:=zbQ w [240 + (n:Int) / 262144,128 + (n:Int) / 4096 % 64,128 + (n:Int) / 64 % 64,128 + (n:Int) % 64] 4 rfl
     simp only [List.map_cons,List.map_nil] at hst
     have ho:bits .or .i64 240 ((n:Int) / 262144)=240 + (n:Int) / 262144:=or240 (n / 262144) (by omega)
     have hb3:decide ((n:Int) < 65536)=false:=decide_eq_false (by omega)
     have nb:(n:Int) / 262144 < 8:=by omega
     have hb1:decide ((n:Int) < 128)=false:=decide_eq_false (by omega)
     have hb2:decide ((n:Int) < 2048)=false:=decide_eq_false (by omega)
     have H3:=Lib.hid h3
     clear h1 h2 h3
     go_enter Tryz.func113,Tryz.ntmps113
     go_wp2_with (go_at_call 135; refine (zcq _ _).mono ?_; rintro e w1 ⟨rfl,rfl⟩)
     go_ret2
     exact ⟨rfl,(Qb.refl _).alloc _⟩
def zed:List UInt8 → Nat → Nat
 | [],r => r
 | c :: t,r => zed t (r * 64 + c.toNat % 64)
def zd4:List UInt8 → Nat
 | [] => 0
 | c :: t => zed t (zbu c (t.length + 1))
theorem pow4 (i:Nat):4 * 64 ^ (i + 1)=64 * (4 * 64 ^ i):=by rw [Nat.pow_succ]; omega
theorem zhu {i:Nat} (h:i ≤ 4):4 * 64 ^ i ≤ 67108864:=by
 have:i=0 ∨ i=1 ∨ i=2 ∨ i=3 ∨ i=4:=by omega
 rcases this with rfl | rfl | rfl | rfl | rfl <;> decide
theorem zjo (s:ByteArray) (h1:1 ≤ s.size) (h4:s.size ≤ 4) (w:World) :
  Calls Tryz.prog 114 #[.string s] w fun e w' => e=.returned (.int .i64 (zd4 s.data.toList)) ∧ Qb w w':=by
 have hd:=zbe s 0 (by omega)
 rw [List.drop_zero] at hd
 have hv:zd4 s.data.toList=zed (s.data.toList.drop 1) (zbu s[0] s.size):=by
  conv => lhs; rw [hd]
  rw [zd4,List.length_drop,zah,show s.size - 1 + 1=s.size from by omega]
 have HV:=Lib.hid hv
 clear hd hv
 have hc:=s[0].toNat_lt
 have a1:bits .and .i64 (s[0].toNat:Int) 31=((s[0].toNat % 32:Nat):Int):=by rw [← and31]; exact zbj s[0].toNat 31 (by omega) (by omega)
 have a2:bits .and .i64 (s[0].toNat:Int) 15=((s[0].toNat % 16:Nat):Int):=by rw [← and15]; exact zbj s[0].toNat 15 (by omega) (by omega)
 have a3:bits .and .i64 (s[0].toNat:Int) 7=((s[0].toNat % 8:Nat):Int):=by rw [← and7]; exact zbj s[0].toNat 7 (by omega) (by omega)
 have H:=Lib.hid (And.intro a1 (And.intro a2 a3))
 clear a1 a2 a3
 have hn:s.size=1 ∨ s.size=2 ∨ s.size=3 ∨ s.size=4:=by omega
 rcases hn with hz | hz | hz | hz
 ·have HE:Hid (zd4 s.data.toList=s[0].toNat):=Lib.hid (by rw [HV.out,List.drop_of_length_le (by rw [zah]; omega),hz]; rfl)
  go_enter Tryz.func114,Tryz.ntmps114
  go_wp2_with fail
  go_ret
  exact ⟨za7 (by rw [HE.out]),Qb.refl _⟩
 ·have HE:Hid (zd4 s.data.toList=zed (s.data.toList.drop 1) (s[0].toNat % 32)):=Lib.hid (by rw [HV.out,hz]; rfl)
  have HA:Hid (bits .and .i64 (s[0].toNat:Int) 31=((s[0].toNat % 32:Nat):Int)):=Lib.hid H.out.1
  go_enter Tryz.func114,Tryz.ntmps114
  go_wp2_with fail
  go_quiet (fail)
  go_wp2_with fail
  rw [HA.out]
  go_loop [3,4] (fun r x => ∃ i q:Nat,1 ≤ i ∧ i ≤ s.size ∧ x=.int .i64 i ∧ r=.int .i64 q ∧ q < 4 * 64 ^ i ∧ Hid (zd4 s.data.toList=zed (s.data.toList.drop i) q)) (fun _ x => s.size - (intOf x).toNat)
  case atStart => exact ⟨1,s[0].toNat % 32,Nat.le_refl _,h1,rfl,rfl,by omega,HE⟩
  case round =>
   obtain ⟨i,q,hi1,hi,rfl,rfl,hq,HR⟩:=hrel
   have hp:=zhu (show i ≤ 4 by omega)
   have hq2:q < 67108864:=by omega
   have HP:=Lib.hid (pow4 i)
   have Hq:=Lib.hid hq
   clear hp hq
   by_cases hlt:i < s.size
   ·have hcc:=s[i].toNat_lt
    have HO:Hid (bits .or .i64 ((q:Int) * 64) (bits .and .i64 (s[i].toNat:Int) 63)=((q * 64 + s[i].toNat % 64:Nat):Int)):=Lib.hid (by rw [zg6 s[i].toNat (by omega)]; exact or64 q (s[i].toNat % 64) (by omega) (by omega))
    have HN:Hid (zd4 s.data.toList=zed (s.data.toList.drop (i + 1)) (q * 64 + s[i].toNat % 64)):=Lib.hid (by rw [HR.out,zbe s i hlt]; rfl)
    go_wp2_with fail
    go_round
    case rel =>
     refine ⟨i + 1,q * 64 + s[i].toNat % 64,by omega,by omega,by go_num,by rw [HO.out],?_,HN⟩
     rw [HP.out]
     have:=Hq.out
     generalize 4 * 64 ^ i=P at *
     omega
    case measure => simp [intOf]; omega
   ·have HN:Hid (zd4 s.data.toList=q):=Lib.hid (by rw [HR.out,List.drop_of_length_le (by rw [zah]; omega)]; rfl)
    go_wp2_with fail
    go_ret
    exact ⟨za7 (by rw [HN.out]),(Qb.refl _).drewN _⟩
 ·have HE:Hid (zd4 s.data.toList=zed (s.data.toList.drop 1) (s[0].toNat % 16)):=Lib.hid (by rw [HV.out,hz]; rfl)
  have HA:Hid (bits .and .i64 (s[0].toNat:Int) 15=((s[0].toNat % 16:Nat):Int)):=Lib.hid H.out.2.1
  go_enter Tryz.func114,Tryz.ntmps114
  go_wp2_with fail
  go_quiet (fail)
  go_wp2_with fail
  rw [HA.out]
  go_loop [3,4] (fun r x => ∃ i q:Nat,1 ≤ i ∧ i ≤ s.size ∧ x=.int .i64 i ∧ r=.int .i64 q ∧ q < 4 * 64 ^ i ∧ Hid (zd4 s.data.toList=zed (s.data.toList.drop i) q)) (fun _ x => s.size - (intOf x).toNat)
  case atStart => exact ⟨1,s[0].toNat % 16,Nat.le_refl _,h1,rfl,rfl,by omega,HE⟩
  case round =>
   obtain ⟨i,q,hi1,hi,rfl,rfl,hq,HR⟩:=hrel
   have hp:=zhu (show i ≤ 4 by omega)
   have hq2:q < 67108864:=by omega
   have HP:=Lib.hid (pow4 i)
   have Hq:=Lib.hid hq
   clear hp hq
   by_cases hlt:i < s.size
   ·have hcc:=s[i].toNat_lt
    have HO:Hid (bits .or .i64 ((q:Int) * 64) (bits .and .i64 (s[i].toNat:Int) 63)=((q * 64 + s[i].toNat % 64:Nat):Int)):=Lib.hid (by rw [zg6 s[i].toNat (by omega)]; exact or64 q (s[i].toNat % 64) (by omega) (by omega))
    have HN:Hid (zd4 s.data.toList=zed (s.data.toList.drop (i + 1)) (q * 64 + s[i].toNat % 64)):=Lib.hid (by rw [HR.out,zbe s i hlt]; rfl)
    go_wp2_with fail
    go_round
    case rel =>
     refine ⟨i + 1,q * 64 + s[i].toNat % 64,by omega,by omega,by go_num,by rw [HO.out],?_,HN⟩
     rw [HP.out]
     have:=Hq.out
     generalize 4 * 64 ^ i=P at *
     omega
    case measure => simp [intOf]; omega
   ·have HN:Hid (zd4 s.data.toList=q):=Lib.hid (by rw [HR.out,List.drop_of_length_le (by rw [zah]; omega)]; rfl)
    go_wp2_with fail
    go_ret
    exact ⟨za7 (by rw [HN.out]),(Qb.refl _).drewN _⟩
 ·have HE:Hid (zd4 s.data.toList=zed (s.data.toList.drop 1) (s[0].toNat % 8)):=Lib.hid (by rw [HV.out,hz]; rfl)
  have HA:Hid (bits .and .i64 (s[0].toNat:Int) 7=((s[0].toNat % 8:Nat):Int)):=Lib.hid H.out.2.2
  go_enter Tryz.func114,Tryz.ntmps114
  go_wp2_with fail
  go_quiet (fail)
  go_wp2_with fail
  rw [HA.out]
  go_loop [3,4] (fun r x => ∃ i q:Nat,1 ≤ i ∧ i ≤ s.size ∧ x=.int .i64 i ∧ r=.int .i64 q ∧ q < 4 * 64 ^ i ∧ Hid (zd4 s.data.toList=zed (s.data.toList.drop i) q)) (fun _ x => s.size - (intOf x).toNat)
  case atStart => exact ⟨1,s[0].toNat % 8,Nat.le_refl _,h1,rfl,rfl,by omega,HE⟩
  case round =>
   obtain ⟨i,q,hi1,hi,rfl,rfl,hq,HR⟩:=hrel
   have hp:=zhu (show i ≤ 4 by omega)
   have hq2:q < 67108864:=by omega
   have HP:=Lib.hid (pow4 i)
   have Hq:=Lib.hid hq
   clear hp hq
   by_cases hlt:i < s.size
   ·have hcc:=s[i].toNat_lt
    have HO:Hid (bits .or .i64 ((q:Int) * 64) (bits .and .i64 (s[i].toNat:Int) 63)=((q * 64 + s[i].toNat % 64:Nat):Int)):=Lib.hid (by rw [zg6 s[i].toNat (by omega)]; exact or64 q (s[i].toNat % 64) (by omega) (by omega))
    have HN:Hid (zd4 s.data.toList=zed (s.data.toList.drop (i + 1)) (q * 64 + s[i].toNat % 64)):=Lib.hid (by rw [HR.out,zbe s i hlt]; rfl)
    go_wp2_with fail
    go_round
    case rel =>
     refine ⟨i + 1,q * 64 + s[i].toNat % 64,by omega,by omega,by go_num,by rw [HO.out],?_,HN⟩
     rw [HP.out]
     have:=Hq.out
     generalize 4 * 64 ^ i=P at *
     omega
    case measure => simp [intOf]; omega
   ·have HN:Hid (zd4 s.data.toList=q):=Lib.hid (by rw [HR.out,List.drop_of_length_le (by rw [zah]; omega)]; rfl)
    go_wp2_with fail
    go_ret
    exact ⟨za7 (by rw [HN.out]),(Qb.refl _).drewN _⟩
end Go.Proofs.YthmdohgkmdkeeaaGreatDoor
namespace Go.Proofs.YthmdohgkmdkeeaaGreatDoor
open Go.RowKit
theorem valN_enc {r:Nat} (h:cpB (r:Int)=true):zd4 (zdk r)=r:=by
 have hr:=(of_decide_eq_true h).2.1
 unfold zdk
 by_cases h1:r < 128
 ·rw [if_pos h1]
  show (u8b r).toNat=r
  exact zaE (by omega)
 rw [if_neg h1]
 by_cases h2:r < 2048
 ·rw [if_pos h2]
  show (u8b (192 + r / 64)).toNat % 32 * 64 + (u8b (128 + r % 64)).toNat % 64=r
  rw [zaE (by omega),zaE (by omega)]; omega
 rw [if_neg h2]
 by_cases h3:r < 65536
 ·rw [if_pos h3]
  show ((u8b (224 + r / 4096)).toNat % 16 * 64 + (u8b (128 + r / 64 % 64)).toNat % 64) * 64 + (u8b (128 + r % 64)).toNat % 64=r
  rw [zaE (by omega),zaE (by omega),zaE (by omega)]; omega
 ·rw [if_neg h3]
  show (((u8b (240 + r / 262144)).toNat % 8 * 64 + (u8b (128 + r / 4096 % 64)).toNat % 64) * 64 + (u8b (128 + r / 64 % 64)).toNat % 64) * 64 + (u8b (128 + r % 64)).toNat % 64=r
  rw [zaE (by omega),zaE (by omega),zaE (by omega),zaE (by omega)]; omega
def zhD (l:List UInt8):Bool:=decide ((zee (zd4 l)).1=0) && ((zee (zd4 l)).2 == l)
theorem zlT {l:List UInt8} {n:Nat} (hn:n ≤ l.length) (h:zhD (l.take n)=true):zch l=some (zd4 (l.take n),n):=by
 unfold zhD at h
 rw [Bool.and_eq_true,decide_eq_true_eq,beq_iff_eq] at h
 rcases hc:cpB (zd4 (l.take n):Int) with _ | _
 ·have:=h.1
  unfold zee at this
  rw [hc,if_neg Bool.false_ne_true] at this
  exact absurd this (by decide)
 ·have h2:=h.2
  unfold zee at h2
  rw [hc,if_pos rfl,Int.toNat_natCast] at h2
  exact zhJ hc h2 hn
theorem isEnc_no {l:List UInt8} {n r:Nat} (h:zch l=some (r,n)):zhD (l.take n)=true:=by
 have hb:=zbF h
 have hv:zd4 (l.take n)=r:=by rw [← hb.2.1]; exact valN_enc hb.1
 unfold zhD zee
 rw [hv,hb.1,if_pos rfl,Int.toNat_natCast,hb.2.1]
 simp
theorem zgC (s:ByteArray) (a:Int) (w:World) (hs:s.size ≤ 140737488351232) :
  Calls Tryz.prog 92 #[.string s,.int .i64 a] w fun e w' => e=.returned (triV (zbv s.data.toList a)) ∧ Qb w w':=by
 by_cases h:a < 0 ∨ (s.size:Int) ≤ a
 ·rw [zfh (by rw [zah]; exact h)]
  by_cases h0:a < 0
  ·clear h
   go_enter Tryz.func92,Tryz.ntmps92
   go_wp2_with fail
   go_ret3
   exact ⟨rfl,Qb.refl _⟩
  ·have h1:(s.size:Int) ≤ a:=by omega
   clear h
   go_enter Tryz.func92,Tryz.ntmps92
   go_wp2_with fail
   go_ret3
   exact ⟨rfl,Qb.refl _⟩
 ·obtain ⟨k,rfl⟩:=Int.eq_ofNat_of_zero_le (show 0 ≤ a by omega)
  have hk:k < s.size:=by omega
  clear h
  have hb0:decide ((k:Int) < 0)=false:=decide_eq_false (by omega)
  have hbs:decide (s.size ≤ k)=false:=decide_eq_false (by omega)
  go_enter Tryz.func92,Tryz.ntmps92
  go_wp2_with fail
  go_loopw [7,8,9,10] (fun x _ _ _ wr => ∃ n:Nat,1 ≤ n ∧ n ≤ 5 ∧ x=.int .i64 n ∧ Hid (∀ r m,zch (s.data.toList.drop k)=some (r,m) → n ≤ m) ∧ Qb w wr) (fun x _ _ _ _ => 5 - (intOf x).toNat)
  case atStart => exact ⟨1,Nat.le_refl _,by omega,rfl,Lib.hid fun r m hd => (zbF hd).2.2.2.1,Qb.refl w⟩
  case round =>
   obtain ⟨n,h1,h5,rfl,HM,hq⟩:=hrel
   by_cases hlt:n ≤ 4 ∧ k + n ≤ s.size
   ·obtain ⟨h4,hle⟩:=hlt
    have hx:Hid ((s.extract k (k + n)).data.toList=(s.data.toList.drop k).take n):=Lib.hid (by rw [Lib.extract_data,Nat.add_sub_cancel_left])
    have hsz:=size_extract s k (k + n) hle
    have hz1:1 ≤ (s.extract k (k + n)).size:=by omega
    have hz4:(s.extract k (k + n)).size ≤ 4:=by omega
    clear hsz
    go_wp2_with fail
    refine (zjo _ hz1 hz4 _).mono ?_
    rintro e w1 ⟨rfl,hq1⟩
    rw [hx.out]
    rcases hi:zhD ((s.data.toList.drop k).take n) with _ | _
    ·have HN:Hid (∀ r m,zch (s.data.toList.drop k)=some (r,m) → n + 1 ≤ m):=Lib.hid fun r m hd => by
      have h6:=HM.out r m hd
      have h7:n ≠ m:=by
       rintro rfl
       rw [isEnc_no hd] at hi; cases hi
      omega
     obtain ⟨er,eb,hres,hor⟩:∃ er eb,resV (zee (zd4 ((s.data.toList.drop k).take n)))=.tuple #[.string eb,.int .i64 er] ∧ ((er == 0)=false ∨ (eb.toList == (s.extract k (k + n)).toList)=false):=by
      refine ⟨_,_,rfl,?_⟩
      unfold zhD at hi
      rw [Bool.and_eq_false_iff,decide_eq_false_iff_not,beq_eq_false_iff_ne] at hi
      rcases hi with hi | hi
      ·exact .inl (beq_eq_false_iff_ne.2 hi)
      ·refine .inr (beq_eq_false_iff_ne.2 fun e => hi ?_)
       rw [ByteArray.toList_eq,ByteArray.toList_eq,hx.out] at e
       exact e
     have HR:=Lib.hid hres
     clear hres hi
     generalize zd4 ((s.data.toList.drop k).take n)=q at *
     go_wp2_with fail
     refine (zcQ _ _).mono ?_
     rintro e w2 ⟨rfl,hq2⟩
     rw [HR.out]
     rcases hor with ho | ho
     ·go_wp2_with fail
      go_roundw
      case rel => exact ⟨n + 1,by omega,by omega,by go_num,HN,(hq.trans hq1).trans hq2⟩
      case measure => simp [intOf]; omega
     ·by_cases he:er=0
      ·subst he
       go_wp2_with fail
       go_roundw
       case rel => exact ⟨n + 1,by omega,by omega,by go_num,HN,(hq.trans hq1).trans hq2⟩
       case measure => simp [intOf]; omega
      ·have he1:(er == 0)=false:=beq_eq_false_iff_ne.2 he
       clear he
       go_wp2_with fail
       go_roundw
       case rel => exact ⟨n + 1,by omega,by omega,by go_num,HN,(hq.trans hq1).trans hq2⟩
       case measure => simp [intOf]; omega
    ·have HD:=Lib.hid (zlT (by rw [List.length_drop,zah]; omega) hi)
     have hres:resV (zee (zd4 ((s.data.toList.drop k).take n)))=.tuple #[.string (s.extract k (k + n)),.int .i64 0]:=by
      unfold zhD at hi
      rw [Bool.and_eq_true,decide_eq_true_eq,beq_iff_eq] at hi
      unfold resV
      rw [hi.1,hi.2,← hx.out]
     have HR:=Lib.hid hres
     clear hres hi
     generalize zd4 ((s.data.toList.drop k).take n)=q at *
     go_wp2_with fail
     refine (zcQ _ _).mono ?_
     rintro e w2 ⟨rfl,hq2⟩
     rw [HR.out]
     go_wp2_with fail
     go_ret3
     exact ⟨by rw [zeJ (by rw [zah]; exact hk) HD.out]; rfl,(hq.trans hq1).trans hq2⟩
   ·have HN:Hid (zch (s.data.toList.drop k)=none):=Lib.hid (by
     rcases hd:zch (s.data.toList.drop k) with _ | ⟨r,m⟩
     ·rfl
     ·have h6:=HM.out r m hd
      have hb:=zbF hd
      have hb1:=hb.2.2.1
      rw [List.length_drop,zah] at hb1
      omega)
    by_cases h4:n ≤ 4
    ·have hgt:s.size < k + n:=by omega
     clear hlt
     go_wp2_with fail
     go_ret3
     exact ⟨by rw [zbB (by rw [zah]; exact hk) HN.out]; rfl,hq⟩
    ·clear hlt
     go_wp2_with fail
     go_ret3
     exact ⟨by rw [zbB (by rw [zah]; exact hk) HN.out]; rfl,hq⟩
end Go.Proofs.YthmdohgkmdkeeaaGreatDoor
namespace Go.Proofs.YthmdohgkmdkeeaaGreatDoor
open Go.RowKit
end Go.Proofs.YthmdohgkmdkeeaaGreatDoor
namespace Go.Proofs.YthmdohgkmdkeeaaGreatDoor
open Go.RowKit Sx
class Utf (P:Program) [Tabs P]:Prop where
 ut:∀ w:World,Tabs.T (P:=P) w → UTabs w
section
variable [Tabs Tryz.prog] {objs:List OB} {K:List OB → AV → Prop}
theorem zj1 [Utf Tryz.prog] (r:Int) (hk:K objs (.tup [.s (zee r).2,.i .i64 (zee r).1])):zad Tryz.prog 98 [.i .i64 r] objs K :=
 convT (vs:=[.int .i64 r]) rfl rfl (fun w hT => zjL r w (Utf.ut w hT)) hk
theorem zge [Utf Tryz.prog] (s:List UInt8) (a:Int) (hs:s.length ≤ 140737488351232) (hk:K objs (.tup [.i .i64 (zbv s a).1,.i .i64 (zbv s a).2.1,.i .i64 (zbv s a).2.2])):zad Tryz.prog 95 [.s s,.i .i64 a] objs K :=
 convT (vs:=[.string (S s),.int .i64 a]) rfl rfl (fun w hT => zjN (S s) a w (by rw [zbL]; exact hs) (Utf.ut w hT)) hk
theorem zjp (s:List UInt8) (a:Int) (hs:s.length ≤ 140737488351232) (hk:K objs (.tup [.i .i64 (zbv s a).1,.i .i64 (zbv s a).2.1,.i .i64 (zbv s a).2.2])):zad Tryz.prog 92 [.s s,.i .i64 a] objs K :=
 conv (vs:=[.string (S s),.int .i64 a]) rfl rfl (fun w => zgC (S s) a w (by rw [zbL]; exact hs)) hk
end
end Go.Proofs.YthmdohgkmdkeeaaGreatDoor
namespace Go.Proofs.YthmdohgkmdkeeaaGreatDoor.Sx
open Go.RowKit
theorem zf6 {k:IntKind} {r:Int} {K K':Int → Prop} (hk:∀ v,K v → K' v) (h:arK k r K):arK k r K':=by
 cases k
 all_goals first | exact hk _ h | exact ⟨h.1,hk _ h.2⟩
theorem zmB {op:BinOp} {x y:AV} {K K':AV → Prop} (hk:∀ v,K v → K' v) (h:binK op x y K):binK op x y K':=by
 unfold binK at h ⊢
 split at h
 ·refine ⟨h.1,?_⟩
  replace h:=h.2
  cases op
  all_goals first
   | exact h.elim
   | exact zf6 (fun _ g => hk _ g) h
   | exact ⟨h.1,zf6 (fun _ g => hk _ g) h.2⟩
   | exact ⟨h.1,hk _ h.2⟩
   | exact hk _ h
 all_goals
  revert h
  cases op
  all_goals first
   | exact fun h => h.elim
   | exact fun h => ⟨h.1,hk _ h.2⟩
   | exact fun h => hk _ h
section
variable {P:Program} [Tabs P] {C:Cx}
theorem zef {so:SOp} {objs:List OB} {tm:List AV} {K K':List OB → AV → Prop} (hk:∀ o v,K o v → K' o v) (h:wpS P so objs tm K):wpS P so objs tm K':=by
 cases so
 all_goals simp only [wpS] at h ⊢
 all_goals try exact hk _ _ h
 all_goals try exact ⟨h.1,hk _ _ h.2⟩
 all_goals try exact zmB (fun _ g => hk _ _ g) h
 all_goals try exact h.mono hk
 all_goals try exact ⟨h.1,h.2.mono fun _ _ g => ⟨g.1,hk _ _ g.2⟩⟩
 all_goals
  revert h
  repeat' split
  all_goals first
   | exact fun h => h.elim
   | exact fun h => hk _ _ h
   | exact fun h => ⟨h.1,hk _ _ h.2⟩
   | exact fun h => zf6 (fun _ g => hk _ _ g) h
   | exact fun h => ⟨fun e => hk _ _ (h.1 e),fun e => hk _ _ (h.2 e)⟩
   | exact fun ⟨v,h1,h2⟩ => ⟨v,h1,hk _ _ h2⟩
   | exact fun ⟨h0,l,h1,h2⟩ => ⟨h0,l,h1,hk _ _ h2⟩
   | exact fun h => ⟨h.1,h.2.mono hk⟩
theorem zbM:∀ {l:List SO} {objs:List OB} {tm:List AV} {K K':List OB → List AV → Prop},(∀ o t,K o t → K' o t) → wpR P l objs tm K → wpR P l objs tm K'
 | [],_,_,_,_,hk,h => hk _ _ h
 | ⟨dst,op,none⟩ :: r,_,_,_,_,hk,h => zef (fun _ _ g => zbM hk g) h
 | ⟨dst,op,some (t,want)⟩ :: r,objs,tm,K,K',hk,h => by
  simp only [wpR] at h ⊢
  revert h
  split
  ·exact fun h => ⟨fun e => zef (fun _ _ g => zbM hk g) (h.1 e),fun e => zbM hk (h.2 e)⟩
  ·exact fun h => zbM hk h
  ·exact fun h => h.elim
theorem zcx:∀ {l:List SO} {objs:List OB} {tm:List AV} {K K':List OB → List AV → Prop},(∀ o t,K o t → K' o t) → wpD P l objs tm K → wpD P l objs tm K'
 | [],_,_,_,_,hk,h => hk _ _ h
 | ⟨dst,op,none⟩ :: r,_,_,_,_,hk,h => by
  simp only [wpD] at h ⊢
  revert h
  split
  ·exact fun ⟨v,h1,h2⟩ => ⟨v,h1,zcx hk h2⟩
  ·exact fun h => zef (fun _ _ g => zcx hk g) h
 | ⟨dst,op,some (t,want)⟩ :: r,objs,tm,K,K',hk,h => by
  simp only [wpD] at h ⊢
  revert h
  split
  ·refine fun h => ⟨fun e => ?_,fun e => zcx hk (h.2 e)⟩
   have h1:=h.1 e
   revert h1
   split
   ·exact fun ⟨v,h1,h2⟩ => ⟨v,h1,zcx hk h2⟩
   ·exact fun h => zef (fun _ _ g => zcx hk g) h
  ·exact fun h => zcx hk h
  ·exact fun h => h.elim
theorem zjl {N N':List OB → List AV → Prop} {K K':zaO} (hn:∀ o t,N o t → N' o t) (hk:∀ e o t,K e o t → K' e o t):∀ e o t,zeb N K e o t → zeb N' K' e o t:=by
 intro e o t h
 cases e <;> first | exact hn _ _ h | exact hk _ _ _ h
theorem zmA {id:Nat} {K K':zaO} (hk:∀ e o t,K e o t → K' e o t):∀ e o t,blkK id K e o t → blkK id K' e o t:=by
 intro e o t h
 cases e
 all_goals try exact hk _ _ _ h
 rename_i i
 unfold blkK at h ⊢
 simp only at h ⊢
 split at h
 ·rename_i g; rw [if_pos g]; exact hk _ _ _ h
 ·rename_i g; rw [if_neg g]; exact hk _ _ _ h
theorem zc0:∀ (c:SCode) {K K':zaO} {objs:List OB} {tm:List AV},(∀ e o t,K e o t → K' e o t) → wpC P C c K objs tm → wpC P C c K' objs tm
 | .skip,_,_,_,_,hk,h => hk _ _ _ h
 | .reg l,_,_,_,_,hk,h => zbM (fun _ _ g => hk _ _ _ g) h
 | .drw l k ap,_,_,_,_,hk,h => zcx (fun _ _ g => ⟨g.1,zbM (fun _ _ g => hk _ _ _ g) g.2⟩) h
 | .crg pre cl post,_,_,_,_,hk,h => zbM (fun _ _ g => zbM (fun _ _ g => ⟨g.1,zbM (fun _ _ g => hk _ _ _ g) g.2⟩) g) h
 | .seq x y,_,_,_,_,hk,h => zc0 x (zjl (fun _ _ g => zc0 y hk g) hk) h
 | .cond c x y,_,_,_,_,hk,h => by
  simp only [wpC] at h ⊢
  revert h
  split
  ·exact fun h => ⟨fun e => zc0 x hk (h.1 e),fun e => zc0 y hk (h.2 e)⟩
  ·exact fun h => h.elim
 | .blk id c,_,_,_,_,hk,h => zc0 c (zmA hk) h
 | .loop c,_,_,_,_,hk,h => fun c hc => WP.mono (fun e o t g => by cases e <;> first | exact hk _ _ _ g | exact g) (h c hc)
 | .exit id,_,_,_,_,hk,h => hk _ _ _ h
 | .ret,_,_,_,_,hk,h => hk _ _ _ h
 | .dead,_,_,_,_,hk,h => h.elim
def cutF (P:Program) [Tabs P] (C:Cx) (J:List OB → List AV → Prop) (k:List IT) (F:zaO):zaO:=zeb J (zcH P C F k)
variable {F:zaO} {k:List IT} {objs:List OB} {tm:List AV}
theorem zaa (J:List OB → List AV → Prop):cutF P C J k F .normal objs tm=J objs tm:=Eq.trans rfl rfl
theorem zaU (J:List OB → List AV → Prop) (id:Nat):cutF P C J k F (.exit id) objs tm=xit P C id k objs tm F:=Eq.trans rfl rfl
theorem zaz {x:SCode} (J:List OB → List AV → Prop) (h:run P C [.code x] objs tm (cutF P C J k F)) (hJ:∀ o t,J o t → run P C k o t F):run P C (.code x :: k) objs tm F :=
 zc0 x (fun e o t g => by
  cases e
  ·exact hJ _ _ g
  all_goals exact g) h
end
end Go.Proofs.YthmdohgkmdkeeaaGreatDoor.Sx
namespace Go.Proofs.YthmdohgkmdkeeaaGreatDoor.Sx
open Go.RowKit
section
variable {P:Program} [Tabs P] {C:Cx} {F:zaO} {k:List IT} {objs:List OB} {tm:List AV}
theorem zab {x y:SCode} (h:∀ Y,Y=y → run P C (.code x :: .code Y :: k) objs tm F):run P C (.code (.seq x y) :: k) objs tm F:=h y rfl
theorem zbO (J:List AV → Prop) (h:J tm) (hk:∀ t,J t → run P C k objs t F):run P C k objs tm F:=hk tm h
end
end Go.Proofs.YthmdohgkmdkeeaaGreatDoor.Sx
namespace Go.Proofs.YthmdohgkmdkeeaaGreatDoor
open Nat renaming reduceAdd → z6, reduceSub → z7, reduceLeDiff → z8, reduceLT → j4, reduceMul → j5, reduceEqDiff → j6
open Int renaming reduceToNat → j7, reduceAdd → j8, reduceSub → j9, reduceMul → x0, reduceNeg → x3, reduceLT → x4, reduceLE → x5, reduceEq → x6, reduceNe → x7
open Go.RowKit Sx
theorem iv {k:IntKind} {x y:Int} (h:x=y):some (AV.i k x)=some (AV.i k y):=by rw [h]
theorem zkm (s:List UInt8) (i:Nat) (h:i < s.length):zaT (s.drop i)=if zai s[i]=true then zaT (s.drop (i + 1)) + 1 else 0:=by
 rw [List.drop_eq_getElem_cons h,zaT]
theorem zkl (s:List UInt8):zaT (s.drop s.length)=0:=by rw [List.drop_length]; rfl
theorem get_some {s:List UInt8} {i:Nat} (h:i < s.length) {c:UInt8}:(s[i]? = some c) ↔ s[i]=c:=by
 rw [List.getElem?_eq_getElem h,Option.some.injEq]
theorem zbg {s:List UInt8} {i:Nat} (h:¬ i < s.length) {c:UInt8}:¬ s[i]? = some c:=by
 rw [List.getElem?_eq_none (by omega)]; simp
theorem zbH {c:UInt8} {k:Nat} (hk:k < 256):(((c.toNat:Nat):Int)=((k:Nat):Int)) ↔ c=UInt8.ofNat k:=by
 constructor
 ·intro h
  have h2:c.toNat=k:=by omega
  rw [← h2]; simp
 ·rintro rfl
  rw [UInt8.toNat_ofNat']; omega
theorem zdn {s:List UInt8} {i:Nat} (h:i < s.length) (k:Nat) (hk:k < 256):s[i]? = some (UInt8.ofNat k) ↔ ((s[i].toNat:Nat):Int)=((k:Nat):Int):=by
 rw [get_some h]
 exact (zbH hk).symm
theorem zcg (s:List UInt8) (a i:Nat):(s.drop a)[i]? = s[a + i]?:=List.getElem?_drop
theorem zfY (s:List UInt8) (a i:Nat):(s.drop a).drop i=s.drop (a + i):=List.drop_drop
section
variable [Tabs Tryz.prog] {objs:List OB} {K:List OB → AV → Prop}
theorem zdm (s:List UInt8) (a:Nat) (ha:a ≤ s.length) (hs:s.length ≤ 9000000000000000000) (hk:K objs (.i .i64 ((a + zaT (s.drop a):Nat):Int))):zad Tryz.prog 82 [.s s,.i .i64 (a:Nat)] objs K:=by
 refine zbs is_token_digitsEnd rfl fun C _ => ?_
 simp only [c_token_digitsEnd,sxZ,z6,z7,z8,j4,j5,j6,j7,j8,j9,x0,x3,x4,x5,x6,x7,reduceCtorEq,↓reduceIte]
 refine za6 (fun n objs tm => ∃ i:Nat,i ≤ s.length ∧ n=s.length - i ∧ objs=[] ∧ a + zaT (s.drop a)=i + zaT (s.drop i) ∧ tm.length=18 ∧ tm[0]? = some (.s s) ∧ tm[1]? = some (.i .i64 i)) (s.length - a) ⟨a,ha,rfl,rfl,rfl,rfl,rfl,rfl⟩ ?_
 rintro n _ tm ⟨i,hi,rfl,rfl,hr,hlen,t0,t1⟩
 by_cases hlt:(i:Int) < s.length
 ·have hlt':i < s.length:=by omega
  have hg:=zas hlt'
  have hrn:=zkm s i hlt'
  simp only [sxZ,z6,z7,z8,j4,j5,j6,j7,j8,j9,x0,x3,x4,x5,x6,x7,reduceCtorEq,↓reduceIte,List.getElem?_set,hlen,t0,t1,hlt]
  refine ⟨by omega,?_⟩
  rw [hg]
  generalize s[i]=c at *
  refine zak (zjh c ?_)
  by_cases hd:zai c=true
  ·rw [if_pos hd] at hrn
   simp only [hd,sxZ,z6,z7,z8,j4,j5,j6,j7,j8,j9,x0,x3,x4,x5,x6,x7,reduceCtorEq,↓reduceIte,List.getElem?_set,hlen,t0,t1]
   exact ⟨⟨by omega,by omega⟩,s.length - (i + 1),by omega,i + 1,by omega,rfl,by omega,rfl⟩
  ·rw [if_neg hd] at hrn
   simp only [Bool.not_eq_true] at hd
   simp only [hd,sxZ,z6,z7,z8,j4,j5,j6,j7,j8,j9,x0,x3,x4,x5,x6,x7,reduceCtorEq,↓reduceIte,List.getElem?_set,hlen,t0,t1]
   rw [hr,hrn] at hk
   exact hk
 ·obtain rfl:i=s.length:=by omega
  simp only [sxZ,z6,z7,z8,j4,j5,j6,j7,j8,j9,x0,x3,x4,x5,x6,x7,reduceCtorEq,↓reduceIte,List.getElem?_set,hlen,t0,t1,hlt]
  rw [hr,zkl] at hk
  exact hk
theorem zlS (c:UInt8) (hk:K objs (.b (zcR c))):zad Tryz.prog 33 [.i .u8 c.toNat] objs K:=by
 refine zbs is_token_isSpace rfl fun C _ => ?_
 have h32:=zbH (c:=c) (k:=32) (by decide)
 have h9:=zbH (c:=c) (k:=9) (by decide)
 have h10:=zbH (c:=c) (k:=10) (by decide)
 have h13:=zbH (c:=c) (k:=13) (by decide)
 have hw:zcR c=decide (c=32 ∨ c=9 ∨ c=10 ∨ c=13):=by
  have:∀ n:Fin 256,zcR (UInt8.ofNat n.val)=decide (UInt8.ofNat n.val=32 ∨ UInt8.ofNat n.val=9 ∨ UInt8.ofNat n.val=10 ∨ UInt8.ofNat n.val=13):=by decide +kernel
  simpa using this ⟨c.toNat,c.toNat_lt⟩
 rw [hw] at hk
 by_cases c1:((c.toNat:Nat):Int)=32
 ·rw [decide_eq_true (by have:=h32.1 c1; simp [this])] at hk
  simp only [c_token_isSpace,c1,sxZ,z6,z7,z8,j4,j5,j6,j7,j8,j9,x0,x3,x4,x5,x6,x7,reduceCtorEq,↓reduceIte]; exact hk
 by_cases c2:((c.toNat:Nat):Int)=9
 ·rw [decide_eq_true (by have:=h9.1 c2; simp [this])] at hk
  simp only [c_token_isSpace,c1,c2,sxZ,z6,z7,z8,j4,j5,j6,j7,j8,j9,x0,x3,x4,x5,x6,x7,reduceCtorEq,↓reduceIte]; exact hk
 by_cases c3:((c.toNat:Nat):Int)=10
 ·rw [decide_eq_true (by have:=h10.1 c3; simp [this])] at hk
  simp only [c_token_isSpace,c1,c2,c3,sxZ,z6,z7,z8,j4,j5,j6,j7,j8,j9,x0,x3,x4,x5,x6,x7,reduceCtorEq,↓reduceIte]; exact hk
 by_cases c4:((c.toNat:Nat):Int)=13
 ·rw [decide_eq_true (by have:=h13.1 c4; simp [this])] at hk
  simp only [c_token_isSpace,c1,c2,c3,c4,sxZ,z6,z7,z8,j4,j5,j6,j7,j8,j9,x0,x3,x4,x5,x6,x7,reduceCtorEq,↓reduceIte]; exact hk
 rw [decide_eq_false (by
  rintro (h | h | h | h)
  ·exact c1 (h32.2 h)
  ·exact c2 (h9.2 h)
  ·exact c3 (h10.2 h)
  ·exact c4 (h13.2 h))] at hk
 simp only [c_token_isSpace,c1,c2,c3,c4,sxZ,z6,z7,z8,j4,j5,j6,j7,j8,j9,x0,x3,x4,x5,x6,x7,reduceCtorEq,↓reduceIte]; exact hk
end
section
variable [Tabs Tryz.prog] {objs:List OB} {K:List OB → AV → Prop}
set_option maxHeartbeats 4000000 in
theorem zdf (s:List UInt8) (a:Nat) (ha:a ≤ s.length) (hs:s.length ≤ 9000000000000000000) (hk:K objs (.i .i64 ((a + zda (s.drop a):Nat):Int))):zad Tryz.prog 58 [.s s,.i .i64 (a:Nat)] objs K:=by
 refine zbs is_token_numberEnd rfl fun C _ => ?_
 rw [c_token_numberEnd]
 refine zab fun Y1 hY1 => ?_
 simp only [sxZ,z6,z7,z8,j4,j5,j6,j7,j8,j9,x0,x3,x4,x5,x6,x7,reduceCtorEq,↓reduceIte]
 subst hY1
 refine zab fun Y1 hY1 => ?_
 simp only [sxZ,z6,z7,z8,j4,j5,j6,j7,j8,j9,x0,x3,x4,x5,x6,x7,reduceCtorEq,↓reduceIte]
 subst hY1
 refine zab fun Y1 hY1 => ?_
 refine zaz (fun o t => o=[] ∧ t.length=99 ∧ t[0]? = some (.s s) ∧ t[1]? = some (.i .i64 (a:Nat)) ∧ t[5]? = some (.i .i64 ((a + zbd (s.drop a):Nat):Int))) ?_ ?_
 ·unfold zbd
  rw [zcg,Nat.add_zero]
  by_cases c1:(a:Int) < s.length
  ·have c1':a < s.length:=by omega
   have hg:=zas c1'
   have h45:s[a]? = some 45 ↔ ((s[a].toNat:Nat):Int)=45:=zdn c1' 45 (by decide)
   by_cases c2:((s[a].toNat:Nat):Int)=45
   ·rw [if_pos (h45.2 c2)]
    simp only [c1,hg,c2,zaa,sxZ,z6,z7,z8,j4,j5,j6,j7,j8,j9,x0,x3,x4,x5,x6,x7,reduceCtorEq,↓reduceIte]
    and_intros <;> first | omega | exact iv (by omega) | rfl | assumption
   ·rw [if_neg (fun h => c2 (h45.1 h))]
    simp only [c1,hg,c2,zaa,sxZ,z6,z7,z8,j4,j5,j6,j7,j8,j9,x0,x3,x4,x5,x6,x7,reduceCtorEq,↓reduceIte]
    exact ⟨by omega,rfl⟩
  ·rw [if_neg (zbg (by omega))]
   simp only [c1,zaa,sxZ,z6,z7,z8,j4,j5,j6,j7,j8,j9,x0,x3,x4,x5,x6,x7,reduceCtorEq,↓reduceIte]
   rfl
 rintro _ tm ⟨rfl,hlen,t0,t1,t5⟩
 subst hY1
 have hsg:a + zbd (s.drop a) ≤ s.length:=by
  unfold zbd
  split
  ·rename_i h
   have:=(List.getElem?_eq_some_iff.1 h).1
   rw [List.length_drop] at this; omega
  ·omega
 refine zab fun Y1 hY1 => ?_
 simp only [sxZ,z6,z7,z8,j4,j5,j6,j7,j8,j9,x0,x3,x4,x5,x6,x7,reduceCtorEq,↓reduceIte,List.getElem?_set,hlen,t0,t1,t5]
 refine zak (zdm s _ hsg hs ?_)
 simp only [sxZ,z6,z7,z8,j4,j5,j6,j7,j8,j9,x0,x3,x4,x5,x6,x7,reduceCtorEq,↓reduceIte,List.getElem?_set,hlen,t0,t1,t5]
 subst hY1
 refine zab fun Y1 hY1 => ?_
 unfold zda at hk
 rw [zfY] at hk
 have hw:zaI (s.drop a)=if s[a + zbd (s.drop a)]? = some 48 then zbd (s.drop a) + 1 else zbd (s.drop a) + zaT (s.drop (a + zbd (s.drop a))):=by unfold zaI; rw [zcg,zfY]
 have hrl:0 < zaT (s.drop (a + zbd (s.drop a))) → a + zbd (s.drop a) + zaT (s.drop (a + zbd (s.drop a))) ≤ s.length:=zaR s _
 generalize zbd (s.drop a)=g at *
 by_cases c0:zaT (s.drop (a + g))=0
 ·rw [if_pos c0] at hk
  simp only [c0,Nat.add_zero,sxZ,z6,z7,z8,j4,j5,j6,j7,j8,j9,x0,x3,x4,x5,x6,x7,reduceCtorEq,↓reduceIte,List.getElem?_set,hlen,t0,t1,t5]
  exact hk
 rw [if_neg c0] at hk
 have c0':¬ ((a + g + zaT (s.drop (a + g)):Nat):Int)=((a + g:Nat):Int):=by omega
 simp only [c0',sxZ,z6,z7,z8,j4,j5,j6,j7,j8,j9,x0,x3,x4,x5,x6,x7,reduceCtorEq,↓reduceIte,List.getElem?_set,hlen,t0,t1,t5]
 subst hY1
 refine zab fun Y1 hY1 => ?_
 refine zaz (fun o t => o=[] ∧ t.length=99 ∧ t[0]? = some (.s s) ∧ t[6]? = some (.i .i64 ((a + zaI (s.drop a):Nat):Int))) ?_ ?_
 ·have c1':a + g < s.length:=by have:=hrl (by omega); omega
  have hg:=zas c1'
  have h48:s[a + g]? = some 48 ↔ ((s[a + g].toNat:Nat):Int)=48:=zdn c1' 48 (by decide)
  rw [hw]
  by_cases c2:((s[a + g].toNat:Nat):Int)=48
  ·rw [if_pos (h48.2 c2)]
   simp only [hg,c2,zaa,sxZ,z6,z7,z8,j4,j5,j6,j7,j8,j9,x0,x3,x4,x5,x6,x7,reduceCtorEq,↓reduceIte,List.getElem?_set,hlen,t0,t1,t5]
   and_intros <;> first | omega | exact iv (by omega) | rfl | assumption
  ·rw [if_neg (fun h => c2 (h48.1 h))]
   simp only [hg,c2,zaa,sxZ,z6,z7,z8,j4,j5,j6,j7,j8,j9,x0,x3,x4,x5,x6,x7,reduceCtorEq,↓reduceIte,List.getElem?_set,hlen,t0,t1,t5]
   and_intros <;> first | omega | exact iv (by omega) | rfl | assumption
 rintro _ tm ⟨rfl,hlen,t0,t6⟩
 subst hY1
 refine zab fun Y1 hY1 => ?_
 have hwl:a + zaI (s.drop a) ≤ s.length:=by
  rw [hw]
  have:=hrl (by omega)
  split <;> omega
 have hf:zb3 (s.drop a) (zaI (s.drop a))=if s[a + zaI (s.drop a)]? = some 46 ∧ 0 < zaT (s.drop (a + zaI (s.drop a) + 1)) then zaI (s.drop a) + 1 + zaT (s.drop (a + zaI (s.drop a) + 1)) else zaI (s.drop a):=by unfold zb3; rw [zcg,zfY,Nat.add_assoc a]
 generalize zaI (s.drop a)=w at *
 clear hw hrl
 refine zaz (fun o t => o=[] ∧ t.length=99 ∧ t[0]? = some (.s s) ∧ t[6]? = some (.i .i64 ((a + zb3 (s.drop a) w:Nat):Int))) ?_ ?_
 ·rw [hf]
  by_cases c1:((a + w:Nat):Int) < s.length
  ·have c1':a + w < s.length:=by omega
   have hg:=zas c1'
   have h46:s[a + w]? = some 46 ↔ ((s[a + w].toNat:Nat):Int)=46:=zdn c1' 46 (by decide)
   by_cases c2:((s[a + w].toNat:Nat):Int)=46
   ·simp only [c1,hg,c2,zaa,sxZ,z6,z7,z8,j4,j5,j6,j7,j8,j9,x0,x3,x4,x5,x6,x7,reduceCtorEq,↓reduceIte,List.getElem?_set,hlen,t0,t6]
    refine ⟨by omega,⟨by omega,by omega⟩,?_⟩
    refine zak (zdm s (a + w + 1) (by omega) hs ?_)
    have hr:=zaR s (a + w + 1)
    generalize zaT (s.drop (a + w + 1))=r at *
    by_cases c3:0 < r
    ·rw [if_pos ⟨h46.2 c2,c3⟩]
     have c3':((a + w:Nat):Int) + 1 < ((a + w + 1 + r:Nat):Int):=by omega
     simp only [c3',zaa,sxZ,z6,z7,z8,j4,j5,j6,j7,j8,j9,x0,x3,x4,x5,x6,x7,reduceCtorEq,↓reduceIte,List.getElem?_set,hlen,t0,t6]
     and_intros <;> first | omega | exact iv (by omega) | rfl | assumption
    ·rw [if_neg (fun h => c3 h.2)]
     have c3':¬ ((a + w:Nat):Int) + 1 < ((a + w + 1 + r:Nat):Int):=by omega
     simp only [c3',zaa,sxZ,z6,z7,z8,j4,j5,j6,j7,j8,j9,x0,x3,x4,x5,x6,x7,reduceCtorEq,↓reduceIte,List.getElem?_set,hlen,t0,t6]
     and_intros <;> first | omega | exact iv (by omega) | rfl | assumption
   ·rw [if_neg (fun h => c2 (h46.1 h.1))]
    simp only [c1,hg,c2,zaa,sxZ,z6,z7,z8,j4,j5,j6,j7,j8,j9,x0,x3,x4,x5,x6,x7,reduceCtorEq,↓reduceIte,List.getElem?_set,hlen,t0,t6]
    and_intros <;> first | omega | exact iv (by omega) | rfl | assumption
  ·rw [if_neg (fun h => zbg (by omega) h.1)]
   simp only [c1,zaa,sxZ,z6,z7,z8,j4,j5,j6,j7,j8,j9,x0,x3,x4,x5,x6,x7,reduceCtorEq,↓reduceIte,List.getElem?_set,hlen,t0,t6]
 rintro _ tm ⟨rfl,hlen,t0,t6⟩
 subst hY1
 refine zab fun Y1 hY1 => ?_
 have hfl:a + zb3 (s.drop a) w ≤ s.length:=by
  rw [hf]
  split
  ·rename_i h
   have:=zaR s (a + w + 1) h.2
   omega
  ·exact hwl
 generalize zb3 (s.drop a) w=f at *
 clear hf
 have hx:zaY (s.drop a) f=if s[a + f + 1]? = some 43 ∨ s[a + f + 1]? = some 45 then f + 2 else f + 1:=by unfold zaY; rw [zcg,Nat.add_assoc a]
 have he:zjP (s.drop a) f=if (s[a + f]? = some 101 ∨ s[a + f]? = some 69) ∧ 0 < zaT (s.drop (a + zaY (s.drop a) f)) then zaY (s.drop a) f + zaT (s.drop (a + zaY (s.drop a) f)) else f:=by unfold zjP; rw [zcg,zfY]
 refine zaz (fun o t => o=[] ∧ t.length=99 ∧ t[6]? = some (.i .i64 ((a + zjP (s.drop a) f:Nat):Int))) ?_ ?_
 ·refine zab fun Y2 hY2 => ?_
  refine zaz (fun o t => o=[] ∧ t.length=99 ∧ t[0]? = some (.s s) ∧ t[6]? = some (.i .i64 ((a + f:Nat):Int)) ∧ t[70]? = some (.b (decide (s[a + f]? = some 101 ∨ s[a + f]? = some 69)))) ?_ ?_
  ·by_cases c1:((a + f:Nat):Int) < s.length
   ·have c1':a + f < s.length:=by omega
    have hg:=zas c1'
    have h101:s[a + f]? = some 101 ↔ ((s[a + f].toNat:Nat):Int)=101:=zdn c1' 101 (by decide)
    have h69:s[a + f]? = some 69 ↔ ((s[a + f].toNat:Nat):Int)=69:=zdn c1' 69 (by decide)
    by_cases c2:((s[a + f].toNat:Nat):Int)=101
    ·have hE:s[a + f]? = some 101 ∨ s[a + f]? = some 69:=.inl (h101.2 c2)
     simp only [c1,hg,c2,hE,zaa,sxZ,z6,z7,z8,j4,j5,j6,j7,j8,j9,x0,x3,x4,x5,x6,x7,reduceCtorEq,↓reduceIte,List.getElem?_set,hlen,t0,t6]
     and_intros <;> first | omega | exact iv (by omega) | rfl | assumption
    ·by_cases c3:((s[a + f].toNat:Nat):Int)=69
     ·have hE:s[a + f]? = some 101 ∨ s[a + f]? = some 69:=.inr (h69.2 c3)
      simp only [c1,hg,c2,c3,hE,zaa,sxZ,z6,z7,z8,j4,j5,j6,j7,j8,j9,x0,x3,x4,x5,x6,x7,reduceCtorEq,↓reduceIte,List.getElem?_set,hlen,t0,t6]
      and_intros <;> first | omega | exact iv (by omega) | rfl | assumption
     ·have hE:¬ (s[a + f]? = some 101 ∨ s[a + f]? = some 69):=fun h => h.elim (fun h => c2 (h101.1 h)) (fun h => c3 (h69.1 h))
      simp only [c1,hg,c2,c3,hE,zaa,sxZ,z6,z7,z8,j4,j5,j6,j7,j8,j9,x0,x3,x4,x5,x6,x7,reduceCtorEq,↓reduceIte,List.getElem?_set,hlen,t0,t6]
      and_intros <;> first | omega | exact iv (by omega) | rfl | assumption
   ·have hE:¬ (s[a + f]? = some 101 ∨ s[a + f]? = some 69):=fun h => h.elim (zbg (by omega)) (zbg (by omega))
    simp only [c1,hE,zaa,sxZ,z6,z7,z8,j4,j5,j6,j7,j8,j9,x0,x3,x4,x5,x6,x7,reduceCtorEq,↓reduceIte,List.getElem?_set,hlen,t0,t6]
  rintro _ tm ⟨rfl,hlen,t0,t6,t70⟩
  subst hY2
  simp only [sxZ,z6,z7,z8,j4,j5,j6,j7,j8,j9,x0,x3,x4,x5,x6,x7,reduceCtorEq,↓reduceIte,List.getElem?_set,hlen,t70]
  refine kC_split (fun hE => ?_) (fun hE => ?_)
  ·have hE:=of_decide_eq_true hE
   have c1':a + f < s.length:=by
    rcases hE with h | h
    all_goals exact (List.getElem?_eq_some_iff.1 h).1
   refine zab fun Y3 hY3 => ?_
   simp only [sxZ,z6,z7,z8,j4,j5,j6,j7,j8,j9,x0,x3,x4,x5,x6,x7,reduceCtorEq,↓reduceIte,List.getElem?_set,hlen,t0,t6]
   refine ⟨by omega,?_⟩
   subst hY3
   refine zab fun Y3 hY3 => ?_
   refine zaz (fun o t => o=[] ∧ t.length=99 ∧ t[0]? = some (.s s) ∧ t[6]? = some (.i .i64 ((a + f:Nat):Int)) ∧ t[8]? = some (.i .i64 ((a + zaY (s.drop a) f:Nat):Int))) ?_ ?_
   ·rw [hx]
    by_cases d1:((a + f:Nat):Int) + 1 < s.length
    ·have d1':a + f + 1 < s.length:=by omega
     have hg:=zas d1'
     have h43:s[a + f + 1]? = some 43 ↔ ((s[a + f + 1].toNat:Nat):Int)=43:=zdn d1' 43 (by decide)
     have h45:s[a + f + 1]? = some 45 ↔ ((s[a + f + 1].toNat:Nat):Int)=45:=zdn d1' 45 (by decide)
     have e1:(((a + f:Nat):Int) + 1).toNat=a + f + 1:=by omega
     by_cases c2:((s[a + f + 1].toNat:Nat):Int)=43
     ·rw [if_pos (.inl (h43.2 c2))]
      simp only [d1,e1,hg,c2,zaa,sxZ,z6,z7,z8,j4,j5,j6,j7,j8,j9,x0,x3,x4,x5,x6,x7,reduceCtorEq,↓reduceIte,List.getElem?_set,hlen,t0,t6]
      and_intros <;> first | omega | exact iv (by omega) | rfl | assumption
     ·by_cases c3:((s[a + f + 1].toNat:Nat):Int)=45
      ·rw [if_pos (.inr (h45.2 c3))]
       simp only [d1,e1,hg,c2,c3,zaa,sxZ,z6,z7,z8,j4,j5,j6,j7,j8,j9,x0,x3,x4,x5,x6,x7,reduceCtorEq,↓reduceIte,List.getElem?_set,hlen,t0,t6]
       and_intros <;> first | omega | exact iv (by omega) | rfl | assumption
      ·rw [if_neg (fun h => h.elim (fun h => c2 (h43.1 h)) (fun h => c3 (h45.1 h)))]
       simp only [d1,e1,hg,c2,c3,zaa,sxZ,z6,z7,z8,j4,j5,j6,j7,j8,j9,x0,x3,x4,x5,x6,x7,reduceCtorEq,↓reduceIte,List.getElem?_set,hlen,t0,t6]
       and_intros <;> first | omega | exact iv (by omega) | rfl | assumption
    ·rw [if_neg (fun h => h.elim (zbg (by omega)) (zbg (by omega)))]
     simp only [d1,zaa,sxZ,z6,z7,z8,j4,j5,j6,j7,j8,j9,x0,x3,x4,x5,x6,x7,reduceCtorEq,↓reduceIte,List.getElem?_set,hlen,t0,t6]
     and_intros <;> first | omega | exact iv (by omega) | rfl | assumption
   rintro _ tm ⟨rfl,hlen,t0,t6,t8⟩
   subst hY3
   have hxl:a + zaY (s.drop a) f ≤ s.length:=by
    rw [hx]
    split
    ·rename_i h
     rcases h with h | h
     all_goals
      have:=(List.getElem?_eq_some_iff.1 h).1
      omega
    ·omega
   generalize zaY (s.drop a) f=x at *
   simp only [sxZ,z6,z7,z8,j4,j5,j6,j7,j8,j9,x0,x3,x4,x5,x6,x7,reduceCtorEq,↓reduceIte,List.getElem?_set,hlen,t0,t6,t8]
   refine zak (zdm s _ hxl hs ?_)
   generalize zaT (s.drop (a + x))=r at *
   rw [he]
   by_cases c4:0 < r
   ·rw [if_pos ⟨hE,c4⟩]
    have c4':((a + x:Nat):Int) < ((a + x + r:Nat):Int):=by omega
    simp only [c4',zaa,sxZ,z6,z7,z8,j4,j5,j6,j7,j8,j9,x0,x3,x4,x5,x6,x7,reduceCtorEq,↓reduceIte,List.getElem?_set,hlen,t0,t6,t8]
    and_intros <;> first | omega | exact iv (by omega) | rfl | assumption
   ·rw [if_neg (fun h => c4 h.2)]
    have c4':¬ ((a + x:Nat):Int) < ((a + x + r:Nat):Int):=by omega
    simp only [c4',zaa,sxZ,z6,z7,z8,j4,j5,j6,j7,j8,j9,x0,x3,x4,x5,x6,x7,reduceCtorEq,↓reduceIte,List.getElem?_set,hlen,t0,t6,t8]
  ·have hE:=of_decide_eq_false hE
   rw [he,if_neg (fun h => hE h.1)]
   simp only [zaa,sxZ,z6,z7,z8,j4,j5,j6,j7,j8,j9,x0,x3,x4,x5,x6,x7,reduceCtorEq,↓reduceIte,List.getElem?_set,hlen,t0,t6]
 rintro _ tm ⟨rfl,hlen,t6⟩
 subst hY1
 simp only [sxZ,z6,z7,z8,j4,j5,j6,j7,j8,j9,x0,x3,x4,x5,x6,x7,reduceCtorEq,↓reduceIte,List.getElem?_set,hlen,t6]
 exact hk
end
end Go.Proofs.YthmdohgkmdkeeaaGreatDoor
namespace Go.Proofs.YthmdohgkmdkeeaaGreatDoor
open Go.RowKit Sx
theorem zmF:∀ w,(zeroValue 120).run Tryz.prog w=.ok (.agg (Array.replicate 256 (.bool false))) w:=(zero_of_info (n:=256) (by kernel_rfl)).1
set_option maxHeartbeats 8000000 in
set_option maxRecDepth 1000000 in
theorem zgP (s chars:ByteArray) (w:World) (h8:8 < s.size) (hs:s.size ≤ 9000000000000000000) (h2:chars.size=2) (h0:chars.data.toList=[101,69]) :
  Calls Tryz.prog 100 #[.string s,.string chars] w fun e w' => e=.returned (.int .i64 (Lib.indexAny s.data.toList [101,69])) ∧ Qb w w':=by
 have hM:=Tryz.strings_makeASCIISet zmF chars w (by omega) (fun j b hb => by
  have:∀ c ∈ chars.data.toList,c.toNat < 128:=by rw [h0]; decide
  exact this _ (List.mem_of_getElem? hb))
 rw [h0] at hM
 have hemp:chars.toList.isEmpty=false:=by rw [Lib.toList_data,h0]; rfl
 clear h0
 have hn1:((chars.size:Int) == 1)=false:=beq_eq_false_iff_ne.2 (by omega)
 have h8z:decide ((8:Int) < (s.size:Int))=true:=decide_eq_true (by omega)
 have hsc:(storeCells ⟨w.heap.size + 1,0,none⟩ (Lib.setCells [101,69]).toList 0).run Tryz.prog ((w.alloc (.cells (Lib.setCells [101,69]) 120)).alloc (.cells (Array.replicate 256 (.bool false)) 120))=.ok () ((w.alloc (.cells (Lib.setCells [101,69]) 120)).alloc (.cells (Lib.setCells [101,69]) 120)):=by
  have:=run_storeCells_new (P:=Tryz.prog) (w.alloc (.cells (Lib.setCells [101,69]) 120)) 120 (Array.replicate 256 (.bool false)) (Lib.setCells [101,69]) (by rw [Lib.setCells_size]; kernel_rfl) (by rw [Lib.setCells_size,Array.size_replicate]) (Lib.setCells_one _)
  simpa using this
 have hsz:=Lib.setCells_size [101,69]
 have HC:Hid (∀ x:UInt8,((w.alloc (.cells (Lib.setCells [101,69]) 120)).alloc (.cells (Lib.setCells [101,69]) 120)).cell? ⟨w.heap.size + 1,x.toNat,none⟩=some (.bool (([101,69]:List UInt8).contains x))):=Lib.hid (fun x => by
  rw [World.cell?_alloc_at _ _ _ _ (by simp),Lib.setCells_at])
 go_enter Tryz.func100,Tryz.ntmps100
 go_wp2_with fail
 refine (Tryz.strings_shouldUseASCIISet _ _).mono ?_
 rintro e w1 ⟨rfl,rfl⟩
 rw [h8z]
 go_wp2_with fail
 refine hM.mono ?_
 rintro e w2 ⟨rfl,rfl⟩
 go_wp2_with fail
 have hz:Tryz.zeroCells120=Array.replicate 256 (.bool false):=by kernel_rfl
 rw [hz,hsc]
 simp only [Result.andThen]
 rw [Oper.upon_skip]
 clear hM hsc hz
 go_wp2_with fail
 go_loopg [8] s.size (fun g s8 wx => ∃ i:Nat,i + g=s.size ∧ s8=.int .i64 i ∧ wx=((w1.alloc (.cells (Lib.setCells [101,69]) 120)).alloc (.cells (Lib.setCells [101,69]) 120)) ∧ Hid (Lib.NoAny s.data.toList [101,69] i))
 case atStart => exact ⟨0,by omega,rfl,rfl,Lib.hid (Lib.NoAny.zero _ _)⟩
 case round =>
  obtain ⟨i,hig,rfl,rfl,HN⟩:=hrel
  have hq:Qb w1 ((w1.alloc (.cells (Lib.setCells [101,69]) 120)).alloc (.cells (Lib.setCells [101,69]) 120)):=((Qb.refl _).alloc _).alloc _
  cases gk with
  | zero =>
   obtain rfl:i=s.size:=by omega
   have hiz:¬ ((s.size:Int) < (s.size:Int)):=by omega
   go_wp2_with fail
   go_ret
   exact ⟨by rw [Lib.indexAny_none (by rw [← Lib.size_eq]; exact HN.out)]; rfl,hq⟩
  | succ g =>
   have hi:i < s.size:=by omega
   have hiz:(i:Int) < (s.size:Int):=by omega
   obtain ⟨x,hx⟩:∃ x:UInt8,s[i]'hi=x:=⟨_,rfl⟩
   have Hx:Hid (s.data.toList[i]? = some x):=Lib.hid (by rw [← hx]; exact Lib.data_getElem? s i hi)
   have hcx:=HC.out x
   cases hin:([101,69]:List UInt8).contains x <;> rw [hin] at hcx
   ·go_wp2_with fail
    refine (Tryz.asciiSet_contains _ x _ _ hcx).mono ?_
    rintro e w' ⟨rfl,hw⟩
    rw [hw]
    go_wp2_with fail
    go_roundg g
    case measure => omega
    case rel => exact ⟨i + 1,by omega,by first | rfl | simp,rfl,Lib.hid (HN.out.succ Hx.out hin)⟩
   ·go_wp2_with fail
    refine (Tryz.asciiSet_contains _ x _ _ hcx).mono ?_
    rintro e w' ⟨rfl,hw⟩
    rw [hw]
    go_wp2_with fail
    go_ret
    exact ⟨by rw [Lib.indexAny_hit HN.out Hx.out hin]; rfl,hq⟩
theorem zjn [Tabs Tryz.prog] {objs:List OB} {K:List OB → AV → Prop} (s:List UInt8) (hs:s.length ≤ 9000000000000000000) (ha:∀ c ∈ s,c.toNat < 128) (hk:K objs (.i .i64 (Lib.indexAny s [101,69]))):zad Tryz.prog 100 [.s s,.s [101,69]] objs K :=
 conv (vs:=[.string (S s),.string (S [101,69])]) rfl rfl (fun w => by
  by_cases h8:8 < s.length
  ·exact zgP (S s) (S [101,69]) w (by rw [zbL]; exact h8) (by rw [zbL]; exact hs) (by decide) rfl
  ·refine (Tryz.strings_IndexAny_laid (S s) (S [101,69]) w (by rw [zbL]; omega) (by decide) (fun j b hb => ha b (List.mem_of_getElem? hb)) (fun j b hb => ?_)).mono fun e w' ⟨h1,h2⟩ => ⟨h1,h2⟩
   have:∀ c ∈ (S [101,69]).data.toList,c.toNat < 128:=by decide
   exact this _ (List.mem_of_getElem? hb)) hk
end Go.Proofs.YthmdohgkmdkeeaaGreatDoor
namespace Go.Proofs.YthmdohgkmdkeeaaGreatDoor
open Nat renaming reduceAdd → z6, reduceSub → z7, reduceLeDiff → z8, reduceLT → j4, reduceMul → j5, reduceEqDiff → j6
open Int renaming reduceToNat → j7, reduceAdd → j8, reduceSub → j9, reduceMul → x0, reduceNeg → x3, reduceLT → x4, reduceLE → x5, reduceEq → x6, reduceNe → x7
open Go.RowKit Sx
theorem zfe (cs v:List UInt8):∀ u:List UInt8,(∀ c ∈ u,cs.contains c=false) → Lib.indexAny (u ++ v) cs=if Lib.indexAny v cs=-1 then -1 else u.length + Lib.indexAny v cs
 | [],_ => by
  rw [List.nil_append]
  split
  ·rename_i h; exact h
  ·simp
 | c :: u,h => by
  rw [List.cons_append,Lib.indexAny,if_neg (by rw [h c (by simp)]; simp),zfe cs v u (fun x hx => h x (by simp [hx]))]
  by_cases hv:Lib.indexAny v cs=-1
  ·rw [if_pos hv,if_pos hv]; rfl
  ·have:=Lib.indexAny_ge cs v
   rw [if_neg hv,if_neg hv,if_neg (by rw [beq_iff_eq]; omega),List.length_cons]
   omega
theorem zbA {c:UInt8} (h:zai c=true):c.toNat < 128 ∧ ([101,69]:List UInt8).contains c=false ∧ c ≠ 46:=by
 have:=zfZ h
 refine ⟨by omega,?_,?_⟩
 ·have h1:c ≠ 101:=fun e => by subst e; exact absurd this (by decide)
  have h2:c ≠ 69:=fun e => by subst e; exact absurd this (by decide)
  simp [h1,h2]
 ·rintro rfl; exact absurd this (by decide)
def NumS.body (p:NumS):List UInt8:=p.int ++ (frT p.fr ++ exT p.ex)
theorem zhG {f:List UInt8} (hf:f.all zai=true):∀ c ∈ frT f,c.toNat < 128 ∧ ([101,69]:List UInt8).contains c=false:=by
 intro c hc
 cases f with
 | nil => cases hc
 | cons a t =>
  have hc:c=46 ∨ c ∈ a :: t:=by simpa [frT] using hc
  rcases hc with rfl | hc
  ·exact ⟨by decide,by decide⟩
  ·have:=zbA (List.all_eq_true.1 hf c hc)
   exact ⟨this.1,this.2.1⟩
theorem zjI {p:NumS} (hp:p.Good):∀ c ∈ p.body,c.toNat < 128:=by
 intro c hc
 unfold NumS.body at hc
 rcases List.mem_append.1 hc with h | h
 ·exact (zbA (List.all_eq_true.1 hp.i1 c h)).1
 rcases List.mem_append.1 h with h | h
 ·exact (zhG hp.f1 c h).1
 cases he:p.ex with
 | none => rw [he] at h; cases h
 | some e =>
  obtain ⟨k,s,d⟩:=e
  obtain ⟨h1,h2,h3,h4⟩:=hp.e1 k s d he
  rw [he] at h
  have h:c=k ∨ c ∈ s ∨ c ∈ d:=by simpa [exT] using h
  rcases h with rfl | h | h
  ·rcases h1 with rfl | rfl <;> decide
  ·rcases h2 with rfl | rfl | rfl
   ·cases h
   ·simp only [List.mem_singleton] at h; subst h; decide
   ·simp only [List.mem_singleton] at h; subst h; decide
  ·exact (zbA (List.all_eq_true.1 h4 c h)).1
theorem body_idx {p:NumS} (hp:p.Good):Lib.indexAny p.body [101,69]=match p.ex with | none => -1 | some _ => ((p.int ++ frT p.fr).length:Int):=by
 have hno:∀ c ∈ p.int ++ frT p.fr,([101,69]:List UInt8).contains c=false:=by
  intro c hc
  rcases List.mem_append.1 hc with h | h
  ·exact (zbA (List.all_eq_true.1 hp.i1 c h)).2.1
  ·exact (zhG hp.f1 c h).2
 unfold NumS.body
 rw [← List.append_assoc,zfe _ _ _ hno]
 cases he:p.ex with
 | none => rw [if_pos (by rfl)]
 | some e =>
  obtain ⟨k,s,d⟩:=e
  obtain ⟨h1,_,_,_⟩:=hp.e1 k s d he
  have h0:Lib.indexAny (exT (some (k,s,d))) [101,69]=0:=by
   unfold exT
   rw [Lib.indexAny,if_pos]
   rcases h1 with rfl | rfl <;> decide
  rw [h0,if_neg (by decide)]
  simp
theorem za4 (c x:UInt8) (t:List UInt8):Lib.trimPrefix (x :: t) [c]=(if x=c then t else x :: t) ∧ Lib.hasPrefix (x :: t) [c]=decide (x=c):=by
 have h:Lib.hasPrefix (x :: t) [c]=decide (x=c):=by
  rw [pre_take]
  by_cases h:x=c
  ·subst h; simp
  ·rw [decide_eq_false h]; simp [h]
 refine ⟨?_,h⟩
 unfold Lib.trimPrefix
 rw [h]
 by_cases hx:x=c
 ·subst hx; simp
 ·simp [hx]
theorem zkg {p:NumS} (hp:p.Good) {k:UInt8} {s d:List UInt8} (he:p.ex=some (k,s,d)):Lib.trimPrefix (Lib.trimPrefix (s ++ d) [45]) [43]=d ∧ Lib.hasPrefix (s ++ d) [45]=decide (s=[45]):=by
 obtain ⟨_,h2,h3,h4⟩:=hp.e1 k s d he
 obtain ⟨c,t,e1,e2⟩:=zbz h3 h4
 have n45:c ≠ 45:=zbf e2 rfl
 have n43:c ≠ 43:=zbf e2 rfl
 rcases h2 with rfl | rfl | rfl
 ·rw [List.nil_append,e1,(za4 45 c t).1,if_neg n45,(za4 43 c t).1,if_neg n43,(za4 45 c t).2]
  exact ⟨rfl,by simp [n45]⟩
 ·rw [show [43] ++ d=43 :: d from rfl,(za4 45 43 d).1,if_neg (by decide),(za4 43 43 d).1,if_pos rfl,(za4 45 43 d).2]
  exact ⟨rfl,by decide⟩
 ·rw [show [45] ++ d=45 :: d from rfl,(za4 45 45 d).1,if_pos rfl,(za4 45 45 d).2,e1,(za4 43 c t).1,if_neg n43]
  exact ⟨rfl,by decide⟩
theorem zg3 {p:NumS} (hp:p.Good):zeS 46 (p.int ++ frT p.fr)=(p.int,p.fr,!p.fr.isEmpty):=by
 have key:∀ (u v:List UInt8),(∀ c ∈ u,c ≠ 46) → zeS 46 (u ++ v)=(u ++ (zeS 46 v).1,(zeS 46 v).2.1,(zeS 46 v).2.2):=by
  intro u v
  induction u with
  | nil => intro _; rfl
  | cons c u ih =>
   intro h
   rw [List.cons_append,zeK,if_neg (h c (by simp)),ih (fun x hx => h x (by simp [hx]))]
   rfl
 rw [key _ _ (fun c hc => (zbA (List.all_eq_true.1 hp.i1 c hc)).2.2)]
 cases hf:p.fr with
 | nil => simp [frT,zeS]
 | cons a t => simp [frT,zeK]
section
variable [Tabs Tryz.prog] {objs:List OB} {K:List OB → AV → Prop}
theorem zf4 (p:NumS) (hp:p.Good) (hs:p.body.length ≤ 140737488351232) (hk:K objs (.tup [.s (p.int ++ frT p.fr),.i .i64 (zd8 1099511627776 p.ex)])):zad Tryz.prog 85 [.s p.body] objs K:=by
 refine zbs is_token_cutExponent rfl fun C _ => ?_
 simp only [c_token_cutExponent,sxZ,z6,z7,z8,j4,j5,j6,j7,j8,j9,x0,x3,x4,x5,x6,x7,reduceCtorEq,↓reduceIte]
 refine zak (zjn _ (by omega) (zjI hp) ?_)
 have hi:=body_idx hp
 cases he:p.ex with
 | none =>
  rw [he] at hi hk
  rw [hi]
  simp only [sxZ,z6,z7,z8,j4,j5,j6,j7,j8,j9,x0,x3,x4,x5,x6,x7,reduceCtorEq,↓reduceIte]
  have:p.body=p.int ++ frT p.fr:=by unfold NumS.body; rw [he]; simp [exT]
  rw [this]
  exact hk
 | some e =>
  obtain ⟨k,s,d⟩:=e
  rw [he] at hi hk
  simp only at hi
  rw [hi]
  obtain ⟨g1,g2,g3,g4⟩:=hp.e1 k s d he
  have hb:p.body=(p.int ++ frT p.fr) ++ k :: (s ++ d):=by unfold NumS.body; rw [he]; simp [exT]
  have hst:=zkg hp he
  rw [hb] at hs ⊢
  generalize p.int ++ frT p.fr=u at *
  have n0:¬ ((u.length:Nat):Int) < 0:=by omega
  have e1:(((u.length:Nat):Int) + 1).toNat=u.length + 1:=by omega
  have e2:(u ++ k :: (s ++ d)).drop (u.length + 1)=s ++ d:=by rw [← List.drop_drop,List.drop_left]; rfl
  have e3:(u ++ k :: (s ++ d)).take u.length=u:=List.take_left
  have e4:(u ++ k :: (s ++ d)).length=u.length + (s.length + d.length + 1):=by simp
  generalize u ++ k :: (s ++ d)=W at *
  simp only [n0,e1,e2,sxZ,z6,z7,z8,j4,j5,j6,j7,j8,j9,x0,x3,x4,x5,x6,x7,reduceCtorEq,↓reduceIte]
  (and_intros <;> try omega)
  refine zak (zd5 _ _ ?_)
  simp only [sxZ,z6,z7,z8,j4,j5,j6,j7,j8,j9,x0,x3,x4,x5,x6,x7,reduceCtorEq,↓reduceIte]
  refine zak (zfA _ _ ?_)
  simp only [hst.1,hst.2,sxZ,z6,z7,z8,j4,j5,j6,j7,j8,j9,x0,x3,x4,x5,x6,x7,reduceCtorEq,↓reduceIte]
  refine zak (nParse_k d 1099511627776 (by rw [zbx]; omega) (by decide) ?_)
  have hnum:=zjA 1099511627776 g3 g4
  simp only [zd8] at hk
  by_cases c1:zg1 d 0 ≤ 1099511627776
  ·have hw:IntKind.i64.wrap ((zg1 d 0:Nat):Int)=zg1 d 0:=by rw [IntKind.wrap_i64]; omega
   rw [Nat.min_eq_left c1] at hk
   rw [if_pos c1] at hnum
   by_cases c2:s=[45]
   ·rw [if_pos c2] at hk
    simp only [hnum,hw,c2,e3,sxZ,z6,z7,z8,j4,j5,j6,j7,j8,j9,x0,x3,x4,x5,x6,x7,reduceCtorEq,↓reduceIte]
    refine ⟨by omega,by omega,?_⟩
    rw [Int.zero_sub]
    exact hk
   ·rw [if_neg c2] at hk
    simp only [hnum,hw,c2,e3,sxZ,z6,z7,z8,j4,j5,j6,j7,j8,j9,x0,x3,x4,x5,x6,x7,reduceCtorEq,↓reduceIte]
    exact ⟨by omega,hk⟩
  ·rw [Nat.min_eq_right (by omega)] at hk
   rw [if_neg c1] at hnum
   by_cases c2:s=[45]
   ·rw [if_pos c2] at hk
    simp only [hnum,c2,e3,sxZ,z6,z7,z8,j4,j5,j6,j7,j8,j9,x0,x3,x4,x5,x6,x7,reduceCtorEq,↓reduceIte]
    refine ⟨by omega,?_⟩
    exact hk
   ·rw [if_neg c2] at hk
    simp only [hnum,c2,e3,sxZ,z6,z7,z8,j4,j5,j6,j7,j8,j9,x0,x3,x4,x5,x6,x7,reduceCtorEq,↓reduceIte]
    exact ⟨by omega,hk⟩
set_option maxHeartbeats 4000000 in
theorem number_k [Pow Tryz.prog] (s:List UInt8) (hs:s.length ≤ 140737488351232) (h1:(s=[] ∨ zda s ≠ s.length) → K objs (.tup [.s [],.i .i64 130]))
  (h2:∀ p:NumS,p.Good → s=p.txt → K objs (.tup [.s (zmu 1099511627776 p).2,.i .i64 (zmu 1099511627776 p).1])):zad Tryz.prog 61 [.s s] objs K:=by
 refine zbs is_token_Number rfl fun C _ => ?_
 have hmx:=zbx
 by_cases c0:s=[]
 ·have h1:=h1 (.inl c0)
  simp only [c0,c_token_Number,sxZ,z6,z7,z8,j4,j5,j6,j7,j8,j9,x0,x3,x4,x5,x6,x7,reduceCtorEq,↓reduceIte]
  exact h1
 rw [c_token_Number]
 refine zab fun Y1 hY1 => ?_
 simp only [sxZ,z6,z7,z8,j4,j5,j6,j7,j8,j9,x0,x3,x4,x5,x6,x7,reduceCtorEq,↓reduceIte]
 subst hY1
 refine zab fun Y1 hY1 => ?_
 simp only [c0,sxZ,z6,z7,z8,j4,j5,j6,j7,j8,j9,x0,x3,x4,x5,x6,x7,reduceCtorEq,↓reduceIte]
 refine zak (zdf s 0 (Nat.zero_le _) (by omega) ?_)
 rw [List.drop_zero,Nat.zero_add]
 by_cases c1:zda s=s.length
 case neg =>
  have c1':¬ ((zda s:Nat):Int)=s.length:=by omega
  simp only [c1',sxZ,z6,z7,z8,j4,j5,j6,j7,j8,j9,x0,x3,x4,x5,x6,x7,reduceCtorEq,↓reduceIte]
  exact h1 (.inr c1)
 clear h1
 obtain ⟨p,hp,rfl⟩:=zgI c0 c1
 have h2:=h2 p hp rfl
 simp only [c1,sxZ,z6,z7,z8,j4,j5,j6,j7,j8,j9,x0,x3,x4,x5,x6,x7,reduceCtorEq,↓reduceIte]
 subst hY1
 refine zab fun Y1 hY1 => ?_
 simp only [sxZ,z6,z7,z8,j4,j5,j6,j7,j8,j9,x0,x3,x4,x5,x6,x7,reduceCtorEq,↓reduceIte]
 refine zak (zd5 _ _ ?_)
 have hcp:Lib.trimPrefix p.txt [45]=p.body ∧ Lib.hasPrefix p.txt [45]=p.neg:=by
  obtain ⟨c,t,e1,e2⟩:=zbz hp.i0 hp.i1
  have n45:c ≠ 45:=zbf e2 rfl
  unfold NumS.txt NumS.body
  cases p.neg with
  | true =>
   have:=za4 45 45 (p.int ++ (frT p.fr ++ exT p.ex))
   rw [if_pos rfl] at this
   exact ⟨this.1,this.2⟩
  | false =>
   have:=za4 45 c (t ++ (frT p.fr ++ exT p.ex))
   rw [if_neg n45,decide_eq_false n45] at this
   rw [e1]
   exact this
 have hbl:p.body.length ≤ p.txt.length:=by unfold NumS.txt NumS.body; simp
 simp only [hcp.1,hcp.2,sxZ,z6,z7,z8,j4,j5,j6,j7,j8,j9,x0,x3,x4,x5,x6,x7,reduceCtorEq,↓reduceIte]
 subst hY1
 refine zab fun Y1 hY1 => ?_
 simp only [sxZ,z6,z7,z8,j4,j5,j6,j7,j8,j9,x0,x3,x4,x5,x6,x7,reduceCtorEq,↓reduceIte]
 refine zak (zf4 p hp (by omega) ?_)
 simp only [sxZ,z6,z7,z8,j4,j5,j6,j7,j8,j9,x0,x3,x4,x5,x6,x7,reduceCtorEq,↓reduceIte]
 subst hY1
 refine zab fun Y1 hY1 => ?_
 simp only [sxZ,z6,z7,z8,j4,j5,j6,j7,j8,j9,x0,x3,x4,x5,x6,x7,reduceCtorEq,↓reduceIte]
 have hml:(p.int ++ frT p.fr).length ≤ p.txt.length:=by unfold NumS.txt; simp; omega
 refine zak (sCut_k _ 46 (by omega) ?_)
 rw [zg3 hp]
 simp only [sxZ,z6,z7,z8,j4,j5,j6,j7,j8,j9,x0,x3,x4,x5,x6,x7,reduceCtorEq,↓reduceIte]
 subst hY1
 refine zab fun Y1 hY1 => ?_
 simp only [sxZ,z6,z7,z8,j4,j5,j6,j7,j8,j9,x0,x3,x4,x5,x6,x7,reduceCtorEq,↓reduceIte]
 have htl:=zhi p
 refine ⟨by omega,?_⟩
 refine zak (zhn _ 48 (by decide) ?_)
 have hzl:Lib.trimLeftB (p.int ++ p.fr) 48=zce p:=rfl
 have hml2:=zfP p
 have hzr:=zjQ (zce p)
 have hei:=zl2 1099511627776 p.ex
 rw [hzl]
 unfold zmu at h2
 unfold expX at h2
 simp only [sxZ,z6,z7,z8,j4,j5,j6,j7,j8,j9,x0,x3,x4,x5,x6,x7,reduceCtorEq,↓reduceIte]
 subst hY1
 refine zab fun Y1 hY1 => ?_
 by_cases c2:zce p=[]
 ·rw [if_pos c2] at h2
  simp only [c2,sxZ,z6,z7,z8,j4,j5,j6,j7,j8,j9,x0,x3,x4,x5,x6,x7,reduceCtorEq,↓reduceIte]
  exact h2
 rw [if_neg c2] at h2
 generalize zd8 1099511627776 p.ex=E at *
 simp only [c2,sxZ,z6,z7,z8,j4,j5,j6,j7,j8,j9,x0,x3,x4,x5,x6,x7,reduceCtorEq,↓reduceIte]
 subst hY1
 refine zab fun Y1 hY1 => ?_
 simp only [sxZ,z6,z7,z8,j4,j5,j6,j7,j8,j9,x0,x3,x4,x5,x6,x7,reduceCtorEq,↓reduceIte]
 refine zak (zgo _ 48 (by decide) (by omega) ?_)
 have hzr2:Lib.trimRightB (zce p) 48=zR (zce p):=rfl
 rw [hzr2]
 simp only [sxZ,z6,z7,z8,j4,j5,j6,j7,j8,j9,x0,x3,x4,x5,x6,x7,reduceCtorEq,↓reduceIte]
 subst hY1
 refine zab fun Y1 hY1 => ?_
 simp only [sxZ,z6,z7,z8,j4,j5,j6,j7,j8,j9,x0,x3,x4,x5,x6,x7,reduceCtorEq,↓reduceIte]
 (and_intros <;> try omega)
 subst hY1
 refine zab fun Y1 hY1 => ?_
 generalize E - (p.fr.length:Int) + (((zce p).length:Int) - ((zR (zce p)).length:Int))=x at *
 generalize zR (zce p)=m at *
 by_cases d1:(40:Int) < m.length
 ·rw [if_pos (.inl (by omega))] at h2
  simp only [d1,sxZ,z6,z7,z8,j4,j5,j6,j7,j8,j9,x0,x3,x4,x5,x6,x7,reduceCtorEq,↓reduceIte]
  exact h2
 by_cases d2:x < -400
 ·rw [if_pos (.inr (.inl d2))] at h2
  simp only [d1,d2,sxZ,z6,z7,z8,j4,j5,j6,j7,j8,j9,x0,x3,x4,x5,x6,x7,reduceCtorEq,↓reduceIte]
  exact h2
 by_cases d3:400 < x
 ·rw [if_pos (.inr (.inr d3))] at h2
  simp only [d1,d2,d3,sxZ,z6,z7,z8,j4,j5,j6,j7,j8,j9,x0,x3,x4,x5,x6,x7,reduceCtorEq,↓reduceIte]
  exact h2
 rw [if_neg (by omega)] at h2
 simp only [d1,d2,d3,sxZ,z6,z7,z8,j4,j5,j6,j7,j8,j9,x0,x3,x4,x5,x6,x7,reduceCtorEq,↓reduceIte]
 subst hY1
 refine zab fun Y1 hY1 => ?_
 have hit:=Lib.itoa_length_le x (by omega) (by omega)
 unfold expS sgT at h2
 cases hn:p.neg with
 | true =>
  rw [hn] at h2
  simp only [sxZ,z6,z7,z8,j4,j5,j6,j7,j8,j9,x0,x3,x4,x5,x6,x7,reduceCtorEq,↓reduceIte]
  (and_intros <;> try omega)
  subst hY1
  by_cases d4:x=0
  ·subst d4
   simp only [sxZ,z6,z7,z8,j4,j5,j6,j7,j8,j9,x0,x3,x4,x5,x6,x7,reduceCtorEq,↓reduceIte]
   simpa using h2
  ·rw [if_neg d4] at h2
   simp only [d4,sxZ,z6,z7,z8,j4,j5,j6,j7,j8,j9,x0,x3,x4,x5,x6,x7,reduceCtorEq,↓reduceIte]
   refine zak (zeH x (by omega) (by omega) ?_)
   simp only [sxZ,z6,z7,z8,j4,j5,j6,j7,j8,j9,x0,x3,x4,x5,x6,x7,reduceCtorEq,↓reduceIte]
   (and_intros <;> try omega)
   simpa using h2
 | false =>
  rw [hn] at h2
  simp only [sxZ,z6,z7,z8,j4,j5,j6,j7,j8,j9,x0,x3,x4,x5,x6,x7,reduceCtorEq,↓reduceIte]
  subst hY1
  by_cases d4:x=0
  ·subst d4
   simp only [sxZ,z6,z7,z8,j4,j5,j6,j7,j8,j9,x0,x3,x4,x5,x6,x7,reduceCtorEq,↓reduceIte]
   simpa using h2
  ·rw [if_neg d4] at h2
   simp only [d4,sxZ,z6,z7,z8,j4,j5,j6,j7,j8,j9,x0,x3,x4,x5,x6,x7,reduceCtorEq,↓reduceIte]
   refine zak (zeH x (by omega) (by omega) ?_)
   simp only [sxZ,z6,z7,z8,j4,j5,j6,j7,j8,j9,x0,x3,x4,x5,x6,x7,reduceCtorEq,↓reduceIte]
   (and_intros <;> try omega)
   simpa using h2
end
end Go.Proofs.YthmdohgkmdkeeaaGreatDoor
namespace Go.Proofs.YthmdohgkmdkeeaaGreatDoor
open Go.RowKit
end Go.Proofs.YthmdohgkmdkeeaaGreatDoor
namespace Go.Proofs.YthmdohgkmdkeeaaGreatDoor
open Nat renaming reduceAdd → z6, reduceSub → z7, reduceLeDiff → z8, reduceLT → j4, reduceMul → j5, reduceEqDiff → j6
open Int renaming reduceToNat → j7, reduceAdd → j8, reduceSub → j9, reduceMul → x0, reduceNeg → x3, reduceLT → x4, reduceLE → x5, reduceEq → x6, reduceNe → x7
open Go.RowKit Sx
theorem zhQ (a b:List UInt8):byA (a ++ b)=byA a ++ byA b:=by simp [byA]
theorem zbG {l:List UInt8} {n:Nat} (h:zbX l=some n):6 ≤ l.length ∧ n ≤ 65535:=by
 unfold zbX at h
 split at h
 ·cases h
 ·rename_i g
  split at h
  ·injection h with h
   have:=zfN zaQ 16 65535 ((l.drop 2).take 4)
   constructor
   ·apply Classical.byContradiction
    intro h1
    exact g (.inl (by omega))
   ·omega
  ·cases h
theorem zkh {c d:UInt8} (h:zcn c=some d):d ≠ 0:=by
 have:∀ n:Fin 256,zcn (UInt8.ofNat n.val) ≠ some 0:=by decide +kernel
 have h2:=this ⟨c.toNat,c.toNat_lt⟩
 simp only [UInt8.ofNat_toNat] at h2
 rintro rfl
 exact h2 h
section
variable [Tabs Tryz.prog] {objs:List OB} {K:List OB → AV → Prop}
theorem zh1 (l:List UInt8) (hl:l.length ≤ maxLen) (hk:match zbX l with | some n => K objs (.tup [.i .i64 (n:Nat),.b true]) | none => ∀ x,K objs (.tup [.i .i64 x,.b false])):zad Tryz.prog 97 [.s l] objs K:=by
 refine zbs is_token_unitAt rfl fun C _ => ?_
 have hw:∀ n:Nat,n ≤ 65535 → IntKind.i64.wrap ((n:Nat):Int)=n:=by
  intro n h
  rw [IntKind.wrap_i64]; omega
 have hb:=zfN zaQ 16 65535 ((l.drop 2).take 4)
 unfold zbX at hk
 by_cases c0:(l.length:Int) < 6
 ·rw [if_pos (.inl (by omega))] at hk
  simp only [c0,c_token_unitAt,sxZ,z6,z7,z8,j4,j5,j6,j7,j8,j9,x0,x3,x4,x5,x6,x7,reduceCtorEq,↓reduceIte]
  exact hk 0
 have l0:0 < l.length:=by omega
 have l1:1 < l.length:=by omega
 have g0:=zas l0
 have g1:=zas l1
 have e0:l[0]? = some 92 ↔ ((l[0].toNat:Nat):Int)=92:=zdn l0 92 (by decide)
 have e1:l[1]? = some 117 ↔ ((l[1].toNat:Nat):Int)=117:=zdn l1 117 (by decide)
 by_cases c1:((l[0].toNat:Nat):Int)=92
 ·by_cases c2:((l[1].toNat:Nat):Int)=117
  ·rw [if_neg (by rintro (h | h | h); exact absurd h (by omega); exact h (e0.2 c1); exact h (e1.2 c2))] at hk
   simp only [c0,c1,c2,g0,g1,c_token_unitAt,sxZ,z6,z7,z8,j4,j5,j6,j7,j8,j9,x0,x3,x4,x5,x6,x7,reduceCtorEq,↓reduceIte]
   refine ⟨by omega,by omega,by omega,?_⟩
   rw [show (l.take 6).drop 2=(l.drop 2).take 4 by rw [List.drop_take]]
   refine zak (nHex_k _ 65535 (by rw [List.length_take,List.length_drop,zbx]; omega) (by decide) ?_)
   simp only [sxZ,z6,z7,z8,j4,j5,j6,j7,j8,j9,x0,x3,x4,x5,x6,x7,reduceCtorEq,↓reduceIte]
   generalize zbc zaQ 16 65535 ((l.drop 2).take 4)=q at *
   obtain ⟨e,n⟩:=q
   simp only at hk hb ⊢
   rw [hw n hb]
   by_cases c3:e=0
   ·rw [if_pos c3] at hk
    rw [decide_eq_true c3]
    exact hk
   ·rw [if_neg c3] at hk
    rw [decide_eq_false c3]
    exact hk _
  ·rw [if_pos (.inr (.inr (fun h => c2 (e1.1 h))))] at hk
   simp only [c0,c1,c2,g0,g1,c_token_unitAt,sxZ,z6,z7,z8,j4,j5,j6,j7,j8,j9,x0,x3,x4,x5,x6,x7,reduceCtorEq,↓reduceIte]
   refine ⟨by omega,by omega,hk 0⟩
 ·rw [if_pos (.inr (.inl (fun h => c1 (e0.1 h))))] at hk
  simp only [c0,c1,g0,g1,c_token_unitAt,sxZ,z6,z7,z8,j4,j5,j6,j7,j8,j9,x0,x3,x4,x5,x6,x7,reduceCtorEq,↓reduceIte]
  refine ⟨by omega,hk 0⟩
theorem zfz (l:List UInt8) (hk:K objs (.i .u8 ((((l[1]?).bind zcn).getD 0).toNat:Nat))):zad Tryz.prog 96 [.s l] objs K:=by
 refine zbs is_token_shortEscape rfl fun C _ => ?_
 by_cases c0:(l.length:Int) < 2
 ·rw [List.getElem?_eq_none (by omega)] at hk
  simp only [c0,c_token_shortEscape,sxZ,z6,z7,z8,j4,j5,j6,j7,j8,j9,x0,x3,x4,x5,x6,x7,reduceCtorEq,↓reduceIte]
  exact hk
 have l1:1 < l.length:=by omega
 have g1:=zas l1
 rw [List.getElem?_eq_getElem l1,Option.bind_some] at hk
 generalize l[1]=c at *
 have e:=fun k (hk:k < 256) => zbH (c:=c) (k:=k) hk
 by_cases c1:((c.toNat:Nat):Int)=34
 ·rw [(e 34 (by decide)).1 c1] at hk
  simp only [c0,g1,c1,c_token_shortEscape,sxZ,z6,z7,z8,j4,j5,j6,j7,j8,j9,x0,x3,x4,x5,x6,x7,reduceCtorEq,↓reduceIte]
  exact ⟨by omega,by omega,hk⟩
 by_cases c2:((c.toNat:Nat):Int)=92
 ·rw [(e 92 (by decide)).1 c2] at hk
  simp only [c0,g1,c2,c_token_shortEscape,sxZ,z6,z7,z8,j4,j5,j6,j7,j8,j9,x0,x3,x4,x5,x6,x7,reduceCtorEq,↓reduceIte]
  exact ⟨by omega,by omega,hk⟩
 by_cases c3:((c.toNat:Nat):Int)=47
 ·rw [(e 47 (by decide)).1 c3] at hk
  simp only [c0,g1,c3,c_token_shortEscape,sxZ,z6,z7,z8,j4,j5,j6,j7,j8,j9,x0,x3,x4,x5,x6,x7,reduceCtorEq,↓reduceIte]
  exact ⟨by omega,by omega,hk⟩
 by_cases c4:((c.toNat:Nat):Int)=98
 ·rw [(e 98 (by decide)).1 c4] at hk
  simp only [c0,g1,c4,c_token_shortEscape,sxZ,z6,z7,z8,j4,j5,j6,j7,j8,j9,x0,x3,x4,x5,x6,x7,reduceCtorEq,↓reduceIte]
  exact ⟨by omega,hk⟩
 by_cases c5:((c.toNat:Nat):Int)=102
 ·rw [(e 102 (by decide)).1 c5] at hk
  simp only [c0,g1,c5,c_token_shortEscape,sxZ,z6,z7,z8,j4,j5,j6,j7,j8,j9,x0,x3,x4,x5,x6,x7,reduceCtorEq,↓reduceIte]
  exact ⟨by omega,hk⟩
 by_cases c6:((c.toNat:Nat):Int)=110
 ·rw [(e 110 (by decide)).1 c6] at hk
  simp only [c0,g1,c6,c_token_shortEscape,sxZ,z6,z7,z8,j4,j5,j6,j7,j8,j9,x0,x3,x4,x5,x6,x7,reduceCtorEq,↓reduceIte]
  exact ⟨by omega,hk⟩
 by_cases c7:((c.toNat:Nat):Int)=114
 ·rw [(e 114 (by decide)).1 c7] at hk
  simp only [c0,g1,c7,c_token_shortEscape,sxZ,z6,z7,z8,j4,j5,j6,j7,j8,j9,x0,x3,x4,x5,x6,x7,reduceCtorEq,↓reduceIte]
  exact ⟨by omega,hk⟩
 by_cases c8:((c.toNat:Nat):Int)=116
 ·rw [(e 116 (by decide)).1 c8] at hk
  simp only [c0,g1,c8,c_token_shortEscape,sxZ,z6,z7,z8,j4,j5,j6,j7,j8,j9,x0,x3,x4,x5,x6,x7,reduceCtorEq,↓reduceIte]
  exact ⟨by omega,hk⟩
 have hn:zcn c=none:=by
  unfold zcn
  rw [if_neg (by rintro (h | h | h); exact c1 ((e 34 (by decide)).2 h); exact c2 ((e 92 (by decide)).2 h); exact c3 ((e 47 (by decide)).2 h)),if_neg (show ¬ c=98 from fun h => c4 ((e 98 (by decide)).2 h)),if_neg (show ¬ c=102 from fun h => c5 ((e 102 (by decide)).2 h)),if_neg (show ¬ c=110 from fun h => c6 ((e 110 (by decide)).2 h)),if_neg (show ¬ c=114 from fun h => c7 ((e 114 (by decide)).2 h)),if_neg (show ¬ c=116 from fun h => c8 ((e 116 (by decide)).2 h))]
 rw [hn] at hk
 simp only [c0,g1,c1,c2,c3,c4,c5,c6,c7,c8,c_token_shortEscape,sxZ,z6,z7,z8,j4,j5,j6,j7,j8,j9,x0,x3,x4,x5,x6,x7,reduceCtorEq,↓reduceIte]
 exact ⟨by omega,hk⟩
end
def RdSt (s:List UInt8) (i:Nat) (out:List UInt8) (objs:List OB):Prop :=
 (out=[] ∧ objs=[.box 100 [.s s,.i .i64 (i:Nat),.nil]]) ∨ ∃ g,objs=[.box 100 [.s s,.i .i64 (i:Nat),.orow 1 g],.orow 5 1 g out.length (byA out)]
theorem zg2 {s:List UInt8} {i:Nat} (h:i < s.length):zbv s i=match zch (s.drop i) with | none => (0,0,7) | some (r,n) => ((r:Int),((i + n:Nat):Int),0):=by
 unfold zbv
 rw [if_neg (by omega),Int.toNat_natCast]
 cases zch (s.drop i) <;> simp
theorem zbZ (s:List UInt8) (i m:Nat):(s.take (i + m)).drop i=(s.drop i).take m:=by
 rw [List.drop_take,show i + m - i=m by omega]
def zcG (n:Nat) (r:List UInt8):Nat × Nat :=
 if 55296 ≤ n ∧ n < 56320 then (match zbX r with
  | some m => if 56320 ≤ m ∧ m ≤ 57343 then (65536 + (n - 55296) * 1024 + (m - 56320),12) else (n,6)
  | none => (n,6)) else (n,6)
theorem ziP {l:List UInt8} {n:Nat} (h0:(l[1]?).bind zcn=none) (h:zbX l=some n):zcF l=if cpB ((zcG n (l.drop 6)).1:Int)=true then (0,zdk (zcG n (l.drop 6)).1,(zcG n (l.drop 6)).2) else (7,[],0):=by
 have hn:=(zbG h).2
 have hcp:∀ k:Nat,cpB (k:Int)=decide (k ≤ 1114111 ∧ (k < 55296 ∨ 57343 < k)):=by
  intro k
  unfold cpB
  by_cases h1:k ≤ 1114111 ∧ (k < 55296 ∨ 57343 < k)
  ·rw [decide_eq_true (by omega),decide_eq_true h1]
  ·rw [decide_eq_false (by omega),decide_eq_false h1]
 have hE:zcF l=(if n < 55296 ∨ 57343 < n then ((0:Int),zdk n,6)
   else if 56319 < n then (7,[],0)
   else match zbX (l.drop 6) with
    | none => (7,[],0)
    | some m => if m < 56320 ∨ 57343 < m then (7,[],0) else (0,zdk (65536 + (n - 55296) * 1024 + (m - 56320)),12)):=by
  unfold zcF
  rw [h0,h]
  rfl
 rw [hE]
 by_cases c1:n < 55296 ∨ 57343 < n
 ·have hU:zcG n (l.drop 6)=(n,6):=by unfold zcG; rw [if_neg (show ¬ (55296 ≤ n ∧ n < 56320) by omega)]
  rw [if_pos c1,hU,hcp,if_pos (decide_eq_true (by omega))]
 ·by_cases c2:56319 < n
  ·have hU:zcG n (l.drop 6)=(n,6):=by unfold zcG; rw [if_neg (show ¬ (55296 ≤ n ∧ n < 56320) by omega)]
   rw [if_neg c1,if_pos c2,hU,hcp,if_neg (by rw [decide_eq_true_eq]; omega)]
  ·rw [if_neg c1,if_neg c2]
   cases hu:zbX (l.drop 6) with
   | none =>
    have hU:zcG n (l.drop 6)=(n,6):=by unfold zcG; rw [if_pos (show 55296 ≤ n ∧ n < 56320 by omega),hu]
    rw [hU,hcp,if_neg (by rw [decide_eq_true_eq]; omega)]
   | some m =>
    by_cases c3:m < 56320 ∨ 57343 < m
    ·have hU:zcG n (l.drop 6)=(n,6):=by
      unfold zcG; rw [if_pos (show 55296 ≤ n ∧ n < 56320 by omega),hu]
      simp only
      rw [if_neg (show ¬ (56320 ≤ m ∧ m ≤ 57343) by omega)]
     simp only
     rw [if_pos c3,hU,hcp,if_neg (by rw [decide_eq_true_eq]; omega)]
    ·have hU:zcG n (l.drop 6)=(65536 + (n - 55296) * 1024 + (m - 56320),12):=by
      unfold zcG; rw [if_pos (show 55296 ≤ n ∧ n < 56320 by omega),hu]
      simp only
      rw [if_pos (show 56320 ≤ m ∧ m ≤ 57343 by omega)]
     simp only
     rw [if_neg c3,hU,hcp,if_pos (decide_eq_true (by omega))]
theorem escU_ge (n:Nat) (r:List UInt8):6 ≤ (zcG n r).2:=by
 unfold zcG
 repeat' split
 all_goals first | exact Nat.le_refl _ | (show 6 ≤ 12; omega)
theorem ziQ {l:List UInt8} {n:Nat} (h:zbX l=some n):(zcG n (l.drop 6)).2 ≤ l.length ∧ (zcG n (l.drop 6)).1 ≤ 1114111:=by
 have h1:=zbG h
 unfold zcG
 split
 ·cases hu:zbX (l.drop 6) with
  | none => simp only; omega
  | some m =>
   have h2:=zbG hu
   rw [List.length_drop] at h2
   simp only
   split
   ·simp only; omega
   ·simp only; omega
 ·simp only; omega
theorem zfW {l x:List UInt8} {n:Nat} (h:zcF l=(0,x,n)):x.length ≤ n ∧ 1 ≤ n ∧ n ≤ l.length:=by
 cases hse:(l[1]?).bind zcn with
 | some d =>
  have he:zcF l=(0,[d],2):=by unfold zcF; rw [hse]
  rw [he] at h
  injection h with _ h; injection h with h1 h2
  subst h1 h2
  obtain ⟨c,h2,_⟩:=Option.bind_eq_some_iff.1 hse
  have:=(List.getElem?_eq_some_iff.1 h2).1
  exact ⟨by simp,by omega,by omega⟩
 | none =>
  cases hu:zbX l with
  | none =>
   have he:zcF l=(130,[],0):=by unfold zcF; rw [hse,hu]
   rw [he] at h
   injection h with h _; cases h
  | some k =>
   have he:=ziP hse hu
   have h3:=ziQ hu
   have h4:=escU_ge k (l.drop 6)
   have h5:=ziS (r:=(zcG k (l.drop 6)).1)
   rw [h] at he
   split at he
   ·injection he with _ he; injection he with h1 h2
    subst h1 h2
    omega
   ·injection he with he _; cases he
section
variable [Tabs Tryz.prog] [Utf Tryz.prog] {objs:List OB} {K:List OB → AV → Prop}
set_option maxHeartbeats 4000000 in
theorem plain_k (s out:List UInt8) (i:Nat) (h:RdSt s i out objs) (hs:s.length ≤ 140737488351232) (ho:out.length ≤ i) (hi:i < s.length) (h1:s[i].toNat < 32 → K objs (.i .i64 130)) (h2:32 ≤ s[i].toNat → zch (s.drop i)=none → K objs (.i .i64 7))
  (h3:32 ≤ s[i].toNat → ∀ r m,zch (s.drop i)=some (r,m) → ∀ o,RdSt s (i + m) (out ++ (s.drop i).take m) o → K o (.i .i64 0)):zad Tryz.prog 80 [.p 0 0] objs K:=by
 refine zbt is_token_stringReader_plain fun C _ => ?_
 have hg:=zas hi
 have hd:=zg2 hi
 rcases h with ⟨rfl,rfl⟩ | ⟨g,rfl⟩
 ·by_cases c1:((s[i].toNat:Nat):Int) < 32
  ·simp only [hg,c1,c_token_stringReader_plain,sxZ,z6,z7,z8,j4,j5,j6,j7,j8,j9,x0,x3,x4,x5,x6,x7,reduceCtorEq,↓reduceIte]
   exact ⟨by omega,h1 (by omega)⟩
  simp only [hg,c1,c_token_stringReader_plain,sxZ,z6,z7,z8,j4,j5,j6,j7,j8,j9,x0,x3,x4,x5,x6,x7,reduceCtorEq,↓reduceIte]
  refine ⟨by omega,?_⟩
  refine zgM (zge s i hs ⟨rfl,rfl⟩) ?_
  cases hdu:zch (s.drop i) with
  | none =>
   rw [hdu] at hd
   rw [hd]
   simp only [sxZ,z6,z7,z8,j4,j5,j6,j7,j8,j9,x0,x3,x4,x5,x6,x7,reduceCtorEq,↓reduceIte]
   exact h2 (by omega) hdu
  | some q =>
   obtain ⟨r,m⟩:=q
   rw [hdu] at hd
   rw [hd]
   obtain ⟨g1,g2,g3,g4,g5⟩:=zbF hdu
   rw [List.length_drop] at g3
   simp only [sxZ,z6,z7,z8,j4,j5,j6,j7,j8,j9,x0,x3,x4,x5,x6,x7,reduceCtorEq,↓reduceIte]
   rw [zbZ s i m]
   refine ⟨by omega,?_,h3 (by omega) r m hdu _ (.inr ⟨0,rfl⟩)⟩
   rw [List.length_take,List.length_drop]; omega
 ·by_cases c1:((s[i].toNat:Nat):Int) < 32
  ·simp only [hg,c1,c_token_stringReader_plain,sxZ,z6,z7,z8,j4,j5,j6,j7,j8,j9,x0,x3,x4,x5,x6,x7,reduceCtorEq,↓reduceIte]
   exact ⟨by omega,h1 (by omega)⟩
  simp only [hg,c1,c_token_stringReader_plain,sxZ,z6,z7,z8,j4,j5,j6,j7,j8,j9,x0,x3,x4,x5,x6,x7,reduceCtorEq,↓reduceIte]
  refine ⟨by omega,?_⟩
  refine zgM (zge s i hs ⟨rfl,rfl⟩) ?_
  cases hdu:zch (s.drop i) with
  | none =>
   rw [hdu] at hd
   rw [hd]
   simp only [sxZ,z6,z7,z8,j4,j5,j6,j7,j8,j9,x0,x3,x4,x5,x6,x7,reduceCtorEq,↓reduceIte]
   exact h2 (by omega) hdu
  | some q =>
   obtain ⟨r,m⟩:=q
   rw [hdu] at hd
   rw [hd]
   obtain ⟨g1,g2,g3,g4,g5⟩:=zbF hdu
   rw [List.length_drop] at g3
   simp only [sxZ,z6,z7,z8,j4,j5,j6,j7,j8,j9,x0,x3,x4,x5,x6,x7,reduceCtorEq,↓reduceIte]
   rw [zbZ s i m]
   have hl:((s.drop i).take m).length ≤ 4:=by rw [List.length_take]; omega
   refine ⟨by omega,by omega,h3 (by omega) r m hdu _ (.inr ⟨g + 1,?_⟩)⟩
   rw [zhQ,List.length_append]
set_option maxHeartbeats 4000000 in
theorem escape_k (s out:List UInt8) (i:Nat) (h:RdSt s i out objs) (hs:s.length ≤ 140737488351232) (ho:out.length ≤ i) (hi:i ≤ s.length) (h1:(zcF (s.drop i)).1 ≠ 0 → K objs (.i .i64 (zcF (s.drop i)).1))
  (h3:(zcF (s.drop i)).1=0 → ∀ o,RdSt s (i + (zcF (s.drop i)).2.2) (out ++ (zcF (s.drop i)).2.1) o → K o (.i .i64 0)):zad Tryz.prog 81 [.p 0 0] objs K:=by
 refine zbt is_token_stringReader_escape fun C _ => ?_
 have hmx:=zbx
 have hld:(s.drop i).length=s.length - i:=List.length_drop
 obtain ⟨X,T,rfl,hX⟩:∃ X T,objs=.box 100 [.s s,.i .i64 (i:Nat),X] :: T ∧ ((out=[] ∧ X=.nil ∧ T=[]) ∨ ∃ g,X=.orow 1 g ∧ T=[.orow 5 1 g out.length (byA out)]):=by
  rcases h with ⟨h1,h2⟩ | ⟨g,h2⟩
  ·exact ⟨_,_,h2,.inl ⟨h1,rfl,rfl⟩⟩
  ·exact ⟨_,_,h2,.inr ⟨g,rfl,rfl⟩⟩
 have push:∀ (x:List UInt8) (m:Nat),zcF (s.drop i)=(0,x,m) → ∀ o,RdSt s (i + m) (out ++ x) o → K o (.i .i64 0):=by
  intro x m e o ho
  rw [e] at h3
  exact h3 rfl o ho
 have fail:∀ e:Int,e ≠ 0 → zcF (s.drop i)=(e,[],0) → K (.box 100 [.s s,.i .i64 (i:Nat),X] :: T) (.i .i64 e):=by
  intro e he h
  rw [h] at h1
  exact h1 he
 clear h h1 h3
 rw [c_token_stringReader_escape]
 refine zab fun Y1 hY1 => ?_
 simp only [sxZ,z6,z7,z8,j4,j5,j6,j7,j8,j9,x0,x3,x4,x5,x6,x7,reduceCtorEq,↓reduceIte]
 subst hY1
 refine zab fun Y1 hY1 => ?_
 simp only [sxZ,z6,z7,z8,j4,j5,j6,j7,j8,j9,x0,x3,x4,x5,x6,x7,reduceCtorEq,↓reduceIte]
 refine ⟨by omega,?_⟩
 subst hY1
 refine zab fun Y1 hY1 => ?_
 simp only [sxZ,z6,z7,z8,j4,j5,j6,j7,j8,j9,x0,x3,x4,x5,x6,x7,reduceCtorEq,↓reduceIte]
 refine zak (zfz (s.drop i) ?_)
 cases hse:((s.drop i)[1]?).bind zcn with
 | some d =>
  have hne:d ≠ 0:=by
   obtain ⟨c,_,h2⟩:=Option.bind_eq_some_iff.1 hse
   exact zkh h2
  have hd0:¬ ((d.toNat:Nat):Int)=0:=by
   intro h
   apply hne
   have h2:d.toNat=0:=by omega
   exact UInt8.toNat_inj.1 h2
  have he:zcF (s.drop i)=(0,[d],2):=by unfold zcF; rw [hse]
  rcases hX with ⟨rfl,rfl,rfl⟩ | ⟨g,rfl,rfl⟩
  ·simp only [hd0,sxZ,z6,z7,z8,j4,j5,j6,j7,j8,j9,x0,x3,x4,x5,x6,x7,reduceCtorEq,↓reduceIte]
   exact ⟨by omega,push _ _ he _ (.inr ⟨0,rfl⟩)⟩
  ·simp only [hd0,sxZ,z6,z7,z8,j4,j5,j6,j7,j8,j9,x0,x3,x4,x5,x6,x7,reduceCtorEq,↓reduceIte]
   refine ⟨by omega,by omega,push _ _ he _ (.inr ⟨g + 1,?_⟩)⟩
   rw [zhQ,List.length_append]; rfl
 | none =>
  have e0:(((Option.getD (none:Option UInt8) 0).toNat:Nat):Int)=0:=rfl
  rw [e0]
  simp only [sxZ,z6,z7,z8,j4,j5,j6,j7,j8,j9,x0,x3,x4,x5,x6,x7,reduceCtorEq,↓reduceIte]
  subst hY1
  refine zab fun Y1 hY1 => ?_
  simp only [sxZ,z6,z7,z8,j4,j5,j6,j7,j8,j9,x0,x3,x4,x5,x6,x7,reduceCtorEq,↓reduceIte]
  refine zak (zh1 (s.drop i) (by omega) ?_)
  cases hu:zbX (s.drop i) with
  | none =>
   intro x
   have he:zcF (s.drop i)=(130,[],0):=by unfold zcF; rw [hse,hu]
   simp only [sxZ,z6,z7,z8,j4,j5,j6,j7,j8,j9,x0,x3,x4,x5,x6,x7,reduceCtorEq,↓reduceIte]
   subst hY1
   simp only [sxZ,z6,z7,z8,j4,j5,j6,j7,j8,j9,x0,x3,x4,x5,x6,x7,reduceCtorEq,↓reduceIte]
   exact fail 130 (by decide) he
  | some n =>
   have hul:=zbG hu
   have hel:=ziQ hu
   have heo:=ziP hse hu
   simp only [sxZ,z6,z7,z8,j4,j5,j6,j7,j8,j9,x0,x3,x4,x5,x6,x7,reduceCtorEq,↓reduceIte]
   subst hY1
   refine zab fun Y1 hY1 => ?_
   simp only [sxZ,z6,z7,z8,j4,j5,j6,j7,j8,j9,x0,x3,x4,x5,x6,x7,reduceCtorEq,↓reduceIte]
   subst hY1
   refine zab fun Y1 hY1 => ?_
   simp only [sxZ,z6,z7,z8,j4,j5,j6,j7,j8,j9,x0,x3,x4,x5,x6,x7,reduceCtorEq,↓reduceIte]
   subst hY1
   refine zab fun Y1 hY1 => ?_
   refine zaz (fun o t => o=.box 100 [.s s,.i .i64 (i:Nat),X] :: T ∧ t.length=103 ∧ t[0]? = some (.p 0 0) ∧ t[5]? = some (.i .i64 ((zcG n ((s.drop i).drop 6)).1:Nat)) ∧ t[7]? = some (.i .i64 ((zcG n ((s.drop i).drop 6)).2:Nat))) ?_ ?_
   ·unfold zcG
    by_cases c1:(55296:Int) ≤ n
    ·by_cases c2:(n:Int) < 56320
     ·rw [if_pos (by omega)]
      simp only [c1,c2,sxZ,z6,z7,z8,j4,j5,j6,j7,j8,j9,x0,x3,x4,x5,x6,x7,reduceCtorEq,↓reduceIte]
      refine ⟨by omega,?_⟩
      refine zak (zh1 _ (by rw [List.length_drop]; omega) ?_)
      cases hu2:zbX ((s.drop i).drop 6) with
      | none =>
       intro x
       simp only [zaa,sxZ,z6,z7,z8,j4,j5,j6,j7,j8,j9,x0,x3,x4,x5,x6,x7,reduceCtorEq,↓reduceIte]
       and_intros <;> first | omega | exact iv (by omega) | rfl | assumption
      | some m =>
       have hm:=(zbG hu2).2
       by_cases c3:(56320:Int) ≤ m
       ·by_cases c4:(m:Int) ≤ 57343
        ·simp only
         rw [if_pos (show 56320 ≤ m ∧ m ≤ 57343 by omega)]
         simp only [c3,c4,zaa,sxZ,z6,z7,z8,j4,j5,j6,j7,j8,j9,x0,x3,x4,x5,x6,x7,reduceCtorEq,↓reduceIte]
         and_intros <;> first | omega | exact iv (by omega) | rfl | assumption
        ·simp only
         rw [if_neg (show ¬ (56320 ≤ m ∧ m ≤ 57343) by omega)]
         simp only [c3,c4,zaa,sxZ,z6,z7,z8,j4,j5,j6,j7,j8,j9,x0,x3,x4,x5,x6,x7,reduceCtorEq,↓reduceIte]
         and_intros <;> first | omega | exact iv (by omega) | rfl | assumption
       ·simp only
        rw [if_neg (show ¬ (56320 ≤ m ∧ m ≤ 57343) by omega)]
        simp only [c3,zaa,sxZ,z6,z7,z8,j4,j5,j6,j7,j8,j9,x0,x3,x4,x5,x6,x7,reduceCtorEq,↓reduceIte]
        and_intros <;> first | omega | exact iv (by omega) | rfl | assumption
     ·rw [if_neg (by omega)]
      simp only [c1,c2,zaa,sxZ,z6,z7,z8,j4,j5,j6,j7,j8,j9,x0,x3,x4,x5,x6,x7,reduceCtorEq,↓reduceIte]
      and_intros <;> first | omega | exact iv (by omega) | rfl | assumption
    ·rw [if_neg (by omega)]
     simp only [c1,zaa,sxZ,z6,z7,z8,j4,j5,j6,j7,j8,j9,x0,x3,x4,x5,x6,x7,reduceCtorEq,↓reduceIte]
     and_intros <;> first | omega | exact iv (by omega) | rfl | assumption
   rintro _ tm ⟨rfl,hlen,t0,t5,t7⟩
   subst hY1
   generalize zcG n ((s.drop i).drop 6)=q at *
   obtain ⟨U,Z⟩:=q
   simp only at hel heo t5 t7
   simp only [sxZ,z6,z7,z8,j4,j5,j6,j7,j8,j9,x0,x3,x4,x5,x6,x7,reduceCtorEq,↓reduceIte,List.getElem?_set,hlen,t0,t5,t7]
   refine zak (zj1 _ ?_)
   unfold zee
   by_cases c5:cpB ((U:Nat):Int)=true
   ·rw [if_pos c5] at heo ⊢
    have hxl:=(ziS (r:=U))
    rw [Int.toNat_natCast]
    rcases hX with ⟨rfl,rfl,rfl⟩ | ⟨g,rfl,rfl⟩
    ·simp only [sxZ,z6,z7,z8,j4,j5,j6,j7,j8,j9,x0,x3,x4,x5,x6,x7,reduceCtorEq,↓reduceIte,List.getElem?_set,hlen,t0,t5,t7]
     refine ⟨by omega,by omega,?_⟩
     have:=push _ _ heo (.box 100 [.s s,.i .i64 ((i + Z:Nat):Int),.orow 1 0] :: [.orow 5 1 0 (zdk U).length (byA (zdk U))]) (.inr ⟨0,rfl⟩)
     exact this
    ·simp only [sxZ,z6,z7,z8,j4,j5,j6,j7,j8,j9,x0,x3,x4,x5,x6,x7,reduceCtorEq,↓reduceIte,List.getElem?_set,hlen,t0,t5,t7]
     refine ⟨by omega,by omega,?_⟩
     refine push _ _ heo _ (.inr ⟨g + 1,?_⟩)
     rw [zhQ,List.length_append]; rfl
   ·rw [if_neg c5] at heo ⊢
    simp only [sxZ,z6,z7,z8,j4,j5,j6,j7,j8,j9,x0,x3,x4,x5,x6,x7,reduceCtorEq,↓reduceIte,List.getElem?_set,hlen,t0,t5,t7]
    exact fail 7 (by decide) heo
omit [Tabs Tryz.prog] [Utf Tryz.prog] in
theorem zjy:IsFn Tryz.prog 80:=⟨_,Tryz.func80,by kernel_rfl,of_decide_eq_true (by kernel_rfl)⟩
omit [Tabs Tryz.prog] [Utf Tryz.prog] in
theorem zhI:IsFn Tryz.prog 81:=⟨_,Tryz.func81,by kernel_rfl,of_decide_eq_true (by kernel_rfl)⟩
set_option maxHeartbeats 4000000 in
theorem zgw (s:List UInt8) (a:Nat) (hs:s.length ≤ 140737488351232) (ha:a < s.length) (R:Int × List UInt8 × Nat) (hR:zcL ((s.drop (a + 1)).length + 1) (s.drop (a + 1)) [] 0=R)
  (h1:R.1 ≠ 0 → K objs (.tup [.s [],.i .i64 0,.i .i64 R.1])) (h0:R.1=0 → K objs (.tup [.s R.2.1,.i .i64 ((a + 1 + R.2.2:Nat):Int),.i .i64 0])):zad Tryz.prog 56 [.s s,.i .i64 (a:Nat)] objs K:=by
 refine zbs is_token_readString rfl fun C _ => ?_
 simp only [c_token_readString,sxZ,z6,z7,z8,j4,j5,j6,j7,j8,j9,x0,x3,x4,x5,x6,x7,reduceCtorEq,↓reduceIte]
 refine ⟨by omega,?_⟩
 refine za6 (fun n o tm => ∃ (i:Nat) (out:List UInt8) (m:Nat),i ≤ s.length ∧ a + 1 ≤ i ∧ n=s.length - i ∧ RdSt s i out o ∧ out.length ≤ i ∧ s.length - i < m ∧ zcL m (s.drop i) out (i - (a + 1))=R ∧ tm.length=53 ∧ tm[0]? = some (.s s) ∧ tm[7]? = some (.p 0 0) ∧ tm[8]? = some (.fn 80 [.p 0 0] []) ∧ tm[9]? = some (.fn 81 [.p 0 0] [])) (s.length - (a + 1))
  ⟨a + 1,[],(s.drop (a + 1)).length + 1,ha,Nat.le_refl _,rfl,.inl ⟨rfl,rfl⟩,Nat.zero_le _,by rw [List.length_drop]; omega,by rw [Nat.sub_self]; exact hR,rfl,rfl,rfl,rfl,rfl⟩ ?_
 rintro n o tm ⟨i,out,m,hi,hai,rfl,hst,ho,hm,hT,hlen,t0,t7,t8,t9⟩
 have hst2:=hst
 obtain ⟨X,T,rfl,hX⟩:∃ X T,o=.box 100 [.s s,.i .i64 (i:Nat),X] :: T ∧ ((out=[] ∧ X=.nil ∧ T=[]) ∨ ∃ g,X=.orow 1 g ∧ T=[.orow 5 1 g out.length (byA out)]):=by
  rcases hst with ⟨h1,h2⟩ | ⟨g,h2⟩
  ·exact ⟨_,_,h2,.inl ⟨h1,rfl,rfl⟩⟩
  ·exact ⟨_,_,h2,.inr ⟨g,rfl,rfl⟩⟩
 clear hst
 obtain ⟨m,rfl⟩:∃ m',m=m' + 1:=⟨m - 1,by omega⟩
 by_cases hlt:(i:Int) < s.length
 ·have hlt':i < s.length:=by omega
  have hne:¬ (i:Int)=s.length:=by omega
  have hg:=zas hlt'
  have hdc:=List.drop_eq_getElem_cons hlt'
  by_cases c1:((s[i].toNat:Nat):Int)=34
  ·have hc:s[i]=34:=(zbH (by decide)).1 c1
   rw [hdc,zcL,if_pos hc] at hT
   subst hT
   have h0:=h0 rfl
   rcases hX with ⟨rfl,rfl,rfl⟩ | ⟨g,rfl,rfl⟩
   ·simp only [hlt,hne,hg,c1,sxZ,z6,z7,z8,j4,j5,j6,j7,j8,j9,x0,x3,x4,x5,x6,x7,reduceCtorEq,↓reduceIte,List.getElem?_set,hlen,t0,t7,t8,t9]
    refine ⟨by omega,by omega,?_⟩
    rw [show a + 1 + (i - (a + 1) + 1)=i + 1 by omega] at h0
    exact h0
   ·simp only [hlt,hne,hg,c1,sxZ,z6,z7,z8,j4,j5,j6,j7,j8,j9,x0,x3,x4,x5,x6,x7,reduceCtorEq,↓reduceIte,List.getElem?_set,hlen,t0,t7,t8,t9]
    refine ⟨by omega,⟨rfl,rfl⟩,out,rfl,?_⟩
    simp only [hlt,hne,hg,c1,sxZ,z6,z7,z8,j4,j5,j6,j7,j8,j9,x0,x3,x4,x5,x6,x7,reduceCtorEq,↓reduceIte,List.getElem?_set,hlen,t0,t7,t8,t9]
    refine ⟨by omega,?_⟩
    rw [show a + 1 + (i - (a + 1) + 1)=i + 1 by omega] at h0
    exact h0
  ·have hc:¬ s[i]=34:=fun h => c1 ((zbH (by decide)).2 h)
   by_cases c2:((s[i].toNat:Nat):Int)=92
   ·have hc2:s[i]=92:=(zbH (by decide)).1 c2
    rw [hdc,zcL,if_neg hc,if_pos hc2,← hdc] at hT
    simp only [hlt,hg,c1,c2,sxZ,z6,z7,z8,j4,j5,j6,j7,j8,j9,x0,x3,x4,x5,x6,x7,reduceCtorEq,↓reduceIte,List.getElem?_set,hlen,t0,t7,t8,t9]
    refine ⟨by omega,by omega,?_⟩
    refine kcallv zhI (escape_k s out i hst2 hs ho hi (fun he => ?_) (fun he o' ho' => ?_))
    ·rw [if_pos he] at hT
     subst hT
     simp only [he,sxZ,z6,z7,z8,j4,j5,j6,j7,j8,j9,x0,x3,x4,x5,x6,x7,reduceCtorEq,↓reduceIte,List.getElem?_set,hlen,t0,t7,t8,t9]
     exact h1 he
    ·rw [if_neg (by rw [he]; simp)] at hT
     generalize hq:zcF (s.drop i)=q at *
     obtain ⟨e,x,m'⟩:=q
     simp only at he hT ho'
     subst he
     have hl:=zfW hq
     rw [List.length_drop] at hl
     simp only [sxZ,z6,z7,z8,j4,j5,j6,j7,j8,j9,x0,x3,x4,x5,x6,x7,reduceCtorEq,↓reduceIte,List.getElem?_set,hlen,t0,t7,t8,t9]
     exact ⟨s.length - (i + m'),by omega,i + m',out ++ x,m,by omega,by omega,rfl,ho',by rw [List.length_append]; omega,by omega,by rw [← List.drop_drop,show i + m' - (a + 1)=i - (a + 1) + m' by omega]; exact hT⟩
   ·have hc2:¬ s[i]=92:=fun h => c2 ((zbH (by decide)).2 h)
    rw [hdc,zcL,if_neg hc,if_neg hc2,← hdc] at hT
    simp only [hlt,hg,c1,c2,sxZ,z6,z7,z8,j4,j5,j6,j7,j8,j9,x0,x3,x4,x5,x6,x7,reduceCtorEq,↓reduceIte,List.getElem?_set,hlen,t0,t7,t8,t9]
    refine ⟨by omega,by omega,?_⟩
    refine kcallv zjy (plain_k s out i hst2 hs ho hlt' (fun he => ?_) (fun he hd => ?_) (fun he r m' hd o' ho' => ?_))
    ·rw [if_pos he] at hT
     subst hT
     simp only [sxZ,z6,z7,z8,j4,j5,j6,j7,j8,j9,x0,x3,x4,x5,x6,x7,reduceCtorEq,↓reduceIte,List.getElem?_set,hlen,t0,t7,t8,t9]
     exact h1 (by decide)
    ·rw [if_neg (by omega),hd] at hT
     simp only at hT
     subst hT
     simp only [sxZ,z6,z7,z8,j4,j5,j6,j7,j8,j9,x0,x3,x4,x5,x6,x7,reduceCtorEq,↓reduceIte,List.getElem?_set,hlen,t0,t7,t8,t9]
     exact h1 (by decide)
    ·rw [if_neg (by omega),hd] at hT
     simp only at hT
     have gg:m' ≤ (s.drop i).length ∧ 1 ≤ m':=⟨(zbF hd).2.2.1,(zbF hd).2.2.2.1⟩
     have hxl:((s.drop i).take m').length ≤ m':=by rw [List.length_take]; omega
     rw [List.length_drop] at gg
     simp only [sxZ,z6,z7,z8,j4,j5,j6,j7,j8,j9,x0,x3,x4,x5,x6,x7,reduceCtorEq,↓reduceIte,List.getElem?_set,hlen,t0,t7,t8,t9]
     exact ⟨s.length - (i + m'),by omega,i + m',out ++ (s.drop i).take m',m,by omega,by omega,rfl,ho',by rw [List.length_append]; omega,by omega,by rw [← List.drop_drop,show i + m' - (a + 1)=i - (a + 1) + m' by omega]; exact hT⟩
 ·obtain rfl:i=s.length:=by omega
  rw [List.drop_length,zcL] at hT
  subst hT
  simp only [sxZ,z6,z7,z8,j4,j5,j6,j7,j8,j9,x0,x3,x4,x5,x6,x7,reduceCtorEq,↓reduceIte,List.getElem?_set,hlen,t0,t7,hlt]
  exact h1 (by decide)
end
def zaA (s:List UInt8) (a:Int):(Int × List UInt8 × Int) × Int × Int :=
 if a < 0 ∨ (s.length:Int) < a then ((0,[],0),0,4)
 else if (zaS (s.drop (a.toNat + zaV (s.drop a.toNat)))).1 ≠ 0 then ((0,[],0),0,(zaS (s.drop (a.toNat + zaV (s.drop a.toNat)))).1)
 else (((zaS (s.drop (a.toNat + zaV (s.drop a.toNat)))).2.1,(zaS (s.drop (a.toNat + zaV (s.drop a.toNat)))).2.2.1,((a.toNat + zaV (s.drop a.toNat):Nat):Int)),((a.toNat + zaV (s.drop a.toNat) + (zaS (s.drop (a.toNat + zaV (s.drop a.toNat)))).2.2.2:Nat):Int),0)
def zfa (r:(Int × List UInt8 × Int) × Int × Int):AV:=.tup [.agg [.i .i64 r.1.1,.s r.1.2.1,.i .i64 r.1.2.2],.i .i64 r.2.1,.i .i64 r.2.2]
theorem zjX (s:List UInt8) (i:Nat) (h:i < s.length):za3 (s.drop i)=if zcf s[i]=true then za3 (s.drop (i + 1)) + 1 else 0:=by
 rw [List.drop_eq_getElem_cons h,za3]
theorem zhY (s:List UInt8) (i:Nat) (h:i < s.length):zaV (s.drop i)=if zcR s[i]=true then zaV (s.drop (i + 1)) + 1 else 0:=by
 rw [List.drop_eq_getElem_cons h,zaV]
theorem zfs:∀ l:List UInt8,za3 l ≤ l.length
 | [] => Nat.le_refl _
 | c :: t => by
  have:=zfs t
  unfold za3
  split <;> simp only [List.length_cons] <;> omega
theorem zds:∀ l:List UInt8,zaV l ≤ l.length
 | [] => Nat.le_refl _
 | c :: t => by
  have:=zds t
  unfold zaV
  split <;> simp only [List.length_cons] <;> omega
section
variable [Tabs Tryz.prog] [Utf Tryz.prog] {objs:List OB} {K:List OB → AV → Prop}
set_option maxHeartbeats 4000000 in
theorem read_k (s:List UInt8) (a:Nat) (hs:s.length ≤ 140737488351232) (ha:a ≤ s.length)
  (h1:(zaS (s.drop a)).1 ≠ 0 → ∀ (kd:Int) (t:List UInt8) (b:Int),K objs (.tup [.i .i64 kd,.s t,.i .i64 b,.i .i64 (zaS (s.drop a)).1]))
  (h0:(zaS (s.drop a)).1=0 → K objs (.tup [.i .i64 (zaS (s.drop a)).2.1,.s (zaS (s.drop a)).2.2.1,.i .i64 ((a + (zaS (s.drop a)).2.2.2:Nat):Int),.i .i64 0])):zad Tryz.prog 34 [.s s,.i .i64 (a:Nat)] objs K:=by
 refine zbs is_token_read rfl fun C _ => ?_
 by_cases c0:(a:Int)=s.length
 ·obtain rfl:a=s.length:=by omega
  have he:zaS (s.drop s.length)=(0,1,[],0):=by rw [List.drop_length]; rfl
  rw [he] at h0
  simp only [c_token_read,sxZ,z6,z7,z8,j4,j5,j6,j7,j8,j9,x0,x3,x4,x5,x6,x7,reduceCtorEq,↓reduceIte]
  exact h0 rfl
 have hlt:a < s.length:=by omega
 have hg:=zas hlt
 have hdc:=List.drop_eq_getElem_cons hlt
 rw [c_token_read]
 refine zab fun Y1 hY1 => ?_
 simp only [sxZ,z6,z7,z8,j4,j5,j6,j7,j8,j9,x0,x3,x4,x5,x6,x7,reduceCtorEq,↓reduceIte]
 subst hY1
 refine zab fun Y1 hY1 => ?_
 simp only [c0,sxZ,z6,z7,z8,j4,j5,j6,j7,j8,j9,x0,x3,x4,x5,x6,x7,reduceCtorEq,↓reduceIte]
 subst hY1
 refine zab fun Y1 hY1 => ?_
 simp only [hg,sxZ,z6,z7,z8,j4,j5,j6,j7,j8,j9,x0,x3,x4,x5,x6,x7,reduceCtorEq,↓reduceIte]
 refine ⟨by omega,?_⟩
 refine zak (zgp _ s[a] ?_)
 by_cases c1:zcI s[a] [123,125,91,93,58,44]=true
 ·have he:zaS (s.drop a)=(0,2,[s[a]],1):=by rw [hdc,zaS,if_pos c1]
  rw [he] at h0
  have hi:=zlU [123,125,91,93,58,44] s[a]
  rw [c1] at hi
  have hi:=of_decide_eq_true hi
  have hx:(s.take (a + 1)).drop a=[s[a]]:=by rw [zbZ,hdc]; rfl
  have e1:((a:Int) + 1).toNat=a + 1:=by omega
  simp only [hi,c0,hg,e1,hx,sxZ,z6,z7,z8,j4,j5,j6,j7,j8,j9,x0,x3,x4,x5,x6,x7,reduceCtorEq,↓reduceIte]
  (and_intros <;> try omega)
  exact h0 rfl
 have hi:¬ (0:Int) ≤ Lib.indexByte [123,125,91,93,58,44] s[a]:=by
  intro h
  have hi:=zlU [123,125,91,93,58,44] s[a]
  rw [decide_eq_true h] at hi
  exact c1 hi.symm
 by_cases c2:((s[a].toNat:Nat):Int)=34
 ·have hc:s[a]=34:=(zbH (by decide)).1 c2
  simp only [hi,c2,sxZ,z6,z7,z8,j4,j5,j6,j7,j8,j9,x0,x3,x4,x5,x6,x7,reduceCtorEq,↓reduceIte]
  have he:zaS (s.drop a)=if (zcL ((s.drop (a + 1)).length + 1) (s.drop (a + 1)) [] 0).1 ≠ 0 then ((zcL ((s.drop (a + 1)).length + 1) (s.drop (a + 1)) [] 0).1,0,[],0) else (0,3,(zcL ((s.drop (a + 1)).length + 1) (s.drop (a + 1)) [] 0).2.1,(zcL ((s.drop (a + 1)).length + 1) (s.drop (a + 1)) [] 0).2.2 + 1):=by
   rw [hdc,zaS,if_neg c1,if_pos hc]
  refine zak (zgw s a hs hlt _ rfl (fun hR => ?_) (fun hR => ?_))
  ·rw [if_pos hR] at he
   rw [he] at h1
   simp only [sxZ,z6,z7,z8,j4,j5,j6,j7,j8,j9,x0,x3,x4,x5,x6,x7,reduceCtorEq,↓reduceIte]
   exact h1 hR _ _ _
  ·rw [if_neg (by rw [hR]; simp)] at he
   rw [he] at h0
   simp only [sxZ,z6,z7,z8,j4,j5,j6,j7,j8,j9,x0,x3,x4,x5,x6,x7,reduceCtorEq,↓reduceIte]
   have:=h0 rfl
   rw [show a + ((zcL ((s.drop (a + 1)).length + 1) (s.drop (a + 1)) [] 0).2.2 + 1)=a + 1 + (zcL ((s.drop (a + 1)).length + 1) (s.drop (a + 1)) [] 0).2.2 by omega] at this
   exact this
 have hc:¬ s[a]=34:=fun h => c2 ((zbH (by decide)).2 h)
 have num:(s[a]=45 ∨ zai s[a]=true) → ∀ (e:Int) (x:List UInt8) (n:Nat),zda (s.drop a)=n → zaS (s.drop a)=if n=0 then (130,0,[],0) else (0,4,(s.drop a).take n,n):=by
  rintro h e x n rfl
  conv => lhs; rw [hdc]
  rw [zaS,if_neg c1,if_neg hc,if_pos h,← hdc]
 have hnl:=zhx (s.drop a)
 rw [List.length_drop] at hnl
 by_cases c3:((s[a].toNat:Nat):Int)=45
 ·have he:=num (.inl ((zbH (by decide)).1 c3)) 0 [] _ rfl
  simp only [hi,c3,sxZ,z6,z7,z8,j4,j5,j6,j7,j8,j9,x0,x3,x4,x5,x6,x7,reduceCtorEq,↓reduceIte]
  refine zak (zdf s a ha (by omega) ?_)
  generalize zda (s.drop a)=n at *
  by_cases c4:n=0
  ·subst c4
   rw [if_pos rfl] at he
   rw [he] at h1
   simp only [Nat.add_zero,sxZ,z6,z7,z8,j4,j5,j6,j7,j8,j9,x0,x3,x4,x5,x6,x7,reduceCtorEq,↓reduceIte]
   exact h1 (by decide) _ _ _
  ·have c4':¬ ((a + n:Nat):Int)=a:=by omega
   rw [if_neg c4] at he
   rw [he] at h0
   simp only [c4',sxZ,z6,z7,z8,j4,j5,j6,j7,j8,j9,x0,x3,x4,x5,x6,x7,reduceCtorEq,↓reduceIte]
   rw [zbZ]
   refine ⟨by omega,h0 rfl⟩
 have hc3:¬ s[a]=45:=fun h => c3 ((zbH (by decide)).2 h)
 simp only [hi,c2,c3,sxZ,z6,z7,z8,j4,j5,j6,j7,j8,j9,x0,x3,x4,x5,x6,x7,reduceCtorEq,↓reduceIte]
 refine zak (zjh s[a] ?_)
 by_cases c5:zai s[a]=true
 ·have he:=num (.inr c5) 0 [] _ rfl
  simp only [c5,sxZ,z6,z7,z8,j4,j5,j6,j7,j8,j9,x0,x3,x4,x5,x6,x7,reduceCtorEq,↓reduceIte]
  refine zak (zdf s a ha (by omega) ?_)
  generalize zda (s.drop a)=n at *
  by_cases c4:n=0
  ·subst c4
   rw [if_pos rfl] at he
   rw [he] at h1
   simp only [Nat.add_zero,sxZ,z6,z7,z8,j4,j5,j6,j7,j8,j9,x0,x3,x4,x5,x6,x7,reduceCtorEq,↓reduceIte]
   exact h1 (by decide) _ _ _
  ·have c4':¬ ((a + n:Nat):Int)=a:=by omega
   rw [if_neg c4] at he
   rw [he] at h0
   simp only [c4',sxZ,z6,z7,z8,j4,j5,j6,j7,j8,j9,x0,x3,x4,x5,x6,x7,reduceCtorEq,↓reduceIte]
   rw [zbZ]
   refine ⟨by omega,h0 rfl⟩
 have he:zaS (s.drop a)=if (s.drop a).take (za3 (s.drop a))=[116,114,117,101] ∨ (s.drop a).take (za3 (s.drop a))=[102,97,108,115,101] ∨ (s.drop a).take (za3 (s.drop a))=[110,117,108,108] then (0,5,(s.drop a).take (za3 (s.drop a)),za3 (s.drop a)) else (130,0,[],0):=by
  conv => lhs; rw [hdc]
  rw [zaS,if_neg c1,if_neg hc,if_neg (fun h => h.elim hc3 c5),← hdc]
 simp only [c5,sxZ,z6,z7,z8,j4,j5,j6,j7,j8,j9,x0,x3,x4,x5,x6,x7,reduceCtorEq,↓reduceIte]
 subst hY1
 refine zab fun Y1 hY1 => ?_
 simp only [sxZ,z6,z7,z8,j4,j5,j6,j7,j8,j9,x0,x3,x4,x5,x6,x7,reduceCtorEq,↓reduceIte]
 subst hY1
 refine zab fun Y1 hY1 => ?_
 refine zaz (fun o t => ∃ i:Nat,i ≤ s.length ∧ a ≤ i ∧ o=[] ∧ a + za3 (s.drop a)=i ∧ t.length=89 ∧ t[0]? = some (.s s) ∧ t[1]? = some (.i .i64 a) ∧ t[13]? = some (.i .i64 i)) ?_ ?_
 ·simp only [sxZ,z6,z7,z8,j4,j5,j6,j7,j8,j9,x0,x3,x4,x5,x6,x7,reduceCtorEq,↓reduceIte]
  refine za6 (fun n objs tm => ∃ i:Nat,i ≤ s.length ∧ a ≤ i ∧ n=s.length - i ∧ objs=[] ∧ a + za3 (s.drop a)=i + za3 (s.drop i) ∧ tm.length=89 ∧ tm[0]? = some (.s s) ∧ tm[1]? = some (.i .i64 a) ∧ tm[13]? = some (.i .i64 i)) (s.length - a) ⟨a,ha,Nat.le_refl _,rfl,rfl,rfl,rfl,rfl,rfl,rfl⟩ ?_
  rintro n _ tm ⟨i,hil,hai,rfl,rfl,hr,hlen,t0,t1,t13⟩
  by_cases hlt2:(i:Int) < s.length
  ·have hlt':i < s.length:=by omega
   have hg2:=zas hlt'
   have hrn:=zjX s i hlt'
   simp only [sxZ,z6,z7,z8,j4,j5,j6,j7,j8,j9,x0,x3,x4,x5,x6,x7,reduceCtorEq,↓reduceIte,List.getElem?_set,hlen,t0,t1,t13,hlt2]
   refine ⟨by omega,?_⟩
   rw [hg2]
   refine zak (aAlpha_k s[i] ?_)
   by_cases hd:zcf s[i]=true
   ·rw [if_pos hd] at hrn
    simp only [hd,sxZ,z6,z7,z8,j4,j5,j6,j7,j8,j9,x0,x3,x4,x5,x6,x7,reduceCtorEq,↓reduceIte,List.getElem?_set,hlen,t0,t1,t13]
    exact ⟨⟨by omega,by omega⟩,s.length - (i + 1),by omega,i + 1,by omega,by omega,rfl,by omega,rfl⟩
   ·rw [if_neg hd] at hrn
    simp only [Bool.not_eq_true] at hd
    simp only [hd,zaU,zaa,sxZ,z6,z7,z8,j4,j5,j6,j7,j8,j9,x0,x3,x4,x5,x6,x7,reduceCtorEq,↓reduceIte,List.getElem?_set,hlen,t0,t1,t13]
    exact ⟨i,hil,hai,by omega,rfl⟩
  ·obtain rfl:i=s.length:=by omega
   have hw:za3 (s.drop s.length)=0:=by rw [List.drop_length]; rfl
   simp only [hlt2,zaU,zaa,sxZ,z6,z7,z8,j4,j5,j6,j7,j8,j9,x0,x3,x4,x5,x6,x7,reduceCtorEq,↓reduceIte,List.getElem?_set,hlen,t0,t1,t13]
   exact ⟨s.length,hil,hai,by omega,rfl⟩
 rintro _ tm ⟨i,hil,hai,rfl,hw,hlen,t0,t1,t13⟩
 subst hY1
 have hx:(s.take i).drop a=(s.drop a).take (za3 (s.drop a)):=by
  have:=zbZ s a (za3 (s.drop a))
  rw [hw] at this
  exact this
 rw [← hx] at he
 simp only [sxZ,z6,z7,z8,j4,j5,j6,j7,j8,j9,x0,x3,x4,x5,x6,x7,reduceCtorEq,↓reduceIte,List.getElem?_set,hlen,t0,t1,t13]
 refine ⟨by omega,?_⟩
 generalize (s.take i).drop a=x at *
 rw [hw.symm] at *
 by_cases d1:x=[116,114,117,101]
 ·rw [if_pos (.inl d1)] at he
  rw [he] at h0
  simp only [d1,sxZ,z6,z7,z8,j4,j5,j6,j7,j8,j9,x0,x3,x4,x5,x6,x7,reduceCtorEq,↓reduceIte,List.getElem?_set,hlen,t0,t1,t13]
  rw [d1] at h0
  exact h0 rfl
 by_cases d2:x=[102,97,108,115,101]
 ·rw [if_pos (.inr (.inl d2))] at he
  rw [he] at h0
  have n1:¬ ([102,97,108,115,101]:List UInt8)=[116,114,117,101]:=by decide
  simp only [d2,n1,sxZ,z6,z7,z8,j4,j5,j6,j7,j8,j9,x0,x3,x4,x5,x6,x7,reduceCtorEq,↓reduceIte,List.getElem?_set,hlen,t0,t1,t13]
  rw [d2] at h0
  exact h0 rfl
 by_cases d3:x=[110,117,108,108]
 ·rw [if_pos (.inr (.inr d3))] at he
  rw [he] at h0
  have n1:¬ ([110,117,108,108]:List UInt8)=[116,114,117,101]:=by decide
  have n2:¬ ([110,117,108,108]:List UInt8)=[102,97,108,115,101]:=by decide
  simp only [d3,n1,n2,sxZ,z6,z7,z8,j4,j5,j6,j7,j8,j9,x0,x3,x4,x5,x6,x7,reduceCtorEq,↓reduceIte,List.getElem?_set,hlen,t0,t1,t13]
  rw [d3] at h0
  exact h0 rfl
 rw [if_neg (by rintro (h | h | h); exact d1 h; exact d2 h; exact d3 h)] at he
 rw [he] at h1
 simp only [d1,d2,d3,sxZ,z6,z7,z8,j4,j5,j6,j7,j8,j9,x0,x3,x4,x5,x6,x7,reduceCtorEq,↓reduceIte,List.getElem?_set,hlen,t0,t1,t13]
 exact h1 (by decide) _ _ _
theorem zj5 (s:List UInt8) (a:Int) (hs:s.length ≤ 140737488351232) (hk:K objs (zfa (zaA s a))):zad Tryz.prog 21 [.s s,.i .i64 a] objs K:=by
 refine zbs is_token_Next rfl fun C _ => ?_
 unfold zaA zfa at hk
 by_cases c0:a < 0
 ·rw [if_pos (.inl c0)] at hk
  simp only [c0,c_token_Next,sxZ,z6,z7,z8,j4,j5,j6,j7,j8,j9,x0,x3,x4,x5,x6,x7,reduceCtorEq,↓reduceIte]
  exact hk
 by_cases c1:(s.length:Int) < a
 ·rw [if_pos (.inr c1)] at hk
  simp only [c0,c1,c_token_Next,sxZ,z6,z7,z8,j4,j5,j6,j7,j8,j9,x0,x3,x4,x5,x6,x7,reduceCtorEq,↓reduceIte]
  exact hk
 rw [if_neg (by omega)] at hk
 obtain ⟨a,rfl⟩:∃ n:Nat,a=n:=⟨a.toNat,by omega⟩
 rw [Int.toNat_natCast] at hk
 rw [c_token_Next]
 refine zab fun Y1 hY1 => ?_
 simp only [sxZ,z6,z7,z8,j4,j5,j6,j7,j8,j9,x0,x3,x4,x5,x6,x7,reduceCtorEq,↓reduceIte]
 subst hY1
 refine zab fun Y1 hY1 => ?_
 simp only [c0,c1,sxZ,z6,z7,z8,j4,j5,j6,j7,j8,j9,x0,x3,x4,x5,x6,x7,reduceCtorEq,↓reduceIte]
 subst hY1
 refine zab fun Y1 hY1 => ?_
 have hwl:=zds (s.drop a)
 rw [List.length_drop] at hwl
 refine zaz (fun o t => o=[.box 51 [.i .i64 0,.s [],.i .i64 0]] ∧ t.length=49 ∧ t[0]? = some (.s s) ∧ t[1]? = some (.i .i64 ((a + zaV (s.drop a):Nat):Int)) ∧ t[4]? = some (.p 0 0)) ?_ ?_
 ·simp only [sxZ,z6,z7,z8,j4,j5,j6,j7,j8,j9,x0,x3,x4,x5,x6,x7,reduceCtorEq,↓reduceIte]
  refine za6 (fun n objs tm => ∃ i:Nat,i ≤ s.length ∧ n=s.length - i ∧ objs=[.box 51 [.i .i64 0,.s [],.i .i64 0]] ∧ a + zaV (s.drop a)=i + zaV (s.drop i) ∧ tm.length=49 ∧ tm[0]? = some (.s s) ∧ tm[1]? = some (.i .i64 i) ∧ tm[4]? = some (.p 0 0)) (s.length - a) ⟨a,by omega,rfl,rfl,rfl,rfl,rfl,rfl,rfl⟩ ?_
  rintro n _ tm ⟨i,hil,rfl,rfl,hr,hlen,t0,t1,t4⟩
  by_cases hlt2:(i:Int) < s.length
  ·have hlt':i < s.length:=by omega
   have hg2:=zas hlt'
   have hrn:=zhY s i hlt'
   simp only [sxZ,z6,z7,z8,j4,j5,j6,j7,j8,j9,x0,x3,x4,x5,x6,x7,reduceCtorEq,↓reduceIte,List.getElem?_set,hlen,t0,t1,t4,hlt2]
   refine ⟨by omega,?_⟩
   rw [hg2]
   refine zak (zlS s[i] ?_)
   by_cases hd:zcR s[i]=true
   ·rw [if_pos hd] at hrn
    simp only [hd,sxZ,z6,z7,z8,j4,j5,j6,j7,j8,j9,x0,x3,x4,x5,x6,x7,reduceCtorEq,↓reduceIte,List.getElem?_set,hlen,t0,t1,t4]
    exact ⟨⟨by omega,by omega⟩,s.length - (i + 1),by omega,i + 1,by omega,rfl,by omega,rfl⟩
   ·rw [if_neg hd] at hrn
    simp only [Bool.not_eq_true] at hd
    simp only [hd,zaU,zaa,sxZ,z6,z7,z8,j4,j5,j6,j7,j8,j9,x0,x3,x4,x5,x6,x7,reduceCtorEq,↓reduceIte,List.getElem?_set,hlen,t0,t1,t4]
    rw [hr,hrn]; rfl
  ·obtain rfl:i=s.length:=by omega
   have hw:zaV (s.drop s.length)=0:=by rw [List.drop_length]; rfl
   simp only [hlt2,zaU,zaa,sxZ,z6,z7,z8,j4,j5,j6,j7,j8,j9,x0,x3,x4,x5,x6,x7,reduceCtorEq,↓reduceIte,List.getElem?_set,hlen,t0,t1,t4]
   rw [hr,hw]; rfl
 rintro _ tm ⟨rfl,hlen,t0,t1,t4⟩
 subst hY1
 have hwl:a + zaV (s.drop a) ≤ s.length:=by omega
 generalize a + zaV (s.drop a)=i at *
 simp only [sxZ,z6,z7,z8,j4,j5,j6,j7,j8,j9,x0,x3,x4,x5,x6,x7,reduceCtorEq,↓reduceIte,List.getElem?_set,hlen,t0,t1,t4]
 refine zak (read_k s i hs hwl (fun hR kd t b => ?_) (fun hR => ?_))
 ·rw [if_pos hR] at hk
  simp only [hR,sxZ,z6,z7,z8,j4,j5,j6,j7,j8,j9,x0,x3,x4,x5,x6,x7,reduceCtorEq,↓reduceIte,List.getElem?_set,hlen,t0,t1,t4]
  exact hk
 ·rw [if_neg (by rw [hR]; simp)] at hk
  simp only [sxZ,z6,z7,z8,j4,j5,j6,j7,j8,j9,x0,x3,x4,x5,x6,x7,reduceCtorEq,↓reduceIte,List.getElem?_set,hlen,t0,t1,t4]
  exact hk
end
theorem rn_condH {P:Program} [Tabs P] {C:Cx} {F:zaO} {k:List IT} {objs:List OB} {tm:List AV} {c:SV} {x y:SCode} (h:∀ X,X=x → run P C (.code (.cond c X y) :: k) objs tm F):run P C (.code (.cond c x y) :: k) objs tm F:=h x rfl
section
variable [Tabs Tryz.prog] {objs:List OB} {K:List OB → AV → Prop}
theorem rwhite_k (c:UInt8) (hk:K objs (.b (zcR c))):zad Tryz.prog 70 [.i .u8 c.toNat] objs K:=by
 refine zbs is_ref13_white rfl fun C _ => ?_
 simp only [c_ref13_white,sxZ,z6,z7,z8,j4,j5,j6,j7,j8,j9,x0,x3,x4,x5,x6,x7,reduceCtorEq,↓reduceIte]
 refine zak (zgz c _ (by decide) ?_)
 simp only [sxZ,z6,z7,z8,j4,j5,j6,j7,j8,j9,x0,x3,x4,x5,x6,x7,reduceCtorEq,↓reduceIte]
 exact hk
theorem zhq (s:List UInt8) (a:Nat) (hk:K objs (.s (s.drop a))):zad Tryz.prog 68 [.s s,.i .i64 (a:Nat)] objs K:=by
 refine zbs is_ref13_tail rfl fun C _ => ?_
 by_cases c0:(s.length:Int) ≤ a
 ·rw [List.drop_of_length_le (by omega)] at hk
  simp only [c0,c_ref13_tail,sxZ,z6,z7,z8,j4,j5,j6,j7,j8,j9,x0,x3,x4,x5,x6,x7,reduceCtorEq,↓reduceIte]
  exact hk
 ·simp only [c0,c_ref13_tail,sxZ,z6,z7,z8,j4,j5,j6,j7,j8,j9,x0,x3,x4,x5,x6,x7,reduceCtorEq,↓reduceIte]
  exact ⟨by omega,hk⟩
theorem zko (s:List UInt8) (hs:s.length ≤ 9000000000000000000) (hk:K objs (.i .i64 (zaT s:Nat))):zad Tryz.prog 90 [.s s] objs K:=by
 refine zbs is_ref13_run rfl fun C _ => ?_
 simp only [c_ref13_run,sxZ,z6,z7,z8,j4,j5,j6,j7,j8,j9,x0,x3,x4,x5,x6,x7,reduceCtorEq,↓reduceIte]
 refine za6 (fun n objs tm => ∃ i:Nat,i ≤ s.length ∧ n=s.length - i ∧ objs=[] ∧ zaT s=i + zaT (s.drop i) ∧ tm.length=17 ∧ tm[0]? = some (.s s) ∧ tm[3]? = some (.i .i64 i)) s.length ⟨0,Nat.zero_le _,rfl,rfl,by simp,rfl,rfl,rfl⟩ ?_
 rintro n _ tm ⟨i,hi,rfl,rfl,hr,hlen,t0,t3⟩
 by_cases hlt:(i:Int) < s.length
 ·have hlt':i < s.length:=by omega
  have hg:=zas hlt'
  have hrn:=zkm s i hlt'
  simp only [sxZ,z6,z7,z8,j4,j5,j6,j7,j8,j9,x0,x3,x4,x5,x6,x7,reduceCtorEq,↓reduceIte,List.getElem?_set,hlen,t0,t3,hlt]
  refine ⟨by omega,?_⟩
  rw [hg]
  refine zak (zeB s[i] ?_)
  by_cases hd:zai s[i]=true
  ·rw [if_pos hd] at hrn
   simp only [hd,sxZ,z6,z7,z8,j4,j5,j6,j7,j8,j9,x0,x3,x4,x5,x6,x7,reduceCtorEq,↓reduceIte,List.getElem?_set,hlen,t0,t3]
   exact ⟨⟨by omega,by omega⟩,s.length - (i + 1),by omega,i + 1,by omega,rfl,by omega,rfl⟩
  ·rw [if_neg hd] at hrn
   simp only [Bool.not_eq_true] at hd
   simp only [hd,sxZ,z6,z7,z8,j4,j5,j6,j7,j8,j9,x0,x3,x4,x5,x6,x7,reduceCtorEq,↓reduceIte,List.getElem?_set,hlen,t0,t3]
   rw [hr,hrn] at hk
   exact hk
 ·obtain rfl:i=s.length:=by omega
  simp only [sxZ,z6,z7,z8,j4,j5,j6,j7,j8,j9,x0,x3,x4,x5,x6,x7,reduceCtorEq,↓reduceIte,List.getElem?_set,hlen,t0,t3,hlt]
  rw [hr,zkl] at hk
  exact hk
set_option maxHeartbeats 4000000 in
theorem ze2 (s:List UInt8) (hs:s.length ≤ 140737488351232) (hk:K objs (.i .i64 (zda s:Nat))):zad Tryz.prog 65 [.s s] objs K:=by
 refine zbs is_ref13_numeral rfl fun C _ => ?_
 have hmx:=zbx
 rw [c_ref13_numeral]
 refine zab fun Y1 hY1 => ?_
 simp only [sxZ,z6,z7,z8,j4,j5,j6,j7,j8,j9,x0,x3,x4,x5,x6,x7,reduceCtorEq,↓reduceIte]
 subst hY1
 refine zab fun Y1 hY1 => ?_
 simp only [sxZ,z6,z7,z8,j4,j5,j6,j7,j8,j9,x0,x3,x4,x5,x6,x7,reduceCtorEq,↓reduceIte]
 subst hY1
 refine zab fun Y1 hY1 => ?_
 refine zaz (fun o t => o=[] ∧ t.length=99 ∧ t[0]? = some (.s s) ∧ t[3]? = some (.i .i64 (zbd s:Nat))) ?_ ?_
 ·unfold zbd
  by_cases c1:(0:Int) < s.length
  ·have c1':0 < s.length:=by omega
   have hg:=zas c1'
   have h45:s[0]? = some 45 ↔ ((s[0].toNat:Nat):Int)=45:=zdn c1' 45 (by decide)
   by_cases c2:((s[0].toNat:Nat):Int)=45
   ·rw [if_pos (h45.2 c2)]
    simp only [c1,hg,c2,zaa,sxZ,z6,z7,z8,j4,j5,j6,j7,j8,j9,x0,x3,x4,x5,x6,x7,reduceCtorEq,↓reduceIte]
    rfl
   ·rw [if_neg (fun h => c2 (h45.1 h))]
    simp only [c1,hg,c2,zaa,sxZ,z6,z7,z8,j4,j5,j6,j7,j8,j9,x0,x3,x4,x5,x6,x7,reduceCtorEq,↓reduceIte]
    rfl
  ·rw [if_neg (zbg (by omega))]
   simp only [c1,zaa,sxZ,z6,z7,z8,j4,j5,j6,j7,j8,j9,x0,x3,x4,x5,x6,x7,reduceCtorEq,↓reduceIte]
   rfl
 rintro _ tm ⟨rfl,hlen,t0,t3⟩
 subst hY1
 have hsg:zbd s ≤ s.length:=by
  unfold zbd
  split
  ·rename_i h
   have:=(List.getElem?_eq_some_iff.1 h).1
   omega
  ·omega
 refine zab fun Y1 hY1 => ?_
 unfold zda at hk
 have hw:zaI s=if s[zbd s]? = some 48 then zbd s + 1 else zbd s + zaT (s.drop (zbd s)):=rfl
 have hrl:0 < zaT (s.drop (zbd s)) → zbd s + zaT (s.drop (zbd s)) ≤ s.length:=zaR s _
 generalize zbd s=g at *
 by_cases c0:(g:Int)=s.length
 ·have hr0:zaT (s.drop g)=0:=by rw [List.drop_of_length_le (by omega)]; rfl
  rw [if_pos hr0] at hk
  simp only [c0,sxZ,z6,z7,z8,j4,j5,j6,j7,j8,j9,x0,x3,x4,x5,x6,x7,reduceCtorEq,↓reduceIte,List.getElem?_set,hlen,t0,t3]
  exact hk
 have c1':g < s.length:=by omega
 have hg:=zas c1'
 have hrun:=zkm s g c1'
 simp only [c0,hg,sxZ,z6,z7,z8,j4,j5,j6,j7,j8,j9,x0,x3,x4,x5,x6,x7,reduceCtorEq,↓reduceIte,List.getElem?_set,hlen,t0,t3]
 refine ⟨by omega,?_⟩
 refine zak (zeB s[g] ?_)
 by_cases c2:zai s[g]=true
 case neg =>
  rw [if_neg c2] at hrun
  rw [if_pos hrun] at hk
  simp only [Bool.not_eq_true] at c2
  simp only [c2,sxZ,z6,z7,z8,j4,j5,j6,j7,j8,j9,x0,x3,x4,x5,x6,x7,reduceCtorEq,↓reduceIte,List.getElem?_set,hlen,t0,t3]
  exact hk
 rw [if_pos c2] at hrun
 rw [if_neg (by omega)] at hk
 simp only [c2,sxZ,z6,z7,z8,j4,j5,j6,j7,j8,j9,x0,x3,x4,x5,x6,x7,reduceCtorEq,↓reduceIte,List.getElem?_set,hlen,t0,t3]
 subst hY1
 refine zab fun Y1 hY1 => ?_
 refine zaz (fun o t => o=[] ∧ t.length=99 ∧ t[0]? = some (.s s) ∧ t[3]? = some (.i .i64 (zaI s:Nat))) ?_ ?_
 ·have h48:s[g]? = some 48 ↔ ((s[g].toNat:Nat):Int)=48:=zdn c1' 48 (by decide)
  rw [hw]
  by_cases c3:((s[g].toNat:Nat):Int)=48
  ·rw [if_pos (h48.2 c3)]
   simp only [hg,c3,zaa,sxZ,z6,z7,z8,j4,j5,j6,j7,j8,j9,x0,x3,x4,x5,x6,x7,reduceCtorEq,↓reduceIte,List.getElem?_set,hlen,t0,t3]
   and_intros <;> first | omega | exact iv (by omega) | rfl | assumption
  ·rw [if_neg (fun h => c3 (h48.1 h))]
   simp only [hg,c3,zaa,sxZ,z6,z7,z8,j4,j5,j6,j7,j8,j9,x0,x3,x4,x5,x6,x7,reduceCtorEq,↓reduceIte,List.getElem?_set,hlen,t0,t3]
   refine ⟨by omega,by omega,?_⟩
   refine zak (zko _ (by rw [List.length_drop]; omega) ?_)
   have:=hrl (by omega)
   simp only [zaa,sxZ,z6,z7,z8,j4,j5,j6,j7,j8,j9,x0,x3,x4,x5,x6,x7,reduceCtorEq,↓reduceIte,List.getElem?_set,hlen,t0,t3]
   and_intros <;> first | omega | exact iv (by omega) | rfl | assumption
 rintro _ tm ⟨rfl,hlen,t0,t3⟩
 subst hY1
 refine zab fun Y1 hY1 => ?_
 have hwl:zaI s ≤ s.length:=by
  rw [hw]
  have:=hrl (by omega)
  split <;> omega
 have hf:zb3 s (zaI s)=if s[zaI s]? = some 46 ∧ 0 < zaT (s.drop (zaI s + 1)) then zaI s + 1 + zaT (s.drop (zaI s + 1)) else zaI s:=rfl
 generalize zaI s=w at *
 clear hw hrl hrun hg c2 c0 c1'
 refine zaz (fun o t => o=[] ∧ t.length=99 ∧ t[0]? = some (.s s) ∧ t[3]? = some (.i .i64 (zb3 s w:Nat))) ?_ ?_
 ·rw [hf]
  simp only [sxZ,z6,z7,z8,j4,j5,j6,j7,j8,j9,x0,x3,x4,x5,x6,x7,reduceCtorEq,↓reduceIte,List.getElem?_set,hlen,t0,t3]
  refine ⟨by omega,?_⟩
  refine zak (zhq s (w + 1) ?_)
  simp only [sxZ,z6,z7,z8,j4,j5,j6,j7,j8,j9,x0,x3,x4,x5,x6,x7,reduceCtorEq,↓reduceIte,List.getElem?_set,hlen,t0,t3]
  refine zak (zko _ (by rw [List.length_drop]; omega) ?_)
  have hr:=zaR s (w + 1)
  generalize zaT (s.drop (w + 1))=r at *
  by_cases c1:(w:Int) < s.length
  ·have c1':w < s.length:=by omega
   have hg:=zas c1'
   have h46:s[w]? = some 46 ↔ ((s[w].toNat:Nat):Int)=46:=zdn c1' 46 (by decide)
   by_cases c2:((s[w].toNat:Nat):Int)=46
   ·by_cases c3:0 < r
    ·rw [if_pos ⟨h46.2 c2,c3⟩]
     have c3':(0:Int) < r:=by omega
     simp only [c1,hg,c2,c3',zaa,sxZ,z6,z7,z8,j4,j5,j6,j7,j8,j9,x0,x3,x4,x5,x6,x7,reduceCtorEq,↓reduceIte,List.getElem?_set,hlen,t0,t3]
     and_intros <;> first | omega | exact iv (by omega) | rfl | assumption
    ·rw [if_neg (fun h => c3 h.2)]
     have c3':¬ (0:Int) < r:=by omega
     simp only [c1,hg,c2,c3',zaa,sxZ,z6,z7,z8,j4,j5,j6,j7,j8,j9,x0,x3,x4,x5,x6,x7,reduceCtorEq,↓reduceIte,List.getElem?_set,hlen,t0,t3]
     and_intros <;> first | omega | exact iv (by omega) | rfl | assumption
   ·rw [if_neg (fun h => c2 (h46.1 h.1))]
    simp only [c1,hg,c2,zaa,sxZ,z6,z7,z8,j4,j5,j6,j7,j8,j9,x0,x3,x4,x5,x6,x7,reduceCtorEq,↓reduceIte,List.getElem?_set,hlen,t0,t3]
    and_intros <;> first | omega | exact iv (by omega) | rfl | assumption
  ·rw [if_neg (fun h => zbg (by omega) h.1)]
   simp only [c1,zaa,sxZ,z6,z7,z8,j4,j5,j6,j7,j8,j9,x0,x3,x4,x5,x6,x7,reduceCtorEq,↓reduceIte,List.getElem?_set,hlen,t0,t3]
 rintro _ tm ⟨rfl,hlen,t0,t3⟩
 subst hY1
 refine zab fun Y1 hY1 => ?_
 have hfl:zb3 s w ≤ s.length:=by
  rw [hf]
  split
  ·rename_i h
   have:=zaR s (w + 1) h.2
   omega
  ·exact hwl
 generalize zb3 s w=f at *
 clear hf
 have hx:zaY s f=if s[f + 1]? = some 43 ∨ s[f + 1]? = some 45 then f + 2 else f + 1:=rfl
 have he:zjP s f=if (s[f]? = some 101 ∨ s[f]? = some 69) ∧ 0 < zaT (s.drop (zaY s f)) then zaY s f + zaT (s.drop (zaY s f)) else f:=rfl
 have in2:∀ (i:Nat) (hi:i < s.length) (x y:UInt8),zcI s[i] [x,y]=decide (s[i]? = some x ∨ s[i]? = some y):=by
  intro i hi x y
  rw [List.getElem?_eq_getElem hi]
  simp [zcI,eq_comm]
 refine zaz (fun o t => o=[] ∧ t.length=99 ∧ t[3]? = some (.i .i64 (zjP s f:Nat))) ?_ ?_
 ·refine zab fun Y2 hY2 => ?_
  refine zaz (fun o t => o=[] ∧ t.length=99 ∧ t[0]? = some (.s s) ∧ t[3]? = some (.i .i64 (f:Nat)) ∧ t[74]? = some (.b (decide (s[f]? = some 101 ∨ s[f]? = some 69)))) ?_ ?_
  ·by_cases c1:(f:Int) < s.length
   ·have c1':f < s.length:=by omega
    have hg:=zas c1'
    simp only [c1,hg,sxZ,z6,z7,z8,j4,j5,j6,j7,j8,j9,x0,x3,x4,x5,x6,x7,reduceCtorEq,↓reduceIte,List.getElem?_set,hlen,t0,t3]
    refine ⟨by omega,?_⟩
    refine zak (zgz _ _ (by decide) ?_)
    rw [in2 f c1']
    generalize decide (s[f]? = some 101 ∨ s[f]? = some 69)=E
    simp only [zaa,sxZ,z6,z7,z8,j4,j5,j6,j7,j8,j9,x0,x3,x4,x5,x6,x7,reduceCtorEq,↓reduceIte,List.getElem?_set,hlen,t0,t3]
   ·have hE:¬ (s[f]? = some 101 ∨ s[f]? = some 69):=fun h => h.elim (zbg (by omega)) (zbg (by omega))
    simp only [c1,hE,zaa,sxZ,z6,z7,z8,j4,j5,j6,j7,j8,j9,x0,x3,x4,x5,x6,x7,reduceCtorEq,↓reduceIte,List.getElem?_set,hlen,t0,t3]
  rintro _ tm ⟨rfl,hlen,t0,t3,t74⟩
  subst hY2
  refine rn_condH fun X hX => ?_
  by_cases hE:s[f]? = some 101 ∨ s[f]? = some 69
  case neg =>
   rw [he,if_neg (fun h => hE h.1)]
   simp only [hE,zaa,sxZ,z6,z7,z8,j4,j5,j6,j7,j8,j9,x0,x3,x4,x5,x6,x7,reduceCtorEq,↓reduceIte,List.getElem?_set,hlen,t0,t3,t74]
  have c1':f < s.length:=by
   rcases hE with h | h
   all_goals exact (List.getElem?_eq_some_iff.1 h).1
  simp only [hE,sxZ,z6,z7,z8,j4,j5,j6,j7,j8,j9,x0,x3,x4,x5,x6,x7,reduceCtorEq,↓reduceIte,List.getElem?_set,hlen,t0,t3,t74]
  subst hX
  refine zab fun Y2 hY2 => ?_
  refine zaz (fun o t => o=[] ∧ t.length=99 ∧ t[0]? = some (.s s) ∧ t[3]? = some (.i .i64 (f:Nat)) ∧ t[5]? = some (.i .i64 ((f:Int) + 1))) ?_ ?_
  ·simp only [zaa,sxZ,z6,z7,z8,j4,j5,j6,j7,j8,j9,x0,x3,x4,x5,x6,x7,reduceCtorEq,↓reduceIte,List.getElem?_set,hlen,t0,t3]
   and_intros <;> first | omega | exact iv (by omega) | rfl | assumption
  rintro _ tm ⟨rfl,hlen,t0,t3,t5⟩
  subst hY2
  refine zab fun Y2 hY2 => ?_
  refine zaz (fun o t => o=[] ∧ t.length=99 ∧ t[0]? = some (.s s) ∧ t[3]? = some (.i .i64 (f:Nat)) ∧ t[5]? = some (.i .i64 (zaY s f:Nat))) ?_ ?_
  ·rw [hx]
   by_cases d1:(f:Int) + 1 < s.length
   ·have d1':f + 1 < s.length:=by omega
    have hg2:=zas d1'
    have e1:((f:Int) + 1).toNat=f + 1:=by omega
    simp only [d1,e1,hg2,sxZ,z6,z7,z8,j4,j5,j6,j7,j8,j9,x0,x3,x4,x5,x6,x7,reduceCtorEq,↓reduceIte,List.getElem?_set,hlen,t0,t3,t5]
    refine ⟨by omega,?_⟩
    refine zak (zgz _ _ (by decide) ?_)
    rw [in2 (f + 1) d1']
    by_cases c4:s[f + 1]? = some 43 ∨ s[f + 1]? = some 45
    ·rw [if_pos c4]
     simp only [c4,zaa,sxZ,z6,z7,z8,j4,j5,j6,j7,j8,j9,x0,x3,x4,x5,x6,x7,reduceCtorEq,↓reduceIte,List.getElem?_set,hlen,t0,t3,t5]
     and_intros <;> first | omega | exact iv (by omega) | rfl | assumption
    ·rw [if_neg c4]
     simp only [c4,zaa,sxZ,z6,z7,z8,j4,j5,j6,j7,j8,j9,x0,x3,x4,x5,x6,x7,reduceCtorEq,↓reduceIte,List.getElem?_set,hlen,t0,t3,t5]
     and_intros <;> first | omega | exact iv (by omega) | rfl | assumption
   ·rw [if_neg (fun h => h.elim (zbg (by omega)) (zbg (by omega)))]
    simp only [d1,zaa,sxZ,z6,z7,z8,j4,j5,j6,j7,j8,j9,x0,x3,x4,x5,x6,x7,reduceCtorEq,↓reduceIte,List.getElem?_set,hlen,t0,t3,t5]
    and_intros <;> first | omega | exact iv (by omega) | rfl | assumption
  rintro _ tm ⟨rfl,hlen,t0,t3,t5⟩
  subst hY2
  have hxl:zaY s f ≤ s.length:=by
   rw [hx]
   split
   ·rename_i h
    rcases h with h | h
    all_goals
     have:=(List.getElem?_eq_some_iff.1 h).1
     omega
   ·omega
  have hrl:=zaR s (zaY s f)
  generalize zaY s f=x at *
  simp only [sxZ,z6,z7,z8,j4,j5,j6,j7,j8,j9,x0,x3,x4,x5,x6,x7,reduceCtorEq,↓reduceIte,List.getElem?_set,hlen,t0,t3,t5]
  refine zak (zhq s x ?_)
  simp only [sxZ,z6,z7,z8,j4,j5,j6,j7,j8,j9,x0,x3,x4,x5,x6,x7,reduceCtorEq,↓reduceIte,List.getElem?_set,hlen,t0,t3,t5]
  refine zak (zko _ (by rw [List.length_drop]; omega) ?_)
  generalize zaT (s.drop x)=r at *
  rw [he]
  by_cases c4:0 < r
  ·rw [if_pos ⟨hE,c4⟩]
   have c4':(0:Int) < r:=by omega
   simp only [c4',zaa,sxZ,z6,z7,z8,j4,j5,j6,j7,j8,j9,x0,x3,x4,x5,x6,x7,reduceCtorEq,↓reduceIte,List.getElem?_set,hlen,t0,t3,t5]
   and_intros <;> first | omega | exact iv (by omega) | rfl | assumption
  ·rw [if_neg (fun h => c4 h.2)]
   have c4':¬ (0:Int) < r:=by omega
   simp only [c4',zaa,sxZ,z6,z7,z8,j4,j5,j6,j7,j8,j9,x0,x3,x4,x5,x6,x7,reduceCtorEq,↓reduceIte,List.getElem?_set,hlen,t0,t3,t5]
 rintro _ tm ⟨rfl,hlen,t3⟩
 subst hY1
 simp only [sxZ,z6,z7,z8,j4,j5,j6,j7,j8,j9,x0,x3,x4,x5,x6,x7,reduceCtorEq,↓reduceIte,List.getElem?_set,hlen,t3]
 exact hk
end
end Go.Proofs.YthmdohgkmdkeeaaGreatDoor
namespace Go.Proofs.YthmdohgkmdkeeaaGreatDoor
open Go.RowKit
end Go.Proofs.YthmdohgkmdkeeaaGreatDoor
namespace Go.Proofs.YthmdohgkmdkeeaaGreatDoor
open Go.RowKit Sx
theorem zj2 {p:NumS} (hp:p.Good):p.neg=decide (p.txt[0]? = some 45):=by
 obtain ⟨c,t,e1,e2⟩:=zbz hp.i0 hp.i1
 unfold NumS.txt
 cases p.neg with
 | true => rfl
 | false =>
  rw [e1]
  have:c ≠ 45:=zbf e2 rfl
  simp [sgT,this]
theorem num_uniq {p q:NumS} (hp:p.Good) (hq:q.Good) (h:p.txt=q.txt):p=q:=by
 have hn:p.neg=q.neg:=by rw [zj2 hp,zj2 hq,h]
 unfold NumS.txt at h
 rw [hn] at h
 have h:=List.append_cancel_left h
 have r1:=zb5 p.int _ hp.i1 (zez hp)
 have r2:=zb5 q.int _ hq.i1 (zez hq)
 rw [h,r2] at r1
 obtain ⟨hi,hR⟩:=List.append_inj h r1.symm
 have hx:p.fr=q.fr ∧ exT p.ex=exT q.ex:=by
  cases h1:p.fr with
  | nil =>
   cases h2:q.fr with
   | nil => rw [h1,h2] at hR; exact ⟨rfl,hR⟩
   | cons b u =>
    rw [h1,h2] at hR
    exfalso
    rcases zdG hp 46 (by rw [show exT p.ex=frT (b :: u) ++ exT q.ex from hR]; rfl) with h3 | h3 <;> cases h3
  | cons a t =>
   cases h2:q.fr with
   | nil =>
    rw [h1,h2] at hR
    exfalso
    rcases zdG hq 46 (by rw [show exT q.ex=frT (a :: t) ++ exT p.ex from hR.symm]; rfl) with h3 | h3 <;> cases h3
   | cons b u =>
    rw [h1,h2] at hR
    have hR:(46:UInt8) :: ((a :: t) ++ exT p.ex)=46 :: ((b :: u) ++ exT q.ex):=hR
    injection hR with _ hR
    have hd:∀ {r:NumS},r.Good → ∀ c,(exT r.ex)[0]? = some c → zai c=false:=fun hr c h => by
     rcases zdG hr c h with rfl | rfl <;> rfl
    have k1:=zb5 (a :: t) _ (by rw [← h1]; exact hp.f1) (hd hp)
    have k2:=zb5 (b :: u) _ (by rw [← h2]; exact hq.f1) (hd hq)
    rw [hR,k2] at k1
    exact List.append_inj hR k1.symm
 have he:p.ex=q.ex:=by
  have h3:=hx.2
  cases h1:p.ex with
  | none =>
   cases h2:q.ex with
   | none => rfl
   | some e => obtain ⟨c,s,d⟩:=e; rw [h1,h2] at h3; cases h3
  | some e =>
   obtain ⟨c,s,d⟩:=e
   cases h2:q.ex with
   | none => rw [h1,h2] at h3; cases h3
   | some e' =>
    obtain ⟨c',s',d'⟩:=e'
    have k1:=(zhH 0 hp h1).2
    have k2:=(zhH 0 hq h2).2
    rw [h1,h2] at h3
    have h3:c :: (s ++ d)=c' :: (s' ++ d'):=h3
    injection h3 with e1 e2
    rw [e2,k2] at k1
    subst k1
    rw [e1,List.append_cancel_right e2]
 obtain ⟨pn,pi,pf,pe⟩:=p
 obtain ⟨qn,qi,qf,qe⟩:=q
 simp only at hn hi hx he
 rw [hn,hi,hx.1,he]
section
variable [Tabs Tryz.prog] {objs:List OB} {K:List OB → AV → Prop}
end
end Go.Proofs.YthmdohgkmdkeeaaGreatDoor
namespace Go.Proofs.YthmdohgkmdkeeaaGreatDoor
open Nat renaming reduceAdd → z6, reduceSub → z7, reduceLeDiff → z8, reduceLT → j4, reduceMul → j5, reduceEqDiff → j6
open Int renaming reduceToNat → j7, reduceAdd → j8, reduceSub → j9, reduceMul → x0, reduceNeg → x3, reduceLT → x4, reduceLE → x5, reduceEq → x6, reduceNe → x7
open Go.RowKit Sx
theorem minV_at (c:Nat) (l:List UInt8) (i n:Nat) (h:i < l.length):zhz c (l.drop i) n=zhz c (l.drop (i + 1)) (min (n * 10 + (l[i].toNat - 48)) c):=by
 rw [List.drop_eq_getElem_cons h,zhz]
theorem zmz {p:NumS} (hp:p.Good):zjE p.body [101,69]=(p.int ++ frT p.fr).length:=by
 have hno:(p.int ++ frT p.fr).findIdx (fun c => zcI c [101,69])=(p.int ++ frT p.fr).length:=by
  rw [List.findIdx_eq_length]
  intro c hc
  rcases List.mem_append.1 hc with h | h
  ·exact (zbA (List.all_eq_true.1 hp.i1 c h)).2.1
  ·exact (zhG hp.f1 c h).2
 unfold zjE NumS.body
 rw [← List.append_assoc,List.findIdx_append,hno,if_neg (by omega)]
 cases he:p.ex with
 | none => simp [exT]
 | some e =>
  obtain ⟨k,s,d⟩:=e
  have:(exT (some (k,s,d))).findIdx (fun c => zcI c [101,69])=0:=by
   unfold exT
   rw [List.findIdx_cons]
   rcases (hp.e1 k s d he).1 with rfl | rfl <;> rfl
  rw [this,Nat.zero_add]
theorem zg4 (p:NumS):p.body.take (p.int ++ frT p.fr).length=p.int ++ frT p.fr:=by
 unfold NumS.body
 rw [← List.append_assoc,List.take_left]
theorem body_exp {p:NumS} (hp:p.Good) (c:Nat):expC c (p.body.drop ((p.int ++ frT p.fr).length + 1))=zd8 c p.ex ∧ (zdM (p.body.drop ((p.int ++ frT p.fr).length + 1))).all zai=true:=by
 have hd:p.body.drop ((p.int ++ frT p.fr).length + 1)=(exT p.ex).drop 1:=by
  unfold NumS.body
  rw [← List.append_assoc,← List.drop_drop,List.drop_left]
 rw [hd]
 cases he:p.ex with
 | none => exact ⟨rfl,rfl⟩
 | some e =>
  obtain ⟨k,s,d⟩:=e
  have h:=zhH c hp he
  have h4:=(hp.e1 k s d he).2.2.2
  rw [he] at h
  show expC c (s ++ d)=_ ∧ (zdM (s ++ d)).all zai=true
  rw [h.2]
  exact ⟨h.1,h4⟩
theorem zR_last {l:List UInt8} (h:l ≠ []) (h2:l.getLast h ≠ 48):zR l=l:=by
 unfold zR
 rw [zL_id,List.reverse_reverse]
 intro c hc
 rw [← List.head?_eq_getElem?,List.head?_reverse,List.getLast?_eq_some_getLast h] at hc
 injection hc with hc
 rw [← hc]; exact h2
section
variable [Tabs Tryz.prog] {objs:List OB} {K:List OB → AV → Prop}
set_option maxHeartbeats 2000000 in
theorem zhr (l:List UInt8) (hl:l.length ≤ 140737488351232) (hd:(zdM l).all zai=true) (hk:K objs (.i .i64 (expC 1073741824 l))):zad Tryz.prog 67 [.s l] objs K:=by
 refine zbs is_ref13_exponent rfl fun C _ => ?_
 rw [c_ref13_exponent]
 refine zab fun Y1 hY1 => ?_
 simp only [sxZ,z6,z7,z8,j4,j5,j6,j7,j8,j9,x0,x3,x4,x5,x6,x7,reduceCtorEq,↓reduceIte]
 subst hY1
 refine zab fun Y1 hY1 => ?_
 refine zaz (fun o t => o=[] ∧ t.length=41 ∧ t[0]? = some (.s l) ∧ t[3]? = some (.b (negE l))) ?_ ?_
 ·unfold negE
  by_cases c0:l=[]
  ·subst c0
   simp [zaa,sxZ,z6,z7,z8,j4,j5,j6,j7,j8,j9,x0,x3,x4,x5,x6,x7,reduceCtorEq,↓reduceIte]
  ·have l0:0 < l.length:=List.length_pos_iff.2 c0
   have g0:=zas l0
   have h45:l[0]? = some 45 ↔ ((l[0].toNat:Nat):Int)=45:=zdn l0 45 (by decide)
   simp only [c0,g0,zaa,sxZ,z6,z7,z8,j4,j5,j6,j7,j8,j9,x0,x3,x4,x5,x6,x7,reduceCtorEq,↓reduceIte]
   refine ⟨by omega,?_⟩
   by_cases c1:((l[0].toNat:Nat):Int)=45
   ·rw [decide_eq_true c1,decide_eq_true (h45.2 c1)]
   ·rw [decide_eq_false c1,decide_eq_false (fun h => c1 (h45.1 h))]
 rintro _ tm ⟨rfl,hlen,t0,t3⟩
 subst hY1
 refine zab fun Y1 hY1 => ?_
 refine zaz (fun o t => o=[] ∧ t.length=41 ∧ t[0]? = some (.s (zdM l)) ∧ t[3]? = some (.b (negE l))) ?_ ?_
 ·unfold zdM
  by_cases c0:l=[]
  ·subst c0
   simp only [zaa,sxZ,z6,z7,z8,j4,j5,j6,j7,j8,j9,x0,x3,x4,x5,x6,x7,reduceCtorEq,↓reduceIte,List.getElem?_set,hlen,t0,t3]
   rfl
  ·have l0:0 < l.length:=List.length_pos_iff.2 c0
   have g0:=zas l0
   simp only [c0,g0,sxZ,z6,z7,z8,j4,j5,j6,j7,j8,j9,x0,x3,x4,x5,x6,x7,reduceCtorEq,↓reduceIte,List.getElem?_set,hlen,t0,t3]
   refine ⟨by omega,?_⟩
   refine zak (zgz _ _ (by decide) ?_)
   have hin:zcI l[0] [43,45]=decide (l[0]? = some 43 ∨ l[0]? = some 45):=by
    rw [List.getElem?_eq_getElem l0]
    simp [zcI,eq_comm]
   rw [hin]
   by_cases c1:l[0]? = some 43 ∨ l[0]? = some 45
   ·rw [if_pos c1]
    simp only [c1,zaa,sxZ,z6,z7,z8,j4,j5,j6,j7,j8,j9,x0,x3,x4,x5,x6,x7,reduceCtorEq,↓reduceIte,List.getElem?_set,hlen,t0,t3]
    and_intros <;> first | omega | exact iv (by omega) | rfl | assumption
   ·rw [if_neg c1]
    simp only [c1,zaa,sxZ,z6,z7,z8,j4,j5,j6,j7,j8,j9,x0,x3,x4,x5,x6,x7,reduceCtorEq,↓reduceIte,List.getElem?_set,hlen,t0,t3]
 rintro _ tm ⟨rfl,hlen,t0,t3⟩
 subst hY1
 have hsl:(zdM l).length ≤ l.length:=by unfold zdM; split <;> simp
 unfold expC at hk
 generalize negE l=ng at *
 generalize zdM l=d at *
 refine zab fun Y1 hY1 => ?_
 simp only [sxZ,z6,z7,z8,j4,j5,j6,j7,j8,j9,x0,x3,x4,x5,x6,x7,reduceCtorEq,↓reduceIte,List.getElem?_set,hlen,t0,t3]
 subst hY1
 refine zab fun Y1 hY1 => ?_
 refine zaz (fun o t => o=[] ∧ t.length=41 ∧ t[3]? = some (.b ng) ∧ t[4]? = some (.i .i64 (zhz 1073741824 d 0:Nat))) ?_ ?_
 ·simp only [sxZ,z6,z7,z8,j4,j5,j6,j7,j8,j9,x0,x3,x4,x5,x6,x7,reduceCtorEq,↓reduceIte,List.getElem?_set,hlen,t0,t3]
  refine za6 (fun k objs tm => ∃ (i n:Nat),i ≤ d.length ∧ k=d.length - i ∧ objs=[] ∧ n ≤ 1073741824 ∧ zhz 1073741824 d 0=zhz 1073741824 (d.drop i) n ∧ tm.length=41 ∧ tm[0]? = some (.s d) ∧ tm[3]? = some (.b ng) ∧ tm[4]? = some (.i .i64 (n:Nat)) ∧ tm[5]? = some (.i .i64 (i:Nat))) d.length
   ⟨0,0,Nat.zero_le _,rfl,rfl,by omega,rfl,by simp [hlen],by simp [t0],by simp [t3],by simp [hlen],by simp [hlen]⟩ ?_
  rintro k _ tm ⟨i,n,hi,rfl,rfl,hn,hm,hlen,t0,t3,t4,t5⟩
  by_cases hlt:(i:Int) < d.length
  ·have hlt':i < d.length:=by omega
   have hg:=zas hlt'
   have hdi:=zfZ (List.all_eq_true.1 hd _ (List.getElem_mem hlt'))
   have hmv:=minV_at 1073741824 d i n hlt'
   have hw:IntKind.u8.wrap (((d[i].toNat:Nat):Int) - 48)=((d[i].toNat - 48:Nat):Int):=by
    simp [IntKind.wrap,IntKind.bits,IntKind.signed]; omega
   have hw2:IntKind.i64.wrap ((d[i].toNat - 48:Nat):Int)=((d[i].toNat - 48:Nat):Int):=by rw [IntKind.wrap_i64]; omega
   simp only [hlt,hg,hw,hw2,sxZ,z6,z7,z8,j4,j5,j6,j7,j8,j9,x0,x3,x4,x5,x6,x7,reduceCtorEq,↓reduceIte,List.getElem?_set,hlen,t0,t3,t4,t5]
   have hv:d[i].toNat - 48 ≤ 9:=by omega
   generalize d[i].toNat - 48=v at *
   exact ⟨by omega,by omega,by omega,by omega,d.length - (i + 1),by omega,i + 1,min (n * 10 + v) 1073741824,by omega,rfl,by omega,by rw [hm,hmv],iv (by split <;> omega),iv (by omega)⟩
  ·obtain rfl:i=d.length:=by omega
   rw [List.drop_length,zhz] at hm
   simp only [hlt,zaU,zaa,sxZ,z6,z7,z8,j4,j5,j6,j7,j8,j9,x0,x3,x4,x5,x6,x7,reduceCtorEq,↓reduceIte,List.getElem?_set,hlen,t0,t3,t4,t5]
   rw [hm]
 rintro _ tm ⟨rfl,hlen,t3,t4⟩
 subst hY1
 have hml:=minV_le 1073741824 d 0 (by omega)
 generalize zhz 1073741824 d 0=n at *
 cases ng with
 | true =>
  simp only [sxZ,z6,z7,z8,j4,j5,j6,j7,j8,j9,x0,x3,x4,x5,x6,x7,reduceCtorEq,↓reduceIte,List.getElem?_set,hlen,t3,t4]
  rw [if_pos rfl] at hk
  refine ⟨by omega,?_⟩
  rw [Int.zero_sub]
  exact hk
 | false =>
  simp only [sxZ,z6,z7,z8,j4,j5,j6,j7,j8,j9,x0,x3,x4,x5,x6,x7,reduceCtorEq,↓reduceIte,List.getElem?_set,hlen,t3,t4]
  rw [if_neg (by simp)] at hk
  exact hk
set_option maxHeartbeats 4000000 in
theorem zks (s:List UInt8) (hs:s.length ≤ 140737488351232) (h1:(s=[] ∨ zda s ≠ s.length) → K objs (.tup [.s [],.i .i64 130]))
  (h2:∀ p:NumS,p.Good → s=p.txt → K objs (.tup [.s (zmu 1073741824 p).2,.i .i64 (zmu 1073741824 p).1])):zad Tryz.prog 42 [.s s] objs K:=by
 refine zbs is_ref13_Number rfl fun C _ => ?_
 have hmx:=zbx
 by_cases c0:s=[]
 ·have h1:=h1 (.inl c0)
  simp only [c0,c_ref13_Number,sxZ,z6,z7,z8,j4,j5,j6,j7,j8,j9,x0,x3,x4,x5,x6,x7,reduceCtorEq,↓reduceIte]
  exact h1
 rw [c_ref13_Number]
 refine zab fun Y1 hY1 => ?_
 simp only [sxZ,z6,z7,z8,j4,j5,j6,j7,j8,j9,x0,x3,x4,x5,x6,x7,reduceCtorEq,↓reduceIte]
 subst hY1
 refine zab fun Y1 hY1 => ?_
 simp only [c0,sxZ,z6,z7,z8,j4,j5,j6,j7,j8,j9,x0,x3,x4,x5,x6,x7,reduceCtorEq,↓reduceIte]
 refine zak (ze2 s hs ?_)
 by_cases c1:zda s=s.length
 case neg =>
  have c1':¬ ((zda s:Nat):Int)=s.length:=by omega
  simp only [c1',sxZ,z6,z7,z8,j4,j5,j6,j7,j8,j9,x0,x3,x4,x5,x6,x7,reduceCtorEq,↓reduceIte]
  exact h1 (.inr c1)
 clear h1
 obtain ⟨p,hp,rfl⟩:=zgI c0 c1
 have h2:=h2 p hp rfl
 simp only [c1,sxZ,z6,z7,z8,j4,j5,j6,j7,j8,j9,x0,x3,x4,x5,x6,x7,reduceCtorEq,↓reduceIte]
 subst hY1
 refine zab fun Y1 hY1 => ?_
 simp only [sxZ,z6,z7,z8,j4,j5,j6,j7,j8,j9,x0,x3,x4,x5,x6,x7,reduceCtorEq,↓reduceIte]
 subst hY1
 refine zab fun Y1 hY1 => ?_
 have hbl:p.body.length ≤ p.txt.length:=by unfold NumS.txt NumS.body; simp
 have htl:=zhi p
 have hml:(p.int ++ frT p.fr).length ≤ p.txt.length:=by unfold NumS.txt; simp; omega
 refine zaz (fun o t => o=[] ∧ t.length=117 ∧ t[0]? = some (.s p.body) ∧ t[4]? = some (.s (sgT p.neg))) ?_ ?_
 ·obtain ⟨c,t,e1,e2⟩:=zbz hp.i0 hp.i1
  have n45:¬ ((c.toNat:Nat):Int)=45:=by have:=zfZ e2; omega
  have hb:p.txt=sgT p.neg ++ p.body:=rfl
  have hpos:0 < p.txt.length:=List.length_pos_iff.2 c0
  cases hn:p.neg with
  | true =>
   have g1:(((p.txt.getD 0 0).toNat:Nat):Int)=45:=by rw [hb,hn]; rfl
   have g2:p.txt.drop 1=p.body:=by rw [hb,hn]; rfl
   generalize p.txt=W at *
   simp only [sgT,g1,g2,zaa,sxZ,z6,z7,z8,j4,j5,j6,j7,j8,j9,x0,x3,x4,x5,x6,x7,reduceCtorEq,↓reduceIte]
   and_intros <;> first | omega | exact iv (by omega) | rfl | assumption
  | false =>
   have g1:(p.txt.getD 0 0)=c:=by rw [hb,hn]; unfold NumS.body; rw [e1]; rfl
   have g2:p.txt=p.body:=by rw [hb,hn]; rfl
   rw [g2] at g1 hpos ⊢
   generalize p.body=W at *
   simp only [sgT,g1,n45,zaa,sxZ,z6,z7,z8,j4,j5,j6,j7,j8,j9,x0,x3,x4,x5,x6,x7,reduceCtorEq,↓reduceIte]
   and_intros <;> first | omega | exact iv (by omega) | rfl | assumption
 rintro _ tm ⟨rfl,hlen,t0,t4⟩
 subst hY1
 clear c0 c1
 have hbe:=body_exp hp 1073741824
 have hbt:=zg4 p
 have hil:(p.int ++ frT p.fr).length ≤ p.body.length:=by
  have h:=congrArg List.length (zg4 p)
  rw [List.length_take] at h; omega
 have hbi:=zmz hp
 generalize hG:p.int ++ frT p.fr=G at *
 refine zab fun Y1 hY1 => ?_
 simp only [sxZ,z6,z7,z8,j4,j5,j6,j7,j8,j9,x0,x3,x4,x5,x6,x7,reduceCtorEq,↓reduceIte,List.getElem?_set,hlen,t0,t4]
 refine zak (zij _ _ (by omega) (by decide) ?_)
 rw [hbi]
 simp only [sxZ,z6,z7,z8,j4,j5,j6,j7,j8,j9,x0,x3,x4,x5,x6,x7,reduceCtorEq,↓reduceIte,List.getElem?_set,hlen,t0,t4]
 subst hY1
 refine zab fun Y1 hY1 => ?_
 refine zaz (fun o t => o=[] ∧ t.length=117 ∧ t[4]? = some (.s (sgT p.neg)) ∧ t[6]? = some (.i .i64 (zd8 1073741824 p.ex)) ∧ t[7]? = some (.s G)) ?_ ?_
 ·simp only [sxZ,z6,z7,z8,j4,j5,j6,j7,j8,j9,x0,x3,x4,x5,x6,x7,reduceCtorEq,↓reduceIte,List.getElem?_set,hlen,t0,t4]
  refine ⟨by omega,?_⟩
  refine zgM (zhq p.body (G.length + 1) ⟨rfl,rfl⟩) ?_
  simp only [sxZ,z6,z7,z8,j4,j5,j6,j7,j8,j9,x0,x3,x4,x5,x6,x7,reduceCtorEq,↓reduceIte,List.getElem?_set,hlen,t0,t4]
  refine zgM (zhr _ (by rw [List.length_drop]; omega) hbe.2 ⟨rfl,rfl⟩) ?_
  simp only [hbe.1,hbt,zaa,sxZ,z6,z7,z8,j4,j5,j6,j7,j8,j9,x0,x3,x4,x5,x6,x7,reduceCtorEq,↓reduceIte,List.getElem?_set,hlen,t0,t4]
  and_intros <;> first | omega | exact iv (by omega) | rfl | assumption
 rintro _ tm ⟨rfl,hlen,t4,t6,t7⟩
 subst hY1
 refine zab fun Y1 hY1 => ?_
 have hei:=zl2 1073741824 p.ex
 have hcp:=zg3 hp
 rw [hG] at hcp
 have hi1:zjE G [46]=p.int.length:=by rw [ziK,hcp]
 have hGt:G.take p.int.length=p.int:=by rw [← hG,List.take_left]
 have hGd:G.drop (p.int.length + 1)=p.fr:=by
  rw [← hG,← List.drop_drop,List.drop_left]
  cases p.fr <;> rfl
 have hGl:G.length=p.int.length + (frT p.fr).length:=by rw [← hG,List.length_append]
 refine zaz (fun o t => o=[] ∧ t.length=117 ∧ t[4]? = some (.s (sgT p.neg)) ∧ t[6]? = some (.i .i64 (zd8 1073741824 p.ex - (p.fr.length:Int))) ∧ t[7]? = some (.s (p.int ++ p.fr))) ?_ ?_
 ·simp only [sxZ,z6,z7,z8,j4,j5,j6,j7,j8,j9,x0,x3,x4,x5,x6,x7,reduceCtorEq,↓reduceIte,List.getElem?_set,hlen,t4,t6,t7]
  refine zak (zij _ _ (by omega) (by decide) ?_)
  rw [hi1]
  cases hf:p.fr with
  | nil =>
   have c2:¬ ((p.int.length:Nat):Int) < G.length:=by rw [hf] at hGl; simp [frT] at hGl; omega
   have hG2:G=p.int:=by rw [← hG,hf]; simp [frT]
   simp only [c2,zaa,sxZ,z6,z7,z8,j4,j5,j6,j7,j8,j9,x0,x3,x4,x5,x6,x7,reduceCtorEq,↓reduceIte,List.getElem?_set,hlen,t4,t6,t7]
   rw [hG2]
   and_intros <;> first | omega | exact iv (by omega) | rfl | assumption
  | cons a u =>
   rw [hf] at hGd
   have c2:((p.int.length:Nat):Int) < G.length:=by rw [hf] at hGl; simp [frT] at hGl; omega
   have hfl:G.length=p.int.length + (u.length + 1) + 1:=by rw [hf] at hGl; simp [frT] at hGl; omega
   have e1:(((p.int.length:Nat):Int) + 1).toNat=p.int.length + 1:=by omega
   simp only [c2,e1,hGt,hGd,zaa,sxZ,z6,z7,z8,j4,j5,j6,j7,j8,j9,x0,x3,x4,x5,x6,x7,reduceCtorEq,↓reduceIte,List.getElem?_set,hlen,t4,t6,t7]
   and_intros <;> first | omega | exact iv (by omega) | rfl | assumption
 rintro _ tm ⟨rfl,hlen,t4,t6,t7⟩
 subst hY1
 clear hbe hbt hil hcp hbi hi1 hGt hGd hGl hG hml
 refine zab fun Y1 hY1 => ?_
 have hzl:=zL_len (p.int ++ p.fr)
 rw [List.length_append] at hzl
 refine zaz (fun o t => o=[] ∧ t.length=117 ∧ t[4]? = some (.s (sgT p.neg)) ∧ t[6]? = some (.i .i64 (zd8 1073741824 p.ex - (p.fr.length:Int))) ∧ t[7]? = some (.s (zce p))) ?_ ?_
 ·simp only [sxZ,z6,z7,z8,j4,j5,j6,j7,j8,j9,x0,x3,x4,x5,x6,x7,reduceCtorEq,↓reduceIte]
  refine za6 (fun k o t => ∃ l:List UInt8,k=l.length ∧ o=[] ∧ zL l=zce p ∧ t.length=117 ∧ t[4]? = some (.s (sgT p.neg)) ∧ t[6]? = some (.i .i64 (zd8 1073741824 p.ex - (p.fr.length:Int))) ∧ t[7]? = some (.s l)) (p.int ++ p.fr).length ⟨p.int ++ p.fr,rfl,rfl,rfl,hlen,t4,t6,t7⟩ ?_
  rintro k _ tm ⟨l,rfl,rfl,hz,hlen,t4,t6,t7⟩
  cases l with
  | nil =>
   have z:¬ (0:Int) < ((0:Nat):Int):=by decide
   simp only [z,zaU,zaa,sxZ,z6,z7,z8,j4,j5,j6,j7,j8,j9,x0,x3,x4,x5,x6,x7,reduceCtorEq,↓reduceIte,List.getElem?_set,hlen,t4,t6,t7]
   rw [← hz]; rfl
  | cons c u =>
   have hp1:(0:Int) < ((u.length + 1:Nat):Int):=by omega
   have hp2:(c :: u).getD 0 0=c:=rfl
   rw [zfo] at hz
   by_cases c1:((c.toNat:Nat):Int)=48
   ·have hc:c=48:=(zbH (by decide)).1 c1
    rw [if_pos hc] at hz
    simp only [hp1,hp2,c1,zaU,zaa,sxZ,z6,z7,z8,j4,j5,j6,j7,j8,j9,x0,x3,x4,x5,x6,x7,reduceCtorEq,↓reduceIte,List.getElem?_set,hlen,t4,t6,t7]
    exact ⟨by omega,u.length,by omega,u,rfl,hz,rfl⟩
   ·have hc:¬ c=48:=fun h => c1 ((zbH (by decide)).2 h)
    rw [if_neg hc] at hz
    simp only [hp1,hp2,c1,zaU,zaa,sxZ,z6,z7,z8,j4,j5,j6,j7,j8,j9,x0,x3,x4,x5,x6,x7,reduceCtorEq,↓reduceIte,List.getElem?_set,hlen,t4,t6,t7]
    rw [hz]
 rintro _ tm ⟨rfl,hlen,t4,t6,t7⟩
 subst hY1
 refine zab fun Y1 hY1 => ?_
 have hmh:=zlm p
 unfold zmu at h2
 unfold expX at h2
 by_cases c2:zce p=[]
 ·rw [if_pos c2] at h2
  simp only [c2,sxZ,z6,z7,z8,j4,j5,j6,j7,j8,j9,x0,x3,x4,x5,x6,x7,reduceCtorEq,↓reduceIte,List.getElem?_set,hlen,t4,t6,t7]
  exact h2
 rw [if_neg c2] at h2
 have hml2:=zfP p
 simp only [c2,sxZ,z6,z7,z8,j4,j5,j6,j7,j8,j9,x0,x3,x4,x5,x6,x7,reduceCtorEq,↓reduceIte,List.getElem?_set,hlen,t4,t6,t7]
 subst hY1
 have hX:-(300000000000000:Int) ≤ zd8 1073741824 p.ex - (p.fr.length:Int) ∧ zd8 1073741824 p.ex - (p.fr.length:Int) ≤ 300000000000000:=by omega
 generalize zd8 1073741824 p.ex - (p.fr.length:Int)=X at *
 generalize zce p=M at *
 refine zab fun Y1 hY1 => ?_
 refine zaz (fun o t => o=[] ∧ t.length=117 ∧ t[4]? = some (.s (sgT p.neg)) ∧ t[6]? = some (.i .i64 (X + ((M.length:Int) - (zR M).length))) ∧ t[7]? = some (.s (zR M))) ?_ ?_
 ·simp only [sxZ,z6,z7,z8,j4,j5,j6,j7,j8,j9,x0,x3,x4,x5,x6,x7,reduceCtorEq,↓reduceIte]
  refine za6 (fun k o t => ∃ (l:List UInt8) (j:Nat),k=l.length ∧ o=[] ∧ l ≠ [] ∧ M=l ++ List.replicate j 48 ∧ t.length=117 ∧ t[4]? = some (.s (sgT p.neg)) ∧ t[6]? = some (.i .i64 (X + (j:Nat))) ∧ t[7]? = some (.s l)) M.length ⟨M,0,rfl,rfl,c2,by simp,by simp [hlen],by simp [t4],by simp [t6],by simp [t7]⟩ ?_
  rintro k _ tm ⟨l,j,rfl,rfl,hl0,hM,hlen,t4,t6,t7⟩
  have hl1:0 < l.length:=List.length_pos_iff.2 hl0
  have hi:l.length - 1 < l.length:=by omega
  have hg:=zas hi
  have e1:(((l.length:Nat):Int) - 1).toNat=l.length - 1:=by omega
  have hll:l.getLast hl0=l[l.length - 1]:=List.getLast_eq_getElem hl0
  have hMl:M.length=l.length + j:=by rw [hM]; simp
  by_cases c3:((l[l.length - 1].toNat:Nat):Int)=48
  ·have hc:l[l.length - 1]=48:=(zbH (by decide)).1 c3
   have hsp:l=l.take (l.length - 1) ++ [48]:=by
    have h:=List.dropLast_concat_getLast hl0
    rw [hll,hc,List.dropLast_eq_take] at h
    exact h.symm
   have hM2:M=l.take (l.length - 1) ++ List.replicate (j + 1) 48:=by
    conv => lhs; rw [hM,hsp]
    rw [List.append_assoc,List.replicate_succ]; rfl
   have hne:¬ l.take (l.length - 1)=[]:=by
    intro h
    rw [h,List.nil_append,List.replicate_succ] at hM2
    exact hmh 48 (by rw [hM2]; rfl) rfl
   have htk:(l.take (l.length - 1)).length=l.length - 1:=by rw [List.length_take]; omega
   simp only [e1,hg,c3,sxZ,z6,z7,z8,j4,j5,j6,j7,j8,j9,x0,x3,x4,x5,x6,x7,reduceCtorEq,↓reduceIte,List.getElem?_set,hlen,t4,t6,t7]
   exact ⟨by omega,by omega,by omega,by omega,by omega,(l.take (l.length - 1)).length,by omega,l.take (l.length - 1),j + 1,rfl,hne,hM2,iv (by omega),rfl⟩
  ·have hc:¬ l[l.length - 1]=48:=fun h => c3 ((zbH (by decide)).2 h)
   have hz:zR M=l:=by rw [hM,zR_rep,zR_last hl0 (by rw [hll]; exact hc)]
   simp only [e1,hg,c3,zaU,zaa,sxZ,z6,z7,z8,j4,j5,j6,j7,j8,j9,x0,x3,x4,x5,x6,x7,reduceCtorEq,↓reduceIte,List.getElem?_set,hlen,t4,t6,t7]
   rw [hz]
   exact ⟨by omega,by omega,iv (by omega),rfl⟩
 rintro _ tm ⟨rfl,hlen,t4,t6,t7⟩
 subst hY1
 have hzr:=zjQ M
 generalize X + ((M.length:Int) - ((zR M).length:Int))=x at *
 generalize zR M=m at *
 by_cases d1:(40:Int) < m.length
 ·rw [if_pos (.inl (by omega))] at h2
  simp only [d1,sxZ,z6,z7,z8,j4,j5,j6,j7,j8,j9,x0,x3,x4,x5,x6,x7,reduceCtorEq,↓reduceIte,List.getElem?_set,hlen,t4,t6,t7]
  exact h2
 by_cases d3:400 < x
 ·rw [if_pos (.inr (.inr d3))] at h2
  simp only [d1,d3,sxZ,z6,z7,z8,j4,j5,j6,j7,j8,j9,x0,x3,x4,x5,x6,x7,reduceCtorEq,↓reduceIte,List.getElem?_set,hlen,t4,t6,t7]
  exact h2
 by_cases d2:x < -400
 ·rw [if_pos (.inr (.inl d2))] at h2
  simp only [d1,d2,d3,sxZ,z6,z7,z8,j4,j5,j6,j7,j8,j9,x0,x3,x4,x5,x6,x7,reduceCtorEq,↓reduceIte,List.getElem?_set,hlen,t4,t6,t7]
  exact h2
 rw [if_neg (by omega)] at h2
 have hsg:(sgT p.neg).length ≤ 1:=by unfold sgT; split <;> simp
 unfold expS at h2
 generalize sgT p.neg=sg at *
 have hdl:(Lib.decDigits x.natAbs).length ≤ 20:=by rw [Lib.decDigits_length]; exact Lib.nDigits_le20 _ (by omega)
 by_cases d4:x < 0
 ·rw [if_neg (show ¬ x=0 by omega)] at h2
  have hw:IntKind.u64.wrap (0 - x)=((x.natAbs:Nat):Int):=by rw [wrap_u64 _ (by omega) (by omega)]; omega
  have hit:=Lib.itoa_neg x.natAbs (by omega)
  rw [show -((x.natAbs:Nat):Int)=x by omega] at hit
  rw [hit] at h2
  simp only [d1,d2,d3,d4,hw,sxZ,z6,z7,z8,j4,j5,j6,j7,j8,j9,x0,x3,x4,x5,x6,x7,reduceCtorEq,↓reduceIte,List.getElem?_set,hlen,t4,t6,t7]
  (and_intros <;> try omega)
  refine zak (ze4 _ (by omega) ?_)
  simp only [sxZ,z6,z7,z8,j4,j5,j6,j7,j8,j9,x0,x3,x4,x5,x6,x7,reduceCtorEq,↓reduceIte,List.getElem?_set,hlen,t4,t6,t7]
  (and_intros <;> try omega)
  simpa using h2
 by_cases d5:0 < x
 ·rw [if_neg (show ¬ x=0 by omega)] at h2
  have hw:IntKind.u64.wrap x=((x.natAbs:Nat):Int):=by rw [wrap_u64 _ (by omega) (by omega)]; omega
  have hit:=Lib.itoa_nonneg x.natAbs
  rw [show ((x.natAbs:Nat):Int)=x by omega] at hit
  rw [hit] at h2
  simp only [d1,d2,d3,d4,d5,hw,sxZ,z6,z7,z8,j4,j5,j6,j7,j8,j9,x0,x3,x4,x5,x6,x7,reduceCtorEq,↓reduceIte,List.getElem?_set,hlen,t4,t6,t7]
  (and_intros <;> try omega)
  refine zak (ze4 _ (by omega) ?_)
  simp only [sxZ,z6,z7,z8,j4,j5,j6,j7,j8,j9,x0,x3,x4,x5,x6,x7,reduceCtorEq,↓reduceIte,List.getElem?_set,hlen,t4,t6,t7]
  (and_intros <;> try omega)
  simpa using h2
 ·rw [if_pos (show x=0 by omega)] at h2
  simp only [d1,d2,d3,d4,d5,sxZ,z6,z7,z8,j4,j5,j6,j7,j8,j9,x0,x3,x4,x5,x6,x7,reduceCtorEq,↓reduceIte,List.getElem?_set,hlen,t4,t6,t7]
  (and_intros <;> try omega)
  simpa using h2
end
theorem zji {n:Nat} (h:n ≤ 65535):IntKind.i64.wrap ((n:Nat):Int)=n:=by rw [IntKind.wrap_i64]; omega
section
variable [Tabs Tryz.prog] {objs:List OB} {K:List OB → AV → Prop}
theorem runit_k (s:List UInt8) (a:Nat) (ha:a ≤ 9000000000000000000) (hs:s.length ≤ 140737488351232) (hk:match zbX (s.drop a) with | some n => K objs (.tup [.i .i64 (n:Nat),.b true]) | none => ∀ x,K objs (.tup [.i .i64 x,.b false])):zad Tryz.prog 112 [.s s,.i .i64 (a:Nat)] objs K:=by
 refine zbs is_ref13_unit rfl fun C _ => ?_
 have hb:=zfN zaQ 16 65535 (((s.drop a).drop 2).take 4)
 unfold zbX at hk
 rw [List.length_drop,zcg,zcg,Nat.add_zero] at hk
 by_cases c0:(s.length:Int) < (a:Int) + 6
 ·rw [if_pos (.inl (by omega))] at hk
  simp only [c0,c_ref13_unit,sxZ,z6,z7,z8,j4,j5,j6,j7,j8,j9,x0,x3,x4,x5,x6,x7,reduceCtorEq,↓reduceIte]
  exact ⟨by omega,hk 0⟩
 have l0:a < s.length:=by omega
 have l1:a + 1 < s.length:=by omega
 have g0:=zas l0
 have g1:=zas l1
 have e2:((a:Int) + 1).toNat=a + 1:=by omega
 have e0:s[a]? = some 92 ↔ ((s[a].toNat:Nat):Int)=92:=zdn l0 92 (by decide)
 have e1:s[a + 1]? = some 117 ↔ ((s[a + 1].toNat:Nat):Int)=117:=zdn l1 117 (by decide)
 have e3:((a:Int) + 2).toNat=a + 2:=by omega
 have e4:((a:Int) + 6).toNat=a + 6:=by omega
 by_cases c1:((s[a].toNat:Nat):Int)=92
 ·by_cases c2:((s[a + 1].toNat:Nat):Int)=117
  ·rw [if_neg (by rintro (h | h | h); exact absurd h (by omega); exact h (e0.2 c1); exact h (e1.2 c2))] at hk
   simp only [c0,c1,c2,e2,e3,e4,g0,g1,c_ref13_unit,sxZ,z6,z7,z8,j4,j5,j6,j7,j8,j9,x0,x3,x4,x5,x6,x7,reduceCtorEq,↓reduceIte]
   refine ⟨by omega,by omega,by omega,by omega,by omega,by omega,by omega,?_⟩
   have hx:(s.take (a + 6)).drop (a + 2)=((s.drop a).drop 2).take 4:=by
    rw [List.drop_drop,show a + 6=(a + 2) + 4 by omega,zbZ]
   rw [hx]
   refine zak (rnHex_k _ 65535 (by rw [List.length_take,List.length_drop,zbx]; omega) (by decide) ?_)
   simp only [sxZ,z6,z7,z8,j4,j5,j6,j7,j8,j9,x0,x3,x4,x5,x6,x7,reduceCtorEq,↓reduceIte]
   generalize zbc zaQ 16 65535 (((s.drop a).drop 2).take 4)=q at *
   obtain ⟨e,n⟩:=q
   simp only at hk hb ⊢
   rw [zji hb]
   by_cases c3:e=0
   ·rw [if_pos c3] at hk
    rw [decide_eq_true c3]
    exact hk
   ·rw [if_neg c3] at hk
    rw [decide_eq_false c3]
    exact hk _
  ·rw [if_pos (.inr (.inr (fun h => c2 (e1.1 h))))] at hk
   simp only [c0,c1,c2,e2,g0,g1,c_ref13_unit,sxZ,z6,z7,z8,j4,j5,j6,j7,j8,j9,x0,x3,x4,x5,x6,x7,reduceCtorEq,↓reduceIte]
   refine ⟨by omega,by omega,by omega,by omega,hk 0⟩
 ·rw [if_pos (.inr (.inl (fun h => c1 (e0.1 h))))] at hk
  simp only [c0,c1,g0,g1,c_ref13_unit,sxZ,z6,z7,z8,j4,j5,j6,j7,j8,j9,x0,x3,x4,x5,x6,x7,reduceCtorEq,↓reduceIte]
  refine ⟨by omega,by omega,hk 0⟩
end
end Go.Proofs.YthmdohgkmdkeeaaGreatDoor
namespace Go.Proofs.YthmdohgkmdkeeaaGreatDoor
open Go.RowKit Sx
theorem zhk {P:Program} [Tabs P] {f:FuncId} {args:List AV} {vs:List Value} {Q:Value → Prop} {w:World} (ha:vals args=some vs) (hT:Tabs.T (P:=P) w) (h:zad P f args [] (fun _ r => ∃ v,val r=some v ∧ Q v)) :
  Calls P f vs.toArray w fun e w' => ∃ v,e=.returned v ∧ Q v ∧ Qb w w':=by
 haveI:On P ⟨w,fun _ => False,fun g o v => w.cell? ⟨g,o,none⟩=some v,Gh.none⟩:=⟨hT,fun _ h => h⟩
 have hd:=(zbN Gh.none (fun g o v => w.cell? ⟨g,o,none⟩=some v) args vs ha vs).2 rfl
 have hc:=h ⟨w,fun _ => False,fun g o v => w.cell? ⟨g,o,none⟩=some v,Gh.none⟩ Gh.none (fun g o v => w.cell? ⟨g,o,none⟩=some v) w
  ⟨rfl,rfl,rfl,Nat.le_refl _,fun _ _ _ => rfl,fun _ _ _ h => h,fun _ _ _ h => .inl h,fun b g hb => by simp [Gh.own,Gh.none] at hb,Gh.le.refl _⟩
  ⟨fun _ _ _ h => h,by simp,by simp,by simp,fun b b' g hb => by simp [Gh.own,Gh.none] at hb,fun b g hb => by simp [Gh.own,Gh.none] at hb,fun b g o v hb => by simp [Gh.own,Gh.none] at hb,fun b _ => ⟨rfl,rfl⟩⟩ vs hd
 refine hc.mono ?_
 rintro e w' ⟨y,objs',r,G',I',rfl,⟨v,hv,hq⟩,_,_,hin,_,hy⟩
 rw [(zem _ _ r v hv y).1 hy]
 exact ⟨v,rfl,hq,hin.os,hin.tape,hin.output,hin.size,fun k hk => hin.block k hk (fun h => h)⟩
def zjj (l:List UInt8) (v:Value):Prop:=match zbX l with | some n => v=.tuple #[.int .i64 (n:Nat),.bool true] | none => ∃ x,v=.tuple #[.int .i64 x,.bool false]
theorem zkk [Tabs Tryz.prog] (s:List UInt8) (a:Nat) (ha:a ≤ 9000000000000000000) (hs:s.length ≤ 140737488351232) (w:World) (hT:Tabs.T (P:=Tryz.prog) w) :
  Calls Tryz.prog 112 #[.string (S s),.int .i64 (a:Nat)] w fun e w' => ∃ v,e=.returned v ∧ zjj (s.drop a) v ∧ Qb w w' :=
 zhk (args:=[.s s,.i .i64 (a:Nat)]) rfl hT (runit_k s a ha hs (by
  unfold zjj
  cases zbX (s.drop a) with
  | some n => exact ⟨_,rfl,rfl⟩
  | none => exact fun x => ⟨_,rfl,x,rfl⟩))
def zbi (s:List UInt8) (a:Nat):List UInt8 × Int × Int:=if (zcF (s.drop a)).1=0 then ((zcF (s.drop a)).2.1,((a + (zcF (s.drop a)).2.2:Nat):Int),0) else ([],0,(zcF (s.drop a)).1)
def tokEscV (r:List UInt8 × Int × Int):Value:=.tuple #[.string (S r.1),.int .i64 r.2.1,.int .i64 r.2.2]
def zaL:ByteArray:=⟨#[34,92,47,98,102,110,114,116]⟩
theorem zho [Tabs Tryz.prog] (b:ByteArray) (a:Nat) (x:Int) (hx:x=(a:Nat)) (ha:a ≤ 9000000000000000000) (hs:b.size ≤ 140737488351232) (w:World) (hT:Tabs.T (P:=Tryz.prog) w) :
  Calls Tryz.prog 112 #[.string b,.int .i64 x] w fun e w' => ∃ v,e=.returned v ∧ zjj (b.data.toList.drop a) v ∧ Qb w w':=by
 subst hx
 have h:=zkk b.data.toList a ha (by rw [zah]; exact hs) w hT
 rw [S_of b] at h
 exact h
def zfi:List UInt8:=[34,92,47,98,102,110,114,116]
def zmx:List UInt8:=[34,92,47,8,12,10,13,9]
theorem codes_ok:∀ i:Fin 8,zcn (zfi.getD i.val 0)=some (zmx.getD i.val 0):=by decide +kernel
theorem codes_no (c:UInt8) (h:∀ j,j < 8 → zfi.getD j 0 ≠ c):zcn c=none:=by
 have key:∀ n:Fin 256,zcn (UInt8.ofNat n.val)=none ∨ ∃ i:Fin 8,zfi.getD i.val 0=UInt8.ofNat n.val:=by decide +kernel
 have h2:=key ⟨c.toNat,c.toNat_lt⟩
 simp only [UInt8.ofNat_toNat] at h2
 rcases h2 with h2 | ⟨i,h2⟩
 ·exact h2
 ·exact absurd h2 (h i.val i.isLt)
theorem zcT (b:ByteArray) (a k:Nat) (hk:k < 8) (h:a + 1 < b.size) (hx:zfi.getD k 0=b[a + 1]):zbi b.data.toList a=([zmx.getD k 0],((a + 2:Nat):Int),0):=by
 have he:zcF (b.data.toList.drop a)=(0,[zmx.getD k 0],2):=by
  unfold zcF
  rw [zcg,List.getElem?_eq_getElem (by rw [zah]; exact h),Option.bind_some,show b.data.toList[a + 1]'(by rw [zah]; exact h)=zfi.getD k 0 from (zhR b (a + 1) h).symm.trans hx.symm,codes_ok ⟨k,hk⟩]
 unfold zbi
 rw [he]; rfl
theorem zmM [Tabs Tryz.prog] {w w':World} (hT:Tabs.T (P:=Tryz.prog) w) (hq:Qb w w'):Tabs.T (P:=Tryz.prog) w' :=
 Tabs.keep w w' hT (fun k hk => hq.block k hk) hq.size
set_option maxRecDepth 1000000 in
set_option maxHeartbeats 4000000 in
theorem zhp [Tabs Tryz.prog] (b:ByteArray) (a:Nat) (ha:a < b.size) (hs:b.size ≤ 140737488351232) (w:World) (hT:Tabs.T (P:=Tryz.prog) w) :
  Calls Tryz.prog 91 #[.string b,.int .i64 (a:Nat)] w fun e w' => e=.returned (tokEscV (zbi b.data.toList a)) ∧ Qb w w':=by
 by_cases c0:(a:Int) + 1 < b.size
 ·have c0':a + 1 < b.size:=by omega
  have HC:Hid (b[a + 1]=b.data.toList[a + 1]'(by rw [zah]; exact c0')):=Lib.hid (zhR b (a + 1) c0')
  have HG:Hid (b.data.toList[a + 1]? = some b[a + 1]):=Lib.hid (by rw [List.getElem?_eq_getElem (by rw [zah]; exact c0'),zhR b (a + 1) c0'])
  have q1:IntKind.i64.wrap ((a:Int) + 1)=(a:Int) + 1:=IntWalk.i64_in _ (by omega)
  have q2:(0:Int) ≤ (a:Int) + 1:=by omega
  have q3:((a:Int) + 1).toNat=a + 1:=by omega
  have q4:(a:Int) + 1 < b.size:=by omega
  go_enter Tryz.func91,Tryz.ntmps91
  go_wp2_with fail
  go_loopg [7] 8 (fun g _ wx => ∃ i:Nat,i + g=8 ∧ wx.heap[w.heap.size]? = some (.stringIter zaL i) ∧ Qb w wx ∧ Hid (∀ j,j < i → zfi.getD j 0 ≠ b[a + 1]))
  case atStart => exact ⟨0,rfl,World.iter_heap _ _ _,(Qb.refl w).alloc _,Lib.hid (fun j hj => absurd hj (by omega))⟩
  case round =>
   obtain ⟨i,hig,hk,hq,HN⟩:=hrel
   by_cases hi:i < 8
   ·obtain ⟨g,rfl⟩:∃ g,gk=g + 1:=⟨gk - 1,by omega⟩
    have hcases:i=0 ∨ i=1 ∨ i=2 ∨ i=3 ∨ i=4 ∨ i=5 ∨ i=6 ∨ i=7:=by omega
    rcases hcases with rfl | rfl | rfl | rfl | rfl | rfl | rfl | rfl
    ·have hnx:=fun ty => Lib.run_next_ascii_at (P:=Tryz.prog) wr w.heap.size zaL 0 ty hk (by decide) (by decide)
     have hk':=Lib.hid (Lib.iterAt_heap wr w.heap.size zaL 0 1 hk)
     have hq':Qb w (wr.iterAt w.heap.size zaL 1):=Lib.below_iterAt hq (Nat.le_refl _) zaL 1
     clear hk
     by_cases hx:(34:UInt8)=b[a + 1]
     ·have HE:=Lib.hid (zcT b a 0 (by decide) c0' hx)
      have hd:∀ x:Int,x=34 → (x == ((b[a + 1].toNat:Nat):Int))=true:=by
       rintro x rfl
       rw [← hx]; rfl
      clear hx
      go_wp2_with fail
      go_quiet (fail)
      rw [hd]
      rotate_left
      ·rfl
      go_wp2_with fail
      go_ret3
      exact ⟨by rw [HE.out]; rfl,hq'.drewN _⟩
     ·have HX:=Lib.hid hx
      have hd:∀ x:Int,x=34 → (x == ((b[a + 1].toNat:Nat):Int))=false:=by
       rintro x rfl
       rw [beq_eq_false_iff_ne]
       intro h
       have h2:(34:UInt8).toNat=b[a + 1].toNat:=by
        have:(34:UInt8).toNat=34:=rfl
        omega
       exact hx (UInt8.toNat_inj.1 h2)
      clear hx
      go_wp2_with fail
      go_quiet (fail)
      rw [hd]
      rotate_left
      ·rfl
      go_wp2_with fail
      go_roundg g
      case measure => omega
      case rel => exact ⟨1,by omega,hk'.out,hq'.drewN _,Lib.hid (fun j hj => by
       rcases Nat.lt_or_ge j 0 with h | h
       ·exact HN.out j h
       ·obtain rfl:j=0:=by omega
        exact HX.out)⟩
    ·have hnx:=fun ty => Lib.run_next_ascii_at (P:=Tryz.prog) wr w.heap.size zaL 1 ty hk (by decide) (by decide)
     have hk':=Lib.hid (Lib.iterAt_heap wr w.heap.size zaL 1 2 hk)
     have hq':Qb w (wr.iterAt w.heap.size zaL 2):=Lib.below_iterAt hq (Nat.le_refl _) zaL 2
     clear hk
     by_cases hx:(92:UInt8)=b[a + 1]
     ·have HE:=Lib.hid (zcT b a 1 (by decide) c0' hx)
      have hd:∀ x:Int,x=92 → (x == ((b[a + 1].toNat:Nat):Int))=true:=by
       rintro x rfl
       rw [← hx]; rfl
      clear hx
      go_wp2_with fail
      go_quiet (fail)
      rw [hd]
      rotate_left
      ·rfl
      go_wp2_with fail
      go_ret3
      exact ⟨by rw [HE.out]; rfl,hq'.drewN _⟩
     ·have HX:=Lib.hid hx
      have hd:∀ x:Int,x=92 → (x == ((b[a + 1].toNat:Nat):Int))=false:=by
       rintro x rfl
       rw [beq_eq_false_iff_ne]
       intro h
       have h2:(92:UInt8).toNat=b[a + 1].toNat:=by
        have:(92:UInt8).toNat=92:=rfl
        omega
       exact hx (UInt8.toNat_inj.1 h2)
      clear hx
      go_wp2_with fail
      go_quiet (fail)
      rw [hd]
      rotate_left
      ·rfl
      go_wp2_with fail
      go_roundg g
      case measure => omega
      case rel => exact ⟨2,by omega,hk'.out,hq'.drewN _,Lib.hid (fun j hj => by
       rcases Nat.lt_or_ge j 1 with h | h
       ·exact HN.out j h
       ·obtain rfl:j=1:=by omega
        exact HX.out)⟩
    ·have hnx:=fun ty => Lib.run_next_ascii_at (P:=Tryz.prog) wr w.heap.size zaL 2 ty hk (by decide) (by decide)
     have hk':=Lib.hid (Lib.iterAt_heap wr w.heap.size zaL 2 3 hk)
     have hq':Qb w (wr.iterAt w.heap.size zaL 3):=Lib.below_iterAt hq (Nat.le_refl _) zaL 3
     clear hk
     by_cases hx:(47:UInt8)=b[a + 1]
     ·have HE:=Lib.hid (zcT b a 2 (by decide) c0' hx)
      have hd:∀ x:Int,x=47 → (x == ((b[a + 1].toNat:Nat):Int))=true:=by
       rintro x rfl
       rw [← hx]; rfl
      clear hx
      go_wp2_with fail
      go_quiet (fail)
      rw [hd]
      rotate_left
      ·rfl
      go_wp2_with fail
      go_ret3
      exact ⟨by rw [HE.out]; rfl,hq'.drewN _⟩
     ·have HX:=Lib.hid hx
      have hd:∀ x:Int,x=47 → (x == ((b[a + 1].toNat:Nat):Int))=false:=by
       rintro x rfl
       rw [beq_eq_false_iff_ne]
       intro h
       have h2:(47:UInt8).toNat=b[a + 1].toNat:=by
        have:(47:UInt8).toNat=47:=rfl
        omega
       exact hx (UInt8.toNat_inj.1 h2)
      clear hx
      go_wp2_with fail
      go_quiet (fail)
      rw [hd]
      rotate_left
      ·rfl
      go_wp2_with fail
      go_roundg g
      case measure => omega
      case rel => exact ⟨3,by omega,hk'.out,hq'.drewN _,Lib.hid (fun j hj => by
       rcases Nat.lt_or_ge j 2 with h | h
       ·exact HN.out j h
       ·obtain rfl:j=2:=by omega
        exact HX.out)⟩
    ·have hnx:=fun ty => Lib.run_next_ascii_at (P:=Tryz.prog) wr w.heap.size zaL 3 ty hk (by decide) (by decide)
     have hk':=Lib.hid (Lib.iterAt_heap wr w.heap.size zaL 3 4 hk)
     have hq':Qb w (wr.iterAt w.heap.size zaL 4):=Lib.below_iterAt hq (Nat.le_refl _) zaL 4
     clear hk
     by_cases hx:(98:UInt8)=b[a + 1]
     ·have HE:=Lib.hid (zcT b a 3 (by decide) c0' hx)
      have hd:∀ x:Int,x=98 → (x == ((b[a + 1].toNat:Nat):Int))=true:=by
       rintro x rfl
       rw [← hx]; rfl
      clear hx
      go_wp2_with fail
      go_quiet (fail)
      rw [hd]
      rotate_left
      ·rfl
      go_wp2_with fail
      go_ret3
      exact ⟨by rw [HE.out]; rfl,hq'.drewN _⟩
     ·have HX:=Lib.hid hx
      have hd:∀ x:Int,x=98 → (x == ((b[a + 1].toNat:Nat):Int))=false:=by
       rintro x rfl
       rw [beq_eq_false_iff_ne]
       intro h
       have h2:(98:UInt8).toNat=b[a + 1].toNat:=by
        have:(98:UInt8).toNat=98:=rfl
        omega
       exact hx (UInt8.toNat_inj.1 h2)
      clear hx
      go_wp2_with fail
      go_quiet (fail)
      rw [hd]
      rotate_left
      ·rfl
      go_wp2_with fail
      go_roundg g
      case measure => omega
      case rel => exact ⟨4,by omega,hk'.out,hq'.drewN _,Lib.hid (fun j hj => by
       rcases Nat.lt_or_ge j 3 with h | h
       ·exact HN.out j h
       ·obtain rfl:j=3:=by omega
        exact HX.out)⟩
    ·have hnx:=fun ty => Lib.run_next_ascii_at (P:=Tryz.prog) wr w.heap.size zaL 4 ty hk (by decide) (by decide)
     have hk':=Lib.hid (Lib.iterAt_heap wr w.heap.size zaL 4 5 hk)
     have hq':Qb w (wr.iterAt w.heap.size zaL 5):=Lib.below_iterAt hq (Nat.le_refl _) zaL 5
     clear hk
     by_cases hx:(102:UInt8)=b[a + 1]
     ·have HE:=Lib.hid (zcT b a 4 (by decide) c0' hx)
      have hd:∀ x:Int,x=102 → (x == ((b[a + 1].toNat:Nat):Int))=true:=by
       rintro x rfl
       rw [← hx]; rfl
      clear hx
      go_wp2_with fail
      go_quiet (fail)
      rw [hd]
      rotate_left
      ·rfl
      go_wp2_with fail
      go_ret3
      exact ⟨by rw [HE.out]; rfl,hq'.drewN _⟩
     ·have HX:=Lib.hid hx
      have hd:∀ x:Int,x=102 → (x == ((b[a + 1].toNat:Nat):Int))=false:=by
       rintro x rfl
       rw [beq_eq_false_iff_ne]
       intro h
       have h2:(102:UInt8).toNat=b[a + 1].toNat:=by
        have:(102:UInt8).toNat=102:=rfl
        omega
       exact hx (UInt8.toNat_inj.1 h2)
      clear hx
      go_wp2_with fail
      go_quiet (fail)
      rw [hd]
      rotate_left
      ·rfl
      go_wp2_with fail
      go_roundg g
      case measure => omega
      case rel => exact ⟨5,by omega,hk'.out,hq'.drewN _,Lib.hid (fun j hj => by
       rcases Nat.lt_or_ge j 4 with h | h
       ·exact HN.out j h
       ·obtain rfl:j=4:=by omega
        exact HX.out)⟩
    ·have hnx:=fun ty => Lib.run_next_ascii_at (P:=Tryz.prog) wr w.heap.size zaL 5 ty hk (by decide) (by decide)
     have hk':=Lib.hid (Lib.iterAt_heap wr w.heap.size zaL 5 6 hk)
     have hq':Qb w (wr.iterAt w.heap.size zaL 6):=Lib.below_iterAt hq (Nat.le_refl _) zaL 6
     clear hk
     by_cases hx:(110:UInt8)=b[a + 1]
     ·have HE:=Lib.hid (zcT b a 5 (by decide) c0' hx)
      have hd:∀ x:Int,x=110 → (x == ((b[a + 1].toNat:Nat):Int))=true:=by
       rintro x rfl
       rw [← hx]; rfl
      clear hx
      go_wp2_with fail
      go_quiet (fail)
      rw [hd]
      rotate_left
      ·rfl
      go_wp2_with fail
      go_ret3
      exact ⟨by rw [HE.out]; rfl,hq'.drewN _⟩
     ·have HX:=Lib.hid hx
      have hd:∀ x:Int,x=110 → (x == ((b[a + 1].toNat:Nat):Int))=false:=by
       rintro x rfl
       rw [beq_eq_false_iff_ne]
       intro h
       have h2:(110:UInt8).toNat=b[a + 1].toNat:=by
        have:(110:UInt8).toNat=110:=rfl
        omega
       exact hx (UInt8.toNat_inj.1 h2)
      clear hx
      go_wp2_with fail
      go_quiet (fail)
      rw [hd]
      rotate_left
      ·rfl
      go_wp2_with fail
      go_roundg g
      case measure => omega
      case rel => exact ⟨6,by omega,hk'.out,hq'.drewN _,Lib.hid (fun j hj => by
       rcases Nat.lt_or_ge j 5 with h | h
       ·exact HN.out j h
       ·obtain rfl:j=5:=by omega
        exact HX.out)⟩
    ·have hnx:=fun ty => Lib.run_next_ascii_at (P:=Tryz.prog) wr w.heap.size zaL 6 ty hk (by decide) (by decide)
     have hk':=Lib.hid (Lib.iterAt_heap wr w.heap.size zaL 6 7 hk)
     have hq':Qb w (wr.iterAt w.heap.size zaL 7):=Lib.below_iterAt hq (Nat.le_refl _) zaL 7
     clear hk
     by_cases hx:(114:UInt8)=b[a + 1]
     ·have HE:=Lib.hid (zcT b a 6 (by decide) c0' hx)
      have hd:∀ x:Int,x=114 → (x == ((b[a + 1].toNat:Nat):Int))=true:=by
       rintro x rfl
       rw [← hx]; rfl
      clear hx
      go_wp2_with fail
      go_quiet (fail)
      rw [hd]
      rotate_left
      ·rfl
      go_wp2_with fail
      go_ret3
      exact ⟨by rw [HE.out]; rfl,hq'.drewN _⟩
     ·have HX:=Lib.hid hx
      have hd:∀ x:Int,x=114 → (x == ((b[a + 1].toNat:Nat):Int))=false:=by
       rintro x rfl
       rw [beq_eq_false_iff_ne]
       intro h
       have h2:(114:UInt8).toNat=b[a + 1].toNat:=by
        have:(114:UInt8).toNat=114:=rfl
        omega
       exact hx (UInt8.toNat_inj.1 h2)
      clear hx
      go_wp2_with fail
      go_quiet (fail)
      rw [hd]
      rotate_left
      ·rfl
      go_wp2_with fail
      go_roundg g
      case measure => omega
      case rel => exact ⟨7,by omega,hk'.out,hq'.drewN _,Lib.hid (fun j hj => by
       rcases Nat.lt_or_ge j 6 with h | h
       ·exact HN.out j h
       ·obtain rfl:j=6:=by omega
        exact HX.out)⟩
    ·have hnx:=fun ty => Lib.run_next_ascii_at (P:=Tryz.prog) wr w.heap.size zaL 7 ty hk (by decide) (by decide)
     have hk':=Lib.hid (Lib.iterAt_heap wr w.heap.size zaL 7 8 hk)
     have hq':Qb w (wr.iterAt w.heap.size zaL 8):=Lib.below_iterAt hq (Nat.le_refl _) zaL 8
     clear hk
     by_cases hx:(116:UInt8)=b[a + 1]
     ·have HE:=Lib.hid (zcT b a 7 (by decide) c0' hx)
      have hd:∀ x:Int,x=116 → (x == ((b[a + 1].toNat:Nat):Int))=true:=by
       rintro x rfl
       rw [← hx]; rfl
      clear hx
      go_wp2_with fail
      go_quiet (fail)
      rw [hd]
      rotate_left
      ·rfl
      go_wp2_with fail
      go_ret3
      exact ⟨by rw [HE.out]; rfl,hq'.drewN _⟩
     ·have HX:=Lib.hid hx
      have hd:∀ x:Int,x=116 → (x == ((b[a + 1].toNat:Nat):Int))=false:=by
       rintro x rfl
       rw [beq_eq_false_iff_ne]
       intro h
       have h2:(116:UInt8).toNat=b[a + 1].toNat:=by
        have:(116:UInt8).toNat=116:=rfl
        omega
       exact hx (UInt8.toNat_inj.1 h2)
      clear hx
      go_wp2_with fail
      go_quiet (fail)
      rw [hd]
      rotate_left
      ·rfl
      go_wp2_with fail
      go_roundg g
      case measure => omega
      case rel => exact ⟨8,by omega,hk'.out,hq'.drewN _,Lib.hid (fun j hj => by
       rcases Nat.lt_or_ge j 7 with h | h
       ·exact HN.out j h
       ·obtain rfl:j=7:=by omega
        exact HX.out)⟩
   ·have hnx:=fun ty => Lib.run_next_end_at (P:=Tryz.prog) wr w.heap.size zaL i ty hk (by show ¬ i < 8; exact hi)
    have HS:Hid ((b.data.toList.drop a)[1]?.bind zcn=none):=Lib.hid (by
     rw [zcg,HG.out,Option.bind_some]
     exact codes_no _ (fun j hj => HN.out j (by omega)))
    go_wp2_with fail
    refine (zho b a a rfl (by omega) hs _ (zmM hT hq)).mono ?_
    rintro e w1 ⟨v,rfl,hv,hq1⟩
    have hq2:=hq.trans hq1
    unfold zjj at hv
    cases hu:zbX (b.data.toList.drop a) with
    | none =>
     rw [hu] at hv
     obtain ⟨x,rfl⟩:=hv
     have hE:zbi b.data.toList a=([],0,130):=by
      have:zcF (b.data.toList.drop a)=(130,[],0):=by unfold zcF; rw [HS.out,hu]
      unfold zbi
      rw [this]; rfl
     go_wp2_with fail
     go_ret3
     exact ⟨by rw [hE]; rfl,hq2⟩
    | some n =>
     rw [hu] at hv
     subst hv
     have hul:=zbG hu
     rw [List.length_drop,zah] at hul
     have HU:=Lib.hid hu
     clear hu
     have okE:∀ (U Z:Nat),zcG n ((b.data.toList.drop a).drop 6)=(U,Z) → cpB (U:Int)=true → zbi b.data.toList a=(zdk U,((a + Z:Nat):Int),0):=by
      intro U Z h1 h2
      have:=ziP HS.out HU.out
      rw [h1] at this
      simp only at this
      rw [if_pos h2] at this
      unfold zbi
      rw [this]; rfl
     have noE:∀ (U Z:Nat),zcG n ((b.data.toList.drop a).drop 6)=(U,Z) → cpB (U:Int)=false → zbi b.data.toList a=([],0,7):=by
      intro U Z h1 h2
      have:=ziP HS.out HU.out
      rw [h1] at this
      simp only at this
      rw [if_neg (by rw [h2]; simp)] at this
      unfold zbi
      rw [this]; rfl
     have HO:=Lib.hid okE
     have HNo:=Lib.hid noE
     clear okE noE
     have hq3:=zmM hT hq2
     have HQ2:=Lib.hid hq2
     have b1:IntKind.i64.wrap ((a:Int) + 6)=(a:Int) + 6:=IntWalk.i64_in _ (by omega)
     have b2:IntKind.i64.wrap ((a:Int) + 12)=(a:Int) + 12:=IntWalk.i64_in _ (by omega)
     have encOk:∀ U:Nat,cpB (U:Int)=true → ∀ wz,Calls Tryz.prog 113 #[.int .i64 (U:Nat)] wz fun e w' => e=.returned (.tuple #[.string (S (zdk U)),.int .i64 0]) ∧ Qb wz w':=by
      intro U hU wz
      have:=zcQ (U:Nat) wz
      unfold zee at this
      rw [if_pos hU,Int.toNat_natCast] at this
      exact this
     by_cases c1:n < 55296 ∨ 57343 < n
     ·have hU:zcG n ((b.data.toList.drop a).drop 6)=(n,6):=by unfold zcG; rw [if_neg (show ¬ (55296 ≤ n ∧ n < 56320) by omega)]
      have hcp:cpB (n:Int)=true:=decide_eq_true (by omega)
      have hE:=Lib.hid (HO.out n 6 hU hcp)
      have hEn:=Lib.hid (encOk n hcp)
      clear hU hcp encOk
      by_cases c2:n < 55296
      ·have d1:decide ((n:Int) < 55296)=true:=decide_eq_true (by omega)
       clear c1 c2 hul
       go_wp2_with fail
       refine (hEn.out _).mono ?_
       rintro e w2 ⟨rfl,hq4⟩
       have HE2:=hE.out
       clear hE hEn
       generalize zdk n=X at *
       have HE3:=Lib.hid HE2
       clear HE2
       go_wp2_with fail
       go_ret3
       exact ⟨by rw [HE3.out]; rfl,HQ2.out.trans hq4⟩
      ·have d1:decide ((n:Int) < 55296)=false:=decide_eq_false (by omega)
       have d2:decide ((57343:Int) < (n:Int))=true:=decide_eq_true (by omega)
       clear c1 c2 hul
       go_wp2_with fail
       refine (hEn.out _).mono ?_
       rintro e w2 ⟨rfl,hq4⟩
       have HE2:=hE.out
       clear hE hEn
       generalize zdk n=X at *
       have HE3:=Lib.hid HE2
       clear HE2
       go_wp2_with fail
       go_ret3
       exact ⟨by rw [HE3.out]; rfl,HQ2.out.trans hq4⟩
     ·have d1:decide ((n:Int) < 55296)=false:=decide_eq_false (by omega)
      have d2:decide ((57343:Int) < (n:Int))=false:=decide_eq_false (by omega)
      have C1:=Lib.hid c1
      have HL:=Lib.hid hul
      clear c1 hul
      go_wp2_with fail
      refine (zho b (a + 6) _ (by omega) (by omega) hs _ hq3).mono ?_
      rintro e w2 ⟨v,rfl,hv,hq4⟩
      have HQ5:=Lib.hid (HQ2.out.trans hq4)
      unfold zjj at hv
      have hdd:(b.data.toList.drop a).drop 6=b.data.toList.drop (a + 6):=List.drop_drop
      have hcn:=C1.out
      have hln:=HL.out
      have hne:cpB (n:Int)=false:=decide_eq_false (by omega)
      cases hu2:zbX (b.data.toList.drop (a + 6)) with
      | none =>
       rw [hu2] at hv
       obtain ⟨x,rfl⟩:=hv
       have hU:zcG n ((b.data.toList.drop a).drop 6)=(n,6):=by unfold zcG; rw [hdd,hu2]; simp
       have hE:=Lib.hid (HNo.out n 6 hU hne)
       clear hU hcn hln hne hdd encOk
       by_cases c3:(56319:Int) < n
       ·have d3:decide ((56319:Int) < (n:Int))=true:=decide_eq_true c3
        clear c3
        go_wp2_with fail
        go_ret3
        exact ⟨by rw [hE.out]; rfl,HQ5.out⟩
       ·have d3:decide ((56319:Int) < (n:Int))=false:=decide_eq_false c3
        clear c3
        go_wp2_with fail
        go_ret3
        exact ⟨by rw [hE.out]; rfl,HQ5.out⟩
      | some m =>
       rw [hu2] at hv
       subst hv
       have hml:=(zbG hu2).2
       by_cases c3:(56319:Int) < n
       ·have hU:zcG n ((b.data.toList.drop a).drop 6)=(n,6):=by unfold zcG; rw [if_neg (show ¬ (55296 ≤ n ∧ n < 56320) by omega)]
        have hE:=Lib.hid (HNo.out n 6 hU hne)
        have d3:decide ((56319:Int) < (n:Int))=true:=decide_eq_true c3
        clear hU hcn hln hne hdd encOk c3 hml hu2
        go_wp2_with fail
        go_ret3
        exact ⟨by rw [hE.out]; rfl,HQ5.out⟩
       have d3:decide ((56319:Int) < (n:Int))=false:=decide_eq_false c3
       by_cases c4:(m:Int) < 56320
       ·have hU:zcG n ((b.data.toList.drop a).drop 6)=(n,6):=by
         unfold zcG; rw [hdd,hu2,if_pos (show 55296 ≤ n ∧ n < 56320 by omega)]
         simp only
         rw [if_neg (by omega)]
        have hE:=Lib.hid (HNo.out n 6 hU hne)
        have d4:decide ((m:Int) < 56320)=true:=decide_eq_true c4
        clear hU hcn hln hne hdd encOk c3 c4 hml hu2
        go_wp2_with fail
        go_ret3
        exact ⟨by rw [hE.out]; rfl,HQ5.out⟩
       have d4:decide ((m:Int) < 56320)=false:=decide_eq_false c4
       by_cases c5:(57343:Int) < m
       ·have hU:zcG n ((b.data.toList.drop a).drop 6)=(n,6):=by
         unfold zcG; rw [hdd,hu2,if_pos (show 55296 ≤ n ∧ n < 56320 by omega)]
         simp only
         rw [if_neg (by omega)]
        have hE:=Lib.hid (HNo.out n 6 hU hne)
        have d5:decide ((57343:Int) < (m:Int))=true:=decide_eq_true c5
        clear hU hcn hln hne hdd encOk c3 c4 c5 hml hu2
        go_wp2_with fail
        go_ret3
        exact ⟨by rw [hE.out]; rfl,HQ5.out⟩
       have d5:decide ((57343:Int) < (m:Int))=false:=decide_eq_false c5
       have hU:zcG n ((b.data.toList.drop a).drop 6)=(65536 + (n - 55296) * 1024 + (m - 56320),12):=by
        unfold zcG; rw [hdd,hu2,if_pos (show 55296 ≤ n ∧ n < 56320 by omega)]
        simp only
        rw [if_pos (by omega)]
       have hcp:cpB ((65536 + (n - 55296) * 1024 + (m - 56320):Nat):Int)=true:=decide_eq_true (by omega)
       have hE:=Lib.hid (HO.out _ 12 hU hcp)
       have hEn:=Lib.hid (encOk _ hcp)
       have e1:(n:Int) - 55296=((n - 55296:Nat):Int):=by omega
       have e2:((n - 55296:Nat):Int) * 1024=(((n - 55296) * 1024:Nat):Int):=by omega
       have e3:(65536:Int) + (((n - 55296) * 1024:Nat):Int)=((65536 + (n - 55296) * 1024:Nat):Int):=by omega
       have e4:((65536 + (n - 55296) * 1024:Nat):Int) + (m:Int)=((65536 + (n - 55296) * 1024 + m:Nat):Int):=by omega
       have e5:((65536 + (n - 55296) * 1024 + m:Nat):Int) - 56320=((65536 + (n - 55296) * 1024 + (m - 56320):Nat):Int):=by omega
       have hz:(65536:Int) + ((n:Int) - 55296) * 1024 + (m:Int) - 56320=((65536 + (n - 55296) * 1024 + (m - 56320):Nat):Int):=by omega
       have HZ:=Lib.hid hz
       clear hU hne hdd encOk c3 c4 c5 hu2 hcp e1 e2 e3 e4 e5 hz
       go_wp2_with fail
       rw [HZ.out]
       refine (hEn.out _).mono ?_
       rintro e w3 ⟨rfl,hq6⟩
       have HE2:=hE.out
       clear hE hEn HZ
       generalize zdk (65536 + (n - 55296) * 1024 + (m - 56320))=X at *
       have HE3:=Lib.hid HE2
       clear HE2 hcn hln hml
       go_wp2_with fail
       go_ret3
       exact ⟨by rw [HE3.out]; rfl,HQ5.out.trans hq6⟩
 ·go_enter Tryz.func91,Tryz.ntmps91
  have hu:zbX (b.data.toList.drop a)=none:=by
   cases hu:zbX (b.data.toList.drop a) with
   | none => rfl
   | some n => have:=(zbG hu).1; rw [List.length_drop,zah] at this; omega
  have hE:zbi b.data.toList a=([],0,130):=by
   have:zcF (b.data.toList.drop a)=(130,[],0):=by
    unfold zcF
    rw [zcg,List.getElem?_eq_none (by rw [zah]; omega),hu]; rfl
   unfold zbi
   rw [this]; rfl
  rw [hE]
  go_wp2_with fail
  refine (zho b a a rfl (by omega) hs _ hT).mono ?_
  rintro e w1 ⟨v,rfl,hv,hq⟩
  unfold zjj at hv
  rw [hu] at hv
  obtain ⟨x,rfl⟩:=hv
  go_wp2_with fail
  go_ret3
  exact ⟨rfl,hq⟩
end Go.Proofs.YthmdohgkmdkeeaaGreatDoor
namespace Go.Proofs.YthmdohgkmdkeeaaGreatDoor
open Nat renaming reduceAdd → z6, reduceSub → z7, reduceLeDiff → z8, reduceLT → j4, reduceMul → j5, reduceEqDiff → j6
open Int renaming reduceToNat → j7, reduceAdd → j8, reduceSub → j9, reduceMul → x0, reduceNeg → x3, reduceLT → x4, reduceLE → x5, reduceEq → x6, reduceNe → x7
open Go.RowKit Sx
section
variable [Tabs Tryz.prog] {objs:List OB} {K:List OB → AV → Prop}
theorem zkn (s:List UInt8) (a:Nat) (ha:a < s.length) (hs:s.length ≤ 140737488351232) (hk:K objs (.tup [.s (zbi s a).1,.i .i64 (zbi s a).2.1,.i .i64 (zbi s a).2.2])):zad Tryz.prog 91 [.s s,.i .i64 (a:Nat)] objs K :=
 convT (vs:=[.string (S s),.int .i64 (a:Nat)]) rfl rfl (fun w hT => zhp (S s) a (by rw [zbL]; exact ha) (by rw [zbL]; exact hs) w hT) hk
set_option maxHeartbeats 4000000 in
theorem zjq (s:List UInt8) (a:Nat) (hs:s.length ≤ 140737488351232) (ha:a < s.length) (R:Int × List UInt8 × Nat) (hR:zcL ((s.drop (a + 1)).length + 1) (s.drop (a + 1)) [] 0=R)
  (h1:R.1 ≠ 0 → K objs (.tup [.s [],.i .i64 0,.i .i64 R.1])) (h0:R.1=0 → K objs (.tup [.s R.2.1,.i .i64 ((a + 1 + R.2.2:Nat):Int),.i .i64 0])):zad Tryz.prog 72 [.s s,.i .i64 (a:Nat)] objs K:=by
 refine zbs is_ref13_text rfl fun C _ => ?_
 simp only [c_ref13_text,sxZ,z6,z7,z8,j4,j5,j6,j7,j8,j9,x0,x3,x4,x5,x6,x7,reduceCtorEq,↓reduceIte]
 refine ⟨by omega,?_⟩
 refine za6 (fun n o tm => ∃ (i:Nat) (out:List UInt8) (m:Nat),i ≤ s.length ∧ a + 1 ≤ i ∧ n=s.length - i ∧ o=[] ∧ out.length ≤ i ∧ s.length - i < m ∧ zcL m (s.drop i) out (i - (a + 1))=R ∧ tm.length=70 ∧ tm[0]? = some (.s s) ∧ tm[7]? = some (.s out) ∧ tm[8]? = some (.i .i64 (i:Nat))) (s.length - (a + 1))
  ⟨a + 1,[],(s.drop (a + 1)).length + 1,ha,Nat.le_refl _,rfl,rfl,Nat.zero_le _,by rw [List.length_drop]; omega,by rw [Nat.sub_self]; exact hR,rfl,rfl,rfl,rfl⟩ ?_
 rintro n _ tm ⟨i,out,m,hi,hai,rfl,rfl,ho,hm,hT,hlen,t0,t7,t8⟩
 obtain ⟨m,rfl⟩:∃ m',m=m' + 1:=⟨m - 1,by omega⟩
 by_cases hlt:(i:Int) < s.length
 ·have hlt':i < s.length:=by omega
  have hg:=zas hlt'
  have hdc:=List.drop_eq_getElem_cons hlt'
  by_cases c1:((s[i].toNat:Nat):Int)=34
  ·have hc:s[i]=34:=(zbH (by decide)).1 c1
   rw [hdc,zcL,if_pos hc] at hT
   subst hT
   have h0:=h0 rfl
   rw [show a + 1 + (i - (a + 1) + 1)=i + 1 by omega] at h0
   simp only [hlt,hg,c1,sxZ,z6,z7,z8,j4,j5,j6,j7,j8,j9,x0,x3,x4,x5,x6,x7,reduceCtorEq,↓reduceIte,List.getElem?_set,hlen,t0,t7,t8]
   exact ⟨by omega,by omega,h0⟩
  ·have hc:¬ s[i]=34:=fun h => c1 ((zbH (by decide)).2 h)
   by_cases c2:((s[i].toNat:Nat):Int)=92
   ·have hc2:s[i]=92:=(zbH (by decide)).1 c2
    rw [hdc,zcL,if_neg hc,if_pos hc2,← hdc] at hT
    simp only [hlt,hg,c1,c2,sxZ,z6,z7,z8,j4,j5,j6,j7,j8,j9,x0,x3,x4,x5,x6,x7,reduceCtorEq,↓reduceIte,List.getElem?_set,hlen,t0,t7,t8]
    refine ⟨by omega,by omega,?_⟩
    refine zak (zkn s i hlt' hs ?_)
    unfold zbi
    generalize hq:zcF (s.drop i)=q at *
    obtain ⟨e,x,m'⟩:=q
    simp only at hT
    by_cases c3:e=0
    ·subst c3
     rw [if_neg (by simp)] at hT
     have hl:=zfW hq
     rw [List.length_drop] at hl
     simp only [sxZ,z6,z7,z8,j4,j5,j6,j7,j8,j9,x0,x3,x4,x5,x6,x7,reduceCtorEq,↓reduceIte,List.getElem?_set,hlen,t0,t7,t8]
     exact ⟨by omega,s.length - (i + m'),by omega,i + m',out ++ x,m,by omega,by omega,rfl,by rw [List.length_append]; omega,by omega,by rw [← List.drop_drop,show i + m' - (a + 1)=i - (a + 1) + m' by omega]; exact hT,rfl,rfl⟩
    ·rw [if_pos c3] at hT
     subst hT
     simp only [c3,sxZ,z6,z7,z8,j4,j5,j6,j7,j8,j9,x0,x3,x4,x5,x6,x7,reduceCtorEq,↓reduceIte,List.getElem?_set,hlen,t0,t7,t8]
     exact h1 c3
   ·have hc2:¬ s[i]=92:=fun h => c2 ((zbH (by decide)).2 h)
    rw [hdc,zcL,if_neg hc,if_neg hc2,← hdc] at hT
    by_cases c4:((s[i].toNat:Nat):Int) < 32
    ·rw [if_pos (by omega)] at hT
     subst hT
     simp only [hlt,hg,c1,c2,c4,sxZ,z6,z7,z8,j4,j5,j6,j7,j8,j9,x0,x3,x4,x5,x6,x7,reduceCtorEq,↓reduceIte,List.getElem?_set,hlen,t0,t7,t8]
     exact ⟨by omega,by omega,by omega,h1 (by decide)⟩
    ·rw [if_neg (by omega)] at hT
     simp only [hlt,hg,c1,c2,c4,sxZ,z6,z7,z8,j4,j5,j6,j7,j8,j9,x0,x3,x4,x5,x6,x7,reduceCtorEq,↓reduceIte,List.getElem?_set,hlen,t0,t7,t8]
     refine ⟨by omega,by omega,by omega,?_⟩
     refine zak (zjp s i hs ?_)
     rw [zg2 hlt']
     cases hd:zch (s.drop i) with
     | none =>
      rw [hd] at hT
      simp only at hT
      subst hT
      simp only [sxZ,z6,z7,z8,j4,j5,j6,j7,j8,j9,x0,x3,x4,x5,x6,x7,reduceCtorEq,↓reduceIte,List.getElem?_set,hlen,t0,t7,t8]
      exact h1 (by decide)
     | some q =>
      obtain ⟨r,m'⟩:=q
      rw [hd] at hT
      simp only at hT
      have gg:m' ≤ (s.drop i).length ∧ 1 ≤ m':=⟨(zbF hd).2.2.1,(zbF hd).2.2.2.1⟩
      have hxl:((s.drop i).take m').length ≤ m':=by rw [List.length_take]; omega
      rw [List.length_drop] at gg
      simp only [sxZ,z6,z7,z8,j4,j5,j6,j7,j8,j9,x0,x3,x4,x5,x6,x7,reduceCtorEq,↓reduceIte,List.getElem?_set,hlen,t0,t7,t8]
      rw [zbZ]
      exact ⟨by omega,by omega,s.length - (i + m'),by omega,i + m',out ++ (s.drop i).take m',m,by omega,by omega,rfl,by rw [List.length_append]; omega,by omega,by rw [← List.drop_drop,show i + m' - (a + 1)=i - (a + 1) + m' by omega]; exact hT,rfl,rfl⟩
 ·obtain rfl:i=s.length:=by omega
  rw [List.drop_length,zcL] at hT
  subst hT
  simp only [sxZ,z6,z7,z8,j4,j5,j6,j7,j8,j9,x0,x3,x4,x5,x6,x7,reduceCtorEq,↓reduceIte,List.getElem?_set,hlen,t0,t7,t8,hlt]
  exact h1 (by decide)
end
theorem zfD {P:Program} [Tabs P] {C:Cx} {F:zaO} {k:List IT} {objs:List OB} {tm:List AV} {c:SV} {x y:SCode} (h:c.ev tm=.b true) (hr:run P C (.code x :: k) objs tm F):run P C (.code (.cond c x y) :: k) objs tm F:=by
 rw [zfF,h,kC_t]; exact hr
theorem zfE {P:Program} [Tabs P] {C:Cx} {F:zaO} {k:List IT} {objs:List OB} {tm:List AV} {c:SV} {x y:SCode} (h:c.ev tm=.b false) (hr:run P C (.code y :: k) objs tm F):run P C (.code (.cond c x y) :: k) objs tm F:=by
 rw [zfF,h,kC_f]; exact hr
section
variable [Tabs Tryz.prog] {objs:List OB} {K:List OB → AV → Prop}
set_option maxHeartbeats 4000000 in
theorem zjr (s:List UInt8) (a:Int) (hs:s.length ≤ 140737488351232) (hk:K objs (zfa (zaA s a))):zad Tryz.prog 46 [.s s,.i .i64 a] objs K:=by
 refine zbs is_ref13_Next rfl fun C _ => ?_
 unfold zaA zfa at hk
 by_cases c0:a < 0
 ·rw [if_pos (.inl c0)] at hk
  simp only [c0,c_ref13_Next,sxZ,z6,z7,z8,j4,j5,j6,j7,j8,j9,x0,x3,x4,x5,x6,x7,reduceCtorEq,↓reduceIte]
  exact hk
 by_cases c1:(s.length:Int) < a
 ·rw [if_pos (.inr c1)] at hk
  simp only [c0,c1,c_ref13_Next,sxZ,z6,z7,z8,j4,j5,j6,j7,j8,j9,x0,x3,x4,x5,x6,x7,reduceCtorEq,↓reduceIte]
  exact hk
 rw [if_neg (by omega)] at hk
 obtain ⟨a,rfl⟩:∃ n:Nat,a=n:=⟨a.toNat,by omega⟩
 rw [Int.toNat_natCast] at hk
 rw [c_ref13_Next]
 refine zab fun Y1 hY1 => ?_
 simp only [sxZ,z6,z7,z8,j4,j5,j6,j7,j8,j9,x0,x3,x4,x5,x6,x7,reduceCtorEq,↓reduceIte]
 subst hY1
 refine zab fun Y1 hY1 => ?_
 simp only [c0,c1,sxZ,z6,z7,z8,j4,j5,j6,j7,j8,j9,x0,x3,x4,x5,x6,x7,reduceCtorEq,↓reduceIte]
 subst hY1
 refine zab fun Y1 hY1 => ?_
 have hwl:=zds (s.drop a)
 rw [List.length_drop] at hwl
 refine zaz (fun o t => o=[.box 51 [.i .i64 0,.s [],.i .i64 0]] ∧ t.length=139 ∧ t[0]? = some (.s s) ∧ t[1]? = some (.i .i64 ((a + zaV (s.drop a):Nat):Int)) ∧ t[4]? = some (.p 0 0)) ?_ ?_
 ·simp only [sxZ,z6,z7,z8,j4,j5,j6,j7,j8,j9,x0,x3,x4,x5,x6,x7,reduceCtorEq,↓reduceIte]
  refine za6 (fun n objs tm => ∃ i:Nat,i ≤ s.length ∧ n=s.length - i ∧ objs=[.box 51 [.i .i64 0,.s [],.i .i64 0]] ∧ a + zaV (s.drop a)=i + zaV (s.drop i) ∧ tm.length=139 ∧ tm[0]? = some (.s s) ∧ tm[1]? = some (.i .i64 i) ∧ tm[4]? = some (.p 0 0)) (s.length - a) ⟨a,by omega,rfl,rfl,rfl,rfl,rfl,rfl,rfl⟩ ?_
  rintro n _ tm ⟨i,hil,rfl,rfl,hr,hlen,t0,t1,t4⟩
  by_cases hlt2:(i:Int) < s.length
  ·have hlt':i < s.length:=by omega
   have hg2:=zas hlt'
   have hrn:=zhY s i hlt'
   simp only [sxZ,z6,z7,z8,j4,j5,j6,j7,j8,j9,x0,x3,x4,x5,x6,x7,reduceCtorEq,↓reduceIte,List.getElem?_set,hlen,t0,t1,t4,hlt2]
   refine ⟨by omega,?_⟩
   rw [hg2]
   refine zak (rwhite_k s[i] ?_)
   by_cases hd:zcR s[i]=true
   ·rw [if_pos hd] at hrn
    simp only [hd,sxZ,z6,z7,z8,j4,j5,j6,j7,j8,j9,x0,x3,x4,x5,x6,x7,reduceCtorEq,↓reduceIte,List.getElem?_set,hlen,t0,t1,t4]
    exact ⟨⟨by omega,by omega⟩,s.length - (i + 1),by omega,i + 1,by omega,rfl,by omega,rfl⟩
   ·rw [if_neg hd] at hrn
    simp only [Bool.not_eq_true] at hd
    simp only [hd,zaU,zaa,sxZ,z6,z7,z8,j4,j5,j6,j7,j8,j9,x0,x3,x4,x5,x6,x7,reduceCtorEq,↓reduceIte,List.getElem?_set,hlen,t0,t1,t4]
    rw [hr,hrn]; rfl
  ·obtain rfl:i=s.length:=by omega
   have hw:zaV (s.drop s.length)=0:=by rw [List.drop_length]; rfl
   simp only [hlt2,zaU,zaa,sxZ,z6,z7,z8,j4,j5,j6,j7,j8,j9,x0,x3,x4,x5,x6,x7,reduceCtorEq,↓reduceIte,List.getElem?_set,hlen,t0,t1,t4]
   rw [hr,hw]; rfl
 rintro _ tm ⟨rfl,hlen,t0,t1,t4⟩
 subst hY1
 have ha:a + zaV (s.drop a) ≤ s.length:=by omega
 generalize a + zaV (s.drop a)=i at *
 have h1:∀ e x n k,zaS (s.drop i)=(e,k,x,n) → e ≠ 0 → K objs (.tup [.agg [.i .i64 0,.s [],.i .i64 0],.i .i64 0,.i .i64 e]):=by
  intro e x n k h he
  rw [h,if_pos he] at hk
  exact hk
 have h0:∀ x n k,zaS (s.drop i)=(0,k,x,n) → K objs (.tup [.agg [.i .i64 k,.s x,.i .i64 (i:Nat)],.i .i64 ((i + n:Nat):Int),.i .i64 0]):=by
  intro x n k h
  rw [h,if_neg (by simp)] at hk
  exact hk
 clear hk c0 c1
 refine zab fun Y1 hY1 => ?_
 by_cases c0:(i:Int)=s.length
 ·obtain rfl:i=s.length:=by omega
  have:=h0 [] 0 1 (by rw [List.drop_length]; rfl)
  simp only [c0,sxZ,z6,z7,z8,j4,j5,j6,j7,j8,j9,x0,x3,x4,x5,x6,x7,reduceCtorEq,↓reduceIte,List.getElem?_set,hlen,t0,t1,t4]
  exact this
 have hlt:i < s.length:=by omega
 have hg:=zas hlt
 have hdc:=List.drop_eq_getElem_cons hlt
 simp only [c0,sxZ,z6,z7,z8,j4,j5,j6,j7,j8,j9,x0,x3,x4,x5,x6,x7,reduceCtorEq,↓reduceIte,List.getElem?_set,hlen,t0,t1,t4]
 subst hY1
 refine zab fun Y1 hY1 => ?_
 refine zab fun Y2 hY2 => ?_
 refine zaz (fun o t => o=[.box 51 [.i .i64 0,.s [],.i .i64 0]] ∧ t.length=139 ∧ t[0]? = some (.s s) ∧ t[1]? = some (.i .i64 (i:Nat)) ∧ t[4]? = some (.p 0 0) ∧ t[7]? = some (.i .u8 (s[i].toNat:Nat))) ?_ ?_
 ·simp only [hg,zaa,sxZ,z6,z7,z8,j4,j5,j6,j7,j8,j9,x0,x3,x4,x5,x6,x7,reduceCtorEq,↓reduceIte,List.getElem?_set,hlen,t0,t1,t4]
  and_intros <;> first | omega | exact iv (by omega) | rfl | assumption
 rintro _ tm ⟨rfl,hlen,t0,t1,t4,t7⟩
 subst hY2
 rw [zcO]
 refine zab fun Y2 hY2 => ?_
 refine zaz (fun o t => o=[.box 51 [.i .i64 0,.s [],.i .i64 0]] ∧ t.length=139 ∧ t[0]? = some (.s s) ∧ t[1]? = some (.i .i64 (i:Nat)) ∧ t[4]? = some (.p 0 0) ∧ t[7]? = some (.i .u8 (s[i].toNat:Nat)) ∧ t[45]? = some (.b (zcI s[i] [123,125,91,93,58,44]))) ?_ ?_
 ·simp only [sxZ,z6,z7,z8,j4,j5,j6,j7,j8,j9,x0,x3,x4,x5,x6,x7,reduceCtorEq,↓reduceIte,List.getElem?_set,hlen,t0,t1,t4,t7]
  refine zak (zgz s[i] _ (by decide) ?_)
  simp only [zaa,sxZ,z6,z7,z8,j4,j5,j6,j7,j8,j9,x0,x3,x4,x5,x6,x7,reduceCtorEq,↓reduceIte,List.getElem?_set,hlen,t0,t1,t4,t7]
 rintro _ tm ⟨rfl,hlen,t0,t1,t4,t7,t45⟩
 subst hY2
 by_cases c1:zcI s[i] [123,125,91,93,58,44]=true
 ·have hx:(s.take (i + 1)).drop i=[s[i]]:=by rw [zbZ,hdc]; rfl
  have e1:((i:Int) + 1).toNat=i + 1:=by omega
  have:=h0 [s[i]] 1 2 (by rw [hdc,zaS,if_pos c1])
  refine zfD (by simp only [SV.ev,t45,Option.getD_some,c1]) ?_
  simp only [e1,hx,sxZ,z6,z7,z8,j4,j5,j6,j7,j8,j9,x0,x3,x4,x5,x6,x7,reduceCtorEq,↓reduceIte,List.getElem?_set,hlen,t0,t1,t4,t7]
  (and_intros <;> try omega)
  exact this
 refine zfE (by rw [Bool.not_eq_true] at c1; simp only [SV.ev,t45,Option.getD_some,c1]) ?_
 refine zab fun Y2 hY2 => ?_
 refine zaz (fun o t => o=[.box 51 [.i .i64 0,.s [],.i .i64 0]] ∧ t.length=139 ∧ t[0]? = some (.s s) ∧ t[1]? = some (.i .i64 (i:Nat)) ∧ t[4]? = some (.p 0 0) ∧ t[7]? = some (.i .u8 (s[i].toNat:Nat)) ∧ t[57]? = some (.b (decide (((s[i].toNat:Nat):Int)=34)))) ?_ ?_
 ·simp only [zaa,sxZ,z6,z7,z8,j4,j5,j6,j7,j8,j9,x0,x3,x4,x5,x6,x7,reduceCtorEq,↓reduceIte,List.getElem?_set,hlen,t0,t1,t4,t7]
 rintro _ tm ⟨rfl,hlen,t0,t1,t4,t7,t57⟩
 subst hY2
 by_cases c2:((s[i].toNat:Nat):Int)=34
 ·have hc:s[i]=34:=(zbH (by decide)).1 c2
  refine zfD (by simp only [SV.ev,t57,Option.getD_some,c2,decide_true]) ?_
  have he:zaS (s.drop i)=if (zcL ((s.drop (i + 1)).length + 1) (s.drop (i + 1)) [] 0).1 ≠ 0 then ((zcL ((s.drop (i + 1)).length + 1) (s.drop (i + 1)) [] 0).1,0,[],0) else (0,3,(zcL ((s.drop (i + 1)).length + 1) (s.drop (i + 1)) [] 0).2.1,(zcL ((s.drop (i + 1)).length + 1) (s.drop (i + 1)) [] 0).2.2 + 1):=by
   rw [hdc,zaS,if_neg c1,if_pos hc]
  obtain ⟨TT,hTT⟩:∃ TT,zcL ((s.drop (i + 1)).length + 1) (s.drop (i + 1)) [] 0=TT:=⟨_,rfl⟩
  rw [hTT] at he
  simp only [sxZ,z6,z7,z8,j4,j5,j6,j7,j8,j9,x0,x3,x4,x5,x6,x7,reduceCtorEq,↓reduceIte,List.getElem?_set,hlen,t0,t1,t4,t7]
  refine zak (zjq s i hs hlt TT hTT (fun hR => ?_) (fun hR => ?_))
  ·rw [if_pos hR] at he
   have:=h1 _ _ _ _ he hR
   simp only [hR,sxZ,z6,z7,z8,j4,j5,j6,j7,j8,j9,x0,x3,x4,x5,x6,x7,reduceCtorEq,↓reduceIte,List.getElem?_set,hlen,t0,t1,t4,t7]
   exact this
  ·rw [if_neg (by rw [hR]; simp)] at he
   have:=h0 _ _ _ he
   simp only [sxZ,z6,z7,z8,j4,j5,j6,j7,j8,j9,x0,x3,x4,x5,x6,x7,reduceCtorEq,↓reduceIte,List.getElem?_set,hlen,t0,t1,t4,t7]
   rw [show i + (TT.2.2 + 1)=i + 1 + TT.2.2 by omega] at this
   exact this
 have hc:¬ s[i]=34:=fun h => c2 ((zbH (by decide)).2 h)
 refine zfE (by simp only [SV.ev,t57,Option.getD_some,c2,decide_false]) ?_
 refine zab fun Y2 hY2 => ?_
 refine zaz (fun o t => o=[.box 51 [.i .i64 0,.s [],.i .i64 0]] ∧ t.length=139 ∧ t[0]? = some (.s s) ∧ t[1]? = some (.i .i64 (i:Nat)) ∧ t[4]? = some (.p 0 0) ∧ t[7]? = some (.i .u8 (s[i].toNat:Nat)) ∧ t[75]? = some (.b (decide (s[i]=45 ∨ zai s[i]=true)))) ?_ ?_
 ·by_cases c3:((s[i].toNat:Nat):Int)=45
  ·have hc3:s[i]=45 ∨ zai s[i]=true:=.inl ((zbH (by decide)).1 c3)
   simp only [c3,hc3,zaa,sxZ,z6,z7,z8,j4,j5,j6,j7,j8,j9,x0,x3,x4,x5,x6,x7,reduceCtorEq,↓reduceIte,List.getElem?_set,hlen,t0,t1,t4,t7]
  ·have hc3:¬ s[i]=45:=fun h => c3 ((zbH (by decide)).2 h)
   simp only [c3,sxZ,z6,z7,z8,j4,j5,j6,j7,j8,j9,x0,x3,x4,x5,x6,x7,reduceCtorEq,↓reduceIte,List.getElem?_set,hlen,t0,t1,t4,t7]
   refine zak (zeB s[i] ?_)
   have e3:decide (s[i]=45 ∨ zai s[i]=true)=zai s[i]:=by
    cases zai s[i] <;> simp [hc3]
   rw [e3]
   generalize zai s[i]=dg
   simp only [zaa,sxZ,z6,z7,z8,j4,j5,j6,j7,j8,j9,x0,x3,x4,x5,x6,x7,reduceCtorEq,↓reduceIte,List.getElem?_set,hlen,t0,t1,t4,t7]
 rintro _ tm ⟨rfl,hlen,t0,t1,t4,t7,t75⟩
 subst hY2
 by_cases c3:s[i]=45 ∨ zai s[i]=true
 ·refine zfD (by simp only [SV.ev,t75,Option.getD_some,c3,decide_true]) ?_
  have he:zaS (s.drop i)=if zda (s.drop i)=0 then (130,0,[],0) else (0,4,(s.drop i).take (zda (s.drop i)),zda (s.drop i)):=by
   conv => lhs; rw [hdc]
   rw [zaS,if_neg c1,if_neg hc,if_pos c3,← hdc]
  have hnl:=zhx (s.drop i)
  rw [List.length_drop] at hnl
  simp only [sxZ,z6,z7,z8,j4,j5,j6,j7,j8,j9,x0,x3,x4,x5,x6,x7,reduceCtorEq,↓reduceIte,List.getElem?_set,hlen,t0,t1,t4,t7]
  refine ⟨by omega,?_⟩
  refine zak (ze2 _ (by rw [List.length_drop]; omega) ?_)
  generalize zda (s.drop i)=n at *
  by_cases c4:((n:Nat):Int)=0
  ·rw [if_pos (by omega)] at he
   have:=h1 _ _ _ _ he (by decide)
   simp only [c4,sxZ,z6,z7,z8,j4,j5,j6,j7,j8,j9,x0,x3,x4,x5,x6,x7,reduceCtorEq,↓reduceIte,List.getElem?_set,hlen,t0,t1,t4,t7]
   exact this
  ·rw [if_neg (by omega)] at he
   have:=h0 _ _ _ he
   have e2:((i:Int) + (n:Int)).toNat=i + n:=by omega
   simp only [c4,e2,sxZ,z6,z7,z8,j4,j5,j6,j7,j8,j9,x0,x3,x4,x5,x6,x7,reduceCtorEq,↓reduceIte,List.getElem?_set,hlen,t0,t1,t4,t7]
   rw [zbZ]
   (and_intros <;> try omega)
   exact this
 refine zfE (by simp only [SV.ev,t75,Option.getD_some,c3,decide_false]) ?_
 have he:zaS (s.drop i)=if (s.drop i).take (za3 (s.drop i))=[116,114,117,101] ∨ (s.drop i).take (za3 (s.drop i))=[102,97,108,115,101] ∨ (s.drop i).take (za3 (s.drop i))=[110,117,108,108] then (0,5,(s.drop i).take (za3 (s.drop i)),za3 (s.drop i)) else (130,0,[],0):=by
  conv => lhs; rw [hdc]
  rw [zaS,if_neg c1,if_neg hc,if_neg c3,← hdc]
 have hwl2:=zfs (s.drop i)
 rw [List.length_drop] at hwl2
 simp only [sxZ,z6,z7,z8,j4,j5,j6,j7,j8,j9,x0,x3,x4,x5,x6,x7,reduceCtorEq,↓reduceIte]
 subst hY1
 refine zab fun Y1 hY1 => ?_
 simp only [sxZ,z6,z7,z8,j4,j5,j6,j7,j8,j9,x0,x3,x4,x5,x6,x7,reduceCtorEq,↓reduceIte]
 subst hY1
 refine zab fun Y1 hY1 => ?_
 refine zaz (fun o t => o=[.box 51 [.i .i64 0,.s [],.i .i64 0]] ∧ t.length=139 ∧ t[0]? = some (.s s) ∧ t[1]? = some (.i .i64 (i:Nat)) ∧ t[4]? = some (.p 0 0) ∧ t[12]? = some (.i .i64 (za3 (s.drop i):Nat))) ?_ ?_
 ·simp only [sxZ,z6,z7,z8,j4,j5,j6,j7,j8,j9,x0,x3,x4,x5,x6,x7,reduceCtorEq,↓reduceIte]
  refine za6 (fun n o t => ∃ k:Nat,i + k ≤ s.length ∧ n=s.length - (i + k) ∧ za3 (s.drop i)=k + za3 (s.drop (i + k)) ∧ o=[.box 51 [.i .i64 0,.s [],.i .i64 0]] ∧ t.length=139 ∧ t[0]? = some (.s s) ∧ t[1]? = some (.i .i64 (i:Nat)) ∧ t[4]? = some (.p 0 0) ∧ t[12]? = some (.i .i64 (k:Nat))) (s.length - i) ⟨0,by omega,rfl,by simp,rfl,by simp [hlen],by simp [t0],by simp [t1],by simp [t4],by simp [hlen]⟩ ?_
  rintro n _ tm ⟨k,hk,rfl,hr,rfl,hlen,t0,t1,t4,t12⟩
  have e1:((i:Int) + (k:Int)).toNat=i + k:=by omega
  by_cases hlt2:(i:Int) + (k:Int) < s.length
  ·have hlt':i + k < s.length:=by omega
   have hg2:=zas hlt'
   have hrn:=zjX s (i + k) hlt'
   simp only [e1,hg2,hlt2,sxZ,z6,z7,z8,j4,j5,j6,j7,j8,j9,x0,x3,x4,x5,x6,x7,reduceCtorEq,↓reduceIte,List.getElem?_set,hlen,t0,t1,t4,t12]
   refine ⟨by omega,by omega,by omega,?_⟩
   refine zak (zkS s[i + k] ?_)
   by_cases hd:zcf s[i + k]=true
   ·rw [if_pos hd] at hrn
    simp only [hd,sxZ,z6,z7,z8,j4,j5,j6,j7,j8,j9,x0,x3,x4,x5,x6,x7,reduceCtorEq,↓reduceIte,List.getElem?_set,hlen,t0,t1,t4,t12]
    exact ⟨by omega,s.length - (i + (k + 1)),by omega,k + 1,by omega,rfl,by rw [← Nat.add_assoc]; omega,rfl⟩
   ·rw [if_neg hd] at hrn
    simp only [Bool.not_eq_true] at hd
    simp only [hd,zaU,zaa,sxZ,z6,z7,z8,j4,j5,j6,j7,j8,j9,x0,x3,x4,x5,x6,x7,reduceCtorEq,↓reduceIte,List.getElem?_set,hlen,t0,t1,t4,t12]
    rw [hr,hrn]; rfl
  ·have hie:i + k=s.length:=by omega
   have hw:za3 (s.drop (i + k))=0:=by rw [hie,List.drop_length]; rfl
   simp only [hlt2,zaU,zaa,sxZ,z6,z7,z8,j4,j5,j6,j7,j8,j9,x0,x3,x4,x5,x6,x7,reduceCtorEq,↓reduceIte,List.getElem?_set,hlen,t0,t1,t4,t12]
   refine ⟨by omega,?_⟩
   rw [hr,hw]; rfl
 rintro _ tm ⟨rfl,hlen,t0,t1,t4,t12⟩
 subst hY1
 have hx:=zbZ s i (za3 (s.drop i))
 generalize za3 (s.drop i)=n at *
 rw [← hx] at he
 have e2:((i:Int) + (n:Int)).toNat=i + n:=by omega
 have n1:¬ ([102,97,108,115,101]:List UInt8)=[116,114,117,101]:=by decide
 have n2:¬ ([110,117,108,108]:List UInt8)=[116,114,117,101]:=by decide
 have n3:¬ ([110,117,108,108]:List UInt8)=[102,97,108,115,101]:=by decide
 refine zab fun Y1 hY1 => ?_
 refine zab fun Y2 hY2 => ?_
 refine zaz (fun o t => o=[.box 51 [.i .i64 0,.s [],.i .i64 0]] ∧ t.length=139 ∧ t[1]? = some (.i .i64 (i:Nat)) ∧ t[4]? = some (.p 0 0) ∧ t[12]? = some (.i .i64 (n:Nat)) ∧ t[13]? = some (.s ((s.take (i + n)).drop i))) ?_ ?_
 ·simp only [e2,zaa,sxZ,z6,z7,z8,j4,j5,j6,j7,j8,j9,x0,x3,x4,x5,x6,x7,reduceCtorEq,↓reduceIte,List.getElem?_set,hlen,t0,t1,t4,t12]
  and_intros <;> first | omega | exact iv (by omega) | rfl | assumption
 rintro _ tm ⟨rfl,hlen,t1,t4,t12,t13⟩
 subst hY2
 generalize (s.take (i + n)).drop i=x at *
 by_cases hw:x=[116,114,117,101] ∨ x=[102,97,108,115,101] ∨ x=[110,117,108,108]
 ·rw [if_pos hw] at he
  have:=h0 _ _ _ he
  rcases hw with rfl | rfl | rfl
  ·simp only [sxZ,z6,z7,z8,j4,j5,j6,j7,j8,j9,x0,x3,x4,x5,x6,x7,reduceCtorEq,↓reduceIte,List.getElem?_set,hlen,t1,t4,t12,t13]
   (and_intros <;> try omega)
   exact this
  ·simp only [n1,sxZ,z6,z7,z8,j4,j5,j6,j7,j8,j9,x0,x3,x4,x5,x6,x7,reduceCtorEq,↓reduceIte,List.getElem?_set,hlen,t1,t4,t12,t13]
   (and_intros <;> try omega)
   exact this
  ·simp only [n2,n3,sxZ,z6,z7,z8,j4,j5,j6,j7,j8,j9,x0,x3,x4,x5,x6,x7,reduceCtorEq,↓reduceIte,List.getElem?_set,hlen,t1,t4,t12,t13]
   (and_intros <;> try omega)
   exact this
 ·rw [if_neg hw] at he
  have:=h1 _ _ _ _ he (by decide)
  have d1:¬ x=[116,114,117,101]:=fun h => hw (.inl h)
  have d2:¬ x=[102,97,108,115,101]:=fun h => hw (.inr (.inl h))
  have d3:¬ x=[110,117,108,108]:=fun h => hw (.inr (.inr h))
  simp only [d1,d2,d3,sxZ,z6,z7,z8,j4,j5,j6,j7,j8,j9,x0,x3,x4,x5,x6,x7,reduceCtorEq,↓reduceIte,List.getElem?_set,hlen,t1,t4,t12,t13]
  subst hY1
  simp only [sxZ,z6,z7,z8,j4,j5,j6,j7,j8,j9,x0,x3,x4,x5,x6,x7,reduceCtorEq,↓reduceIte,List.getElem?_set,hlen,t1,t4,t12,t13]
  exact this
end
end Go.Proofs.YthmdohgkmdkeeaaGreatDoor
namespace Go.Proofs.YthmdohgkmdkeeaaGreatDoor
open Go.RowKit Sx
section
attribute [local irreducible] run
def intN (l:List UInt8):List UInt8:=if l[zbd l]? = some 48 then [48] else (l.drop (zbd l)).take (zaT (l.drop (zbd l)))
def frN (l:List UInt8) (t:Nat):List UInt8:=if l[t]? = some 46 ∧ 0 < zaT (l.drop (t + 1)) then (l.drop (t + 1)).take (zaT (l.drop (t + 1))) else []
def sgnX (l:List UInt8) (f:Nat):List UInt8:=if l[f + 1]? = some 43 then [43] else if l[f + 1]? = some 45 then [45] else []
def exN (l:List UInt8) (f:Nat):Option (UInt8 × List UInt8 × List UInt8) :=
 if (l[f]? = some 101 ∨ l[f]? = some 69) ∧ 0 < zaT (l.drop (zaY l f)) then some (if l[f]? = some 101 then 101 else 69,sgnX l f,l.drop (zaY l f)) else none
def zim (l:List UInt8):NumS:=⟨decide (l[0]? = some 45),intN l,frN l (zaI l),exN l (zb3 l (zaI l))⟩
theorem zk2 {l:List UInt8} (h0:l ≠ []) (h:zda l=l.length):(zim l).Good ∧ l=(zim l).txt:=by
 have hl:0 < l.length:=List.length_pos_iff.2 h0
 unfold zda at h
 by_cases hr:zaT (l.drop (zbd l))=0
 ·rw [if_pos hr] at h; omega
 rw [if_neg hr] at h
 have hsg:l=sgT (decide (l[0]? = some 45)) ++ l.drop (zbd l):=by
  unfold zbd sgT
  by_cases hc:l[0]? = some 45
  ·rw [if_pos hc,if_pos (by rw [hc]; rfl)]
   conv => lhs; rw [← List.drop_zero (l:=l),zbh hc]
   rfl
  ·rw [if_neg hc,if_neg (by rw [decide_eq_false hc]; exact Bool.false_ne_true)]; simp
 have hrl:=zaR l (zbd l) (by omega)
 obtain ⟨I,hIe,hI0,hI1,hI2,hIl,hI⟩:∃ I:List UInt8,I=intN l ∧ I ≠ [] ∧ I.all zai=true ∧ (I[0]? = some 48 → I=[48]) ∧ zaI l ≤ l.length ∧ l.drop (zbd l)=I ++ l.drop (zaI l):=by
  have hd:=zdR (l.drop (zbd l)) 0 (by omega)
  obtain ⟨c,hc1,hc2⟩:=hd
  rw [List.getElem?_drop,Nat.add_zero] at hc1
  have hdc:=zbh hc1
  unfold zaI
  by_cases hz:l[zbd l]? = some 48
  ·rw [if_pos hz]
   refine ⟨[48],by unfold intN; rw [if_pos hz],by simp,rfl,fun _ => rfl,?_,?_⟩
   ·have:=(List.getElem?_eq_some_iff.1 hz).1; omega
   ·exact zbh hz
  ·rw [if_neg hz]
   refine ⟨(l.drop (zbd l)).take (zaT (l.drop (zbd l))),by unfold intN; rw [if_neg hz],zfv (by omega) (zdQ _),zb0 _,?_,hrl,?_⟩
   ·intro h1
    exfalso
    rw [List.getElem?_take,if_pos (by omega),List.getElem?_drop,Nat.add_zero] at h1
    exact hz h1
   ·have:=zei l (show zbd l ≤ zbd l + zaT (l.drop (zbd l)) by omega)
    rw [show zbd l + zaT (l.drop (zbd l)) - zbd l=zaT (l.drop (zbd l)) by omega] at this
    exact this
 unfold zim
 rw [← hIe]
 clear hIe
 generalize zaI l=t at *
 obtain ⟨F,hFe,hF1,hFl,hF⟩:∃ F:List UInt8,F=frN l t ∧ F.all zai=true ∧ zb3 l t ≤ l.length ∧ l.drop t=frT F ++ l.drop (zb3 l t):=by
  unfold zb3
  by_cases hc:l[t]? = some 46 ∧ 0 < zaT (l.drop (t + 1))
  ·rw [if_pos hc]
   have hb:=zaR l (t + 1) hc.2
   refine ⟨(l.drop (t + 1)).take (zaT (l.drop (t + 1))),by unfold frN; rw [if_pos hc],zb0 _,hb,?_⟩
   have h1:=zei l (show t + 1 ≤ t + 1 + zaT (l.drop (t + 1)) by omega)
   rw [show t + 1 + zaT (l.drop (t + 1)) - (t + 1)=zaT (l.drop (t + 1)) by omega] at h1
   have hne:=zfv hc.2 (zdQ (l.drop (t + 1)))
   rw [zbh hc.1]
   generalize (l.drop (t + 1)).take (zaT (l.drop (t + 1)))=F at *
   cases F with
   | nil => exact absurd rfl hne
   | cons a F =>
    show 46 :: l.drop (t + 1)=46 :: (a :: F ++ _)
    rw [← h1]
  ·rw [if_neg hc]
   exact ⟨[],by unfold frN; rw [if_neg hc],rfl,hIl,rfl⟩
 rw [← hFe]
 clear hFe
 generalize zb3 l t=f at *
 obtain ⟨E,hEe,hE1,hE⟩:∃ E:Option (UInt8 × List UInt8 × List UInt8),E=exN l f ∧ (∀ c s d,E=some (c,s,d) → (c=101 ∨ c=69) ∧ (s=[] ∨ s=[43] ∨ s=[45]) ∧ d ≠ [] ∧ d.all zai=true) ∧ l.drop f=exT E:=by
  unfold zjP at h
  by_cases hc:(l[f]? = some 101 ∨ l[f]? = some 69) ∧ 0 < zaT (l.drop (zaY l f))
  ·rw [if_pos hc] at h
   have hex:exN l f=some (if l[f]? = some 101 then 101 else 69,sgnX l f,l.drop (zaY l f)):=by unfold exN; rw [if_pos hc]
   obtain ⟨c,hc1,hc2,hc3⟩:∃ c,l[f]? = some c ∧ (c=101 ∨ c=69) ∧ (if l[f]? = some 101 then 101 else 69)=c:=by
    rcases hc.1 with h1 | h1
    ·exact ⟨_,h1,.inl rfl,by rw [if_pos h1]⟩
    ·exact ⟨_,h1,.inr rfl,by rw [h1]; rfl⟩
   rw [hc3] at hex
   have hdig:l.drop (zaY l f) ≠ [] ∧ (l.drop (zaY l f)).all zai=true:=by
    have h1:=zb0 (l.drop (zaY l f))
    have h2:zaT (l.drop (zaY l f))=(l.drop (zaY l f)).length:=by rw [List.length_drop]; omega
    rw [h2,List.take_length] at h1
    refine ⟨fun e => ?_,h1⟩
    rw [e] at hc
    exact absurd hc.2 (by simp [zaT])
   rw [zbh hc1]
   unfold zaY at hdig hc hex
   by_cases hs:l[f + 1]? = some 43 ∨ l[f + 1]? = some 45
   ·rw [if_pos hs] at hdig hex
    obtain ⟨s,hs1,hs2,hs3⟩:∃ s,l[f + 1]? = some s ∧ (s=43 ∨ s=45) ∧ sgnX l f=[s]:=by
     unfold sgnX
     rcases hs with h1 | h1
     ·exact ⟨_,h1,.inl rfl,by rw [if_pos h1]⟩
     ·exact ⟨_,h1,.inr rfl,by rw [h1]; rfl⟩
    refine ⟨some (c,[s],l.drop (f + 2)),by rw [hex,hs3],?_,?_⟩
    ·intro c' s' d' e
     injection e with e; injection e with e1 e2; injection e2 with e2 e3
     subst e1 e2 e3
     exact ⟨hc2,by rcases hs2 with rfl | rfl <;> simp,hdig.1,hdig.2⟩
    ·rw [zbh hs1]; rfl
   ·rw [if_neg hs] at hdig hex
    have hs3:sgnX l f=[]:=by
     unfold sgnX
     rw [if_neg (fun h => hs (.inl h)),if_neg (fun h => hs (.inr h))]
    refine ⟨some (c,[],l.drop (f + 1)),by rw [hex,hs3],?_,rfl⟩
    intro c' s' d' e
    injection e with e; injection e with e1 e2; injection e2 with e2 e3
    subst e1 e2 e3
    exact ⟨hc2,.inl rfl,hdig.1,hdig.2⟩
  ·rw [if_neg hc] at h
   subst h
   exact ⟨none,by unfold exN; rw [if_neg hc],fun _ _ _ e => (by cases e),by simp [exT]⟩
 rw [← hEe]
 refine ⟨⟨hI0,hI1,hI2,hF1,hE1⟩,?_⟩
 show l=sgT _ ++ (I ++ (frT F ++ exT E))
 rw [← hE,← hF,← hI,← hsg]
def zbo (l:List UInt8):Int × List UInt8:=if l=[] ∨ ¬ zda l=l.length then (130,[]) else zmu 1099511627776 (zim l)
theorem zlh {p:NumS} (hp:p.Good):zbo p.txt=zmu 1099511627776 p:=by
 obtain ⟨h1,h2⟩:=num_txt hp
 unfold zbo
 rw [if_neg (fun h => h.elim h2 (fun h => h h1))]
 obtain ⟨q1,q2⟩:=zk2 h2 h1
 exact congrArg _ (num_uniq hp q1 q2).symm
theorem can_cut2 (p:NumS) (h:p.txt.length ≤ 100000):zmu 1099511627776 p=zmu 1073741824 p:=by
 have h1:=zhi p
 have h2:=zfP p
 have h3:=zjQ (zce p)
 unfold zmu
 by_cases hm:zce p=[]
 ·rw [if_pos hm,if_pos hm]
 rw [if_neg hm,if_neg hm]
 by_cases he:zd8 1099511627776 p.ex=zd8 1073741824 p.ex
 ·have:expX 1099511627776 p=expX 1073741824 p:=by unfold expX; rw [he]
  rw [this]
 ·have key:(zd8 1099511627776 p.ex < -1000000 ∧ zd8 1073741824 p.ex < -1000000) ∨ (1000000 < zd8 1099511627776 p.ex ∧ 1000000 < zd8 1073741824 p.ex):=by
   cases hx:p.ex with
   | none => rw [hx] at he; exact absurd rfl he
   | some e =>
    obtain ⟨c,s,d⟩:=e
    rw [hx] at he
    simp only [zd8] at he ⊢
    by_cases hs:s=[45]
    ·rw [if_pos hs,if_pos hs] at he ⊢; left; omega
    ·rw [if_neg hs,if_neg hs] at he ⊢; right; omega
  rw [if_pos,if_pos]
  ·unfold expX; omega
  ·unfold expX; omega
theorem zfu:∀ (n:Nat) (l out x:List UInt8) (k m:Nat),zcL n l out k=(0,x,m) → k < m ∧ m ≤ k + l.length ∧ x.length ≤ out.length + (m - k)
 | 0,l,out,x,k,m,h => by rw [zcL] at h; cases h
 | n + 1,[],out,x,k,m,h => by rw [zcL] at h; cases h
 | n + 1,c :: t,out,x,k,m,h => by
  rw [zcL] at h
  have hl:(c :: t).length=t.length + 1:=rfl
  split at h
  ·cases h; exact ⟨by omega,by omega,by omega⟩
  ·split at h
   ·split at h
    ·rename_i g; injection h with h _; exact absurd h g
    ·rename_i g
     have g:(zcF (c :: t)).1=0:=by simpa using g
     obtain ⟨⟨e,y,j⟩,hE⟩:∃ r,zcF (c :: t)=r:=⟨_,rfl⟩
     rw [hE] at h g
     simp only at g h
     subst g
     have hl2:=zfW hE
     have:=zfu n _ _ _ _ _ h
     rw [List.length_drop,List.length_append] at this
     omega
   ·split at h
    ·cases h
    ·split at h
     ·cases h
     ·rename_i r j hd
      have hd':=zbF hd
      have:=zfu n _ _ _ _ _ h
      rw [List.length_drop,List.length_append,List.length_take] at this
      omega
theorem zkP {l:List UInt8} (h:(zaS l).1=0):(zaS l).2.2.2 ≤ l.length ∧ (¬ (zaS l).2.1=1 → 1 ≤ (zaS l).2.2.2) ∧ ((zaS l).2.1=1 → l=[]) ∧ (zaS l).2.2.1.length ≤ l.length ∧ 1 ≤ (zaS l).2.1 ∧ (zaS l).2.1 ≤ 5:=by
 cases l with
 | nil => exact ⟨by simp [zaS],fun h => absurd rfl h,fun _ => rfl,by simp [zaS],by decide,by decide⟩
 | cons c t =>
  have hl:(c :: t).length=t.length + 1:=rfl
  rw [zaS] at h ⊢
  by_cases c1:zcI c [123,125,91,93,58,44]=true
  ·simp only [if_pos c1]
   exact ⟨by simp,fun _ => by simp,fun h => by simp at h,by simp,by decide,by decide⟩
  simp only [if_neg c1] at h ⊢
  by_cases c2:c=34
  ·simp only [if_pos c2] at h ⊢
   by_cases c3:(zcL (t.length + 1) t [] 0).1 ≠ 0
   ·simp only [if_pos c3] at h; exact absurd h c3
   ·simp only [if_neg c3] at h ⊢
    obtain ⟨⟨e,x,m⟩,hE⟩:∃ r,zcL (t.length + 1) t [] 0=r:=⟨_,rfl⟩
    have c3:e=0:=by rw [hE] at c3; simpa using c3
    subst c3
    have:=zfu _ _ _ _ _ _ hE
    rw [List.length_nil] at this
    rw [hE]
    exact ⟨by show m + 1 ≤ _; omega,fun _ => by show 1 ≤ m + 1; omega,fun h => by simp at h,by show x.length ≤ _; omega,by decide,by decide⟩
  simp only [if_neg c2] at h ⊢
  by_cases c3:c=45 ∨ zai c=true
  ·simp only [if_pos c3] at h ⊢
   by_cases c4:zda (c :: t)=0
   ·simp only [if_pos c4] at h; cases h
   ·simp only [if_neg c4] at h ⊢
    have:=zhx (c :: t)
    exact ⟨by show zda (c :: t) ≤ _; omega,fun _ => by show 1 ≤ zda (c :: t); omega,fun h => by simp at h,by show (List.take _ _).length ≤ _; rw [List.length_take]; omega,by decide,by decide⟩
  simp only [if_neg c3] at h ⊢
  split at h
  ·rename_i c4
   rw [if_pos c4]
   have hw:=zfs (c :: t)
   refine ⟨hw,fun _ => ?_,fun h => by simp at h,by show (List.take _ _).length ≤ _; rw [List.length_take]; omega,by show (1:Int) ≤ 5; decide,by show (5:Int) ≤ 5; decide⟩
   show 1 ≤ za3 (c :: t)
   rcases Nat.eq_zero_or_pos (za3 (c :: t)) with h0 | h0
   ·rw [h0] at c4; simp at c4
   ·exact h0
  ·cases h
theorem zfO {s:List UInt8} {a:Int} (h0:0 ≤ a) (h:(zaA s a).2.2=0) :
  (a ≤ (zaA s a).2.1 ∧ (zaA s a).2.1 ≤ s.length ∧ ((zaA s a).1.1 ≠ 1 → a < (zaA s a).2.1) ∧ ((zaA s a).1.1=1 → (zaA s a).2.1=s.length)) ∧ (zaA s a).1.2.1.length ≤ s.length ∧ 1 ≤ (zaA s a).1.1 ∧ (zaA s a).1.1 ≤ 5 ∧ 0 ≤ (zaA s a).1.2.2 ∧ (zaA s a).1.2.2 ≤ s.length:=by
 unfold zaA at h ⊢
 by_cases c1:a < 0 ∨ (s.length:Int) < a
 ·simp only [if_pos c1] at h; cases h
 simp only [if_neg c1] at h ⊢
 obtain ⟨x,hx⟩:=Int.eq_ofNat_of_zero_le h0
 subst hx
 simp only [Int.toNat_natCast] at h ⊢
 have hw:=zds (s.drop x)
 rw [List.length_drop] at hw
 generalize hA:x + zaV (s.drop x)=A at *
 by_cases c2:(zaS (s.drop A)).1 ≠ 0
 ·simp only [if_pos c2] at h; exact absurd h c2
 simp only [if_neg c2]
 have c2:(zaS (s.drop A)).1=0:=by simpa using c2
 obtain ⟨r1,r2,r3,r4,r5,r6⟩:=zkP c2
 rw [List.length_drop] at r1 r4
 refine ⟨⟨?_,?_,?_,?_⟩,?_,r5,r6,?_,?_⟩
 ·show (x:Int) ≤ ((A + _:Nat):Int); omega
 ·show ((A + _:Nat):Int) ≤ _; omega
 ·intro h; have:=r2 h; show (x:Int) < ((A + _:Nat):Int); omega
 ·intro h
  have h1:=r3 h
  have h2:=congrArg List.length h1
  rw [List.length_drop,List.length_nil] at h2
  show ((A + _:Nat):Int)=_; omega
 ·show (zaS (s.drop A)).2.2.1.length ≤ _; omega
 ·show (0:Int) ≤ ((A:Nat):Int); omega
 ·show ((A:Nat):Int) ≤ _; omega
theorem zli {s:List UInt8} {a:Int} (h0:0 ≤ a) (h:(zaA s a).2.2=0):a ≤ (zaA s a).2.1 ∧ (zaA s a).2.1 ≤ s.length ∧ ((zaA s a).1.1 ≠ 1 → a < (zaA s a).2.1) ∧ ((zaA s a).1.1=1 → (zaA s a).2.1=s.length):=(zfO h0 h).1
section
variable [Tabs Tryz.prog] [Pow Tryz.prog] {objs:List OB} {K:List OB → AV → Prop}
theorem number_e (s:List UInt8) (hs:s.length ≤ 140737488351232) (hk:K objs (.tup [.s (zbo s).2,.i .i64 (zbo s).1])):zad Tryz.prog 61 [.s s] objs K :=
 number_k s hs (fun h => by unfold zbo at hk; rw [if_pos (by simpa using h)] at hk; exact hk) (fun p hp e => by subst e; rw [zlh hp] at hk; exact hk)
omit [Pow Tryz.prog] in
theorem zkt (s:List UInt8) (hs:s.length ≤ 100000) (hk:K objs (.tup [.s (zbo s).2,.i .i64 (zbo s).1])):zad Tryz.prog 42 [.s s] objs K :=
 zks s (by omega) (fun h => by unfold zbo at hk; rw [if_pos (by simpa using h)] at hk; exact hk) (fun p hp e => by subst e; rw [zlh hp,can_cut2 p hs] at hk; exact hk)
end
end
end Go.Proofs.YthmdohgkmdkeeaaGreatDoor
namespace Go.Proofs.YthmdohgkmdkeeaaGreatDoor
open Go.RowKit Sx
section
attribute [local irreducible] run
inductive JV where
 | mk (k:Int) (t:List UInt8) (ks:List (List UInt8)) (its:List JV)
def jvZ:JV:=.mk 0 [] [] []
abbrev Tk:=Int × List UInt8 × Int
def tkZ:Tk:=(0,[],0)
def isP (t:Tk) (c:UInt8):Bool:=decide (t.1=2) && decide (t.2.1=[c])
def trueL:List UInt8:=[116,114,117,101]
def ziN:List UInt8:=[102,97,108,115,101]
def zel (l:List UInt8):Int:=if l=trueL then 3 else if l=ziN then 2 else 1
def vkE (t:Tk):Int :=
 if t.1=3 then 5 else if t.1=4 then 4 else if isP t 91=true then 6 else if isP t 123=true then 7 else if ¬ t.1=5 then 0 else zel t.2.1
structure Fr where
 obj:Bool
 ks:List (List UInt8)
 its:List JV
structure Ms where
 st:Int
 stk:List Fr
 nodes:Nat
 root:JV
def ms0:Ms:=⟨0,[],0,jvZ⟩
def zc8 (σ:Ms) (v:JV):Ms:=match σ.stk with
 | [] => ⟨6,[],σ.nodes,v⟩
 | f :: r => ⟨5,⟨f.obj,f.ks,f.its ++ [v]⟩ :: r,σ.nodes,σ.root⟩
def Fr.val (f:Fr):JV:=.mk (if f.obj=true then 7 else 6) [] f.ks f.its
def zcW (σ:Ms):Ms:=match σ.stk with
 | [] => σ
 | f :: r => zc8 ⟨σ.st,r,σ.nodes,σ.root⟩ f.val
def zbP (σ:Ms) (o:Bool):Ms:=⟨if o=true then 3 else 1,⟨o,[],[]⟩ :: σ.stk,σ.nodes + 1,σ.root⟩
def zhj (t:Tk):Int × List UInt8:=if vkE t=4 then zbo t.2.1 else (0,if vkE t=5 then t.2.1 else [])
def zaZ (σ:Ms) (t:Tk):Int × Ms :=
 if vkE t=0 then (140,σ)
 else if vkE t=6 ∨ vkE t=7 then
  (if 64 ≤ σ.stk.length then (141,σ) else if 20000 ≤ σ.nodes then (142,σ) else (0,zbP σ (decide (vkE t=7))))
 else if ¬ (zhj t).1=0 then ((zhj t).1,σ)
 else if 20000 ≤ σ.nodes then (142,σ)
 else (0,zc8 ⟨σ.st,σ.stk,σ.nodes + 1,σ.root⟩ (.mk (vkE t) (zhj t).2 [] []))
def zeG (σ:Ms) (t:Tk):Bool:=match σ.stk with
 | [] => false
 | f :: _ => isP t (if f.obj=true then 125 else 93)
def zhA (σ:Ms) (t:Tk):Int × Ms:=match σ.stk with
 | [] => (140,σ)
 | f :: r => if ¬ t.1=3 then (140,σ) else if t.2.1 ∈ f.ks then (143,σ) else (0,⟨4,⟨f.obj,f.ks ++ [t.2.1],f.its⟩ :: r,σ.nodes,σ.root⟩)
def onM (σ:Ms) (t:Tk):Int × Ms:=match σ.stk with
 | [] => (140,σ)
 | f :: r => if zeG σ t=true then (0,zcW σ) else if isP t 44=false then (140,σ) else (0,⟨if f.obj=true then 2 else 0,σ.stk,σ.nodes,σ.root⟩)
def zaC (σ:Ms) (t:Tk):Int × Ms :=
 if σ.st=0 then zaZ σ t
 else if σ.st=1 then (if zeG σ t=true then (0,zcW σ) else zaZ σ t)
 else if σ.st=3 then (if zeG σ t=true then (0,zcW σ) else zhA σ t)
 else if σ.st=2 then zhA σ t
 else if σ.st=4 then (if isP t 58=true then (0,⟨0,σ.stk,σ.nodes,σ.root⟩) else (140,σ))
 else if σ.st=5 then onM σ t
 else if σ.st=6 then (if t.1=1 then (0,⟨7,σ.stk,σ.nodes,σ.root⟩) else (140,σ))
 else (140,σ)
inductive MRes (s:List UInt8):Int → Ms → JV × Int × Int → Prop
 | fin {a:Int} {σ:Ms}:σ.st=7 → MRes s a σ (σ.root,a,0)
 | tok {a:Int} {σ:Ms}:¬ σ.st=7 → ¬ (zaA s a).2.2=0 → MRes s a σ (jvZ,a,(zaA s a).2.2)
 | bad {a:Int} {σ:Ms}:¬ σ.st=7 → (zaA s a).2.2=0 → ¬ (zaC σ (zaA s a).1).1=0 → MRes s a σ (jvZ,(zaA s a).1.2.2,(zaC σ (zaA s a).1).1)
 | step {a:Int} {σ:Ms} {R:JV × Int × Int}:¬ σ.st=7 → (zaA s a).2.2=0 → (zaC σ (zaA s a).1).1=0 → MRes s (zaA s a).2.1 (zaC σ (zaA s a).1).2 R → MRes s a σ R
structure Rs where
 pos:Int
 nodes:Nat
 fail:Int
 wh:Int
def zay (ρ:Rs) (a e:Int):Rs:=if ρ.fail=0 then ⟨ρ.pos,ρ.nodes,e,a⟩ else ρ
def zac (s:List UInt8) (ρ:Rs):Tk × Rs :=
 if ¬ ρ.fail=0 then (tkZ,ρ)
 else if ¬ (zaA s ρ.pos).2.2=0 then (tkZ,zay ρ ρ.pos (zaA s ρ.pos).2.2)
 else ((zaA s ρ.pos).1,⟨(zaA s ρ.pos).2.1,ρ.nodes,ρ.fail,ρ.wh⟩)
def zaF (ρ:Rs) (t:Tk) (c:UInt8):Rs:=if ρ.fail=0 ∧ isP t c=false then zay ρ t.2.2 140 else ρ
def zbq (s:List UInt8) (val:Rs → Tk → JV × Rs):Nat → Rs → Tk → List JV → List JV × Rs
 | 0,ρ,_,acc => (acc,ρ)
 | n + 1,ρ,t,acc =>
  if ¬ ρ.fail=0 then (acc,ρ) else
  let a:=val ρ t
  let b:=zac s a.2
  if isP b.1 93=true then (acc ++ [a.1],b.2) else
  let c:=zac s (zaF b.2 b.1 44)
  zbq s val n c.2 c.1 (acc ++ [a.1])
def ze5 (ρ:Rs) (t:Tk) (ks:List (List UInt8)):Rs :=
 let ρ:=if ¬ t.1=3 then zay ρ t.2.2 140 else ρ
 if t.2.1 ∈ ks then zay ρ t.2.2 143 else ρ
def za5 (s:List UInt8) (val:Rs → Tk → JV × Rs):Nat → Rs → Tk → List (List UInt8) → List JV → (List (List UInt8) × List JV) × Rs
 | 0,ρ,_,ks,its => ((ks,its),ρ)
 | n + 1,ρ,t,ks,its =>
  if ¬ ρ.fail=0 then ((ks,its),ρ) else
  let a:=zac s (ze5 ρ t ks)
  let b:=zac s (zaF a.2 a.1 58)
  let v:=val b.2 b.1
  let c:=zac s v.2
  if isP c.1 125=true then ((ks ++ [t.2.1],its ++ [v.1]),c.2) else
  let d:=zac s (zaF c.2 c.1 44)
  za5 s val n d.2 d.1 (ks ++ [t.2.1]) (its ++ [v.1])
def zdq (s:List UInt8) (val:Rs → Tk → JV × Rs) (ρ:Rs):JV × Rs :=
 let a:=zac s ρ
 if isP a.1 93=true then (.mk 6 [] [] [],a.2) else
 let b:=zbq s val (s.length + 2) a.2 a.1 []
 (.mk 6 [] [] b.1,b.2)
def zdv (s:List UInt8) (val:Rs → Tk → JV × Rs) (ρ:Rs):JV × Rs :=
 let a:=zac s ρ
 if isP a.1 125=true then (.mk 7 [] [] [],a.2) else
 let b:=za5 s val (s.length + 2) a.2 a.1 [] []
 (.mk 7 [] b.1.1 b.1.2,b.2)
def zaK (ρ:Rs) (t:Tk):Rs :=
 let ρ:=if t.1=4 ∧ ¬ (zbo t.2.1).1=0 then zay ρ t.2.2 (zbo t.2.1).1 else ρ
 if 20000 < ρ.nodes + 1 then zay ⟨ρ.pos,ρ.nodes + 1,ρ.fail,ρ.wh⟩ t.2.2 142 else ⟨ρ.pos,ρ.nodes + 1,ρ.fail,ρ.wh⟩
def zao (s:List UInt8):Nat → Rs → Tk → Nat → JV × Rs
 | 0,ρ,_,_ => (jvZ,ρ)
 | f + 1,ρ,t,d =>
  if ¬ ρ.fail=0 then (jvZ,ρ)
  else if vkE t=0 then (jvZ,zay ρ t.2.2 140)
  else if t.1=2 ∧ d=64 then (jvZ,zay ρ t.2.2 141)
  else if t.1=5 then (.mk (zel t.2.1) [] [] [],zaK ρ t)
  else if isP t 91=true then zdq s (fun ρ t => zao s f ρ t (d + 1)) (zaK ρ t)
  else if isP t 123=true then zdv s (fun ρ t => zao s f ρ t (d + 1)) (zaK ρ t)
  else if t.1=4 then (.mk 4 (zbo t.2.1).2 [] [],zaK ρ t)
  else (.mk 5 t.2.1 [] [],zaK ρ t)
def rs0:Rs:=⟨0,0,0,0⟩
def zaX (s:List UInt8):JV × Int × Int :=
 if 1048576 < s.length then (jvZ,0,142) else
 let a:=zac s rs0
 let v:=zao s 65 a.2 a.1 0
 let b:=zac s v.2
 let ρ:=if b.2.fail=0 ∧ ¬ b.1.1=1 then zay b.2 b.1.2.2 140 else b.2
 if ¬ ρ.fail=0 then (jvZ,ρ.wh,ρ.fail) else (v.1,s.length,0)
def zgb (ρ ρ':Rs):Prop:=¬ ρ.fail=0 → ρ'.fail=ρ.fail ∧ ρ'.wh=ρ.wh
theorem zgb.refl (ρ:Rs):zgb ρ ρ:=fun _ => ⟨rfl,rfl⟩
theorem zgb.trans {a b c:Rs} (h:zgb a b) (k:zgb b c):zgb a c:=fun ha => by
 obtain ⟨h1,h2⟩:=h ha
 obtain ⟨k1,k2⟩:=k (by rw [h1]; exact ha)
 exact ⟨k1.trans h1,k2.trans h2⟩
theorem zjs (ρ:Rs) (a e:Int):zgb ρ (zay ρ a e):=fun h => by unfold zay; rw [if_neg h]; exact ⟨rfl,rfl⟩
theorem zam (s:List UInt8) (ρ:Rs):zgb ρ (zac s ρ).2:=fun h => by unfold zac; rw [if_pos h]; exact ⟨rfl,rfl⟩
theorem za0 (ρ:Rs) (t:Tk) (c:UInt8):zgb ρ (zaF ρ t c):=by
 unfold zaF; split
 ·exact zjs _ _ _
 ·exact zgb.refl _
theorem zdc (s:List UInt8) (f:Nat) (ρ:Rs) (t:Tk) (d:Nat):zgb ρ (zao s f ρ t d).2:=fun h => by
 cases f with
 | zero => exact ⟨rfl,rfl⟩
 | succ f => rw [zao,if_pos h]; exact ⟨rfl,rfl⟩
theorem zbT (s:List UInt8) (val:Rs → Tk → JV × Rs) (n:Nat) (ρ:Rs) (t:Tk) (acc:List JV):zgb ρ (zbq s val n ρ t acc).2:=fun h => by
 cases n with
 | zero => exact ⟨rfl,rfl⟩
 | succ f => rw [zbq,if_pos h]; exact ⟨rfl,rfl⟩
theorem zbS (s:List UInt8) (val:Rs → Tk → JV × Rs) (n:Nat) (ρ:Rs) (t:Tk) (ks:List (List UInt8)) (its:List JV):zgb ρ (za5 s val n ρ t ks its).2:=fun h => by
 cases n with
 | zero => exact ⟨rfl,rfl⟩
 | succ f => rw [za5,if_pos h]; exact ⟨rfl,rfl⟩
def AT (s:List UInt8) (t:Tk) (to:Int) (σ:Ms) (R:JV × Int × Int):Prop :=
 (¬ (zaC σ t).1=0 ∧ R=(jvZ,t.2.2,(zaC σ t).1)) ∨ ((zaC σ t).1=0 ∧ MRes s to (zaC σ t).2 R)
theorem mres_inv {s:List UInt8} {a:Int} {σ:Ms} {R:JV × Int × Int} (h:MRes s a σ R) (h7:¬ σ.st=7) :
  (¬ (zaA s a).2.2=0 ∧ R=(jvZ,a,(zaA s a).2.2)) ∨ ((zaA s a).2.2=0 ∧ AT s (zaA s a).1 (zaA s a).2.1 σ R):=by
 cases h with
 | fin h => exact absurd h h7
 | tok _ h => exact .inl ⟨h,rfl⟩
 | bad _ h1 h2 => exact .inr ⟨h1,.inl ⟨h2,rfl⟩⟩
 | step _ h1 h2 h3 => exact .inr ⟨h1,.inr ⟨h2,h3⟩⟩
def Bad (ρ:Rs) (R:JV × Int × Int):Prop:=¬ ρ.fail=0 ∧ R=(jvZ,ρ.wh,ρ.fail)
theorem Bad.froz {ρ ρ':Rs} {R:JV × Int × Int} (h:Bad ρ R) (k:zgb ρ ρ'):Bad ρ' R:=by
 obtain ⟨k1,k2⟩:=k h.1
 exact ⟨by rw [k1]; exact h.1,by rw [k1,k2]; exact h.2⟩
theorem zbD {s:List UInt8} {ρ:Rs} {σ:Ms} {R:JV × Int × Int} (h:MRes s ρ.pos σ R) (h7:¬ σ.st=7) (hf:ρ.fail=0) (h0:0 ≤ ρ.pos) :
  (Bad (zac s ρ).2 R) ∨ ((zac s ρ).2.fail=0 ∧ (zac s ρ).2.nodes=ρ.nodes ∧ AT s (zac s ρ).1 (zac s ρ).2.pos σ R ∧ ρ.pos ≤ (zac s ρ).2.pos ∧ (zac s ρ).2.pos ≤ s.length ∧ ((zac s ρ).1.1 ≠ 1 → ρ.pos < (zac s ρ).2.pos) ∧ ((zac s ρ).1.1=1 → (zac s ρ).2.pos=s.length)):=by
 have e1:¬ ¬ ρ.fail=0:=fun h => h hf
 unfold zac
 rw [if_neg e1]
 rcases mres_inv h h7 with ⟨h1,h2⟩ | ⟨h1,h2⟩
 ·rw [if_pos h1]
  left
  unfold zay
  rw [if_pos hf]
  exact ⟨h1,h2⟩
 ·rw [if_neg (fun h => h h1)]
  have:=zli h0 h1
  exact .inr ⟨hf,rfl,h2,this⟩
theorem zeP {s:List UInt8} {t:Tk} {to:Int} {σ σ':Ms} {R:JV × Int × Int} (h:AT s t to σ R) (e:zaC σ t=(0,σ')):MRes s to σ' R:=by
 unfold AT at h; rw [e] at h
 rcases h with ⟨h,_⟩ | ⟨_,h⟩
 ·exact absurd rfl h
 ·exact h
theorem zcY {s:List UInt8} {t:Tk} {to e:Int} {σ σ':Ms} {R:JV × Int × Int} (h:AT s t to σ R) (h1:zaC σ t=(e,σ')) (he:¬ e=0):R=(jvZ,t.2.2,e):=by
 unfold AT at h; rw [h1] at h
 rcases h with ⟨_,h⟩ | ⟨h,_⟩
 ·exact h
 ·exact absurd h he
theorem zjY (t:Tk):vkE t=0 ∨ vkE t=1 ∨ vkE t=2 ∨ vkE t=3 ∨ vkE t=4 ∨ vkE t=5 ∨ vkE t=6 ∨ vkE t=7:=by
 unfold vkE zel
 repeat' split
 all_goals simp
theorem zjZ {t:Tk}:(vkE t=5 ↔ t.1=3) ∧ (vkE t=4 ↔ t.1=4) ∧ ((vkE t=1 ∨ vkE t=2 ∨ vkE t=3) ↔ t.1=5) ∧ (vkE t=6 ↔ isP t 91=true) ∧ (vkE t=7 ↔ isP t 123=true) ∧ (t.1=5 → vkE t=zel t.2.1):=by
 have e1:∀ c,isP t c=true ↔ t.1=2 ∧ t.2.1=[c]:=fun c => by simp [isP]
 have hw:zel t.2.1=1 ∨ zel t.2.1=2 ∨ zel t.2.1=3:=by
  unfold zel
  by_cases a1:t.2.1=trueL
  ·rw [if_pos a1]; exact .inr (.inr rfl)
  ·rw [if_neg a1]
   by_cases a2:t.2.1=ziN
   ·rw [if_pos a2]; exact .inr (.inl rfl)
   ·rw [if_neg a2]; exact .inl rfl
 unfold vkE
 simp only [e1]
 by_cases h3:t.1=3
 ·simp [h3]
 by_cases h4:t.1=4
 ·simp [h4]
 by_cases h6:t.1=2 ∧ t.2.1=[91]
 ·simp [h6]
 by_cases h7:t.1=2 ∧ t.2.1=[123]
 ·simp [h7]
 by_cases h5:t.1=5
 ·simp only [h5]
  rcases hw with h | h | h <;> simp [h]
 ·simp only [h3,h4,h6,h7,h5]
  simp
theorem zcc (x y:Int) (S:List Fr) (n:Nat) (r:JV) (v:JV):zc8 ⟨x,S,n,r⟩ v=zc8 ⟨y,S,n,r⟩ v:=by unfold zc8; cases S <;> rfl
theorem zgx {ρ:Rs} {t:Tk} (hf:ρ.fail=0):(Bad (zaK ρ t) (jvZ,t.2.2,if t.1=4 ∧ ¬ (zbo t.2.1).1=0 then (zbo t.2.1).1 else 142) ∧ (t.1=4 ∧ ¬ (zbo t.2.1).1=0 ∨ 20000 ≤ ρ.nodes)) ∨ (zaK ρ t=⟨ρ.pos,ρ.nodes + 1,0,ρ.wh⟩ ∧ ¬ (t.1=4 ∧ ¬ (zbo t.2.1).1=0) ∧ ¬ 20000 ≤ ρ.nodes):=by
 unfold zaK
 by_cases h1:t.1=4 ∧ ¬ (zbo t.2.1).1=0
 ·left
  refine ⟨?_,.inl h1⟩
  simp only [if_pos h1]
  unfold zay Bad
  simp only [if_pos hf]
  by_cases h2:20000 < ρ.nodes + 1
  ·simp only [if_pos h2,if_neg h1.2]
   exact ⟨h1.2,trivial⟩
  ·simp only [if_neg h2]
   exact ⟨h1.2,trivial⟩
 ·simp only [if_neg h1]
  by_cases h2:20000 < ρ.nodes + 1
  ·left
   simp only [if_pos h2]
   unfold zay Bad
   simp only [if_pos hf]
   exact ⟨⟨by decide,trivial⟩,.inr (by omega)⟩
  ·right
   simp only [if_neg h2]
   exact ⟨by rw [hf],h1,by omega⟩
def zg7 (s:List UInt8) (val:Rs → Tk → JV × Rs) (d:Nat):Prop :=
 ∀ (ρ:Rs) (t:Tk) (σ:Ms) (R:JV × Int × Int),ρ.fail=0 → 0 ≤ ρ.pos → ρ.pos ≤ s.length → σ.stk.length=d → σ.nodes=ρ.nodes → zaC σ t=zaZ σ t → AT s t ρ.pos σ R →
  Bad (val ρ t).2 R ∨ ((val ρ t).2.fail=0 ∧ ρ.pos ≤ (val ρ t).2.pos ∧ (val ρ t).2.pos ≤ s.length ∧ MRes s (val ρ t).2.pos (zc8 ⟨σ.st,σ.stk,(val ρ t).2.nodes,σ.root⟩ (val ρ t).1) R)
def zd2 (val:Rs → Tk → JV × Rs):Prop:=∀ ρ t,zgb ρ (val ρ t).2
theorem zeu {ρ:Rs} {t:Tk} {c:UInt8} (hf:ρ.fail=0):(isP t c=true ∧ zaF ρ t c=ρ) ∨ (isP t c=false ∧ (zaF ρ t c).fail=140 ∧ (zaF ρ t c).wh=t.2.2):=by
 unfold zaF
 cases h:isP t c
 ·right
  refine ⟨rfl,?_⟩
  rw [if_pos ⟨hf,rfl⟩]
  unfold zay
  rw [if_pos hf]
  exact ⟨rfl,rfl⟩
 ·left
  refine ⟨rfl,?_⟩
  rw [if_neg (fun h => by cases h.2)]
theorem zb7 {t:Tk} {c:UInt8} (h:isP t c=true):t.1=2 ∧ t.2.1=[c]:=by
 simpa [isP] using h
theorem zgy {s:List UInt8} {val:Rs → Tk → JV × Rs} {d:Nat} (hv:zg7 s val (d + 1)) (hz:zd2 val):∀ (n:Nat) (ρ:Rs) (t:Tk) (acc:List JV) (σ:Ms) (S:List Fr) (R:JV × Int × Int),
  ρ.fail=0 → 0 ≤ ρ.pos → ρ.pos ≤ s.length → s.length + 1 < n + ρ.pos → S.length=d → σ.stk=⟨false,[],acc⟩ :: S → σ.nodes=ρ.nodes → zaC σ t=zaZ σ t → AT s t ρ.pos σ R →
  Bad (zbq s val n ρ t acc).2 R ∨ ((zbq s val n ρ t acc).2.fail=0 ∧ ρ.pos ≤ (zbq s val n ρ t acc).2.pos ∧ (zbq s val n ρ t acc).2.pos ≤ s.length ∧ MRes s (zbq s val n ρ t acc).2.pos (zc8 ⟨σ.st,S,(zbq s val n ρ t acc).2.nodes,σ.root⟩ (.mk 6 [] [] (zbq s val n ρ t acc).1)) R)
 | 0,ρ,t,acc,σ,S,R,hf,h0,hl,hn,hS,hσ,hc,hb,hA => by omega
 | n + 1,ρ,t,acc,σ,S,R,hf,h0,hl,hn,hS,hσ,hc,hb,hA => by
  rw [zbq,if_neg (fun h => h hf)]
  dsimp only
  have frz:∀ (p:JV × Rs),Bad p.2 R → Bad (if isP (zac s p.2).1 93=true then (acc ++ [p.1],(zac s p.2).2) else zbq s val n (zac s (zaF (zac s p.2).2 (zac s p.2).1 44)).2 (zac s (zaF (zac s p.2).2 (zac s p.2).1 44)).1 (acc ++ [p.1])).2 R:=by
   intro p hp
   split
   ·exact hp.froz (zam _ _)
   ·exact hp.froz ((zam _ _).trans ((za0 _ _ _).trans ((zam _ _).trans (zbT _ _ _ _ _ _))))
  have h1:=hv ρ t σ R hf h0 hl (by rw [hσ,List.length_cons,hS]) hc hb hA
  generalize val ρ t=a at h1 ⊢
  rcases h1 with h1 | ⟨f1,p1,q1,m1⟩
  ·exact .inl (frz a h1)
  simp only [hσ,zc8] at m1
  have h2:=zbD m1 (by simp) f1 (by omega)
  generalize zac s a.2=b at h2 ⊢
  rcases h2 with h2 | ⟨f2,c2,a2,p2,q2,r2,_⟩
  ·left
   split
   ·exact h2
   ·exact h2.froz ((za0 _ _ _).trans ((zam _ _).trans (zbT _ _ _ _ _ _)))
  by_cases hcl:isP b.1 93=true
  ·rw [if_pos hcl]
   right
   have e:zaC ⟨5,⟨false,[],acc ++ [a.1]⟩ :: S,a.2.nodes,σ.root⟩ b.1=(0,zc8 ⟨5,S,a.2.nodes,σ.root⟩ (.mk 6 [] [] (acc ++ [a.1]))):=by
    simp [zaC,onM,zeG,hcl,zcW,Fr.val]
   have m2:=zeP a2 e
   refine ⟨f2,by show ρ.pos ≤ b.2.pos; omega,q2,?_⟩
   show MRes s b.2.pos (zc8 ⟨σ.st,S,b.2.nodes,σ.root⟩ _) R
   rw [c2,show zc8 ⟨σ.st,S,a.2.nodes,σ.root⟩ (.mk 6 [] [] (acc ++ [a.1]))=zc8 ⟨5,S,a.2.nodes,σ.root⟩ (.mk 6 [] [] (acc ++ [a.1])) from zcc _ _ _ _ _ _]
   exact m2
  ·rw [if_neg hcl]
   rcases zeu (t:=b.1) (c:=44) f2 with ⟨h3,h4⟩ | ⟨h3,h4,h5⟩
   ·have e:zaC ⟨5,⟨false,[],acc ++ [a.1]⟩ :: S,a.2.nodes,σ.root⟩ b.1=(0,⟨0,⟨false,[],acc ++ [a.1]⟩ :: S,a.2.nodes,σ.root⟩):=by
     simp [zaC,onM,zeG,hcl,h3]
    have m2:=zeP a2 e
    simp only [h4]
    have h6:=zbD m2 (by simp) f2 (by omega)
    generalize zac s b.2=c at h6 ⊢
    rcases h6 with h6 | ⟨f3,c3,a3,p3,q3,r3,_⟩
    ·exact .inl (h6.froz (zbT _ _ _ _ _ _))
    have r2:=r2 (by rw [(zb7 h3).1]; decide)
    have ih:=zgy hv hz n c.2 c.1 (acc ++ [a.1]) _ S R f3 (by omega) q3 (by omega) hS rfl (c2.symm.trans c3.symm) rfl a3
    rcases ih with ih | ⟨g1,g2,g3,g4⟩
    ·exact .inl ih
    ·right
     refine ⟨g1,by omega,g3,?_⟩
     rw [zcc σ.st 0]
     exact g4
   ·have e:zaC ⟨5,⟨false,[],acc ++ [a.1]⟩ :: S,a.2.nodes,σ.root⟩ b.1=(140,⟨5,⟨false,[],acc ++ [a.1]⟩ :: S,a.2.nodes,σ.root⟩):=by
     simp [zaC,onM,zeG,hcl,h3]
    have hR:=zcY a2 e (by decide)
    left
    refine Bad.froz (ρ:=zaF b.2 b.1 44) ⟨by rw [h4]; decide,by rw [h4,h5]; exact hR⟩ ((zam _ _).trans (zbT _ _ _ _ _ _))
theorem rkey_sim {ρ:Rs} {t:Tk} {ks:List (List UInt8)} (hf:ρ.fail=0):(t.1=3 ∧ t.2.1 ∉ ks ∧ ze5 ρ t ks=ρ) ∨ (¬ t.1=3 ∧ (ze5 ρ t ks).fail=140 ∧ (ze5 ρ t ks).wh=t.2.2) ∨ (t.1=3 ∧ t.2.1 ∈ ks ∧ (ze5 ρ t ks).fail=143 ∧ (ze5 ρ t ks).wh=t.2.2):=by
 unfold ze5
 by_cases h1:t.1=3
 ·have e:¬ ¬ t.1=3:=fun h => h h1
  simp only [if_neg e]
  by_cases h2:t.2.1 ∈ ks
  ·right; right
   simp only [if_pos h2]
   unfold zay
   simp only [if_pos hf]
   exact ⟨h1,h2,trivial,trivial⟩
  ·left
   simp only [if_neg h2]
   exact ⟨h1,h2,trivial⟩
 ·right; left
  simp only [if_pos h1]
  have e2:zay ρ t.2.2 140=⟨ρ.pos,ρ.nodes,140,t.2.2⟩:=by unfold zay; rw [if_pos hf]
  rw [e2]
  by_cases h2:t.2.1 ∈ ks
  ·simp only [if_pos h2]
   unfold zay
   exact ⟨h1,rfl,rfl⟩
  ·simp only [if_neg h2]
   exact ⟨h1,trivial,trivial⟩
theorem zgr {s:List UInt8} {val:Rs → Tk → JV × Rs} {d:Nat} (hv:zg7 s val (d + 1)) (hz:zd2 val):∀ (n:Nat) (ρ:Rs) (t:Tk) (ks:List (List UInt8)) (its:List JV) (σ:Ms) (S:List Fr) (R:JV × Int × Int),
  ρ.fail=0 → 0 ≤ ρ.pos → ρ.pos ≤ s.length → s.length + 1 < n + ρ.pos → S.length=d → σ.stk=⟨true,ks,its⟩ :: S → σ.nodes=ρ.nodes → zaC σ t=zhA σ t → AT s t ρ.pos σ R →
  Bad (za5 s val n ρ t ks its).2 R ∨ ((za5 s val n ρ t ks its).2.fail=0 ∧ ρ.pos ≤ (za5 s val n ρ t ks its).2.pos ∧ (za5 s val n ρ t ks its).2.pos ≤ s.length ∧ MRes s (za5 s val n ρ t ks its).2.pos (zc8 ⟨σ.st,S,(za5 s val n ρ t ks its).2.nodes,σ.root⟩ (.mk 7 [] (za5 s val n ρ t ks its).1.1 (za5 s val n ρ t ks its).1.2)) R)
 | 0,ρ,t,ks,its,σ,S,R,hf,h0,hl,hn,hS,hσ,hc,hb,hA => by omega
 | n + 1,ρ,t,ks,its,σ,S,R,hf,h0,hl,hn,hS,hσ,hc,hb,hA => by
  rw [za5,if_neg (fun h => h hf)]
  dsimp only
  have key:zaC σ t=if ¬ t.1=3 then (140,σ) else if t.2.1 ∈ ks then (143,σ) else (0,⟨4,⟨true,ks ++ [t.2.1],its⟩ :: S,σ.nodes,σ.root⟩):=by
   rw [hb]; unfold zhA; rw [hσ]
  have last:∀ (v:JV × Rs),Bad v.2 R → Bad (if isP (zac s v.2).1 125=true then ((ks ++ [t.2.1],its ++ [v.1]),(zac s v.2).2) else za5 s val n (zac s (zaF (zac s v.2).2 (zac s v.2).1 44)).2 (zac s (zaF (zac s v.2).2 (zac s v.2).1 44)).1 (ks ++ [t.2.1]) (its ++ [v.1])).2 R:=by
   intro p hp
   split
   ·exact hp.froz (zam _ _)
   ·exact hp.froz ((zam _ _).trans ((za0 _ _ _).trans ((zam _ _).trans (zbS _ _ _ _ _ _ _))))
  rcases rkey_sim (t:=t) (ks:=ks) hf with ⟨k1,k2,k3⟩ | ⟨k1,k2,k3⟩ | ⟨k1,k2,k3,k4⟩
  rotate_left
  ·rw [if_pos k1] at key
   have hR:=zcY hA key (by decide)
   left
   refine last _ (Bad.froz (ρ:=ze5 ρ t ks) ⟨by rw [k2]; decide,by rw [k2,k3]; exact hR⟩ ?_)
   exact (zam _ _).trans ((za0 _ _ _).trans ((zam _ _).trans (hz _ _)))
  ·rw [if_neg (fun h => h k1),if_pos k2] at key
   have hR:=zcY hA key (by decide)
   left
   refine last _ (Bad.froz (ρ:=ze5 ρ t ks) ⟨by rw [k3]; decide,by rw [k3,k4]; exact hR⟩ ?_)
   exact (zam _ _).trans ((za0 _ _ _).trans ((zam _ _).trans (hz _ _)))
  rw [if_neg (fun h => h k1),if_neg k2] at key
  have m0:=zeP hA key
  rw [k3]
  have h1:=zbD m0 (by simp) hf h0
  generalize zac s ρ=a at h1 ⊢
  rcases h1 with h1 | ⟨f1,c1,a1,p1,q1,r1,_⟩
  ·exact .inl (last _ (h1.froz ((za0 _ _ _).trans ((zam _ _).trans (hz _ _)))))
  rcases zeu (t:=a.1) (c:=58) f1 with ⟨h3,h4⟩ | ⟨h3,h4,h5⟩
  rotate_left
  ·have e:zaC ⟨4,⟨true,ks ++ [t.2.1],its⟩ :: S,σ.nodes,σ.root⟩ a.1=(140,⟨4,⟨true,ks ++ [t.2.1],its⟩ :: S,σ.nodes,σ.root⟩):=by
    simp [zaC,h3]
   have hR:=zcY a1 e (by decide)
   left
   exact last _ (Bad.froz (ρ:=zaF a.2 a.1 58) ⟨by rw [h4]; decide,by rw [h4,h5]; exact hR⟩ ((zam _ _).trans (hz _ _)))
  have e:zaC ⟨4,⟨true,ks ++ [t.2.1],its⟩ :: S,σ.nodes,σ.root⟩ a.1=(0,⟨0,⟨true,ks ++ [t.2.1],its⟩ :: S,σ.nodes,σ.root⟩):=by
   simp [zaC,h3]
  have m1:=zeP a1 e
  rw [h4]
  have h2:=zbD m1 (by simp) f1 (by omega)
  generalize zac s a.2=b at h2 ⊢
  rcases h2 with h2 | ⟨f2,c2,a2,p2,q2,_,_⟩
  ·exact .inl (last _ (h2.froz (hz _ _)))
  have hV:=hv b.2 b.1 _ R f2 (by omega) q2 (by simp [hS]) (by show σ.nodes=_; omega) rfl a2
  generalize val b.2 b.1=v at hV ⊢
  rcases hV with hV | ⟨f3,p3,q3,m3⟩
  ·exact .inl (last v hV)
  simp only [zc8] at m3
  have h6:=zbD m3 (by simp) f3 (by omega)
  generalize zac s v.2=c at h6 ⊢
  rcases h6 with h6 | ⟨f4,c4,a4,p4,q4,r4,_⟩
  ·left
   split
   ·exact h6
   ·exact h6.froz ((za0 _ _ _).trans ((zam _ _).trans (zbS _ _ _ _ _ _ _)))
  by_cases hcl:isP c.1 125=true
  ·rw [if_pos hcl]
   right
   have e:zaC ⟨5,⟨true,ks ++ [t.2.1],its ++ [v.1]⟩ :: S,v.2.nodes,σ.root⟩ c.1=(0,zc8 ⟨5,S,v.2.nodes,σ.root⟩ (.mk 7 [] (ks ++ [t.2.1]) (its ++ [v.1]))):=by
    simp [zaC,onM,zeG,hcl,zcW,Fr.val]
   have m2:=zeP a4 e
   refine ⟨f4,by show ρ.pos ≤ c.2.pos; omega,q4,?_⟩
   show MRes s c.2.pos (zc8 ⟨σ.st,S,c.2.nodes,σ.root⟩ _) R
   rw [c4,zcc σ.st 5]
   exact m2
  ·rw [if_neg hcl]
   rcases zeu (t:=c.1) (c:=44) f4 with ⟨g3,g4⟩ | ⟨g3,g4,g5⟩
   ·have e:zaC ⟨5,⟨true,ks ++ [t.2.1],its ++ [v.1]⟩ :: S,v.2.nodes,σ.root⟩ c.1=(0,⟨2,⟨true,ks ++ [t.2.1],its ++ [v.1]⟩ :: S,v.2.nodes,σ.root⟩):=by
     simp [zaC,onM,zeG,hcl,g3]
    have m2:=zeP a4 e
    simp only [g4]
    have h6:=zbD m2 (by simp) f4 (by omega)
    generalize zac s c.2=x at h6 ⊢
    rcases h6 with h6 | ⟨f5,c5,a5,p5,q5,_,_⟩
    ·exact .inl (h6.froz (zbS _ _ _ _ _ _ _))
    have r4:=r4 (by rw [(zb7 g3).1]; decide)
    have ih:=zgr hv hz n x.2 x.1 (ks ++ [t.2.1]) (its ++ [v.1]) _ S R f5 (by omega) q5 (by omega) hS rfl (c4.symm.trans c5.symm) rfl a5
    rcases ih with ih | ⟨i1,i2,i3,i4⟩
    ·exact .inl ih
    ·right
     refine ⟨i1,by omega,i3,?_⟩
     rw [zcc σ.st 2]
     exact i4
   ·have e:zaC ⟨5,⟨true,ks ++ [t.2.1],its ++ [v.1]⟩ :: S,v.2.nodes,σ.root⟩ c.1=(140,⟨5,⟨true,ks ++ [t.2.1],its ++ [v.1]⟩ :: S,v.2.nodes,σ.root⟩):=by
     simp [zaC,onM,zeG,hcl,g3]
    have hR:=zcY a4 e (by decide)
    left
    exact Bad.froz (ρ:=zaF c.2 c.1 44) ⟨by rw [g4]; decide,by rw [g4,g5]; exact hR⟩ ((zam _ _).trans (zbS _ _ _ _ _ _ _))
theorem rarr_sim {s:List UInt8} {val:Rs → Tk → JV × Rs} {d:Nat} (hv:zg7 s val (d + 1)) (hz:zd2 val) (ρ:Rs) (σ:Ms) (R:JV × Int × Int) (hf:ρ.fail=0) (h0:0 ≤ ρ.pos) (hl:ρ.pos ≤ s.length) (hS:σ.stk.length=d)
  (hc:σ.nodes + 1=ρ.nodes) (hm:MRes s ρ.pos (zbP σ false) R) :
  Bad (zdq s val ρ).2 R ∨ ((zdq s val ρ).2.fail=0 ∧ ρ.pos ≤ (zdq s val ρ).2.pos ∧ (zdq s val ρ).2.pos ≤ s.length ∧ MRes s (zdq s val ρ).2.pos (zc8 ⟨σ.st,σ.stk,(zdq s val ρ).2.nodes,σ.root⟩ (zdq s val ρ).1) R):=by
 unfold zdq
 dsimp only
 have h1:=zbD hm (by simp [zbP]) hf h0
 generalize zac s ρ=a at h1 ⊢
 rcases h1 with h1 | ⟨f1,c1,a1,p1,q1,r1,_⟩
 ·left
  split
  ·exact h1
  ·exact h1.froz (zbT _ _ _ _ _ _)
 by_cases hcl:isP a.1 93=true
 ·rw [if_pos hcl]
  right
  have e:zaC (zbP σ false) a.1=(0,zc8 ⟨1,σ.stk,σ.nodes + 1,σ.root⟩ (.mk 6 [] [] [])):=by
   simp [zaC,zbP,zeG,hcl,zcW,Fr.val]
  have m2:=zeP a1 e
  refine ⟨f1,p1,q1,?_⟩
  show MRes s a.2.pos (zc8 ⟨σ.st,σ.stk,a.2.nodes,σ.root⟩ _) R
  rw [c1,← hc,zcc σ.st 1]
  exact m2
 ·rw [if_neg hcl]
  have e:zaC (zbP σ false) a.1=zaZ (zbP σ false) a.1:=by
   simp [zaC,zbP,zeG,hcl]
  have hL:=zgy hv hz (s.length + 2) a.2 a.1 [] (zbP σ false) σ.stk R f1 (by omega) q1 (by omega) hS rfl (by rw [c1,← hc]; rfl) e a1
  rcases hL with hL | ⟨g1,g2,g3,g4⟩
  ·exact .inl hL
  ·right
   refine ⟨g1,Int.le_trans p1 g2,g3,?_⟩
   show MRes s _ (zc8 ⟨σ.st,σ.stk,_,σ.root⟩ _) R
   rw [zcc σ.st (zbP σ false).st]
   exact g4
theorem robj_sim {s:List UInt8} {val:Rs → Tk → JV × Rs} {d:Nat} (hv:zg7 s val (d + 1)) (hz:zd2 val) (ρ:Rs) (σ:Ms) (R:JV × Int × Int) (hf:ρ.fail=0) (h0:0 ≤ ρ.pos) (hl:ρ.pos ≤ s.length) (hS:σ.stk.length=d)
  (hc:σ.nodes + 1=ρ.nodes) (hm:MRes s ρ.pos (zbP σ true) R) :
  Bad (zdv s val ρ).2 R ∨ ((zdv s val ρ).2.fail=0 ∧ ρ.pos ≤ (zdv s val ρ).2.pos ∧ (zdv s val ρ).2.pos ≤ s.length ∧ MRes s (zdv s val ρ).2.pos (zc8 ⟨σ.st,σ.stk,(zdv s val ρ).2.nodes,σ.root⟩ (zdv s val ρ).1) R):=by
 unfold zdv
 dsimp only
 have h1:=zbD hm (by simp [zbP]) hf h0
 generalize zac s ρ=a at h1 ⊢
 rcases h1 with h1 | ⟨f1,c1,a1,p1,q1,r1,_⟩
 ·left
  split
  ·exact h1
  ·exact h1.froz (zbS _ _ _ _ _ _ _)
 by_cases hcl:isP a.1 125=true
 ·rw [if_pos hcl]
  right
  have e:zaC (zbP σ true) a.1=(0,zc8 ⟨3,σ.stk,σ.nodes + 1,σ.root⟩ (.mk 7 [] [] [])):=by
   simp [zaC,zbP,zeG,hcl,zcW,Fr.val]
  have m2:=zeP a1 e
  refine ⟨f1,p1,q1,?_⟩
  show MRes s a.2.pos (zc8 ⟨σ.st,σ.stk,a.2.nodes,σ.root⟩ _) R
  rw [c1,← hc,zcc σ.st 3]
  exact m2
 ·rw [if_neg hcl]
  have e:zaC (zbP σ true) a.1=zhA (zbP σ true) a.1:=by
   simp [zaC,zbP,zeG,hcl]
  have hL:=zgr hv hz (s.length + 2) a.2 a.1 [] [] (zbP σ true) σ.stk R f1 (by omega) q1 (by omega) hS rfl (by rw [c1,← hc]; rfl) e a1
  rcases hL with hL | ⟨g1,g2,g3,g4⟩
  ·exact .inl hL
  ·right
   refine ⟨g1,Int.le_trans p1 g2,g3,?_⟩
   show MRes s _ (zc8 ⟨σ.st,σ.stk,_,σ.root⟩ _) R
   rw [zcc σ.st (zbP σ true).st]
   exact g4
theorem zkQ (s:List UInt8) (val:Rs → Tk → JV × Rs) (ρ:Rs):zgb ρ (zdq s val ρ).2:=by
 unfold zdq
 dsimp only
 split
 ·exact zam _ _
 ·exact (zam _ _).trans (zbT _ _ _ _ _ _)
theorem zkq (s:List UInt8) (val:Rs → Tk → JV × Rs) (ρ:Rs):zgb ρ (zdv s val ρ).2:=by
 unfold zdv
 dsimp only
 split
 ·exact zam _ _
 ·exact (zam _ _).trans (zbS _ _ _ _ _ _ _)
theorem zdO (s:List UInt8):∀ (f d:Nat),f + d=65 → d ≤ 64 → zg7 s (fun ρ t => zao s f ρ t d) d
 | 0,d,hd,hd2 => by omega
 | f + 1,d,hd,hd2 => by
  intro ρ t σ R hf h0 hl hS hc hb hA
  obtain ⟨k5,k4,kw,k6,k7,kw2⟩:=zjZ (t:=t)
  have hz:zd2 (fun ρ t => zao s f ρ t (d + 1)):=fun ρ t => zdc s f ρ t (d + 1)
  dsimp only
  rw [zao,if_neg (fun h => h hf)]
  by_cases c0:vkE t=0
  ·rw [if_pos c0]
   have e:zaC σ t=(140,σ):=by rw [hb]; unfold zaZ; rw [if_pos c0]
   have hR:=zcY hA e (by decide)
   left
   unfold zay; rw [if_pos hf]
   exact ⟨by simp,hR⟩
  rw [if_neg c0]
  have hv:=zjY t
  by_cases c1:t.1=2 ∧ d=64
  ·rw [if_pos c1]
   have hk:vkE t=6 ∨ vkE t=7:=by
    have n3:¬ vkE t=5:=fun h => by have:=k5.1 h; omega
    have n4:¬ vkE t=4:=fun h => by have:=k4.1 h; omega
    have nw:¬ (vkE t=1 ∨ vkE t=2 ∨ vkE t=3):=fun h => by have:=kw.1 h; omega
    omega
   have e:zaC σ t=(141,σ):=by rw [hb]; unfold zaZ; rw [if_neg c0,if_pos hk,if_pos (by omega)]
   have hR:=zcY hA e (by decide)
   left
   unfold zay; rw [if_pos hf]
   exact ⟨by simp,hR⟩
  rw [if_neg c1]
  have leaf:∀ (k:Int) (x:List UInt8),vkE t=k → ¬ (k=6 ∨ k=7) → zhj t=((if t.1=4 then (zbo t.2.1).1 else 0),x) →
    Bad (zaK ρ t) R ∨ ((zaK ρ t).fail=0 ∧ ρ.pos ≤ (zaK ρ t).pos ∧ (zaK ρ t).pos ≤ s.length ∧ MRes s (zaK ρ t).pos (zc8 ⟨σ.st,σ.stk,(zaK ρ t).nodes,σ.root⟩ (.mk k x [] [])) R):=by
   intro k x hk hn hx
   have hb':=hb
   unfold zaZ at hb'
   rw [if_neg c0,if_neg (by rw [hk]; exact hn),hx] at hb'
   simp only at hb'
   rcases zgx (t:=t) hf with ⟨q1,q2⟩ | ⟨q1,q2,q3⟩
   ·left
    have q3:R=(jvZ,t.2.2,if t.1=4 ∧ ¬ (zbo t.2.1).1=0 then (zbo t.2.1).1 else 142):=by
     by_cases c4:t.1=4 ∧ ¬ (zbo t.2.1).1=0
     ·rw [if_pos c4]
      rw [if_pos c4.1,if_pos c4.2] at hb'
      exact zcY hA hb' c4.2
     ·rw [if_neg c4]
      have:¬ ¬ (if t.1=4 then (zbo t.2.1).1 else 0)=0:=by
       intro h
       by_cases c5:t.1=4
       ·rw [if_pos c5] at h; exact c4 ⟨c5,h⟩
       ·rw [if_neg c5] at h; exact h rfl
      rcases q2 with q2 | q2
      ·exact absurd q2 c4
      ·rw [if_neg this,if_pos (by omega)] at hb'
       exact zcY hA hb' (by decide)
    rw [q3]
    exact q1
   ·right
    have:¬ ¬ (if t.1=4 then (zbo t.2.1).1 else 0)=0:=by
     intro h
     by_cases c5:t.1=4
     ·rw [if_pos c5] at h; exact q2 ⟨c5,h⟩
     ·rw [if_neg c5] at h; exact h rfl
    rw [if_neg this,if_neg (by omega)] at hb'
    have m:=zeP hA hb'
    rw [q1]
    refine ⟨rfl,Int.le_refl _,hl,?_⟩
    rw [← hc,← hk]
    exact m
  have open_:∀ (b:Bool),vkE t=(if b=true then 7 else 6) → Bad (zaK ρ t) R ∨ (zaK ρ t=⟨ρ.pos,ρ.nodes + 1,0,ρ.wh⟩ ∧ MRes s ρ.pos (zbP σ b) R):=by
   intro b hk
   have hk':vkE t=6 ∨ vkE t=7:=by cases b <;> simp at hk <;> simp [hk]
   have n4:¬ t.1=4:=fun h => by have:=k4.2 h; omega
   have h2:t.1=2:=by
    rcases hk' with h | h
    ·exact (zb7 (k6.1 h)).1
    ·exact (zb7 (k7.1 h)).1
   have hb':=hb
   unfold zaZ at hb'
   rw [if_neg c0,if_pos hk',if_neg (by omega)] at hb'
   rcases zgx (t:=t) hf with ⟨q1,q2⟩ | ⟨q1,q2,q3⟩
   ·left
    rcases q2 with q2 | q2
    ·exact absurd q2.1 n4
    rw [if_pos (by omega)] at hb'
    rw [if_neg (fun h => n4 h.1)] at q1
    rw [zcY hA hb' (by decide)]
    exact q1
   ·right
    rw [if_neg (by omega)] at hb'
    refine ⟨q1,?_⟩
    have m:=zeP hA hb'
    have:decide (vkE t=7)=b:=by cases b <;> simp at hk <;> simp [hk]
    rw [this] at m
    exact m
  by_cases c5:t.1=5
  ·rw [if_pos c5]
   have hk:=kw.2 c5
   exact leaf _ _ (kw2 c5) (by rw [← kw2 c5]; omega) (by unfold zhj; rw [if_neg (by omega),if_neg (by omega),if_neg (by omega)])
  rw [if_neg c5]
  by_cases c6:isP t 91=true
  ·rw [if_pos c6]
   have hk:=k6.2 c6
   have h2:=(zb7 c6).1
   rcases open_ false hk with h | ⟨h1,h3⟩
   ·exact .inl (h.froz (zkQ _ _ _))
   ·rw [h1]
    exact rarr_sim (zdO s f (d + 1) (by omega) (by omega)) hz ⟨ρ.pos,ρ.nodes + 1,0,ρ.wh⟩ σ R rfl h0 hl hS (by show σ.nodes + 1=ρ.nodes + 1; omega) h3
  rw [if_neg c6]
  by_cases c7:isP t 123=true
  ·rw [if_pos c7]
   have hk:=k7.2 c7
   have h2:=(zb7 c7).1
   rcases open_ true hk with h | ⟨h1,h3⟩
   ·exact .inl (h.froz (zkq _ _ _))
   ·rw [h1]
    exact robj_sim (zdO s f (d + 1) (by omega) (by omega)) hz ⟨ρ.pos,ρ.nodes + 1,0,ρ.wh⟩ σ R rfl h0 hl hS (by show σ.nodes + 1=ρ.nodes + 1; omega) h3
  rw [if_neg c7]
  by_cases c4:t.1=4
  ·rw [if_pos c4]
   have hk:=k4.2 c4
   exact leaf 4 _ hk (by omega) (by unfold zhj; rw [if_pos hk,if_pos c4])
  ·rw [if_neg c4]
   have hk:vkE t=5:=by
    have n4:¬ vkE t=4:=fun h => c4 (k4.1 h)
    have nw:¬ (vkE t=1 ∨ vkE t=2 ∨ vkE t=3):=fun h => c5 (kw.1 h)
    have n6:¬ vkE t=6:=fun h => c6 (k6.1 h)
    have n7:¬ vkE t=7:=fun h => c7 (k7.1 h)
    omega
   exact leaf 5 _ hk (by omega) (by unfold zhj; rw [if_neg (by omega),if_pos hk,if_neg c4])
theorem zfJ {s:List UInt8} {R:JV × Int × Int} (hs:s.length ≤ 1048576) (h:MRes s 0 ms0 R):R=zaX s:=by
 unfold zaX
 rw [if_neg (by omega)]
 dsimp only
 have h1:=zbD (ρ:=rs0) h (by decide) rfl (by decide)
 generalize zac s rs0=a at h1 ⊢
 have bad:∀ (ρ:Rs) (p:JV × Rs) (b:Tk × Rs),b=zac s p.2 → Bad p.2 R → R=if ¬ (if b.2.fail=0 ∧ ¬ b.1.1=1 then zay b.2 b.1.2.2 140 else b.2).fail=0 then (jvZ,(if b.2.fail=0 ∧ ¬ b.1.1=1 then zay b.2 b.1.2.2 140 else b.2).wh,(if b.2.fail=0 ∧ ¬ b.1.1=1 then zay b.2 b.1.2.2 140 else b.2).fail) else (p.1,(s.length:Int),0):=by
  intro ρ p b hb hp
  subst hb
  have h2:=hp.froz (zam s p.2)
  have e:(if (zac s p.2).2.fail=0 ∧ ¬ (zac s p.2).1.1=1 then zay (zac s p.2).2 (zac s p.2).1.2.2 140 else (zac s p.2).2)=(zac s p.2).2:=if_neg (fun h => h2.1 h.1)
  rw [e,if_pos h2.1]
  exact h2.2
 rcases h1 with h1 | ⟨f1,c1,a1,p1,q1,_,_⟩
 ·exact bad a.2 _ _ rfl (h1.froz (zdc _ _ _ _ _))
 have h0:(0:Int) ≤ a.2.pos:=p1
 have h2:=zdO s 65 0 rfl (by omega) a.2 a.1 ms0 R f1 h0 q1 rfl (by rw [c1]; rfl) rfl a1
 dsimp only at h2
 generalize zao s 65 a.2 a.1 0=v at h2 ⊢
 rcases h2 with h2 | ⟨f2,p2,q2,m2⟩
 ·exact bad a.2 v _ rfl h2
 simp only [ms0,zc8] at m2
 have h3:=zbD m2 (by simp) f2 (by omega)
 have hb:=bad a.2 v (zac s v.2) rfl
 generalize zac s v.2=b at h3 hb ⊢
 rcases h3 with h3 | ⟨f3,c3,a3,p3,q3,r3,e3⟩
 ·have e:(if b.2.fail=0 ∧ ¬ b.1.1=1 then zay b.2 b.1.2.2 140 else b.2)=b.2:=if_neg (fun h => h3.1 h.1)
  rw [e,if_pos h3.1]
  exact h3.2
 by_cases c1:b.1.1=1
 ·have e:zaC ⟨6,[],v.2.nodes,v.1⟩ b.1=(0,⟨7,[],v.2.nodes,v.1⟩):=by simp [zaC,c1]
  have m3:=zeP a3 e
  have e2:(if b.2.fail=0 ∧ ¬ b.1.1=1 then zay b.2 b.1.2.2 140 else b.2)=b.2:=if_neg (fun h => h.2 c1)
  rw [e2,if_neg (fun h => h f3),← e3 c1]
  cases m3 with
  | fin _ => rfl
  | tok g _ => exact absurd rfl g
  | bad g _ _ => exact absurd rfl g
  | step g _ _ _ => exact absurd rfl g
 ·have e:zaC ⟨6,[],v.2.nodes,v.1⟩ b.1=(140,⟨6,[],v.2.nodes,v.1⟩):=by simp [zaC,c1]
  have hR:=zcY a3 e (by decide)
  have e2:(if b.2.fail=0 ∧ ¬ b.1.1=1 then zay b.2 b.1.2.2 140 else b.2)=⟨b.2.pos,b.2.nodes,140,b.1.2.2⟩:=by
   rw [if_pos ⟨f3,c1⟩]; unfold zay; rw [if_pos f3]
  rw [e2,if_pos (by simp)]
  exact hR
end
end Go.Proofs.YthmdohgkmdkeeaaGreatDoor
namespace Go.Proofs.YthmdohgkmdkeeaaGreatDoor
open Go.RowKit Sx
section
attribute [local irreducible] run
structure GB (s:List UInt8) (ρ:Rs):Prop where
 p0:0 ≤ ρ.pos
 p1:ρ.pos ≤ s.length
 n0:ρ.fail=0 → (ρ.nodes:Int) ≤ ρ.pos
 n1:(ρ.nodes:Int) ≤ s.length + 1
def GT (ρ:Rs) (t:Tk):Prop:=ρ.fail=0 → t.1=1 ∨ (ρ.nodes:Int) + 1 ≤ ρ.pos
theorem zdi {s:List UInt8} {ρ:Rs} (h:GB s ρ) (a e:Int) (he:¬ e=0):GB s (zay ρ a e):=by
 unfold zay
 split
 ·exact ⟨h.p0,h.p1,fun h' => absurd h' he,h.n1⟩
 ·exact h
theorem za9 {s:List UInt8} {ρ:Rs} (h:GB s ρ):GB s (zac s ρ).2 ∧ GT (zac s ρ).2 (zac s ρ).1:=by
 unfold zac
 by_cases c1:ρ.fail=0
 ·rw [if_neg (fun h => h c1)]
  by_cases c2:(zaA s ρ.pos).2.2=0
  ·rw [if_neg (fun h => h c2)]
   obtain ⟨n1,n2,n3,n4⟩:=zli h.p0 c2
   have hn:=h.n0 c1
   refine ⟨⟨by have:=h.p0; show 0 ≤ (zaA s ρ.pos).2.1; omega,n2,fun _ => by show (ρ.nodes:Int) ≤ (zaA s ρ.pos).2.1; omega,h.n1⟩,fun _ => ?_⟩
   by_cases c3:(zaA s ρ.pos).1.1=1
   ·exact .inl c3
   ·have:=n3 c3
    exact .inr (by show (ρ.nodes:Int) + 1 ≤ (zaA s ρ.pos).2.1; omega)
  ·rw [if_pos c2]
   refine ⟨zdi h _ _ c2,fun hf => ?_⟩
   exfalso
   unfold zay at hf
   rw [if_pos c1] at hf
   exact c2 hf
 ·rw [if_pos c1]
  exact ⟨h,fun hf => absurd hf c1⟩
theorem zdW {s:List UInt8} {ρ:Rs} (h:GB s ρ) (t:Tk) (c:UInt8):GB s (zaF ρ t c):=by
 unfold zaF
 split
 ·exact zdi h _ _ (by decide)
 ·exact h
theorem gb_key {s:List UInt8} {ρ:Rs} (h:GB s ρ) (t:Tk) (ks:List (List UInt8)):GB s (ze5 ρ t ks):=by
 unfold ze5
 have h1:GB s (if ¬ t.1=3 then zay ρ t.2.2 140 else ρ):=by
  split
  ·exact zdi h _ _ (by decide)
  ·exact h
 dsimp only
 split
 ·exact zdi h1 _ _ (by decide)
 ·exact h1
def GV (s:List UInt8) (val:Rs → Tk → JV × Rs):Prop:=∀ ρ t,GB s ρ → GT ρ t → GB s (val ρ t).2
theorem zlZ {s:List UInt8} {val:Rs → Tk → JV × Rs} (hv:GV s val):∀ (n:Nat) (ρ:Rs) (t:Tk) (acc:List JV),GB s ρ → GT ρ t → GB s (zbq s val n ρ t acc).2
 | 0,ρ,t,acc,h,_ => h
 | n + 1,ρ,t,acc,h,ht => by
  rw [zbq]
  split
  ·exact h
  dsimp only
  have h1:=hv ρ t h ht
  generalize val ρ t=a at h1 ⊢
  have h2:=(za9 h1).1
  generalize zac s a.2=b at h2 ⊢
  split
  ·exact h2
  ·obtain ⟨h3,h4⟩:=za9 (zdW h2 b.1 44)
   exact zlZ hv n _ _ _ h3 h4
theorem zlY {s:List UInt8} {val:Rs → Tk → JV × Rs} (hv:GV s val):∀ (n:Nat) (ρ:Rs) (t:Tk) (ks:List (List UInt8)) (its:List JV),GB s ρ → GB s (za5 s val n ρ t ks its).2
 | 0,ρ,t,ks,its,h => h
 | n + 1,ρ,t,ks,its,h => by
  rw [za5]
  split
  ·exact h
  dsimp only
  have h1:=(za9 (gb_key h t ks)).1
  generalize zac s (ze5 ρ t ks)=a at h1 ⊢
  obtain ⟨h2,h2'⟩:=za9 (zdW h1 a.1 58)
  generalize zac s (zaF a.2 a.1 58)=b at h2 h2' ⊢
  have h3:=hv _ _ h2 h2'
  generalize val b.2 b.1=v at h3 ⊢
  have h4:=(za9 h3).1
  generalize zac s v.2=c at h4 ⊢
  split
  ·exact h4
  ·have h5:=(za9 (zdW h4 c.1 44)).1
   exact zlY hv n _ _ _ _ h5
theorem ziL {s:List UInt8} {ρ:Rs} {t:Tk} (h:GB s ρ) (ht:GT ρ t) (h1:¬ t.1=1) (hf:ρ.fail=0):GB s (zaK ρ t):=by
 have hn:=(ht hf).resolve_left h1
 have hp1:=h.p1
 unfold zaK
 dsimp only
 have h2:∃ fa wa,(if t.1=4 ∧ ¬ (zbo t.2.1).1=0 then zay ρ t.2.2 (zbo t.2.1).1 else ρ)=⟨ρ.pos,ρ.nodes,fa,wa⟩:=by
  split
  ·unfold zay; rw [if_pos hf]; exact ⟨_,_,rfl⟩
  ·exact ⟨_,_,rfl⟩
 obtain ⟨fa,wa,h2⟩:=h2
 rw [h2]
 have h3:∀ f w,GB s ⟨ρ.pos,ρ.nodes + 1,f,w⟩:=fun f w => ⟨h.p0,h.p1,fun _ => by show ((ρ.nodes + 1:Nat):Int) ≤ ρ.pos; omega,by show ((ρ.nodes + 1:Nat):Int) ≤ _; omega⟩
 split
 ·exact zdi (h3 _ _) _ _ (by decide)
 ·exact h3 _ _
theorem gb_arr {s:List UInt8} {val:Rs → Tk → JV × Rs} (hv:GV s val) {ρ:Rs} (h:GB s ρ):GB s (zdq s val ρ).2:=by
 unfold zdq
 dsimp only
 obtain ⟨h1,h2⟩:=za9 h
 split
 ·exact h1
 ·exact zlZ hv _ _ _ _ h1 h2
theorem gb_obj {s:List UInt8} {val:Rs → Tk → JV × Rs} (hv:GV s val) {ρ:Rs} (h:GB s ρ):GB s (zdv s val ρ).2:=by
 unfold zdv
 dsimp only
 have h1:=(za9 h).1
 split
 ·exact h1
 ·exact zlY hv _ _ _ _ _ h1
theorem vk_end {t:Tk} (h:¬ vkE t=0):¬ t.1=1:=by
 intro h1
 apply h
 have e1:∀ c,isP t c=false:=fun c => by simp [isP,h1]
 simp [vkE,h1,e1]
theorem zeh (s:List UInt8):∀ (f:Nat) (d:Nat),GV s (fun ρ t => zao s f ρ t d)
 | 0,d => fun ρ t h _ => h
 | f + 1,d => fun ρ t h ht => by
  dsimp only
  rw [zao]
  by_cases c0:ρ.fail=0
  ·rw [if_neg (fun h => h c0)]
   split
   ·exact zdi h _ _ (by decide)
   rename_i c1
   have hc:=ziL h ht (vk_end c1) c0
   split
   ·exact zdi h _ _ (by decide)
   split
   ·exact hc
   split
   ·exact gb_arr (zeh s f (d + 1)) hc
   split
   ·exact gb_obj (zeh s f (d + 1)) hc
   split
   ·exact hc
   ·exact hc
  ·rw [if_pos c0]; exact h
end
end Go.Proofs.YthmdohgkmdkeeaaGreatDoor
namespace Go.Proofs.YthmdohgkmdkeeaaGreatDoor.Sx
open Go.RowKit
def zbw (b gen n:Nat) (xs:List AV):AV → AV
 | .orow b' g' => if b'=b ∧ g'=gen then .row n xs else .orow b' g'
 | x => x
def zen (b gen n:Nat) (xs:List AV):OB → OB
 | .box T cs => .box T (cs.map (zbw b gen n xs))
 | x => x
def zkV (objs:List OB) (b gen n:Nat) (xs:List AV):List OB:=(objs.map (zen b gen n xs)).set b .dead
def zgD (G:Gh) (b gen:Nat):Gh:=⟨G.blk,fun x => if x=b then some (gen + 1,.slice none 0 0) else G.cur x⟩
theorem zfG {G:Gh} {b gen:Nat} {v:Value} (h:G.cur b=some (gen,v)):G.le (zgD G b gen) where
 blk:=fun _ _ h => h
 cur:=fun x n w hx => by
  by_cases hb:x=b
  ·subst hb
   rw [h] at hx; injection hx with hx; injection hx with h1 h2
   exact ⟨gen + 1,.slice none 0 0,by simp [zgD],.inr (by omega)⟩
  ·exact ⟨n,w,by simp [zgD,hb,hx],.inl ⟨rfl,rfl⟩⟩
theorem zdz {G:Gh} {b gen:Nat} (hb:G.blk b=none) {x g:Nat} (h:(zgD G b gen).own x=some g):x ≠ b ∧ G.own x=some g:=by
 by_cases hx:x=b
 ·subst hx
  exfalso
  unfold Gh.own zgD at h
  simp only [hb] at h
  simp [Value.ownBlock] at h
 ·refine ⟨hx,?_⟩
  unfold Gh.own zgD at h
  simp only [if_neg hx] at h
  exact h
def zjO (I:Imm) (G:Gh) (b:Nat) (w:World):Imm:=fun g o v => I g o v ∨ (w.cell? ⟨g,o,none⟩=some v ∧ G.own b=some g)
theorem zmo {G:Gh} {I:Imm} {objs:List OB} {w:World} (hm:MemOk G I objs w) {b E sz gen n:Nat} {xs:List AV} (hb:objs[b]? = some (.orow E sz gen n xs)) (x:AV) (y:Value) (h:Den G I x y):Den (zgD G b gen) (zjO I G b w) (zbw b gen n xs x) y:=by
 obtain ⟨v',vs,m1,m2,m3,m4,m5⟩:=hm.row b E sz gen n xs hb
 have hG:=zfG m1
 have hI:Imm.le I (zjO I G b w):=fun _ _ _ h => .inl h
 have other:zbw b gen n xs x=x → Den (zgD G b gen) (zjO I G b w) (zbw b gen n xs x) y:=fun e => by rw [e]; exact Den.mono hG hI x y h
 cases x with
 | orow b' g' =>
  by_cases hh:b'=b ∧ g'=gen
  ·obtain ⟨rfl,rfl⟩:=hh
   have e:zbw b' g' n xs (.orow b' g')=.row n xs:=by simp [zbw]
   rw [e]
   simp only [Den] at h ⊢
   obtain ⟨g0,v,k1,k2,k3,_⟩:=h
   rw [k1] at m1; injection m1 with m1; injection m1 with m1 m6
   have hv:=k3 m1.symm
   subst m1 m6 hv
   have hown:=zbl m5 k1
   have q1:=zag.mono hG hI xs vs m3
   rcases m2.2 with ⟨rfl,rfl⟩ | ⟨g,cap,cur,rfl,hx1,hx2,hx3,hx4⟩
   ·have hvs:vs=[]:=List.eq_nil_of_length_eq_zero (by simpa using m2.1)
    subst hvs
    exact ⟨none,0,[],rfl,⟨Nat.le_refl _,by intro _ e; cases e⟩,q1,by simp,by simp⟩
   ·refine ⟨some ⟨g,0,none⟩,cap,vs,rfl,⟨hx3,by rintro _ ⟨⟩ _; rfl⟩,q1,m4,fun j u hj => ⟨g,0,rfl,.inr ⟨?_,hown⟩⟩⟩
    have:=m2.cells (g:=g) rfl j u hj
    rwa [zaD] at this
  ·exact other (by simp only [zbw,if_neg hh])
 | _ => exact other rfl
theorem zf0 {G:Gh} {I:Imm} {objs:List OB} {w:World} (hm:MemOk G I objs w) {b E sz gen n:Nat} {xs:List AV} (hb:objs[b]? = some (.orow E sz gen n xs)):∀ (l:List AV) (ys:List Value),zag G I l ys → zag (zgD G b gen) (zjO I G b w) (l.map (zbw b gen n xs)) ys
 | [],ys,h => by simpa [zag] using h
 | x :: l,ys,h => by
  simp only [zag] at h
  obtain ⟨y,ys',rfl,h1,h2⟩:=h
  exact zag.cons (zmo hm hb x y h1) (zf0 hm hb l ys' h2)
theorem zlk {P:Program} [Tabs P] {C:Cx} {G:Gh} {I:Imm} {w:World} {objs:List OB} {b E sz gen n:Nat} {xs:List AV} (hb:objs[b]? = some (.orow E sz gen n xs)) (hin:In C G I w) (hm:MemOk G I objs w) :
  In C (zgD G b gen) (zjO I G b w) w ∧ MemOk (zgD G b gen) (zjO I G b w) (zkV objs b gen n xs) w:=by
 obtain ⟨v',vs,m1,m2,m3,m4,m5⟩:=hm.row b E sz gen n xs hb
 have hlt:b < objs.length:=by
  by_cases h:b < objs.length
  ·exact h
  ·rw [List.getElem?_eq_none (by omega)] at hb; cases hb
 have hG:=zfG m1
 have hI:Imm.le I (zjO I G b w):=fun _ _ _ h => .inl h
 have hin':In C (zgD G b gen) (zjO I G b w) w:={
  os:=hin.os,tape:=hin.tape,output:=hin.output,size:=hin.size,block:=hin.block
  imm:=fun g o v h => .inl (hin.imm g o v h)
  news:=fun g o v h => by
   rcases h with h | ⟨_,h⟩
   ·exact hin.news g o v h
   ·exact .inr (hin.blk b g h)
  blk:=fun x g h => hin.blk x g (zdz m5 h).2
  gh:=hin.gh.trans hG }
 have hat:∀ x o,(zkV objs b gen n xs)[x]? = some o → o=.dead ∨ (x ≠ b ∧ ∃ o',objs[x]? = some o' ∧ zen b gen n xs o'=o):=by
  intro x o h
  unfold zkV at h
  by_cases hx:x=b
  ·subst hx
   rw [List.getElem?_set_self (by simpa using hlt)] at h
   injection h with h; exact .inl h.symm
  ·rw [List.getElem?_set_ne (Ne.symm hx),List.getElem?_map] at h
   obtain ⟨o',h1,h2⟩:=Option.map_eq_some_iff.1 h
   exact .inr ⟨hx,o',h1,h2⟩
 have hm':MemOk (zgD G b gen) (zjO I G b w) (zkV objs b gen n xs) w:={
  imm:=fun g o v h => by
   rcases h with h | ⟨h,_⟩
   ·exact hm.imm g o v h
   ·exact h
  box:=fun x T cs h => by
   rcases hat x _ h with h | ⟨hx,o',h1,h2⟩
   ·cases h
   ·cases o' with
    | box T' cs' =>
     injection h2 with e1 e2
     subst e1 e2
     obtain ⟨g,ys,k1,k2,k3,k4⟩:=hm.box x _ _ h1
     exact ⟨g,ys,k1,k2,zf0 hm hb _ _ k3,k4⟩
    | orow => cases h2
    | mp => cases h2
    | dead => cases h2
  row:=fun x E' sz' gen' n' xs' h => by
   rcases hat x _ h with h | ⟨hx,o',h1,h2⟩
   ·cases h
   ·cases o' with
    | box T' cs' => cases h2
    | orow =>
     injection h2 with e1 e2 e3 e4 e5
     subst e1 e2 e3 e4 e5
     obtain ⟨v,ys,k1,k2,k3,k4,k5⟩:=hm.row x _ _ _ _ _ h1
     exact ⟨v,ys,by simp [zgD,hx,k1],k2,zag.mono hG hI _ _ k3,k4,k5⟩
    | mp => cases h2
    | dead => cases h2
  map:=fun x es h => by
   rcases hat x _ h with h | ⟨hx,o',h1,h2⟩
   ·cases h
   ·cases o' with
    | box T' cs' => cases h2
    | orow => cases h2
    | mp =>
     injection h2 with e1
     subst e1
     obtain ⟨g,en,ck,k1,k2,k3⟩:=hm.map x _ h1
     exact ⟨g,en,ck,k1,k2,k3.mono hG hI⟩
    | dead => cases h2
  inj:=fun x x' g h h' => hm.inj x x' g (zdz m5 h).2 (zdz m5 h').2
  lt:=fun x g h => hm.lt x g (zdz m5 h).2
  apart:=fun x g o v h h' => by
   obtain ⟨hx,h1⟩:=zdz m5 h
   rcases h' with h' | ⟨_,h'⟩
   ·exact hm.apart x g o v h1 h'
   ·exact hx (hm.inj x b g h1 h')
  fresh:=fun x hx => by
   have hx':objs.length ≤ x:=by simpa [zkV] using hx
   obtain ⟨k1,k2⟩:=hm.fresh x hx'
   exact ⟨k1,by simp [zgD,k2]; omega⟩ }
 exact ⟨hin',hm'⟩
end Go.Proofs.YthmdohgkmdkeeaaGreatDoor.Sx
namespace Go.Proofs.YthmdohgkmdkeeaaGreatDoor.Sx
open Go.RowKit
section
variable {P:Program} [Tabs P] {C:Cx} [On P C] {F:zaO} {objs:List OB} {tm:List AV}
end
section
variable {P:Program} [Tabs P]
end
end Go.Proofs.YthmdohgkmdkeeaaGreatDoor.Sx
namespace Go.Proofs.YthmdohgkmdkeeaaGreatDoor
open Go.RowKit Sx
section
variable [Tabs Tryz.prog] {objs:List OB} {K:List OB → AV → Prop}
end
end Go.Proofs.YthmdohgkmdkeeaaGreatDoor
