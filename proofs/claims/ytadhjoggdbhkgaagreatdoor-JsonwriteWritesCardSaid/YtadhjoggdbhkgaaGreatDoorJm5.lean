/- The texts that the proofs of these statements reach, in their order, as few files. -/
import Derived.Lib.IndexAny
import Derived.Shelf.Strings.IndexAnyAll
import Derived.Lib.OthersKept
import Derived.ProofKit
import Derived.OpenShut
import Derived.ShutString
import Derived.Carry
import Derived.WideKeyArgs
import Derived.SizedLaws
import Derived.Test.YtadhjoggdbhkgaaGreatDoorJm4
set_option linter.unusedVariables false
set_option linter.unusedSimpArgs false
set_option maxRecDepth 100000
namespace Go.Proofs.YtadhjoggdbhkgaaGreatDoor
open Go.RowKit
def ze9 (c:UInt8):Nat:=if c.toNat < 128 then 1 else if c.toNat < 192 then 0 else if c.toNat < 224 then 2 else if c.toNat < 240 then 3 else if c.toNat < 248 then 4 else 0
theorem zkI:∀ n:Fin 256,lensT.getD (n.val / 8) 0=(ze9 (UInt8.ofNat n.val):Int):=by decide +kernel
theorem zjn (c:UInt8):lensT.getD (c.toNat / 8) 0=(ze9 c:Int):=by
 have:=zkI ⟨c.toNat,c.toNat_lt⟩
 simp only at this
 rw [this]; congr 2; exact UInt8.ofNat_toNat
def zby (c:UInt8) (n:Nat):Nat:=if n=1 then c.toNat else if n=2 then c.toNat % 32 else if n=3 then c.toNat % 16 else c.toNat % 8
def zn4:List UInt8 → Nat → Option Nat
 | [],r => some r
 | c :: t,r => if zcJ c=true then zn4 t (r * 64 + (c.toNat - 128)) else none
def endU (n r:Nat):Option (Nat × Nat):=if mostT.getD (n - 1) 0 < (r:Int) ∧ cpB (r:Int)=true then some (r,n) else none
def zdw (n:Nat) (t:List UInt8) (r:Nat):Option (Nat × Nat):=match zn4 t r with | none => none | some r => endU n r
theorem zcN (n r:Nat):zdw n [] r=endU n r:=rfl
theorem zbo (n r:Nat) (c:UInt8) (t:List UInt8):zdw n (c :: t) r=if zcJ c=true then zdw n t (r * 64 + (c.toNat - 128)) else none:=by
 unfold zdw
 rw [zn4]
 by_cases h:zcJ c=true
 ·rw [if_pos h,if_pos h]
 ·rw [if_neg h,if_neg h]
theorem zgh {n r:Nat} {p:Prop} [Decidable p] (h:(mostT.getD (n - 1) 0 < (r:Int) ∧ cpB (r:Int)=true) ↔ p):endU n r=if p then some (r,n) else none:=by
 unfold endU
 by_cases hp:p
 ·rw [if_pos hp,if_pos (h.2 hp)]
 ·rw [if_neg hp,if_neg (fun e => hp (h.1 e))]
theorem zkN {c:UInt8} {t:List UInt8} (h:ze9 c=0 ∨ t.length + 1 < ze9 c):zb3 (c :: t)=none:=by
 unfold ze9 at h
 rw [zb3]
 by_cases h1:c.toNat < 128
 ·rw [if_pos h1] at h; omega
 rw [if_neg h1] at h ⊢
 by_cases h2:c.toNat < 192
 ·rw [if_pos h2]
 rw [if_neg h2] at h ⊢
 by_cases h3:c.toNat < 224
 ·rw [if_pos h3] at h ⊢
  rcases t with _ | ⟨a,t⟩
  ·rfl
  ·simp at h; omega
 rw [if_neg h3] at h ⊢
 by_cases h4:c.toNat < 240
 ·rw [if_pos h4] at h ⊢
  rcases t with _ | ⟨a,_ | ⟨b,t⟩⟩
  ·rfl
  ·rfl
  ·simp at h; omega
 rw [if_neg h4] at h ⊢
 by_cases h5:c.toNat < 248
 ·rw [if_pos h5] at h ⊢
  rcases t with _ | ⟨a,_ | ⟨b,_ | ⟨d,t⟩⟩⟩
  ·rfl
  ·rfl
  ·rfl
  ·simp at h; omega
 ·rw [if_neg h5]
theorem zcc (c:UInt8):zcJ c=true ↔ 128 ≤ c.toNat ∧ c.toNat < 192:=by unfold zcJ; exact decide_eq_true_iff
theorem zj6 {r:Nat} (h:r < 55296):cpB (r:Int)=true:=decide_eq_true (by omega)
theorem zn2 {c:UInt8} {t:List UInt8} (h0:ze9 c ≠ 0) (h:ze9 c ≤ t.length + 1):zb3 (c :: t)=zdw (ze9 c) (t.take (ze9 c - 1)) (zby c (ze9 c)):=by
 have hc:=c.toNat_lt
 unfold ze9 at h0 h ⊢
 rw [zb3]
 by_cases h1:c.toNat < 128
 ·rw [if_pos h1] at h0 h ⊢
  rw [if_pos h1,Nat.sub_self,List.take_zero,zcN,zgh (p:=True)]
  ·rw [if_pos trivial]; rfl
  ·simp only [iff_true]
   exact ⟨by show (-1:Int) < _; omega,zj6 (by unfold zby; rw [if_pos rfl]; omega)⟩
 rw [if_neg h1] at h0 h ⊢
 rw [if_neg h1]
 by_cases h2:c.toNat < 192
 ·rw [if_pos h2] at h0; exact absurd rfl h0
 rw [if_neg h2] at h0 h ⊢
 rw [if_neg h2]
 by_cases h3:c.toNat < 224
 ·rw [if_pos h3] at h0 h ⊢
  rw [if_pos h3]
  rcases t with _ | ⟨a,t⟩
  ·simp at h
  show dec2 c (a :: t)=zdw 2 [a] (zby c 2)
  rw [dec2,zbo,zcN]
  have e:zby c 2=c.toNat - 192:=by unfold zby; rw [if_neg (by decide),if_pos rfl]; omega
  by_cases ha:zcJ a=true
  ·have ha':=(zcc a).1 ha
   rw [if_pos ha,e,zgh (p:=128 ≤ r2 c a)]
   ·by_cases hr:128 ≤ r2 c a
    ·rw [if_pos ⟨ha,hr⟩,if_pos hr]; rfl
    ·rw [if_neg (fun x => hr x.2),if_neg hr]
   ·show ((127:Int) < _ ∧ _) ↔ _
    unfold r2
    constructor
    ·intro x; have:=x.1; omega
    ·intro x; exact ⟨by omega,zj6 (by omega)⟩
  ·rw [if_neg ha,if_neg (fun x => ha x.1)]
 rw [if_neg h3] at h0 h ⊢
 rw [if_neg h3]
 by_cases h4:c.toNat < 240
 ·rw [if_pos h4] at h0 h ⊢
  rw [if_pos h4]
  rcases t with _ | ⟨a,_ | ⟨b,t⟩⟩
  ·simp at h
  ·simp at h
  show dec3 c (a :: b :: t)=zdw 3 [a,b] (zby c 3)
  rw [dec3,zbo,zbo,zcN]
  have e:zby c 3=c.toNat - 224:=by unfold zby; rw [if_neg (by decide),if_neg (by decide),if_pos rfl]; omega
  by_cases ha:zcJ a=true
  ·by_cases hb:zcJ b=true
   ·have ha':=(zcc a).1 ha
    have hb':=(zcc b).1 hb
    have er:((c.toNat - 224) * 64 + (a.toNat - 128)) * 64 + (b.toNat - 128)=r3 c a b:=by unfold r3; omega
    rw [if_pos ha,if_pos hb,e,er,zgh (p:=2048 ≤ r3 c a b ∧ cpB (r3 c a b:Int)=true)]
    ·by_cases hr:2048 ≤ r3 c a b ∧ cpB (r3 c a b:Int)=true
     ·rw [if_pos ⟨ha,hb,hr⟩,if_pos hr]
     ·rw [if_neg (fun x => hr x.2.2),if_neg hr]
    ·show ((2047:Int) < _ ∧ _) ↔ _
     constructor
     ·intro x; exact ⟨by omega,x.2⟩
     ·intro x; exact ⟨by omega,x.2⟩
   ·rw [if_pos ha,if_neg hb,if_neg (fun x => hb x.2.1)]
  ·rw [if_neg ha,if_neg (fun x => ha x.1)]
 rw [if_neg h4] at h0 h ⊢
 rw [if_neg h4]
 by_cases h5:c.toNat < 248
 ·rw [if_pos h5] at h0 h ⊢
  rw [if_pos h5]
  rcases t with _ | ⟨a,_ | ⟨b,_ | ⟨d,t⟩⟩⟩
  ·simp at h
  ·simp at h
  ·simp at h
  show dec4 c (a :: b :: d :: t)=zdw 4 [a,b,d] (zby c 4)
  rw [dec4,zbo,zbo,zbo,zcN]
  have e:zby c 4=c.toNat - 240:=by unfold zby; rw [if_neg (by decide),if_neg (by decide),if_neg (by decide)]; omega
  by_cases ha:zcJ a=true
  ·by_cases hb:zcJ b=true
   ·by_cases hd:zcJ d=true
    ·have ha':=(zcc a).1 ha
     have hb':=(zcc b).1 hb
     have hd':=(zcc d).1 hd
     have er:(((c.toNat - 240) * 64 + (a.toNat - 128)) * 64 + (b.toNat - 128)) * 64 + (d.toNat - 128)=r4 c a b d:=by unfold r4; omega
     rw [if_pos ha,if_pos hb,if_pos hd,e,er,zgh (p:=65536 ≤ r4 c a b d ∧ r4 c a b d ≤ 1114111)]
     ·by_cases hr:65536 ≤ r4 c a b d ∧ r4 c a b d ≤ 1114111
      ·rw [if_pos ⟨ha,hb,hd,hr⟩,if_pos hr]
      ·rw [if_neg (fun x => hr x.2.2.2),if_neg hr]
     ·show ((65535:Int) < _ ∧ _) ↔ _
      constructor
      ·intro x
       have:=of_decide_eq_true x.2
       exact ⟨by omega,by omega⟩
      ·intro x; exact ⟨by omega,decide_eq_true (by omega)⟩
    ·rw [if_pos ha,if_pos hb,if_neg hd,if_neg (fun x => hd x.2.2.1)]
   ·rw [if_pos ha,if_neg hb,if_neg (fun x => hb x.2.1)]
  ·rw [if_neg ha,if_neg (fun x => ha x.1)]
 ·rw [if_neg h5] at h0; exact absurd rfl h0
theorem and31 (a:Nat):a &&& 31=a % 32:=Nat.and_two_pow_sub_one_eq_mod a 5
theorem and15 (a:Nat):a &&& 15=a % 16:=Nat.and_two_pow_sub_one_eq_mod a 4
theorem and7 (a:Nat):a &&& 7=a % 8:=Nat.and_two_pow_sub_one_eq_mod a 3
theorem zge (c:UInt8) (n:Nat) (h1:1 ≤ n) (h2:n ≤ 4) (w:World) :
  Calls Tryz.prog 126 #[.int .u8 c.toNat,.int .i64 n] w fun e w' => e=.returned (.int .i64 (zby c n)) ∧ w=w':=by
 have hc:=c.toNat_lt
 have a1:bits .and .i64 (c.toNat:Int) 31=((c.toNat % 32:Nat):Int):=by rw [← and31]; exact zbm c.toNat 31 (by omega) (by omega)
 have a2:bits .and .i64 (c.toNat:Int) 15=((c.toNat % 16:Nat):Int):=by rw [← and15]; exact zbm c.toNat 15 (by omega) (by omega)
 have a3:bits .and .i64 (c.toNat:Int) 7=((c.toNat % 8:Nat):Int):=by rw [← and7]; exact zbm c.toNat 7 (by omega) (by omega)
 have H:=Lib.hid (And.intro a1 (And.intro a2 a3))
 clear a1 a2 a3
 have hn:n=1 ∨ n=2 ∨ n=3 ∨ n=4:=by omega
 rcases hn with rfl | rfl | rfl | rfl
 ·go_enter Tryz.func126,Tryz.ntmps126
  go_wp2
  go_ret
  exact ⟨rfl,rfl⟩
 ·go_enter Tryz.func126,Tryz.ntmps126
  go_wp2
  go_ret
  exact ⟨za6 (by rw [H.out.1]; rfl),rfl⟩
 ·go_enter Tryz.func126,Tryz.ntmps126
  go_wp2
  go_ret
  exact ⟨za6 (by rw [H.out.2.1]; rfl),rfl⟩
 ·go_enter Tryz.func126,Tryz.ntmps126
  go_wp2
  go_ret
  exact ⟨za6 (by rw [H.out.2.2]; rfl),rfl⟩
def zb0 (l:List UInt8) (at_:Int):Int × Int × Int :=
 if at_ < 0 ∨ (l.length:Int) ≤ at_ then (0,0,4) else match zb3 (l.drop at_.toNat) with
  | none => (0,0,7)
  | some (r,n) => ((r:Int),at_ + n,0)
def triV (x:Int × Int × Int):Value:=.tuple #[.int .i64 x.1,.int .i64 x.2.1,.int .i64 x.2.2]
theorem zfE {l:List UInt8} {a:Int} (h:a < 0 ∨ (l.length:Int) ≤ a):zb0 l a=(0,0,4):=if_pos h
theorem za9 {l:List UInt8} {k:Nat} (h:k < l.length) (hd:zb3 (l.drop k)=none):zb0 l k=(0,0,7):=by
 unfold zb0; rw [if_neg (by omega),Int.toNat_natCast,hd]
theorem zcE {l:List UInt8} {k r n:Nat} (h:k < l.length) (hd:zb3 (l.drop k)=some (r,n)):zb0 l k=((r:Int),(k:Int) + n,0):=by
 unfold zb0; rw [if_neg (by omega),Int.toNat_natCast,hd]
theorem zkZ (s:ByteArray) (a:Int) (w:World) (h:a < 0 ∨ (s.size:Int) ≤ a) :
  Calls Tryz.prog 101 #[.string s,.int .i64 a] w fun e w' => e=.returned (triV (zb0 s.data.toList a)) ∧ Qb w w':=by
 rw [zfE (by rw [zad]; exact h)]
 rcases h with h | h
 ·go_enter Tryz.func101,Tryz.ntmps101
  go_wp2_with fail
  go_ret3
  exact ⟨rfl,Qb.refl _⟩
 ·by_cases h0:a < 0
  ·go_enter Tryz.func101,Tryz.ntmps101
   go_wp2_with fail
   go_ret3
   exact ⟨rfl,Qb.refl _⟩
  ·go_enter Tryz.func101,Tryz.ntmps101
   go_wp2_with fail
   go_ret3
   exact ⟨rfl,Qb.refl _⟩
theorem zhO (s:ByteArray) (k:Nat) (w:World) (hs:s.size ≤ 140737488351232) (hk:k < s.size) (hT:UTabs w) (h:ze9 s[k]=0 ∨ s.size - k < ze9 s[k]) :
  Calls Tryz.prog 101 #[.string s,.int .i64 k] w fun e w' => e=.returned (triV (zb0 s.data.toList k)) ∧ Qb w w':=by
 have hd:zb3 (s.data.toList.drop k)=none:=by
  rw [zbw s k hk]
  exact zkN (by rw [List.length_drop,zad]; omega)
 rw [za9 (by rw [zad]; exact hk) hd]
 have hc:=s[k].toNat_lt
 have hcell:w.cell? ⟨0,s[k].toNat / 8,none⟩=some (.int .i64 (ze9 s[k])):=by rw [← zjn]; exact hT.lens _ (by omega)
 clear hT hd
 by_cases h0:ze9 s[k]=0
 ·rw [h0] at hcell
  clear h
  have hi:(s[k].toNat:Int) / 8 < 32:=by omega
  go_enter Tryz.func101,Tryz.ntmps101
  go_wp2_with fail
  go_ret3
  exact ⟨rfl,Qb.refl _⟩
 ·have h1:s.size - k < ze9 s[k]:=by omega
  clear h
  generalize ze9 s[k]=n at *
  have h2:((n:Int) == 0)=false:=by rw [beq_eq_false_iff_ne]; omega
  go_enter Tryz.func101,Tryz.ntmps101
  go_wp2_with fail
  go_ret3
  exact ⟨rfl,Qb.refl _⟩
theorem pow64 (i:Nat):256 * 64 ^ (i + 1)=64 * (256 * 64 ^ i):=by rw [Nat.pow_succ]; omega
theorem pow64_le {i:Nat} (h:i ≤ 3):256 * 64 ^ i ≤ 67108864:=by
 have:i=0 ∨ i=1 ∨ i=2 ∨ i=3:=by omega
 rcases this with rfl | rfl | rfl | rfl <;> decide
theorem zfc (s:ByteArray) (m i:Nat) (h:i < s.size) (hm:0 < m):(s.data.toList.drop i).take m=s[i] :: (s.data.toList.drop (i + 1)).take (m - 1):=by
 rw [zbw s i h,show m=(m - 1) + 1 from by omega,List.take_succ_cons,Nat.add_sub_cancel]
theorem zl2 {n r:Nat} {c:UInt8} {t:List UInt8} (h:zcJ c=false):zdw n (c :: t) r=none:=by rw [zbo,if_neg (by rw [h]; exact Bool.false_ne_true)]
theorem zkw {n r:Nat} {c:UInt8} {t:List UInt8} (h:zcJ c=true):zdw n (c :: t) r=zdw n t (r * 64 + c.toNat % 64):=by
 rw [zbo,if_pos h]
 have:=(zcc c).1 h
 rw [show c.toNat - 128=c.toNat % 64 from by omega]
theorem ziH (s:ByteArray) (k n:Nat) (w:World) (hs:s.size ≤ 140737488351232) (hk:k < s.size) (hT:UTabs w) (hn:ze9 s[k]=n) (h1:1 ≤ n) (h4:n ≤ 4) (hl:k + n ≤ s.size) :
  Calls Tryz.prog 101 #[.string s,.int .i64 k] w fun e w' => e=.returned (triV (zb0 s.data.toList k)) ∧ Qb w w':=by
 have hd:zb3 (s.data.toList.drop k)=zdw n ((s.data.toList.drop (k + 1)).take (n - 1)) (zby s[k] n):=by
  rw [zbw s k hk,← hn]
  exact zn2 (by omega) (by rw [List.length_drop,zad]; omega)
 have HD:=Lib.hid hd
 have hc:=s[k].toNat_lt
 have hcell:w.cell? ⟨0,s[k].toNat / 8,none⟩=some (.int .i64 n):=by rw [← hn,← zjn]; exact hT.lens _ (by omega)
 have hmost:w.cell? ⟨1,n - 1,none⟩=some (.int .i64 (mostT.getD (n - 1) 0)):=hT.most _ (by omega)
 have hf:zby s[k] n < 256:=by
  unfold zby; repeat' split
  all_goals omega
 clear hT hd hn
 have h2:((n:Int) == 0)=false:=by rw [beq_eq_false_iff_ne]; omega
 generalize hm:mostT.getD (n - 1) 0=mo at *
 have HM:=Lib.hid hm
 clear hm
 go_enter Tryz.func101,Tryz.ntmps101
 go_wp2_with (go_at_call 126; refine (zge _ n h1 h4 _).mono ?_; rintro e w1 ⟨rfl,rfl⟩)
 go_loop [8,9,10,42] (fun r _ _ x => ∃ i q:Nat,i + 1 ≤ n ∧ x=.int .i64 i ∧ r=.int .i64 q ∧ q < 256 * 64 ^ i ∧ Hid (zb3 (s.data.toList.drop k)=zdw n ((s.data.toList.drop (k + 1 + i)).take (n - 1 - i)) q)) (fun _ _ _ x => n - (intOf x).toNat)
 case atStart => exact ⟨0,zby s[k] n,by omega,rfl,rfl,by omega,HD⟩
 case round =>
  obtain ⟨i,q,hi,rfl,rfl,hq,HR⟩:=hrel
  have hp:=pow64_le (show i ≤ 3 by omega)
  have hq2:q < 67108864:=by omega
  by_cases hlt:i + 1 < n
  ·have hidx:k + 1 + i < s.size:=by omega
   have hcc:=s[k + 1 + i].toNat_lt
   have HS:=Lib.hid (zfc s (n - 1 - i) (k + 1 + i) hidx (by omega))
   have HP:=Lib.hid (pow64 i)
   have Hq:=Lib.hid hq
   clear hp hq
   rcases hco:zcJ s[k + 1 + i] with _ | _
   ·have hne:((s[k + 1 + i].toNat:Int) / 64 != 2)=true:=by
     rw [bne_iff_ne]
     intro e
     have:=of_decide_eq_false hco
     omega
    have HN:Hid (zb3 (s.data.toList.drop k)=none):=Lib.hid (by rw [HR.out,HS.out,zl2 hco])
    go_wp2_with fail
    go_ret3
    exact ⟨by rw [za9 (by rw [zad]; exact hk) HN.out]; rfl,Qb.refl _⟩
   ·have hne:((s[k + 1 + i].toNat:Int) / 64 != 2)=false:=by
     have:=(zcc _).1 hco
     rw [bne_eq_false_iff_eq]
     omega
    have hand:bits .and .u8 (s[k + 1 + i].toNat:Int) 63=((s[k + 1 + i].toNat % 64:Nat):Int):=u8and63 ⟨s[k + 1 + i].toNat,hcc⟩
    have hor:=or64 q (s[k + 1 + i].toNat % 64) (by omega) (by omega)
    have HN:Hid (zb3 (s.data.toList.drop k)=zdw n ((s.data.toList.drop (k + 1 + (i + 1))).take (n - 1 - (i + 1))) (q * 64 + s[k + 1 + i].toNat % 64)):=Lib.hid (by
     rw [HR.out,HS.out,zkw hco,show n - 1 - i - 1=n - 1 - (i + 1) from by omega]; rfl)
    have HO:Hid (bits .or .i64 ((q:Int) * 64) ((s[k + 1 + i].toNat:Int) % 64)=((q * 64 + s[k + 1 + i].toNat % 64:Nat):Int)):=Lib.hid hor
    clear hco hor
    go_wp2_with fail
    go_round
    case rel =>
     refine ⟨i + 1,q * 64 + s[k + 1 + i].toNat % 64,by omega,by go_num,by rw [HO.out],?_,HN⟩
     rw [HP.out]
     have:=Hq.out
     generalize 256 * 64 ^ i=P at *
     omega
    case measure => simp [intOf]; omega
  ·obtain rfl:i=n - 1:=by omega
   have HE:Hid (zb3 (s.data.toList.drop k)=endU n q):=Lib.hid (by rw [HR.out,Nat.sub_self,List.take_zero,zcN])
   clear hp hq
   by_cases hle:(q:Int) ≤ mo
   ·have HN:Hid (zb3 (s.data.toList.drop k)=none):=Lib.hid (by
     rw [HE.out]; unfold endU; rw [HM.out,if_neg (fun x => by omega)])
    go_wp2_with fail
    go_ret3
    exact ⟨by rw [za9 (by rw [zad]; exact hk) HN.out]; rfl,Qb.refl _⟩
   ·rcases hcp:cpB (q:Int) with _ | _
    ·have HN:Hid (zb3 (s.data.toList.drop k)=none):=Lib.hid (by
      rw [HE.out]; unfold endU; rw [hcp,if_neg (fun x => by cases x.2)])
     go_wp2_with (go_at_call 127; refine (zcU _ _).mono ?_; rintro e w1 ⟨rfl,rfl⟩)
     go_ret3
     exact ⟨by rw [za9 (by rw [zad]; exact hk) HN.out]; rfl,Qb.refl _⟩
    ·have HN:Hid (zb3 (s.data.toList.drop k)=some (q,n)):=Lib.hid (by
      rw [HE.out]; unfold endU; rw [HM.out,if_pos ⟨by omega,hcp⟩])
     go_wp2_with (go_at_call 127; refine (zcU _ _).mono ?_; rintro e w1 ⟨rfl,rfl⟩)
     go_ret3
     exact ⟨by rw [zcE (by rw [zad]; exact hk) HN.out]; rfl,Qb.refl _⟩
theorem zfJ (s:ByteArray) (a:Int) (w:World) (hs:s.size ≤ 140737488351232) (hT:UTabs w) :
  Calls Tryz.prog 101 #[.string s,.int .i64 a] w fun e w' => e=.returned (triV (zb0 s.data.toList a)) ∧ Qb w w':=by
 by_cases h:a < 0 ∨ (s.size:Int) ≤ a
 ·exact zkZ s a w h
 ·obtain ⟨k,rfl⟩:=Int.eq_ofNat_of_zero_le (show 0 ≤ a by omega)
  have hk:k < s.size:=by omega
  by_cases h2:ze9 s[k]=0 ∨ s.size - k < ze9 s[k]
  ·exact zhO s k w hs hk hT h2
  ·have h4:ze9 s[k] ≤ 4:=by
    unfold ze9; repeat' split
    all_goals omega
   exact ziH s k _ w hs hk hT rfl (by omega) h4 (by omega)
end Go.Proofs.YtadhjoggdbhkgaaGreatDoor
namespace Go.Proofs.YtadhjoggdbhkgaaGreatDoor
open Go.RowKit
theorem zow (s:ByteArray) (w:World) (hs:s.size ≤ 140737488351232) (hT:UTabs w) :
  Calls Tryz.prog 64 #[.string s] w fun e w' => e=.returned (.int .i64 (ziA s.data.toList)) ∧ Qb w w':=by
 go_enter Tryz.func64,Tryz.ntmps64
 go_wp2_with fail
 go_loopw [3,4] (fun c a wr => ∃ j m:Nat,j ≤ s.size ∧ m ≤ j ∧ a=.int .i64 j ∧ c=.int .i64 m ∧ Hid (ziA s.data.toList=zoo m (ziA (s.data.toList.drop j))) ∧ Qb w wr) (fun _ a _ => s.size - (intOf a).toNat)
 case atStart => exact ⟨0,0,Nat.zero_le _,Nat.le_refl _,rfl,rfl,Lib.hid (zhL _),Qb.refl w⟩
 case round =>
  obtain ⟨j,m,hj,hm,rfl,rfl,HC,hq⟩:=hrel
  have hTr:=hT.keep hq
  by_cases hlt:j < s.size
  ·rcases hd:zb3 (s.data.toList.drop j) with _ | ⟨r,n⟩
   ·have HR:=Lib.hid (za9 (l:=s.data.toList) (k:=j) (by rw [zad]; exact hlt) hd)
    have HN:=Lib.hid (zhE (by intro e; have:=congrArg List.length e; rw [List.length_drop,zad] at this; simp at this; omega) hd)
    clear hd
    go_wp2_with fail
    refine (zfJ s j _ hs hTr).mono ?_
    rintro e w1 ⟨rfl,hq1⟩
    rw [HR.out]
    unfold triV
    go_wp2_with fail
    go_ret
    exact ⟨za6 (by rw [HC.out,HN.out]; rfl),hq.trans hq1⟩
   ·have HR:=Lib.hid (zcE (l:=s.data.toList) (k:=j) (by rw [zad]; exact hlt) hd)
    have HN:=Lib.hid (zhC hd)
    have hb:=zbE hd
    have hb1:=hb.2.2.1
    rw [List.length_drop,zad] at hb1
    have hb2:=hb.2.2.2.1
    clear hd hb
    go_wp2_with fail
    refine (zfJ s j _ hs hTr).mono ?_
    rintro e w1 ⟨rfl,hq1⟩
    rw [HR.out]
    unfold triV
    go_wp2_with fail
    go_roundw
    case rel => exact ⟨j + n,m + 1,by omega,by omega,by go_num,by go_num,Lib.hid (by rw [HC.out,HN.out,List.drop_drop,zhM _ _ _ (zn7 _)]),hq.trans hq1⟩
    case measure => simp [intOf]; omega
  ·have HN:Hid (ziA (s.data.toList.drop j)=0):=Lib.hid (by rw [List.drop_of_length_le (by rw [zad]; omega)]; rfl)
   go_wp2_with fail
   go_ret
   exact ⟨za6 (by rw [HC.out,HN.out]; unfold zoo; rw [if_neg (by decide)]; omega),hq⟩
theorem zor (s:ByteArray) (w:World) (hs:s.size ≤ 140737488351232) (hT:UTabs w) :
  Calls Tryz.prog 42 #[.string s] w fun e w' => e=.returned (.bool (zaF s.data.toList)) ∧ Qb w w':=by
 go_enter Tryz.func42,Tryz.ntmps42
 go_wp2_with fail
 refine (zow s _ hs hT).mono ?_
 rintro e w1 ⟨rfl,hq1⟩
 go_wp2_with fail
 go_ret
 exact ⟨rfl,hq1⟩
end Go.Proofs.YtadhjoggdbhkgaaGreatDoor
namespace Go.Proofs.YtadhjoggdbhkgaaGreatDoor
open Go.RowKit
theorem zon (q:Int) (h0:0 ≤ q) (h:q ≤ 4503599627370496):bits .and .i64 q 63=q % 64:=by
 obtain ⟨n,rfl⟩:=Int.eq_ofNat_of_zero_le h0
 exact zkd n (by omega)
theorem zmv (q:Int) (h0:0 ≤ q) (h:q < 64):bits .or .i64 128 q=128 + q:=by
 obtain ⟨n,rfl⟩:=Int.eq_ofNat_of_zero_le h0
 exact or128 n (by omega)
theorem zcP (r:Int) (w:World) :
  Calls Tryz.prog 129 #[.int .i64 r] w fun e w' => e=.returned (resV (zgi r)) ∧ Qb w w':=by
 rcases hp:cpB r with _ | _
 ·have he:zgi r=(4,[]):=by unfold zgi; rw [hp]; rfl
  rw [he]
  go_enter Tryz.func129,Tryz.ntmps129
  go_wp2_with (go_at_call 145; refine (zcn _ _).mono ?_; rintro e w1 ⟨rfl,rfl⟩)
  go_ret2
  exact ⟨rfl,Qb.refl _⟩
 ·obtain ⟨n,rfl,hn⟩:=cpB_nat hp
  have a0:=zon (n:Int) (by omega) (by omega)
  have a1:=zon ((n:Int) / 64) (by omega) (by omega)
  have a2:=zon ((n:Int) / 4096) (by omega) (by omega)
  have o0:=zmv ((n:Int) % 64) (by omega) (by omega)
  have o1:=zmv ((n:Int) / 64 % 64) (by omega) (by omega)
  have o2:=zmv ((n:Int) / 4096 % 64) (by omega) (by omega)
  by_cases h1:n < 128
  ·rw [encV_1 hp h1]
   have hst:=zdK w [(n:Int)] 1 rfl
   simp only [List.map_cons,List.map_nil] at hst
   go_enter Tryz.func129,Tryz.ntmps129
   go_wp2_with (go_at_call 145; refine (zcn _ _).mono ?_; rintro e w1 ⟨rfl,rfl⟩)
   go_ret2
   exact ⟨rfl,(Qb.refl _).alloc _⟩
  ·by_cases h2:n < 2048
   ·rw [encV_2 hp h1 h2]
    have hst:=zdK w [192 + (n:Int) / 64,128 + (n:Int) % 64] 2 rfl
    simp only [List.map_cons,List.map_nil] at hst
    have ho:bits .or .i64 192 ((n:Int) / 64)=192 + (n:Int) / 64:=or192 (n / 64) (by omega)
    go_enter Tryz.func129,Tryz.ntmps129
    go_wp2_with (go_at_call 145; refine (zcn _ _).mono ?_; rintro e w1 ⟨rfl,rfl⟩)
    go_ret2
    exact ⟨rfl,(Qb.refl _).alloc _⟩
   ·by_cases h3:n < 65536
    ·rw [encV_3 hp h2 h3]
     have hst:=zdK w [224 + (n:Int) / 4096,128 + (n:Int) / 64 % 64,128 + (n:Int) % 64] 3 rfl
     simp only [List.map_cons,List.map_nil] at hst
     have ho:bits .or .i64 224 ((n:Int) / 4096)=224 + (n:Int) / 4096:=or224 (n / 4096) (by omega)
     have hb3:decide ((n:Int) < 65536)=true:=decide_eq_true (by omega)
     have hb1:decide ((n:Int) < 128)=false:=decide_eq_false (by omega)
     have hb2:decide ((n:Int) < 2048)=false:=decide_eq_false (by omega)
     have H3:=Lib.hid h3
     have nb:(n:Int) / 4096 < 16:=by omega
     clear h1 h2 h3
     go_enter Tryz.func129,Tryz.ntmps129
     go_wp2_with (go_at_call 145; refine (zcn _ _).mono ?_; rintro e w1 ⟨rfl,rfl⟩)
     go_ret2
     exact ⟨rfl,(Qb.refl _).alloc _⟩
    ·rw [encV_4 hp h3]
     have hst:=zdK w [240 + (n:Int) / 262144,128 + (n:Int) / 4096 % 64,128 + (n:Int) / 64 % 64,128 + (n:Int) % 64] 4 rfl
     simp only [List.map_cons,List.map_nil] at hst
     have ho:bits .or .i64 240 ((n:Int) / 262144)=240 + (n:Int) / 262144:=or240 (n / 262144) (by omega)
     have hb3:decide ((n:Int) < 65536)=false:=decide_eq_false (by omega)
     have nb:(n:Int) / 262144 < 8:=by omega
     have hb1:decide ((n:Int) < 128)=false:=decide_eq_false (by omega)
     have hb2:decide ((n:Int) < 2048)=false:=decide_eq_false (by omega)
     have H3:=Lib.hid h3
     clear h1 h2 h3
     go_enter Tryz.func129,Tryz.ntmps129
     go_wp2_with (go_at_call 145; refine (zcn _ _).mono ?_; rintro e w1 ⟨rfl,rfl⟩)
     go_ret2
     exact ⟨rfl,(Qb.refl _).alloc _⟩
def zek:List UInt8 → Nat → Nat
 | [],r => r
 | c :: t,r => zek t (r * 64 + c.toNat % 64)
def zea:List UInt8 → Nat
 | [] => 0
 | c :: t => zek t (zby c (t.length + 1))
theorem pow4 (i:Nat):4 * 64 ^ (i + 1)=64 * (4 * 64 ^ i):=by rw [Nat.pow_succ]; omega
theorem zib {i:Nat} (h:i ≤ 4):4 * 64 ^ i ≤ 67108864:=by
 have:i=0 ∨ i=1 ∨ i=2 ∨ i=3 ∨ i=4:=by omega
 rcases this with rfl | rfl | rfl | rfl | rfl <;> decide
theorem zkq (s:ByteArray) (h1:1 ≤ s.size) (h4:s.size ≤ 4) (w:World) :
  Calls Tryz.prog 128 #[.string s] w fun e w' => e=.returned (.int .i64 (zea s.data.toList)) ∧ Qb w w':=by
 have hd:=zbw s 0 (by omega)
 rw [List.drop_zero] at hd
 have hv:zea s.data.toList=zek (s.data.toList.drop 1) (zby s[0] s.size):=by
  conv => lhs; rw [hd]
  rw [zea,List.length_drop,zad,show s.size - 1 + 1=s.size from by omega]
 have HV:=Lib.hid hv
 clear hd hv
 have hc:=s[0].toNat_lt
 have a1:bits .and .i64 (s[0].toNat:Int) 31=((s[0].toNat % 32:Nat):Int):=by rw [← and31]; exact zbm s[0].toNat 31 (by omega) (by omega)
 have a2:bits .and .i64 (s[0].toNat:Int) 15=((s[0].toNat % 16:Nat):Int):=by rw [← and15]; exact zbm s[0].toNat 15 (by omega) (by omega)
 have a3:bits .and .i64 (s[0].toNat:Int) 7=((s[0].toNat % 8:Nat):Int):=by rw [← and7]; exact zbm s[0].toNat 7 (by omega) (by omega)
 have H:=Lib.hid (And.intro a1 (And.intro a2 a3))
 clear a1 a2 a3
 have hn:s.size=1 ∨ s.size=2 ∨ s.size=3 ∨ s.size=4:=by omega
 rcases hn with hz | hz | hz | hz
 ·have HE:Hid (zea s.data.toList=s[0].toNat):=Lib.hid (by rw [HV.out,List.drop_of_length_le (by rw [zad]; omega),hz]; rfl)
  go_enter Tryz.func128,Tryz.ntmps128
  go_wp2_with fail
  go_ret
  exact ⟨za6 (by rw [HE.out]),Qb.refl _⟩
 ·have HE:Hid (zea s.data.toList=zek (s.data.toList.drop 1) (s[0].toNat % 32)):=Lib.hid (by rw [HV.out,hz]; rfl)
  have HA:Hid (bits .and .i64 (s[0].toNat:Int) 31=((s[0].toNat % 32:Nat):Int)):=Lib.hid H.out.1
  go_enter Tryz.func128,Tryz.ntmps128
  go_wp2_with fail
  go_quiet (fail)
  go_wp2_with fail
  rw [HA.out]
  go_loop [3,4] (fun r x => ∃ i q:Nat,1 ≤ i ∧ i ≤ s.size ∧ x=.int .i64 i ∧ r=.int .i64 q ∧ q < 4 * 64 ^ i ∧ Hid (zea s.data.toList=zek (s.data.toList.drop i) q)) (fun _ x => s.size - (intOf x).toNat)
  case atStart => exact ⟨1,s[0].toNat % 32,Nat.le_refl _,h1,rfl,rfl,by omega,HE⟩
  case round =>
   obtain ⟨i,q,hi1,hi,rfl,rfl,hq,HR⟩:=hrel
   have hp:=zib (show i ≤ 4 by omega)
   have hq2:q < 67108864:=by omega
   have HP:=Lib.hid (pow4 i)
   have Hq:=Lib.hid hq
   clear hp hq
   by_cases hlt:i < s.size
   ·have hcc:=s[i].toNat_lt
    have HO:Hid (bits .or .i64 ((q:Int) * 64) (bits .and .i64 (s[i].toNat:Int) 63)=((q * 64 + s[i].toNat % 64:Nat):Int)):=Lib.hid (by rw [zkd s[i].toNat (by omega)]; exact or64 q (s[i].toNat % 64) (by omega) (by omega))
    have HN:Hid (zea s.data.toList=zek (s.data.toList.drop (i + 1)) (q * 64 + s[i].toNat % 64)):=Lib.hid (by rw [HR.out,zbw s i hlt]; rfl)
    go_wp2_with fail
    go_round
    case rel =>
     refine ⟨i + 1,q * 64 + s[i].toNat % 64,by omega,by omega,by go_num,by rw [HO.out],?_,HN⟩
     rw [HP.out]
     have:=Hq.out
     generalize 4 * 64 ^ i=P at *
     omega
    case measure => simp [intOf]; omega
   ·have HN:Hid (zea s.data.toList=q):=Lib.hid (by rw [HR.out,List.drop_of_length_le (by rw [zad]; omega)]; rfl)
    go_wp2_with fail
    go_ret
    exact ⟨za6 (by rw [HN.out]),(Qb.refl _).drewN _⟩
 ·have HE:Hid (zea s.data.toList=zek (s.data.toList.drop 1) (s[0].toNat % 16)):=Lib.hid (by rw [HV.out,hz]; rfl)
  have HA:Hid (bits .and .i64 (s[0].toNat:Int) 15=((s[0].toNat % 16:Nat):Int)):=Lib.hid H.out.2.1
  go_enter Tryz.func128,Tryz.ntmps128
  go_wp2_with fail
  go_quiet (fail)
  go_wp2_with fail
  rw [HA.out]
  go_loop [3,4] (fun r x => ∃ i q:Nat,1 ≤ i ∧ i ≤ s.size ∧ x=.int .i64 i ∧ r=.int .i64 q ∧ q < 4 * 64 ^ i ∧ Hid (zea s.data.toList=zek (s.data.toList.drop i) q)) (fun _ x => s.size - (intOf x).toNat)
  case atStart => exact ⟨1,s[0].toNat % 16,Nat.le_refl _,h1,rfl,rfl,by omega,HE⟩
  case round =>
   obtain ⟨i,q,hi1,hi,rfl,rfl,hq,HR⟩:=hrel
   have hp:=zib (show i ≤ 4 by omega)
   have hq2:q < 67108864:=by omega
   have HP:=Lib.hid (pow4 i)
   have Hq:=Lib.hid hq
   clear hp hq
   by_cases hlt:i < s.size
   ·have hcc:=s[i].toNat_lt
    have HO:Hid (bits .or .i64 ((q:Int) * 64) (bits .and .i64 (s[i].toNat:Int) 63)=((q * 64 + s[i].toNat % 64:Nat):Int)):=Lib.hid (by rw [zkd s[i].toNat (by omega)]; exact or64 q (s[i].toNat % 64) (by omega) (by omega))
    have HN:Hid (zea s.data.toList=zek (s.data.toList.drop (i + 1)) (q * 64 + s[i].toNat % 64)):=Lib.hid (by rw [HR.out,zbw s i hlt]; rfl)
    go_wp2_with fail
    go_round
    case rel =>
     refine ⟨i + 1,q * 64 + s[i].toNat % 64,by omega,by omega,by go_num,by rw [HO.out],?_,HN⟩
     rw [HP.out]
     have:=Hq.out
     generalize 4 * 64 ^ i=P at *
     omega
    case measure => simp [intOf]; omega
   ·have HN:Hid (zea s.data.toList=q):=Lib.hid (by rw [HR.out,List.drop_of_length_le (by rw [zad]; omega)]; rfl)
    go_wp2_with fail
    go_ret
    exact ⟨za6 (by rw [HN.out]),(Qb.refl _).drewN _⟩
 ·have HE:Hid (zea s.data.toList=zek (s.data.toList.drop 1) (s[0].toNat % 8)):=Lib.hid (by rw [HV.out,hz]; rfl)
  have HA:Hid (bits .and .i64 (s[0].toNat:Int) 7=((s[0].toNat % 8:Nat):Int)):=Lib.hid H.out.2.2
  go_enter Tryz.func128,Tryz.ntmps128
  go_wp2_with fail
  go_quiet (fail)
  go_wp2_with fail
  rw [HA.out]
  go_loop [3,4] (fun r x => ∃ i q:Nat,1 ≤ i ∧ i ≤ s.size ∧ x=.int .i64 i ∧ r=.int .i64 q ∧ q < 4 * 64 ^ i ∧ Hid (zea s.data.toList=zek (s.data.toList.drop i) q)) (fun _ x => s.size - (intOf x).toNat)
  case atStart => exact ⟨1,s[0].toNat % 8,Nat.le_refl _,h1,rfl,rfl,by omega,HE⟩
  case round =>
   obtain ⟨i,q,hi1,hi,rfl,rfl,hq,HR⟩:=hrel
   have hp:=zib (show i ≤ 4 by omega)
   have hq2:q < 67108864:=by omega
   have HP:=Lib.hid (pow4 i)
   have Hq:=Lib.hid hq
   clear hp hq
   by_cases hlt:i < s.size
   ·have hcc:=s[i].toNat_lt
    have HO:Hid (bits .or .i64 ((q:Int) * 64) (bits .and .i64 (s[i].toNat:Int) 63)=((q * 64 + s[i].toNat % 64:Nat):Int)):=Lib.hid (by rw [zkd s[i].toNat (by omega)]; exact or64 q (s[i].toNat % 64) (by omega) (by omega))
    have HN:Hid (zea s.data.toList=zek (s.data.toList.drop (i + 1)) (q * 64 + s[i].toNat % 64)):=Lib.hid (by rw [HR.out,zbw s i hlt]; rfl)
    go_wp2_with fail
    go_round
    case rel =>
     refine ⟨i + 1,q * 64 + s[i].toNat % 64,by omega,by omega,by go_num,by rw [HO.out],?_,HN⟩
     rw [HP.out]
     have:=Hq.out
     generalize 4 * 64 ^ i=P at *
     omega
    case measure => simp [intOf]; omega
   ·have HN:Hid (zea s.data.toList=q):=Lib.hid (by rw [HR.out,List.drop_of_length_le (by rw [zad]; omega)]; rfl)
    go_wp2_with fail
    go_ret
    exact ⟨za6 (by rw [HN.out]),(Qb.refl _).drewN _⟩
end Go.Proofs.YtadhjoggdbhkgaaGreatDoor
namespace Go.Proofs.YtadhjoggdbhkgaaGreatDoor
open Go.RowKit
theorem valN_enc {r:Nat} (h:cpB (r:Int)=true):zea (zdH r)=r:=by
 have hr:=(of_decide_eq_true h).2.1
 unfold zdH
 by_cases h1:r < 128
 ·rw [if_pos h1]
  show (u8b r).toNat=r
  exact zaL (by omega)
 rw [if_neg h1]
 by_cases h2:r < 2048
 ·rw [if_pos h2]
  show (u8b (192 + r / 64)).toNat % 32 * 64 + (u8b (128 + r % 64)).toNat % 64=r
  rw [zaL (by omega),zaL (by omega)]; omega
 rw [if_neg h2]
 by_cases h3:r < 65536
 ·rw [if_pos h3]
  show ((u8b (224 + r / 4096)).toNat % 16 * 64 + (u8b (128 + r / 64 % 64)).toNat % 64) * 64 + (u8b (128 + r % 64)).toNat % 64=r
  rw [zaL (by omega),zaL (by omega),zaL (by omega)]; omega
 ·rw [if_neg h3]
  show (((u8b (240 + r / 262144)).toNat % 8 * 64 + (u8b (128 + r / 4096 % 64)).toNat % 64) * 64 + (u8b (128 + r / 64 % 64)).toNat % 64) * 64 + (u8b (128 + r % 64)).toNat % 64=r
  rw [zaL (by omega),zaL (by omega),zaL (by omega),zaL (by omega)]; omega
def ziq (l:List UInt8):Bool:=decide ((zgi (zea l)).1=0) && ((zgi (zea l)).2 == l)
theorem znr {l:List UInt8} {n:Nat} (hn:n ≤ l.length) (h:ziq (l.take n)=true):zb3 l=some (zea (l.take n),n):=by
 unfold ziq at h
 rw [Bool.and_eq_true,decide_eq_true_eq,beq_iff_eq] at h
 rcases hc:cpB (zea (l.take n):Int) with _ | _
 ·have:=h.1
  unfold zgi at this
  rw [hc,if_neg Bool.false_ne_true] at this
  exact absurd this (by decide)
 ·have h2:=h.2
  unfold zgi at h2
  rw [hc,if_pos rfl,Int.toNat_natCast] at h2
  exact ziy hc h2 hn
theorem isEnc_no {l:List UInt8} {n r:Nat} (h:zb3 l=some (r,n)):ziq (l.take n)=true:=by
 have hb:=zbE h
 have hv:zea (l.take n)=r:=by rw [← hb.2.1]; exact valN_enc hb.1
 unfold ziq zgi
 rw [hv,hb.1,if_pos rfl,Int.toNat_natCast,hb.2.1]
 simp
theorem zcQ (s:ByteArray) (a:Int) (w:World) (hs:s.size ≤ 140737488351232) :
  Calls Tryz.prog 103 #[.string s,.int .i64 a] w fun e w' => e=.returned (triV (zb0 s.data.toList a)) ∧ Qb w w':=by
 by_cases h:a < 0 ∨ (s.size:Int) ≤ a
 ·rw [zfE (by rw [zad]; exact h)]
  by_cases h0:a < 0
  ·clear h
   go_enter Tryz.func103,Tryz.ntmps103
   go_wp2_with fail
   go_ret3
   exact ⟨rfl,Qb.refl _⟩
  ·have h1:(s.size:Int) ≤ a:=by omega
   clear h
   go_enter Tryz.func103,Tryz.ntmps103
   go_wp2_with fail
   go_ret3
   exact ⟨rfl,Qb.refl _⟩
 ·obtain ⟨k,rfl⟩:=Int.eq_ofNat_of_zero_le (show 0 ≤ a by omega)
  have hk:k < s.size:=by omega
  clear h
  have hb0:decide ((k:Int) < 0)=false:=decide_eq_false (by omega)
  have hbs:decide (s.size ≤ k)=false:=decide_eq_false (by omega)
  go_enter Tryz.func103,Tryz.ntmps103
  go_wp2_with fail
  go_loopw [7,8,9,10] (fun x _ _ _ wr => ∃ n:Nat,1 ≤ n ∧ n ≤ 5 ∧ x=.int .i64 n ∧ Hid (∀ r m,zb3 (s.data.toList.drop k)=some (r,m) → n ≤ m) ∧ Qb w wr) (fun x _ _ _ _ => 5 - (intOf x).toNat)
  case atStart => exact ⟨1,Nat.le_refl _,by omega,rfl,Lib.hid fun r m hd => (zbE hd).2.2.2.1,Qb.refl w⟩
  case round =>
   obtain ⟨n,h1,h5,rfl,HM,hq⟩:=hrel
   by_cases hlt:n ≤ 4 ∧ k + n ≤ s.size
   ·obtain ⟨h4,hle⟩:=hlt
    have hx:Hid ((s.extract k (k + n)).data.toList=(s.data.toList.drop k).take n):=Lib.hid (by rw [Lib.extract_data,Nat.add_sub_cancel_left])
    have hsz:=size_extract s k (k + n) hle
    have hz1:1 ≤ (s.extract k (k + n)).size:=by omega
    have hz4:(s.extract k (k + n)).size ≤ 4:=by omega
    clear hsz
    go_wp2_with fail
    refine (zkq _ hz1 hz4 _).mono ?_
    rintro e w1 ⟨rfl,hq1⟩
    rw [hx.out]
    rcases hi:ziq ((s.data.toList.drop k).take n) with _ | _
    ·have HN:Hid (∀ r m,zb3 (s.data.toList.drop k)=some (r,m) → n + 1 ≤ m):=Lib.hid fun r m hd => by
      have h6:=HM.out r m hd
      have h7:n ≠ m:=by
       rintro rfl
       rw [isEnc_no hd] at hi; cases hi
      omega
     obtain ⟨er,eb,hres,hor⟩:∃ er eb,resV (zgi (zea ((s.data.toList.drop k).take n)))=.tuple #[.string eb,.int .i64 er] ∧ ((er == 0)=false ∨ (eb.toList == (s.extract k (k + n)).toList)=false):=by
      refine ⟨_,_,rfl,?_⟩
      unfold ziq at hi
      rw [Bool.and_eq_false_iff,decide_eq_false_iff_not,beq_eq_false_iff_ne] at hi
      rcases hi with hi | hi
      ·exact .inl (beq_eq_false_iff_ne.2 hi)
      ·refine .inr (beq_eq_false_iff_ne.2 fun e => hi ?_)
       rw [ByteArray.toList_eq,ByteArray.toList_eq,hx.out] at e
       exact e
     have HR:=Lib.hid hres
     clear hres hi
     generalize zea ((s.data.toList.drop k).take n)=q at *
     go_wp2_with fail
     refine (zcP _ _).mono ?_
     rintro e w2 ⟨rfl,hq2⟩
     rw [HR.out]
     rcases hor with ho | ho
     ·go_wp2_with fail
      go_roundw
      case rel => exact ⟨n + 1,by omega,by omega,by go_num,HN,(hq.trans hq1).trans hq2⟩
      case measure => simp [intOf]; omega
     ·by_cases he:er=0
      ·subst he
       go_wp2_with fail
       go_roundw
       case rel => exact ⟨n + 1,by omega,by omega,by go_num,HN,(hq.trans hq1).trans hq2⟩
       case measure => simp [intOf]; omega
      ·have he1:(er == 0)=false:=beq_eq_false_iff_ne.2 he
       clear he
       go_wp2_with fail
       go_roundw
       case rel => exact ⟨n + 1,by omega,by omega,by go_num,HN,(hq.trans hq1).trans hq2⟩
       case measure => simp [intOf]; omega
    ·have HD:=Lib.hid (znr (by rw [List.length_drop,zad]; omega) hi)
     have hres:resV (zgi (zea ((s.data.toList.drop k).take n)))=.tuple #[.string (s.extract k (k + n)),.int .i64 0]:=by
      unfold ziq at hi
      rw [Bool.and_eq_true,decide_eq_true_eq,beq_iff_eq] at hi
      unfold resV
      rw [hi.1,hi.2,← hx.out]
     have HR:=Lib.hid hres
     clear hres hi
     generalize zea ((s.data.toList.drop k).take n)=q at *
     go_wp2_with fail
     refine (zcP _ _).mono ?_
     rintro e w2 ⟨rfl,hq2⟩
     rw [HR.out]
     go_wp2_with fail
     go_ret3
     exact ⟨by rw [zcE (by rw [zad]; exact hk) HD.out]; rfl,(hq.trans hq1).trans hq2⟩
   ·have HN:Hid (zb3 (s.data.toList.drop k)=none):=Lib.hid (by
     rcases hd:zb3 (s.data.toList.drop k) with _ | ⟨r,m⟩
     ·rfl
     ·have h6:=HM.out r m hd
      have hb:=zbE hd
      have hb1:=hb.2.2.1
      rw [List.length_drop,zad] at hb1
      omega)
    by_cases h4:n ≤ 4
    ·have hgt:s.size < k + n:=by omega
     clear hlt
     go_wp2_with fail
     go_ret3
     exact ⟨by rw [za9 (by rw [zad]; exact hk) HN.out]; rfl,hq⟩
    ·clear hlt
     go_wp2_with fail
     go_ret3
     exact ⟨by rw [za9 (by rw [zad]; exact hk) HN.out]; rfl,hq⟩
end Go.Proofs.YtadhjoggdbhkgaaGreatDoor
namespace Go.Proofs.YtadhjoggdbhkgaaGreatDoor
open Go.RowKit
theorem zkB (s:ByteArray) (w:World) (hs:s.size ≤ 140737488351232) :
  Calls Tryz.prog 70 #[.string s] w fun e w' => e=.returned (.int .i64 (ziA s.data.toList)) ∧ Qb w w':=by
 go_enter Tryz.func70,Tryz.ntmps70
 go_wp2_with fail
 go_loopw [3,4] (fun c a wr => ∃ j m:Nat,j ≤ s.size ∧ m ≤ j ∧ a=.int .i64 j ∧ c=.int .i64 m ∧ Hid (ziA s.data.toList=zoo m (ziA (s.data.toList.drop j))) ∧ Qb w wr) (fun _ a _ => s.size - (intOf a).toNat)
 case atStart => exact ⟨0,0,Nat.zero_le _,Nat.le_refl _,rfl,rfl,Lib.hid (zhL _),Qb.refl w⟩
 case round =>
  obtain ⟨j,m,hj,hm,rfl,rfl,HC,hq⟩:=hrel
  by_cases hlt:j < s.size
  ·rcases hd:zb3 (s.data.toList.drop j) with _ | ⟨r,n⟩
   ·have HR:=Lib.hid (za9 (l:=s.data.toList) (k:=j) (by rw [zad]; exact hlt) hd)
    have HN:=Lib.hid (zhE (by intro e; have:=congrArg List.length e; rw [List.length_drop,zad] at this; simp at this; omega) hd)
    clear hd
    go_wp2_with fail
    refine (zcQ s j _ hs).mono ?_
    rintro e w1 ⟨rfl,hq1⟩
    rw [HR.out]
    unfold triV
    go_wp2_with fail
    go_ret
    exact ⟨za6 (by rw [HC.out,HN.out]; rfl),hq.trans hq1⟩
   ·have HR:=Lib.hid (zcE (l:=s.data.toList) (k:=j) (by rw [zad]; exact hlt) hd)
    have HN:=Lib.hid (zhC hd)
    have hb:=zbE hd
    have hb1:=hb.2.2.1
    rw [List.length_drop,zad] at hb1
    have hb2:=hb.2.2.2.1
    clear hd hb
    go_wp2_with fail
    refine (zcQ s j _ hs).mono ?_
    rintro e w1 ⟨rfl,hq1⟩
    rw [HR.out]
    unfold triV
    go_wp2_with fail
    go_roundw
    case rel => exact ⟨j + n,m + 1,by omega,by omega,by go_num,by go_num,Lib.hid (by rw [HC.out,HN.out,List.drop_drop,zhM _ _ _ (zn7 _)]),hq.trans hq1⟩
    case measure => simp [intOf]; omega
  ·have HN:Hid (ziA (s.data.toList.drop j)=0):=Lib.hid (by rw [List.drop_of_length_le (by rw [zad]; omega)]; rfl)
   go_wp2_with fail
   go_ret
   exact ⟨za6 (by rw [HC.out,HN.out]; unfold zoo; rw [if_neg (by decide)]; omega),hq⟩
theorem zdY (s:ByteArray) (w:World) (hs:s.size ≤ 140737488351232) :
  Calls Tryz.prog 46 #[.string s] w fun e w' => e=.returned (.bool (zaF s.data.toList)) ∧ Qb w w':=by
 go_enter Tryz.func46,Tryz.ntmps46
 go_wp2_with fail
 refine (zkB s _ hs).mono ?_
 rintro e w1 ⟨rfl,hq1⟩
 go_wp2_with fail
 go_ret
 exact ⟨rfl,hq1⟩
end Go.Proofs.YtadhjoggdbhkgaaGreatDoor
namespace Go.Proofs.YtadhjoggdbhkgaaGreatDoor
open Go.RowKit Sx
class Utf (P:Program) [Tabs P]:Prop where
 ut:∀ w:World,Tabs.T (P:=P) w → UTabs w
section
variable [Tabs Tryz.prog] {objs:List OB} {K:List OB → AV → Prop}
theorem zkr (s:List UInt8) (a:Int) (hs:s.length ≤ 140737488351232) (hk:K objs (.tup [.i .i64 (zb0 s a).1,.i .i64 (zb0 s a).2.1,.i .i64 (zb0 s a).2.2])):zae Tryz.prog 103 [.s s,.i .i64 a] objs K :=
 conv (vs:=[.string (S s),.int .i64 a]) rfl rfl (fun w => zcQ (S s) a w (by rw [zbJ]; exact hs)) hk
theorem zfS [Utf Tryz.prog] (s:List UInt8) (hs:s.length ≤ 140737488351232) (hk:K objs (.b (zaF s))):zae Tryz.prog 42 [.s s] objs K :=
 convT (vs:=[.string (S s)]) rfl rfl (fun w hT => zor (S s) w (by rw [zbJ]; exact hs) (Utf.ut w hT)) hk
theorem zgS (s:List UInt8) (hs:s.length ≤ 140737488351232) (hk:K objs (.b (zaF s))):zae Tryz.prog 46 [.s s] objs K :=
 conv (vs:=[.string (S s)]) rfl rfl (fun w => zdY (S s) w (by rw [zbJ]; exact hs)) hk
end
end Go.Proofs.YtadhjoggdbhkgaaGreatDoor
namespace Go.Proofs.YtadhjoggdbhkgaaGreatDoor.Sx
open Go.RowKit
theorem zgs {k:IntKind} {r:Int} {K K':Int → Prop} (hk:∀ v,K v → K' v) (h:arK k r K):arK k r K':=by
 cases k
 all_goals first | exact hk _ h | exact ⟨h.1,hk _ h.2⟩
theorem zof {op:BinOp} {x y:AV} {K K':AV → Prop} (hk:∀ v,K v → K' v) (h:binK op x y K):binK op x y K':=by
 unfold binK at h ⊢
 split at h
 ·refine ⟨h.1,?_⟩
  replace h:=h.2
  cases op
  all_goals first
   | exact h.elim
   | exact zgs (fun _ g => hk _ g) h
   | exact ⟨h.1,zgs (fun _ g => hk _ g) h.2⟩
   | exact ⟨h.1,hk _ h.2⟩
   | exact hk _ h
 all_goals
  revert h
  cases op
  all_goals first
   | exact fun h => h.elim
   | exact fun h => ⟨h.1,hk _ h.2⟩
   | exact fun h => hk _ h
section
variable {P:Program} [Tabs P] {C:Cx}
theorem zem {so:SOp} {objs:List OB} {tm:List AV} {K K':List OB → AV → Prop} (hk:∀ o v,K o v → K' o v) (h:wpS P so objs tm K):wpS P so objs tm K':=by
 cases so
 all_goals simp only [wpS] at h ⊢
 all_goals try exact hk _ _ h
 all_goals try exact ⟨h.1,hk _ _ h.2⟩
 all_goals try exact zof (fun _ g => hk _ _ g) h
 all_goals try exact h.mono hk
 all_goals try exact ⟨h.1,h.2.mono fun _ _ g => ⟨g.1,hk _ _ g.2⟩⟩
 all_goals
  revert h
  repeat' split
  all_goals first
   | exact fun h => h.elim
   | exact fun h => hk _ _ h
   | exact fun h => ⟨h.1,hk _ _ h.2⟩
   | exact fun h => zgs (fun _ g => hk _ _ g) h
   | exact fun h => ⟨fun e => hk _ _ (h.1 e),fun e => hk _ _ (h.2 e)⟩
   | exact fun ⟨v,h1,h2⟩ => ⟨v,h1,hk _ _ h2⟩
   | exact fun ⟨h0,l,h1,h2⟩ => ⟨h0,l,h1,hk _ _ h2⟩
   | exact fun h => ⟨h.1,h.2.mono hk⟩
theorem zbh:∀ {l:List SO} {objs:List OB} {tm:List AV} {K K':List OB → List AV → Prop},(∀ o t,K o t → K' o t) → wpR P l objs tm K → wpR P l objs tm K'
 | [],_,_,_,_,hk,h => hk _ _ h
 | ⟨dst,op,none⟩ :: r,_,_,_,_,hk,h => zem (fun _ _ g => zbh hk g) h
 | ⟨dst,op,some (t,want)⟩ :: r,objs,tm,K,K',hk,h => by
  simp only [wpR] at h ⊢
  revert h
  split
  ·exact fun h => ⟨fun e => zem (fun _ _ g => zbh hk g) (h.1 e),fun e => zbh hk (h.2 e)⟩
  ·exact fun h => zbh hk h
  ·exact fun h => h.elim
theorem zcw:∀ {l:List SO} {objs:List OB} {tm:List AV} {K K':List OB → List AV → Prop},(∀ o t,K o t → K' o t) → wpD P l objs tm K → wpD P l objs tm K'
 | [],_,_,_,_,hk,h => hk _ _ h
 | ⟨dst,op,none⟩ :: r,_,_,_,_,hk,h => by
  simp only [wpD] at h ⊢
  revert h
  split
  ·exact fun ⟨v,h1,h2⟩ => ⟨v,h1,zcw hk h2⟩
  ·exact fun h => zem (fun _ _ g => zcw hk g) h
 | ⟨dst,op,some (t,want)⟩ :: r,objs,tm,K,K',hk,h => by
  simp only [wpD] at h ⊢
  revert h
  split
  ·refine fun h => ⟨fun e => ?_,fun e => zcw hk (h.2 e)⟩
   have h1:=h.1 e
   revert h1
   split
   ·exact fun ⟨v,h1,h2⟩ => ⟨v,h1,zcw hk h2⟩
   ·exact fun h => zem (fun _ _ g => zcw hk g) h
  ·exact fun h => zcw hk h
  ·exact fun h => h.elim
theorem zkk {N N':List OB → List AV → Prop} {K K':zaH} (hn:∀ o t,N o t → N' o t) (hk:∀ e o t,K e o t → K' e o t):∀ e o t,zei N K e o t → zei N' K' e o t:=by
 intro e o t h
 cases e <;> first | exact hn _ _ h | exact hk _ _ _ h
theorem zoe {id:Nat} {K K':zaH} (hk:∀ e o t,K e o t → K' e o t):∀ e o t,blkK id K e o t → blkK id K' e o t:=by
 intro e o t h
 cases e
 all_goals try exact hk _ _ _ h
 rename_i i
 unfold blkK at h ⊢
 simp only at h ⊢
 split at h
 ·rename_i g; rw [if_pos g]; exact hk _ _ _ h
 ·rename_i g; rw [if_neg g]; exact hk _ _ _ h
theorem ziL:∀ (st:List (List SO × SO)) (h:List (List SO × List AV × List AV)) (last:List SO) (o:List OB) (t:List AV) {K K':List OB → List AV → Prop},(∀ o t,K o t → K' o t) → wpT P st h last o t K → wpT P st h last o t K'
 | [],h,last,o,t,K,K',hk,g => zbh hk g
 | (L,c) :: st,h,last,o,t,K,K',hk,g => zbh (fun _ _ g => zbh (fun _ _ g => ⟨g.1,ziL st _ last _ _ hk g.2⟩) g) g
theorem zc1:∀ (c:SCode) {K K':zaH} {objs:List OB} {tm:List AV},(∀ e o t,K e o t → K' e o t) → wpC P C c K objs tm → wpC P C c K' objs tm
 | .skip,_,_,_,_,hk,h => hk _ _ _ h
 | .reg l,_,_,_,_,hk,h => zbh (fun _ _ g => hk _ _ _ g) h
 | .drw l k ap,_,_,_,_,hk,h => zcw (fun _ _ g => ⟨g.1,zbh (fun _ _ g => hk _ _ _ g) g.2⟩) h
 | .crg pre cl post,_,_,_,_,hk,h => zbh (fun _ _ g => zbh (fun _ _ g => ⟨g.1,zbh (fun _ _ g => hk _ _ _ g) g.2⟩) g) h
 | .crs st last,_,_,_,_,hk,h => ziL st [] last _ _ (fun _ _ g => hk _ _ _ g) h
 | .seq x y,_,_,_,_,hk,h => zc1 x (zkk (fun _ _ g => zc1 y hk g) hk) h
 | .cond c x y,_,_,_,_,hk,h => by
  simp only [wpC] at h ⊢
  revert h
  split
  ·exact fun h => ⟨fun e => zc1 x hk (h.1 e),fun e => zc1 y hk (h.2 e)⟩
  ·exact fun h => h.elim
 | .blk id c,_,_,_,_,hk,h => zc1 c (zoe hk) h
 | .loop c,_,_,_,_,hk,h => fun c hc => WP.mono (fun e o t g => by cases e <;> first | exact hk _ _ _ g | exact g) (h c hc)
 | .exit id,_,_,_,_,hk,h => hk _ _ _ h
 | .ret,_,_,_,_,hk,h => hk _ _ _ h
 | .dead,_,_,_,_,hk,h => h.elim
def cutF (P:Program) [Tabs P] (C:Cx) (J:List OB → List AV → Prop) (k:List IT) (F:zaH):zaH:=zei J (zcJ P C F k)
variable {F:zaH} {k:List IT} {objs:List OB} {tm:List AV}
theorem zab (J:List OB → List AV → Prop):cutF P C J k F .normal objs tm=J objs tm:=Eq.trans rfl rfl
theorem zbx (J:List OB → List AV → Prop) (id:Nat):cutF P C J k F (.exit id) objs tm=xit P C id k objs tm F:=Eq.trans rfl rfl
theorem zav {x:SCode} (J:List OB → List AV → Prop) (h:run P C [.code x] objs tm (cutF P C J k F)) (hJ:∀ o t,J o t → run P C k o t F):run P C (.code x :: k) objs tm F :=
 zc1 x (fun e o t g => by
  cases e
  ·exact hJ _ _ g
  all_goals exact g) h
theorem kC_cut {x y:SCode} {t:Bool} (J:List OB → List AV → Prop) (h1:t=true → run P C [.code x] objs tm (cutF P C J k F)) (h2:t=false → run P C [.code y] objs tm (cutF P C J k F)) (hJ:∀ o t,J o t → run P C k o t F):kC P C (.b t) x y k objs tm F :=
 ⟨fun e => zav J (h1 e) hJ,fun e => zav J (h2 e) hJ⟩
end
end Go.Proofs.YtadhjoggdbhkgaaGreatDoor.Sx
namespace Go.Proofs.YtadhjoggdbhkgaaGreatDoor.Sx
open Go.RowKit
section
variable {P:Program} [Tabs P] {C:Cx} {F:zaH} {k:List IT} {objs:List OB} {tm:List AV}
theorem zaa {x y:SCode} (h:∀ Y,Y=y → run P C (.code x :: .code Y :: k) objs tm F):run P C (.code (.seq x y) :: k) objs tm F:=h y rfl
theorem za1 (J:List AV → Prop) (h:J tm) (hk:∀ t,J t → run P C k objs t F):run P C k objs tm F:=hk tm h
end
end Go.Proofs.YtadhjoggdbhkgaaGreatDoor.Sx
namespace Go.Proofs.YtadhjoggdbhkgaaGreatDoor
open Nat renaming reduceAdd → z6, reduceSub → z7, reduceLeDiff → z8, reduceLT → j4, reduceMul → j5, reduceEqDiff → j6
open Int renaming reduceToNat → j7, reduceAdd → j8, reduceSub → j9, reduceMul → x4, reduceNeg → x5, reduceLT → x6, reduceLE → x7, reduceEq → x8, reduceNe → x9
open Go.RowKit Sx
theorem iv {k:IntKind} {x y:Int} (h:x=y):some (AV.i k x)=some (AV.i k y):=by rw [h]
theorem zlE (s:List UInt8) (i:Nat) (h:i < s.length):zaR (s.drop i)=if zal s[i]=true then zaR (s.drop (i + 1)) + 1 else 0:=by
 rw [List.drop_eq_getElem_cons h,zaR]
theorem zlD (s:List UInt8):zaR (s.drop s.length)=0:=by rw [List.drop_length]; rfl
theorem get_some {s:List UInt8} {i:Nat} (h:i < s.length) {c:UInt8}:(s[i]? = some c) ↔ s[i]=c:=by
 rw [List.getElem?_eq_getElem h,Option.some.injEq]
theorem zbi {s:List UInt8} {i:Nat} (h:¬ i < s.length) {c:UInt8}:¬ s[i]? = some c:=by
 rw [List.getElem?_eq_none (by omega)]; simp
theorem zcd {c:UInt8} {k:Nat} (hk:k < 256):(((c.toNat:Nat):Int)=((k:Nat):Int)) ↔ c=UInt8.ofNat k:=by
 constructor
 ·intro h
  have h2:c.toNat=k:=by omega
  rw [← h2]; simp
 ·rintro rfl
  rw [UInt8.toNat_ofNat']; omega
theorem zd7 {s:List UInt8} {i:Nat} (h:i < s.length) (k:Nat) (hk:k < 256):s[i]? = some (UInt8.ofNat k) ↔ ((s[i].toNat:Nat):Int)=((k:Nat):Int):=by
 rw [get_some h]
 exact (zcd hk).symm
theorem zcg (s:List UInt8) (a i:Nat):(s.drop a)[i]? = s[a + i]?:=List.getElem?_drop
theorem zgj (s:List UInt8) (a i:Nat):(s.drop a).drop i=s.drop (a + i):=List.drop_drop
section
variable [Tabs Tryz.prog] {objs:List OB} {K:List OB → AV → Prop}
theorem zdp (s:List UInt8) (a:Nat) (ha:a ≤ s.length) (hs:s.length ≤ 9000000000000000000) (hk:K objs (.i .i64 ((a + zaR (s.drop a):Nat):Int))):zae Tryz.prog 87 [.s s,.i .i64 (a:Nat)] objs K:=by
 refine zaV is_token_digitsEnd rfl fun C _ => ?_
 simp only [c_token_digitsEnd,sxZ,z6,z7,z8,j4,j5,j6,j7,j8,j9,x4,x5,x6,x7,x8,x9,reduceCtorEq,↓reduceIte]
 refine zaA (fun n objs tm => ∃ i:Nat,i ≤ s.length ∧ n=s.length - i ∧ objs=[] ∧ a + zaR (s.drop a)=i + zaR (s.drop i) ∧ tm.length=18 ∧ tm[0]? = some (.s s) ∧ tm[1]? = some (.i .i64 i)) (s.length - a) ⟨a,ha,rfl,rfl,rfl,rfl,rfl,rfl⟩ ?_
 rintro n _ tm ⟨i,hi,rfl,rfl,hr,hlen,t0,t1⟩
 by_cases hlt:(i:Int) < s.length
 ·have hlt':i < s.length:=by omega
  have hg:=zaC hlt'
  have hrn:=zlE s i hlt'
  simp only [sxZ,z6,z7,z8,j4,j5,j6,j7,j8,j9,x4,x5,x6,x7,x8,x9,reduceCtorEq,↓reduceIte,List.getElem?_set,hlen,t0,t1,hlt]
  refine ⟨by omega,?_⟩
  rw [hg]
  generalize s[i]=c at *
  refine zak (aDigit_k c ?_)
  by_cases hd:zal c=true
  ·rw [if_pos hd] at hrn
   simp only [hd,sxZ,z6,z7,z8,j4,j5,j6,j7,j8,j9,x4,x5,x6,x7,x8,x9,reduceCtorEq,↓reduceIte,List.getElem?_set,hlen,t0,t1]
   exact ⟨⟨by omega,by omega⟩,s.length - (i + 1),by omega,i + 1,by omega,rfl,by omega,rfl⟩
  ·rw [if_neg hd] at hrn
   simp only [Bool.not_eq_true] at hd
   simp only [hd,sxZ,z6,z7,z8,j4,j5,j6,j7,j8,j9,x4,x5,x6,x7,x8,x9,reduceCtorEq,↓reduceIte,List.getElem?_set,hlen,t0,t1]
   rw [hr,hrn] at hk
   exact hk
 ·obtain rfl:i=s.length:=by omega
  simp only [sxZ,z6,z7,z8,j4,j5,j6,j7,j8,j9,x4,x5,x6,x7,x8,x9,reduceCtorEq,↓reduceIte,List.getElem?_set,hlen,t0,t1,hlt]
  rw [hr,zlD] at hk
  exact hk
end
section
variable [Tabs Tryz.prog] {objs:List OB} {K:List OB → AV → Prop}
set_option maxHeartbeats 4000000 in
theorem zif (s:List UInt8) (a:Nat) (ha:a ≤ s.length) (hs:s.length ≤ 9000000000000000000) (hk:K objs (.i .i64 ((a + zdD (s.drop a):Nat):Int))):zae Tryz.prog 57 [.s s,.i .i64 (a:Nat)] objs K:=by
 refine zaV is_token_numberEnd rfl fun C _ => ?_
 rw [c_token_numberEnd]
 refine zaa fun Y1 hY1 => ?_
 simp only [sxZ,z6,z7,z8,j4,j5,j6,j7,j8,j9,x4,x5,x6,x7,x8,x9,reduceCtorEq,↓reduceIte]
 subst hY1
 refine zaa fun Y1 hY1 => ?_
 simp only [sxZ,z6,z7,z8,j4,j5,j6,j7,j8,j9,x4,x5,x6,x7,x8,x9,reduceCtorEq,↓reduceIte]
 subst hY1
 refine zaa fun Y1 hY1 => ?_
 refine zav (fun o t => o=[] ∧ t.length=99 ∧ t[0]? = some (.s s) ∧ t[1]? = some (.i .i64 (a:Nat)) ∧ t[5]? = some (.i .i64 ((a + zbd (s.drop a):Nat):Int))) ?_ ?_
 ·unfold zbd
  rw [zcg,Nat.add_zero]
  by_cases c1:(a:Int) < s.length
  ·have c1':a < s.length:=by omega
   have hg:=zaC c1'
   have h45:s[a]? = some 45 ↔ ((s[a].toNat:Nat):Int)=45:=zd7 c1' 45 (by decide)
   by_cases c2:((s[a].toNat:Nat):Int)=45
   ·rw [if_pos (h45.2 c2)]
    simp only [c1,hg,c2,zab,sxZ,z6,z7,z8,j4,j5,j6,j7,j8,j9,x4,x5,x6,x7,x8,x9,reduceCtorEq,↓reduceIte]
    and_intros <;> first | omega | exact iv (by omega) | rfl | assumption
   ·rw [if_neg (fun h => c2 (h45.1 h))]
    simp only [c1,hg,c2,zab,sxZ,z6,z7,z8,j4,j5,j6,j7,j8,j9,x4,x5,x6,x7,x8,x9,reduceCtorEq,↓reduceIte]
    exact ⟨by omega,rfl⟩
  ·rw [if_neg (zbi (by omega))]
   simp only [c1,zab,sxZ,z6,z7,z8,j4,j5,j6,j7,j8,j9,x4,x5,x6,x7,x8,x9,reduceCtorEq,↓reduceIte]
   rfl
 rintro _ tm ⟨rfl,hlen,t0,t1,t5⟩
 subst hY1
 have hsg:a + zbd (s.drop a) ≤ s.length:=by
  unfold zbd
  split
  ·rename_i h
   have:=(List.getElem?_eq_some_iff.1 h).1
   rw [List.length_drop] at this; omega
  ·omega
 refine zaa fun Y1 hY1 => ?_
 simp only [sxZ,z6,z7,z8,j4,j5,j6,j7,j8,j9,x4,x5,x6,x7,x8,x9,reduceCtorEq,↓reduceIte,List.getElem?_set,hlen,t0,t1,t5]
 refine zak (zdp s _ hsg hs ?_)
 simp only [sxZ,z6,z7,z8,j4,j5,j6,j7,j8,j9,x4,x5,x6,x7,x8,x9,reduceCtorEq,↓reduceIte,List.getElem?_set,hlen,t0,t1,t5]
 subst hY1
 refine zaa fun Y1 hY1 => ?_
 unfold zdD at hk
 rw [zgj] at hk
 have hw:zaI (s.drop a)=if s[a + zbd (s.drop a)]? = some 48 then zbd (s.drop a) + 1 else zbd (s.drop a) + zaR (s.drop (a + zbd (s.drop a))):=by unfold zaI; rw [zcg,zgj]
 have hrl:0 < zaR (s.drop (a + zbd (s.drop a))) → a + zbd (s.drop a) + zaR (s.drop (a + zbd (s.drop a))) ≤ s.length:=zaQ s _
 generalize zbd (s.drop a)=g at *
 by_cases c0:zaR (s.drop (a + g))=0
 ·rw [if_pos c0] at hk
  simp only [c0,Nat.add_zero,sxZ,z6,z7,z8,j4,j5,j6,j7,j8,j9,x4,x5,x6,x7,x8,x9,reduceCtorEq,↓reduceIte,List.getElem?_set,hlen,t0,t1,t5]
  exact hk
 rw [if_neg c0] at hk
 have c0':¬ ((a + g + zaR (s.drop (a + g)):Nat):Int)=((a + g:Nat):Int):=by omega
 simp only [c0',sxZ,z6,z7,z8,j4,j5,j6,j7,j8,j9,x4,x5,x6,x7,x8,x9,reduceCtorEq,↓reduceIte,List.getElem?_set,hlen,t0,t1,t5]
 subst hY1
 refine zaa fun Y1 hY1 => ?_
 refine zav (fun o t => o=[] ∧ t.length=99 ∧ t[0]? = some (.s s) ∧ t[6]? = some (.i .i64 ((a + zaI (s.drop a):Nat):Int))) ?_ ?_
 ·have c1':a + g < s.length:=by have:=hrl (by omega); omega
  have hg:=zaC c1'
  have h48:s[a + g]? = some 48 ↔ ((s[a + g].toNat:Nat):Int)=48:=zd7 c1' 48 (by decide)
  rw [hw]
  by_cases c2:((s[a + g].toNat:Nat):Int)=48
  ·rw [if_pos (h48.2 c2)]
   simp only [hg,c2,zab,sxZ,z6,z7,z8,j4,j5,j6,j7,j8,j9,x4,x5,x6,x7,x8,x9,reduceCtorEq,↓reduceIte,List.getElem?_set,hlen,t0,t1,t5]
   and_intros <;> first | omega | exact iv (by omega) | rfl | assumption
  ·rw [if_neg (fun h => c2 (h48.1 h))]
   simp only [hg,c2,zab,sxZ,z6,z7,z8,j4,j5,j6,j7,j8,j9,x4,x5,x6,x7,x8,x9,reduceCtorEq,↓reduceIte,List.getElem?_set,hlen,t0,t1,t5]
   and_intros <;> first | omega | exact iv (by omega) | rfl | assumption
 rintro _ tm ⟨rfl,hlen,t0,t6⟩
 subst hY1
 refine zaa fun Y1 hY1 => ?_
 have hwl:a + zaI (s.drop a) ≤ s.length:=by
  rw [hw]
  have:=hrl (by omega)
  split <;> omega
 have hf:zbY (s.drop a) (zaI (s.drop a))=if s[a + zaI (s.drop a)]? = some 46 ∧ 0 < zaR (s.drop (a + zaI (s.drop a) + 1)) then zaI (s.drop a) + 1 + zaR (s.drop (a + zaI (s.drop a) + 1)) else zaI (s.drop a):=by unfold zbY; rw [zcg,zgj,Nat.add_assoc a]
 generalize zaI (s.drop a)=w at *
 clear hw hrl
 refine zav (fun o t => o=[] ∧ t.length=99 ∧ t[0]? = some (.s s) ∧ t[6]? = some (.i .i64 ((a + zbY (s.drop a) w:Nat):Int))) ?_ ?_
 ·rw [hf]
  by_cases c1:((a + w:Nat):Int) < s.length
  ·have c1':a + w < s.length:=by omega
   have hg:=zaC c1'
   have h46:s[a + w]? = some 46 ↔ ((s[a + w].toNat:Nat):Int)=46:=zd7 c1' 46 (by decide)
   by_cases c2:((s[a + w].toNat:Nat):Int)=46
   ·simp only [c1,hg,c2,zab,sxZ,z6,z7,z8,j4,j5,j6,j7,j8,j9,x4,x5,x6,x7,x8,x9,reduceCtorEq,↓reduceIte,List.getElem?_set,hlen,t0,t6]
    refine ⟨by omega,⟨by omega,by omega⟩,?_⟩
    refine zak (zdp s (a + w + 1) (by omega) hs ?_)
    have hr:=zaQ s (a + w + 1)
    generalize zaR (s.drop (a + w + 1))=r at *
    by_cases c3:0 < r
    ·rw [if_pos ⟨h46.2 c2,c3⟩]
     have c3':((a + w:Nat):Int) + 1 < ((a + w + 1 + r:Nat):Int):=by omega
     simp only [c3',zab,sxZ,z6,z7,z8,j4,j5,j6,j7,j8,j9,x4,x5,x6,x7,x8,x9,reduceCtorEq,↓reduceIte,List.getElem?_set,hlen,t0,t6]
     and_intros <;> first | omega | exact iv (by omega) | rfl | assumption
    ·rw [if_neg (fun h => c3 h.2)]
     have c3':¬ ((a + w:Nat):Int) + 1 < ((a + w + 1 + r:Nat):Int):=by omega
     simp only [c3',zab,sxZ,z6,z7,z8,j4,j5,j6,j7,j8,j9,x4,x5,x6,x7,x8,x9,reduceCtorEq,↓reduceIte,List.getElem?_set,hlen,t0,t6]
     and_intros <;> first | omega | exact iv (by omega) | rfl | assumption
   ·rw [if_neg (fun h => c2 (h46.1 h.1))]
    simp only [c1,hg,c2,zab,sxZ,z6,z7,z8,j4,j5,j6,j7,j8,j9,x4,x5,x6,x7,x8,x9,reduceCtorEq,↓reduceIte,List.getElem?_set,hlen,t0,t6]
    and_intros <;> first | omega | exact iv (by omega) | rfl | assumption
  ·rw [if_neg (fun h => zbi (by omega) h.1)]
   simp only [c1,zab,sxZ,z6,z7,z8,j4,j5,j6,j7,j8,j9,x4,x5,x6,x7,x8,x9,reduceCtorEq,↓reduceIte,List.getElem?_set,hlen,t0,t6]
 rintro _ tm ⟨rfl,hlen,t0,t6⟩
 subst hY1
 refine zaa fun Y1 hY1 => ?_
 have hfl:a + zbY (s.drop a) w ≤ s.length:=by
  rw [hf]
  split
  ·rename_i h
   have:=zaQ s (a + w + 1) h.2
   omega
  ·exact hwl
 generalize zbY (s.drop a) w=f at *
 clear hf
 have hx:zaZ (s.drop a) f=if s[a + f + 1]? = some 43 ∨ s[a + f + 1]? = some 45 then f + 2 else f + 1:=by unfold zaZ; rw [zcg,Nat.add_assoc a]
 have he:zk2 (s.drop a) f=if (s[a + f]? = some 101 ∨ s[a + f]? = some 69) ∧ 0 < zaR (s.drop (a + zaZ (s.drop a) f)) then zaZ (s.drop a) f + zaR (s.drop (a + zaZ (s.drop a) f)) else f:=by unfold zk2; rw [zcg,zgj]
 refine zav (fun o t => o=[] ∧ t.length=99 ∧ t[6]? = some (.i .i64 ((a + zk2 (s.drop a) f:Nat):Int))) ?_ ?_
 ·refine zaa fun Y2 hY2 => ?_
  refine zav (fun o t => o=[] ∧ t.length=99 ∧ t[0]? = some (.s s) ∧ t[6]? = some (.i .i64 ((a + f:Nat):Int)) ∧ t[70]? = some (.b (decide (s[a + f]? = some 101 ∨ s[a + f]? = some 69)))) ?_ ?_
  ·by_cases c1:((a + f:Nat):Int) < s.length
   ·have c1':a + f < s.length:=by omega
    have hg:=zaC c1'
    have h101:s[a + f]? = some 101 ↔ ((s[a + f].toNat:Nat):Int)=101:=zd7 c1' 101 (by decide)
    have h69:s[a + f]? = some 69 ↔ ((s[a + f].toNat:Nat):Int)=69:=zd7 c1' 69 (by decide)
    by_cases c2:((s[a + f].toNat:Nat):Int)=101
    ·have hE:s[a + f]? = some 101 ∨ s[a + f]? = some 69:=.inl (h101.2 c2)
     simp only [c1,hg,c2,hE,zab,sxZ,z6,z7,z8,j4,j5,j6,j7,j8,j9,x4,x5,x6,x7,x8,x9,reduceCtorEq,↓reduceIte,List.getElem?_set,hlen,t0,t6]
     and_intros <;> first | omega | exact iv (by omega) | rfl | assumption
    ·by_cases c3:((s[a + f].toNat:Nat):Int)=69
     ·have hE:s[a + f]? = some 101 ∨ s[a + f]? = some 69:=.inr (h69.2 c3)
      simp only [c1,hg,c2,c3,hE,zab,sxZ,z6,z7,z8,j4,j5,j6,j7,j8,j9,x4,x5,x6,x7,x8,x9,reduceCtorEq,↓reduceIte,List.getElem?_set,hlen,t0,t6]
      and_intros <;> first | omega | exact iv (by omega) | rfl | assumption
     ·have hE:¬ (s[a + f]? = some 101 ∨ s[a + f]? = some 69):=fun h => h.elim (fun h => c2 (h101.1 h)) (fun h => c3 (h69.1 h))
      simp only [c1,hg,c2,c3,hE,zab,sxZ,z6,z7,z8,j4,j5,j6,j7,j8,j9,x4,x5,x6,x7,x8,x9,reduceCtorEq,↓reduceIte,List.getElem?_set,hlen,t0,t6]
      and_intros <;> first | omega | exact iv (by omega) | rfl | assumption
   ·have hE:¬ (s[a + f]? = some 101 ∨ s[a + f]? = some 69):=fun h => h.elim (zbi (by omega)) (zbi (by omega))
    simp only [c1,hE,zab,sxZ,z6,z7,z8,j4,j5,j6,j7,j8,j9,x4,x5,x6,x7,x8,x9,reduceCtorEq,↓reduceIte,List.getElem?_set,hlen,t0,t6]
  rintro _ tm ⟨rfl,hlen,t0,t6,t70⟩
  subst hY2
  simp only [sxZ,z6,z7,z8,j4,j5,j6,j7,j8,j9,x4,x5,x6,x7,x8,x9,reduceCtorEq,↓reduceIte,List.getElem?_set,hlen,t70]
  refine kC_split (fun hE => ?_) (fun hE => ?_)
  ·have hE:=of_decide_eq_true hE
   have c1':a + f < s.length:=by
    rcases hE with h | h
    all_goals exact (List.getElem?_eq_some_iff.1 h).1
   refine zaa fun Y3 hY3 => ?_
   simp only [sxZ,z6,z7,z8,j4,j5,j6,j7,j8,j9,x4,x5,x6,x7,x8,x9,reduceCtorEq,↓reduceIte,List.getElem?_set,hlen,t0,t6]
   refine ⟨by omega,?_⟩
   subst hY3
   refine zaa fun Y3 hY3 => ?_
   refine zav (fun o t => o=[] ∧ t.length=99 ∧ t[0]? = some (.s s) ∧ t[6]? = some (.i .i64 ((a + f:Nat):Int)) ∧ t[8]? = some (.i .i64 ((a + zaZ (s.drop a) f:Nat):Int))) ?_ ?_
   ·rw [hx]
    by_cases d1:((a + f:Nat):Int) + 1 < s.length
    ·have d1':a + f + 1 < s.length:=by omega
     have hg:=zaC d1'
     have h43:s[a + f + 1]? = some 43 ↔ ((s[a + f + 1].toNat:Nat):Int)=43:=zd7 d1' 43 (by decide)
     have h45:s[a + f + 1]? = some 45 ↔ ((s[a + f + 1].toNat:Nat):Int)=45:=zd7 d1' 45 (by decide)
     have e1:(((a + f:Nat):Int) + 1).toNat=a + f + 1:=by omega
     by_cases c2:((s[a + f + 1].toNat:Nat):Int)=43
     ·rw [if_pos (.inl (h43.2 c2))]
      simp only [d1,e1,hg,c2,zab,sxZ,z6,z7,z8,j4,j5,j6,j7,j8,j9,x4,x5,x6,x7,x8,x9,reduceCtorEq,↓reduceIte,List.getElem?_set,hlen,t0,t6]
      and_intros <;> first | omega | exact iv (by omega) | rfl | assumption
     ·by_cases c3:((s[a + f + 1].toNat:Nat):Int)=45
      ·rw [if_pos (.inr (h45.2 c3))]
       simp only [d1,e1,hg,c2,c3,zab,sxZ,z6,z7,z8,j4,j5,j6,j7,j8,j9,x4,x5,x6,x7,x8,x9,reduceCtorEq,↓reduceIte,List.getElem?_set,hlen,t0,t6]
       and_intros <;> first | omega | exact iv (by omega) | rfl | assumption
      ·rw [if_neg (fun h => h.elim (fun h => c2 (h43.1 h)) (fun h => c3 (h45.1 h)))]
       simp only [d1,e1,hg,c2,c3,zab,sxZ,z6,z7,z8,j4,j5,j6,j7,j8,j9,x4,x5,x6,x7,x8,x9,reduceCtorEq,↓reduceIte,List.getElem?_set,hlen,t0,t6]
       and_intros <;> first | omega | exact iv (by omega) | rfl | assumption
    ·rw [if_neg (fun h => h.elim (zbi (by omega)) (zbi (by omega)))]
     simp only [d1,zab,sxZ,z6,z7,z8,j4,j5,j6,j7,j8,j9,x4,x5,x6,x7,x8,x9,reduceCtorEq,↓reduceIte,List.getElem?_set,hlen,t0,t6]
     and_intros <;> first | omega | exact iv (by omega) | rfl | assumption
   rintro _ tm ⟨rfl,hlen,t0,t6,t8⟩
   subst hY3
   have hxl:a + zaZ (s.drop a) f ≤ s.length:=by
    rw [hx]
    split
    ·rename_i h
     rcases h with h | h
     all_goals
      have:=(List.getElem?_eq_some_iff.1 h).1
      omega
    ·omega
   generalize zaZ (s.drop a) f=x at *
   simp only [sxZ,z6,z7,z8,j4,j5,j6,j7,j8,j9,x4,x5,x6,x7,x8,x9,reduceCtorEq,↓reduceIte,List.getElem?_set,hlen,t0,t6,t8]
   refine zak (zdp s _ hxl hs ?_)
   generalize zaR (s.drop (a + x))=r at *
   rw [he]
   by_cases c4:0 < r
   ·rw [if_pos ⟨hE,c4⟩]
    have c4':((a + x:Nat):Int) < ((a + x + r:Nat):Int):=by omega
    simp only [c4',zab,sxZ,z6,z7,z8,j4,j5,j6,j7,j8,j9,x4,x5,x6,x7,x8,x9,reduceCtorEq,↓reduceIte,List.getElem?_set,hlen,t0,t6,t8]
    and_intros <;> first | omega | exact iv (by omega) | rfl | assumption
   ·rw [if_neg (fun h => c4 h.2)]
    have c4':¬ ((a + x:Nat):Int) < ((a + x + r:Nat):Int):=by omega
    simp only [c4',zab,sxZ,z6,z7,z8,j4,j5,j6,j7,j8,j9,x4,x5,x6,x7,x8,x9,reduceCtorEq,↓reduceIte,List.getElem?_set,hlen,t0,t6,t8]
  ·have hE:=of_decide_eq_false hE
   rw [he,if_neg (fun h => hE h.1)]
   simp only [zab,sxZ,z6,z7,z8,j4,j5,j6,j7,j8,j9,x4,x5,x6,x7,x8,x9,reduceCtorEq,↓reduceIte,List.getElem?_set,hlen,t0,t6]
 rintro _ tm ⟨rfl,hlen,t6⟩
 subst hY1
 simp only [sxZ,z6,z7,z8,j4,j5,j6,j7,j8,j9,x4,x5,x6,x7,x8,x9,reduceCtorEq,↓reduceIte,List.getElem?_set,hlen,t6]
 exact hk
end
end Go.Proofs.YtadhjoggdbhkgaaGreatDoor
namespace Go.Proofs.YtadhjoggdbhkgaaGreatDoor
open Go.RowKit Sx
theorem zoi:∀ w,(zeroValue 111).run Tryz.prog w=.ok (.agg (Array.replicate 256 (.bool false))) w:=(zero_of_info (n:=256) (by kernel_rfl)).1
set_option maxHeartbeats 8000000 in
set_option maxRecDepth 1000000 in
theorem zhm (s chars:ByteArray) (w:World) (h8:8 < s.size) (hs:s.size ≤ 9000000000000000000) (h2:chars.size=2) (h0:chars.data.toList=[101,69]) :
  Calls Tryz.prog 89 #[.string s,.string chars] w fun e w' => e=.returned (.int .i64 (Lib.indexAny s.data.toList [101,69])) ∧ Qb w w':=by
 have hM:=Tryz.strings_makeASCIISet zoi chars w (by omega) (fun j b hb => by
  have:∀ c ∈ chars.data.toList,c.toNat < 128:=by rw [h0]; decide
  exact this _ (List.mem_of_getElem? hb))
 rw [h0] at hM
 have hemp:chars.toList.isEmpty=false:=by rw [Lib.toList_data,h0]; rfl
 clear h0
 have hn1:((chars.size:Int) == 1)=false:=beq_eq_false_iff_ne.2 (by omega)
 have h8z:decide ((8:Int) < (s.size:Int))=true:=decide_eq_true (by omega)
 have hsc:(storeCells ⟨w.heap.size + 1,0,none⟩ (Lib.setCells [101,69]).toList 0).run Tryz.prog ((w.alloc (.cells (Lib.setCells [101,69]) 111)).alloc (.cells (Array.replicate 256 (.bool false)) 111))=.ok () ((w.alloc (.cells (Lib.setCells [101,69]) 111)).alloc (.cells (Lib.setCells [101,69]) 111)):=by
  have:=run_storeCells_new (P:=Tryz.prog) (w.alloc (.cells (Lib.setCells [101,69]) 111)) 111 (Array.replicate 256 (.bool false)) (Lib.setCells [101,69]) (by rw [Lib.setCells_size]; kernel_rfl) (by rw [Lib.setCells_size,Array.size_replicate]) (Lib.setCells_one _)
  simpa using this
 have hsz:=Lib.setCells_size [101,69]
 have HC:Hid (∀ x:UInt8,((w.alloc (.cells (Lib.setCells [101,69]) 111)).alloc (.cells (Lib.setCells [101,69]) 111)).cell? ⟨w.heap.size + 1,x.toNat,none⟩=some (.bool (([101,69]:List UInt8).contains x))):=Lib.hid (fun x => by
  rw [World.cell?_alloc_at _ _ _ _ (by simp),Lib.setCells_at])
 go_enter Tryz.func89,Tryz.ntmps89
 go_wp2_with fail
 refine (Tryz.strings_shouldUseASCIISet _ _).mono ?_
 rintro e w1 ⟨rfl,rfl⟩
 rw [h8z]
 go_wp2_with fail
 refine hM.mono ?_
 rintro e w2 ⟨rfl,rfl⟩
 go_wp2_with fail
 have hz:Tryz.zeroCells111=Array.replicate 256 (.bool false):=by kernel_rfl
 rw [hz,hsc]
 simp only [Result.andThen]
 rw [Oper.upon_skip]
 clear hM hsc hz
 go_wp2_with fail
 go_loopg [8] s.size (fun g s8 wx => ∃ i:Nat,i + g=s.size ∧ s8=.int .i64 i ∧ wx=((w1.alloc (.cells (Lib.setCells [101,69]) 111)).alloc (.cells (Lib.setCells [101,69]) 111)) ∧ Hid (Lib.NoAny s.data.toList [101,69] i))
 case atStart => exact ⟨0,by omega,rfl,rfl,Lib.hid (Lib.NoAny.zero _ _)⟩
 case round =>
  obtain ⟨i,hig,rfl,rfl,HN⟩:=hrel
  have hq:Qb w1 ((w1.alloc (.cells (Lib.setCells [101,69]) 111)).alloc (.cells (Lib.setCells [101,69]) 111)):=((Qb.refl _).alloc _).alloc _
  cases gk with
  | zero =>
   obtain rfl:i=s.size:=by omega
   have hiz:¬ ((s.size:Int) < (s.size:Int)):=by omega
   go_wp2_with fail
   go_ret
   exact ⟨by rw [Lib.indexAny_none (by rw [← Lib.size_eq]; exact HN.out)]; rfl,hq⟩
  | succ g =>
   have hi:i < s.size:=by omega
   have hiz:(i:Int) < (s.size:Int):=by omega
   obtain ⟨x,hx⟩:∃ x:UInt8,s[i]'hi=x:=⟨_,rfl⟩
   have Hx:Hid (s.data.toList[i]? = some x):=Lib.hid (by rw [← hx]; exact Lib.data_getElem? s i hi)
   have hcx:=HC.out x
   cases hin:([101,69]:List UInt8).contains x <;> rw [hin] at hcx
   ·go_wp2_with fail
    refine (Tryz.asciiSet_contains _ x _ _ hcx).mono ?_
    rintro e w' ⟨rfl,hw⟩
    rw [hw]
    go_wp2_with fail
    go_roundg g
    case measure => omega
    case rel => exact ⟨i + 1,by omega,by first | rfl | simp,rfl,Lib.hid (HN.out.succ Hx.out hin)⟩
   ·go_wp2_with fail
    refine (Tryz.asciiSet_contains _ x _ _ hcx).mono ?_
    rintro e w' ⟨rfl,hw⟩
    rw [hw]
    go_wp2_with fail
    go_ret
    exact ⟨by rw [Lib.indexAny_hit HN.out Hx.out hin]; rfl,hq⟩
theorem zkp [Tabs Tryz.prog] {objs:List OB} {K:List OB → AV → Prop} (s:List UInt8) (hs:s.length ≤ 9000000000000000000) (ha:∀ c ∈ s,c.toNat < 128) (hk:K objs (.i .i64 (Lib.indexAny s [101,69]))):zae Tryz.prog 89 [.s s,.s [101,69]] objs K :=
 conv (vs:=[.string (S s),.string (S [101,69])]) rfl rfl (fun w => by
  by_cases h8:8 < s.length
  ·exact zhm (S s) (S [101,69]) w (by rw [zbJ]; exact h8) (by rw [zbJ]; exact hs) (by decide) rfl
  ·refine (Tryz.strings_IndexAny_laid (S s) (S [101,69]) w (by rw [zbJ]; omega) (by decide) (fun j b hb => ha b (List.mem_of_getElem? hb)) (fun j b hb => ?_)).mono fun e w' ⟨h1,h2⟩ => ⟨h1,h2⟩
   have:∀ c ∈ (S [101,69]).data.toList,c.toNat < 128:=by decide
   exact this _ (List.mem_of_getElem? hb)) hk
end Go.Proofs.YtadhjoggdbhkgaaGreatDoor
namespace Go.Proofs.YtadhjoggdbhkgaaGreatDoor
open Nat renaming reduceAdd → z6, reduceSub → z7, reduceLeDiff → z8, reduceLT → j4, reduceMul → j5, reduceEqDiff → j6
open Int renaming reduceToNat → j7, reduceAdd → j8, reduceSub → j9, reduceMul → x4, reduceNeg → x5, reduceLT → x6, reduceLE → x7, reduceEq → x8, reduceNe → x9
open Go.RowKit Sx
theorem zfz (cs v:List UInt8):∀ u:List UInt8,(∀ c ∈ u,cs.contains c=false) → Lib.indexAny (u ++ v) cs=if Lib.indexAny v cs=-1 then -1 else u.length + Lib.indexAny v cs
 | [],_ => by
  rw [List.nil_append]
  split
  ·rename_i h; exact h
  ·simp
 | c :: u,h => by
  rw [List.cons_append,Lib.indexAny,if_neg (by rw [h c (by simp)]; simp),zfz cs v u (fun x hx => h x (by simp [hx]))]
  by_cases hv:Lib.indexAny v cs=-1
  ·rw [if_pos hv,if_pos hv]; rfl
  ·have:=Lib.indexAny_ge cs v
   rw [if_neg hv,if_neg hv,if_neg (by rw [beq_iff_eq]; omega),List.length_cons]
   omega
theorem zbD {c:UInt8} (h:zal c=true):c.toNat < 128 ∧ ([101,69]:List UInt8).contains c=false ∧ c ≠ 46:=by
 have:=zgk h
 refine ⟨by omega,?_,?_⟩
 ·have h1:c ≠ 101:=fun e => by subst e; exact absurd this (by decide)
  have h2:c ≠ 69:=fun e => by subst e; exact absurd this (by decide)
  simp [h1,h2]
 ·rintro rfl; exact absurd this (by decide)
def NumS.body (p:NumS):List UInt8:=p.int ++ (frT p.fr ++ exT p.ex)
theorem ziv {f:List UInt8} (hf:f.all zal=true):∀ c ∈ frT f,c.toNat < 128 ∧ ([101,69]:List UInt8).contains c=false:=by
 intro c hc
 cases f with
 | nil => cases hc
 | cons a t =>
  have hc:c=46 ∨ c ∈ a :: t:=by simpa [frT] using hc
  rcases hc with rfl | hc
  ·exact ⟨by decide,by decide⟩
  ·have:=zbD (List.all_eq_true.1 hf c hc)
   exact ⟨this.1,this.2.1⟩
theorem zkU {p:NumS} (hp:p.Good):∀ c ∈ p.body,c.toNat < 128:=by
 intro c hc
 unfold NumS.body at hc
 rcases List.mem_append.1 hc with h | h
 ·exact (zbD (List.all_eq_true.1 hp.i1 c h)).1
 rcases List.mem_append.1 h with h | h
 ·exact (ziv hp.f1 c h).1
 cases he:p.ex with
 | none => rw [he] at h; cases h
 | some e =>
  obtain ⟨k,s,d⟩:=e
  obtain ⟨h1,h2,h3,h4⟩:=hp.e1 k s d he
  rw [he] at h
  have h:c=k ∨ c ∈ s ∨ c ∈ d:=by simpa [exT] using h
  rcases h with rfl | h | h
  ·rcases h1 with rfl | rfl <;> decide
  ·rcases h2 with rfl | rfl | rfl
   ·cases h
   ·simp only [List.mem_singleton] at h; subst h; decide
   ·simp only [List.mem_singleton] at h; subst h; decide
  ·exact (zbD (List.all_eq_true.1 h4 c h)).1
theorem body_idx {p:NumS} (hp:p.Good):Lib.indexAny p.body [101,69]=match p.ex with | none => -1 | some _ => ((p.int ++ frT p.fr).length:Int):=by
 have hno:∀ c ∈ p.int ++ frT p.fr,([101,69]:List UInt8).contains c=false:=by
  intro c hc
  rcases List.mem_append.1 hc with h | h
  ·exact (zbD (List.all_eq_true.1 hp.i1 c h)).2.1
  ·exact (ziv hp.f1 c h).2
 unfold NumS.body
 rw [← List.append_assoc,zfz _ _ _ hno]
 cases he:p.ex with
 | none => rw [if_pos (by rfl)]
 | some e =>
  obtain ⟨k,s,d⟩:=e
  obtain ⟨h1,_,_,_⟩:=hp.e1 k s d he
  have h0:Lib.indexAny (exT (some (k,s,d))) [101,69]=0:=by
   unfold exT
   rw [Lib.indexAny,if_pos]
   rcases h1 with rfl | rfl <;> decide
  rw [h0,if_neg (by decide)]
  simp
theorem za3 (c x:UInt8) (t:List UInt8):Lib.trimPrefix (x :: t) [c]=(if x=c then t else x :: t) ∧ Lib.hasPrefix (x :: t) [c]=decide (x=c):=by
 have h:Lib.hasPrefix (x :: t) [c]=decide (x=c):=by
  rw [pre_take]
  by_cases h:x=c
  ·subst h; simp
  ·rw [decide_eq_false h]; simp [h]
 refine ⟨?_,h⟩
 unfold Lib.trimPrefix
 rw [h]
 by_cases hx:x=c
 ·subst hx; simp
 ·simp [hx]
theorem zlx {p:NumS} (hp:p.Good) {k:UInt8} {s d:List UInt8} (he:p.ex=some (k,s,d)):Lib.trimPrefix (Lib.trimPrefix (s ++ d) [45]) [43]=d ∧ Lib.hasPrefix (s ++ d) [45]=decide (s=[45]):=by
 obtain ⟨_,h2,h3,h4⟩:=hp.e1 k s d he
 obtain ⟨c,t,e1,e2⟩:=zbC h3 h4
 have n45:c ≠ 45:=zbg e2 rfl
 have n43:c ≠ 43:=zbg e2 rfl
 rcases h2 with rfl | rfl | rfl
 ·rw [List.nil_append,e1,(za3 45 c t).1,if_neg n45,(za3 43 c t).1,if_neg n43,(za3 45 c t).2]
  exact ⟨rfl,by simp [n45]⟩
 ·rw [show [43] ++ d=43 :: d from rfl,(za3 45 43 d).1,if_neg (by decide),(za3 43 43 d).1,if_pos rfl,(za3 45 43 d).2]
  exact ⟨rfl,by decide⟩
 ·rw [show [45] ++ d=45 :: d from rfl,(za3 45 45 d).1,if_pos rfl,(za3 45 45 d).2,e1,(za3 43 c t).1,if_neg n43]
  exact ⟨rfl,by decide⟩
theorem zhB {p:NumS} (hp:p.Good):zfa 46 (p.int ++ frT p.fr)=(p.int,p.fr,!p.fr.isEmpty):=by
 have key:∀ (u v:List UInt8),(∀ c ∈ u,c ≠ 46) → zfa 46 (u ++ v)=(u ++ (zfa 46 v).1,(zfa 46 v).2.1,(zfa 46 v).2.2):=by
  intro u v
  induction u with
  | nil => intro _; rfl
  | cons c u ih =>
   intro h
   rw [List.cons_append,ze2,if_neg (h c (by simp)),ih (fun x hx => h x (by simp [hx]))]
   rfl
 rw [key _ _ (fun c hc => (zbD (List.all_eq_true.1 hp.i1 c hc)).2.2)]
 cases hf:p.fr with
 | nil => simp [frT,zfa]
 | cons a t => simp [frT,ze2]
section
variable [Tabs Tryz.prog] {objs:List OB} {K:List OB → AV → Prop}
theorem zgo (p:NumS) (hp:p.Good) (hs:p.body.length ≤ 140737488351232) (hk:K objs (.tup [.s (p.int ++ frT p.fr),.i .i64 (zef 1099511627776 p.ex)])):zae Tryz.prog 59 [.s p.body] objs K:=by
 refine zaV is_token_cutExponent rfl fun C _ => ?_
 simp only [c_token_cutExponent,sxZ,z6,z7,z8,j4,j5,j6,j7,j8,j9,x4,x5,x6,x7,x8,x9,reduceCtorEq,↓reduceIte]
 refine zak (zkp _ (by omega) (zkU hp) ?_)
 have hi:=body_idx hp
 cases he:p.ex with
 | none =>
  rw [he] at hi hk
  rw [hi]
  simp only [sxZ,z6,z7,z8,j4,j5,j6,j7,j8,j9,x4,x5,x6,x7,x8,x9,reduceCtorEq,↓reduceIte]
  have:p.body=p.int ++ frT p.fr:=by unfold NumS.body; rw [he]; simp [exT]
  rw [this]
  exact hk
 | some e =>
  obtain ⟨k,s,d⟩:=e
  rw [he] at hi hk
  simp only at hi
  rw [hi]
  obtain ⟨g1,g2,g3,g4⟩:=hp.e1 k s d he
  have hb:p.body=(p.int ++ frT p.fr) ++ k :: (s ++ d):=by unfold NumS.body; rw [he]; simp [exT]
  have hst:=zlx hp he
  rw [hb] at hs ⊢
  generalize p.int ++ frT p.fr=u at *
  have n0:¬ ((u.length:Nat):Int) < 0:=by omega
  have e1:(((u.length:Nat):Int) + 1).toNat=u.length + 1:=by omega
  have e2:(u ++ k :: (s ++ d)).drop (u.length + 1)=s ++ d:=by rw [← List.drop_drop,List.drop_left]; rfl
  have e3:(u ++ k :: (s ++ d)).take u.length=u:=List.take_left
  have e4:(u ++ k :: (s ++ d)).length=u.length + (s.length + d.length + 1):=by simp
  generalize u ++ k :: (s ++ d)=W at *
  simp only [n0,e1,e2,sxZ,z6,z7,z8,j4,j5,j6,j7,j8,j9,x4,x5,x6,x7,x8,x9,reduceCtorEq,↓reduceIte]
  (and_intros <;> try omega)
  refine zak (zeb _ _ ?_)
  simp only [sxZ,z6,z7,z8,j4,j5,j6,j7,j8,j9,x4,x5,x6,x7,x8,x9,reduceCtorEq,↓reduceIte]
  refine zak (zfV _ _ ?_)
  simp only [hst.1,hst.2,sxZ,z6,z7,z8,j4,j5,j6,j7,j8,j9,x4,x5,x6,x7,x8,x9,reduceCtorEq,↓reduceIte]
  refine zak (nParse_k d 1099511627776 (by rw [zbP]; omega) (by decide) ?_)
  have hnum:=zkG 1099511627776 g3 g4
  simp only [zef] at hk
  by_cases c1:zhA d 0 ≤ 1099511627776
  ·have hw:IntKind.i64.wrap ((zhA d 0:Nat):Int)=zhA d 0:=by rw [IntKind.wrap_i64]; omega
   rw [Nat.min_eq_left c1] at hk
   rw [if_pos c1] at hnum
   by_cases c2:s=[45]
   ·rw [if_pos c2] at hk
    simp only [hnum,hw,c2,e3,sxZ,z6,z7,z8,j4,j5,j6,j7,j8,j9,x4,x5,x6,x7,x8,x9,reduceCtorEq,↓reduceIte]
    refine ⟨by omega,by omega,?_⟩
    rw [Int.zero_sub]
    exact hk
   ·rw [if_neg c2] at hk
    simp only [hnum,hw,c2,e3,sxZ,z6,z7,z8,j4,j5,j6,j7,j8,j9,x4,x5,x6,x7,x8,x9,reduceCtorEq,↓reduceIte]
    exact ⟨by omega,hk⟩
  ·rw [Nat.min_eq_right (by omega)] at hk
   rw [if_neg c1] at hnum
   by_cases c2:s=[45]
   ·rw [if_pos c2] at hk
    simp only [hnum,c2,e3,sxZ,z6,z7,z8,j4,j5,j6,j7,j8,j9,x4,x5,x6,x7,x8,x9,reduceCtorEq,↓reduceIte]
    refine ⟨by omega,?_⟩
    exact hk
   ·rw [if_neg c2] at hk
    simp only [hnum,c2,e3,sxZ,z6,z7,z8,j4,j5,j6,j7,j8,j9,x4,x5,x6,x7,x8,x9,reduceCtorEq,↓reduceIte]
    exact ⟨by omega,hk⟩
set_option maxHeartbeats 4000000 in
theorem number_k [Pow Tryz.prog] (s:List UInt8) (hs:s.length ≤ 140737488351232) (h1:(s=[] ∨ zdD s ≠ s.length) → K objs (.tup [.s [],.i .i64 130]))
  (h2:∀ p:NumS,p.Good → s=p.txt → K objs (.tup [.s (zn8 1099511627776 p).2,.i .i64 (zn8 1099511627776 p).1])):zae Tryz.prog 41 [.s s] objs K:=by
 refine zaV is_token_Number rfl fun C _ => ?_
 have hmx:=zbP
 by_cases c0:s=[]
 ·have h1:=h1 (.inl c0)
  simp only [c0,c_token_Number,sxZ,z6,z7,z8,j4,j5,j6,j7,j8,j9,x4,x5,x6,x7,x8,x9,reduceCtorEq,↓reduceIte]
  exact h1
 rw [c_token_Number]
 refine zaa fun Y1 hY1 => ?_
 simp only [sxZ,z6,z7,z8,j4,j5,j6,j7,j8,j9,x4,x5,x6,x7,x8,x9,reduceCtorEq,↓reduceIte]
 subst hY1
 refine zaa fun Y1 hY1 => ?_
 simp only [c0,sxZ,z6,z7,z8,j4,j5,j6,j7,j8,j9,x4,x5,x6,x7,x8,x9,reduceCtorEq,↓reduceIte]
 refine zak (zif s 0 (Nat.zero_le _) (by omega) ?_)
 rw [List.drop_zero,Nat.zero_add]
 by_cases c1:zdD s=s.length
 case neg =>
  have c1':¬ ((zdD s:Nat):Int)=s.length:=by omega
  simp only [c1',sxZ,z6,z7,z8,j4,j5,j6,j7,j8,j9,x4,x5,x6,x7,x8,x9,reduceCtorEq,↓reduceIte]
  exact h1 (.inr c1)
 clear h1
 obtain ⟨p,hp,rfl⟩:=zha c0 c1
 have h2:=h2 p hp rfl
 simp only [c1,sxZ,z6,z7,z8,j4,j5,j6,j7,j8,j9,x4,x5,x6,x7,x8,x9,reduceCtorEq,↓reduceIte]
 subst hY1
 refine zaa fun Y1 hY1 => ?_
 simp only [sxZ,z6,z7,z8,j4,j5,j6,j7,j8,j9,x4,x5,x6,x7,x8,x9,reduceCtorEq,↓reduceIte]
 refine zak (zeb _ _ ?_)
 have hcp:Lib.trimPrefix p.txt [45]=p.body ∧ Lib.hasPrefix p.txt [45]=p.neg:=by
  obtain ⟨c,t,e1,e2⟩:=zbC hp.i0 hp.i1
  have n45:c ≠ 45:=zbg e2 rfl
  unfold NumS.txt NumS.body
  cases p.neg with
  | true =>
   have:=za3 45 45 (p.int ++ (frT p.fr ++ exT p.ex))
   rw [if_pos rfl] at this
   exact ⟨this.1,this.2⟩
  | false =>
   have:=za3 45 c (t ++ (frT p.fr ++ exT p.ex))
   rw [if_neg n45,decide_eq_false n45] at this
   rw [e1]
   exact this
 have hbl:p.body.length ≤ p.txt.length:=by unfold NumS.txt NumS.body; simp
 simp only [hcp.1,hcp.2,sxZ,z6,z7,z8,j4,j5,j6,j7,j8,j9,x4,x5,x6,x7,x8,x9,reduceCtorEq,↓reduceIte]
 subst hY1
 refine zaa fun Y1 hY1 => ?_
 simp only [sxZ,z6,z7,z8,j4,j5,j6,j7,j8,j9,x4,x5,x6,x7,x8,x9,reduceCtorEq,↓reduceIte]
 refine zak (zgo p hp (by omega) ?_)
 simp only [sxZ,z6,z7,z8,j4,j5,j6,j7,j8,j9,x4,x5,x6,x7,x8,x9,reduceCtorEq,↓reduceIte]
 subst hY1
 refine zaa fun Y1 hY1 => ?_
 simp only [sxZ,z6,z7,z8,j4,j5,j6,j7,j8,j9,x4,x5,x6,x7,x8,x9,reduceCtorEq,↓reduceIte]
 have hml:(p.int ++ frT p.fr).length ≤ p.txt.length:=by unfold NumS.txt; simp; omega
 refine zak (sCut_k _ 46 (by omega) ?_)
 rw [zhB hp]
 simp only [sxZ,z6,z7,z8,j4,j5,j6,j7,j8,j9,x4,x5,x6,x7,x8,x9,reduceCtorEq,↓reduceIte]
 subst hY1
 refine zaa fun Y1 hY1 => ?_
 simp only [sxZ,z6,z7,z8,j4,j5,j6,j7,j8,j9,x4,x5,x6,x7,x8,x9,reduceCtorEq,↓reduceIte]
 have htl:=zhU p
 refine ⟨by omega,?_⟩
 refine zak (zh1 _ 48 (by decide) ?_)
 have hzl:Lib.trimLeftB (p.int ++ p.fr) 48=zcf p:=rfl
 have hml2:=zf8 p
 have hzr:=zk3 (zcf p)
 have hei:=znD 1099511627776 p.ex
 rw [hzl]
 unfold zn8 at h2
 unfold expX at h2
 simp only [sxZ,z6,z7,z8,j4,j5,j6,j7,j8,j9,x4,x5,x6,x7,x8,x9,reduceCtorEq,↓reduceIte]
 subst hY1
 refine zaa fun Y1 hY1 => ?_
 by_cases c2:zcf p=[]
 ·rw [if_pos c2] at h2
  simp only [c2,sxZ,z6,z7,z8,j4,j5,j6,j7,j8,j9,x4,x5,x6,x7,x8,x9,reduceCtorEq,↓reduceIte]
  exact h2
 rw [if_neg c2] at h2
 generalize zef 1099511627776 p.ex=E at *
 simp only [c2,sxZ,z6,z7,z8,j4,j5,j6,j7,j8,j9,x4,x5,x6,x7,x8,x9,reduceCtorEq,↓reduceIte]
 subst hY1
 refine zaa fun Y1 hY1 => ?_
 simp only [sxZ,z6,z7,z8,j4,j5,j6,j7,j8,j9,x4,x5,x6,x7,x8,x9,reduceCtorEq,↓reduceIte]
 refine zak (zgR _ 48 (by decide) (by omega) ?_)
 have hzr2:Lib.trimRightB (zcf p) 48=zR (zcf p):=rfl
 rw [hzr2]
 simp only [sxZ,z6,z7,z8,j4,j5,j6,j7,j8,j9,x4,x5,x6,x7,x8,x9,reduceCtorEq,↓reduceIte]
 subst hY1
 refine zaa fun Y1 hY1 => ?_
 simp only [sxZ,z6,z7,z8,j4,j5,j6,j7,j8,j9,x4,x5,x6,x7,x8,x9,reduceCtorEq,↓reduceIte]
 (and_intros <;> try omega)
 subst hY1
 refine zaa fun Y1 hY1 => ?_
 generalize E - (p.fr.length:Int) + (((zcf p).length:Int) - ((zR (zcf p)).length:Int))=x at *
 generalize zR (zcf p)=m at *
 by_cases d1:(40:Int) < m.length
 ·rw [if_pos (.inl (by omega))] at h2
  simp only [d1,sxZ,z6,z7,z8,j4,j5,j6,j7,j8,j9,x4,x5,x6,x7,x8,x9,reduceCtorEq,↓reduceIte]
  exact h2
 by_cases d2:x < -400
 ·rw [if_pos (.inr (.inl d2))] at h2
  simp only [d1,d2,sxZ,z6,z7,z8,j4,j5,j6,j7,j8,j9,x4,x5,x6,x7,x8,x9,reduceCtorEq,↓reduceIte]
  exact h2
 by_cases d3:400 < x
 ·rw [if_pos (.inr (.inr d3))] at h2
  simp only [d1,d2,d3,sxZ,z6,z7,z8,j4,j5,j6,j7,j8,j9,x4,x5,x6,x7,x8,x9,reduceCtorEq,↓reduceIte]
  exact h2
 rw [if_neg (by omega)] at h2
 simp only [d1,d2,d3,sxZ,z6,z7,z8,j4,j5,j6,j7,j8,j9,x4,x5,x6,x7,x8,x9,reduceCtorEq,↓reduceIte]
 subst hY1
 refine zaa fun Y1 hY1 => ?_
 have hit:=Lib.itoa_length_le x (by omega) (by omega)
 unfold expS sgT at h2
 cases hn:p.neg with
 | true =>
  rw [hn] at h2
  simp only [sxZ,z6,z7,z8,j4,j5,j6,j7,j8,j9,x4,x5,x6,x7,x8,x9,reduceCtorEq,↓reduceIte]
  (and_intros <;> try omega)
  subst hY1
  by_cases d4:x=0
  ·subst d4
   simp only [sxZ,z6,z7,z8,j4,j5,j6,j7,j8,j9,x4,x5,x6,x7,x8,x9,reduceCtorEq,↓reduceIte]
   simpa using h2
  ·rw [if_neg d4] at h2
   simp only [d4,sxZ,z6,z7,z8,j4,j5,j6,j7,j8,j9,x4,x5,x6,x7,x8,x9,reduceCtorEq,↓reduceIte]
   refine zak (zeY x (by omega) (by omega) ?_)
   simp only [sxZ,z6,z7,z8,j4,j5,j6,j7,j8,j9,x4,x5,x6,x7,x8,x9,reduceCtorEq,↓reduceIte]
   (and_intros <;> try omega)
   simpa using h2
 | false =>
  rw [hn] at h2
  simp only [sxZ,z6,z7,z8,j4,j5,j6,j7,j8,j9,x4,x5,x6,x7,x8,x9,reduceCtorEq,↓reduceIte]
  subst hY1
  by_cases d4:x=0
  ·subst d4
   simp only [sxZ,z6,z7,z8,j4,j5,j6,j7,j8,j9,x4,x5,x6,x7,x8,x9,reduceCtorEq,↓reduceIte]
   simpa using h2
  ·rw [if_neg d4] at h2
   simp only [d4,sxZ,z6,z7,z8,j4,j5,j6,j7,j8,j9,x4,x5,x6,x7,x8,x9,reduceCtorEq,↓reduceIte]
   refine zak (zeY x (by omega) (by omega) ?_)
   simp only [sxZ,z6,z7,z8,j4,j5,j6,j7,j8,j9,x4,x5,x6,x7,x8,x9,reduceCtorEq,↓reduceIte]
   (and_intros <;> try omega)
   simpa using h2
end
end Go.Proofs.YtadhjoggdbhkgaaGreatDoor
namespace Go.Proofs.YtadhjoggdbhkgaaGreatDoor
open Go.RowKit
end Go.Proofs.YtadhjoggdbhkgaaGreatDoor
namespace Go.Proofs.YtadhjoggdbhkgaaGreatDoor
open Nat renaming reduceAdd → z6, reduceSub → z7, reduceLeDiff → z8, reduceLT → j4, reduceMul → j5, reduceEqDiff → j6
open Int renaming reduceToNat → j7, reduceAdd → j8, reduceSub → j9, reduceMul → x4, reduceNeg → x5, reduceLT → x6, reduceLE → x7, reduceEq → x8, reduceNe → x9
open Go.RowKit Sx
theorem zob (a b:List UInt8):byA (a ++ b)=byA a ++ byA b:=by simp [byA]
theorem zis:∀ k:Fin 16,([48,49,50,51,52,53,54,55,56,57,97,98,99,100,101,102]:List UInt8).getD k.val 0=zk1 k.val:=by decide +kernel
theorem u8_16:∀ n:Fin 256,((n.val:Nat):Int).fdiv (2 ^ min 4 IntKind.u8.bits)=((n.val / 16:Nat):Int) ∧ IntKind.u8.wrap ((BitVec.ofInt IntKind.u8.bits ((n.val:Nat):Int) &&& BitVec.ofInt IntKind.u8.bits 15).toNat:Int)=((n.val % 16:Nat):Int):=by decide +kernel
theorem zjc {c:UInt8} (h1:c ≠ 34) (h2:c ≠ 92) (h3:c ≠ 8) (h4:c ≠ 12) (h5:c ≠ 10) (h6:c ≠ 13) (h7:c ≠ 9):zfr c=if c.toNat < 32 then [92,117,48,48,zk1 (c.toNat / 16),zk1 (c.toNat % 16)] else [c]:=by
 unfold zfr
 rw [if_neg (by rintro (h | h); exact h1 h; exact h2 h),if_neg h3,if_neg h4,if_neg h5,if_neg h6,if_neg h7]
theorem zjb (l:List UInt8):(l.flatMap zfr).length ≤ 6 * l.length:=by
 induction l with
 | nil => simp
 | cons c t ih =>
  have:(zfr c).length ≤ 6:=by
   unfold zfr
   repeat' split
   all_goals simp
  rw [List.flatMap_cons,List.length_append,List.length_cons]; omega
def zkC (s:List UInt8) (i:Nat):List UInt8:=34 :: (s.take i).flatMap zfr
theorem quoP_len (s:List UInt8) (i:Nat):(zkC s i).length ≤ 6 * s.length + 1:=by
 have h:=zjb (s.take i)
 rw [List.length_take] at h
 unfold zkC
 rw [List.length_cons]; omega
theorem zg6 (s:List UInt8) (i:Nat) (h:i < s.length):zkC s i ++ zfr s[i]=zkC s (i + 1):=by
 unfold zkC
 rw [List.take_add_one,List.getElem?_eq_getElem h,List.flatMap_append]
 simp
theorem zja (s:List UInt8):byA (zkC s s.length) ++ [.i .u8 34]=byA (zh8 s):=by
 unfold zkC zh8
 rw [List.take_length,← List.cons_append,zob]; rfl
def zds (s:List UInt8):Int × List UInt8:=if 1048576 < s.length then (5,[]) else if zaF s=false then (7,[]) else (0,zh8 s)
theorem zck {l:List UInt8} {n:Nat} (h:zcx l=some n):6 ≤ l.length ∧ n ≤ 65535:=by
 unfold zcx at h
 split at h
 ·cases h
 ·rename_i g
  split at h
  ·injection h with h
   have:=zjk zbI 16 65535 ((l.drop 2).take 4)
   constructor
   ·apply Classical.byContradiction
    intro h1
    exact g (.inl (by omega))
   ·omega
  ·cases h
section
variable [Tabs Tryz.prog] {objs:List OB} {K:List OB → AV → Prop}
set_option maxHeartbeats 4000000 in
theorem zfd (c:UInt8) (g:Nat) (l:List UInt8) (more:List OB) (hl:l.length ≤ 100000000000000) (hk:∀ g',K (.orow 5 1 g' (l ++ zfr c).length (byA (l ++ zfr c)) :: more) (.orow 0 g')) :
  zae Tryz.prog 76 [.orow 0 g,.i .u8 c.toNat] (.orow 5 1 g l.length (byA l) :: more) K:=by
 refine zcr is_token_appendQuoted fun C _ => ?_
 have hfin:∀ (q:List UInt8) (x:List AV) (g' n:Nat),zfr c=q → x=byA l ++ byA q → n=l.length + q.length → K (.orow 5 1 g' n x :: more) (.orow 0 g'):=by
  rintro q x g' n rfl rfl rfl
  have:=hk g'
  rw [List.length_append,zob] at this
  exact this
 have e:=fun k (hk:k < 256) => zcd (c:=c) (k:=k) hk
 by_cases c1:((c.toNat:Nat):Int)=34
 ·have hc:=(e 34 (by decide)).1 c1
  simp only [c1,c_token_appendQuoted,sxZ,z6,z7,z8,j4,j5,j6,j7,j8,j9,x4,x5,x6,x7,x8,x9,reduceCtorEq,↓reduceIte]
  exact ⟨by omega,hfin [92,34] _ _ _ (by rw [hc]; rfl) rfl rfl⟩
 by_cases c2:((c.toNat:Nat):Int)=92
 ·have hc:=(e 92 (by decide)).1 c2
  simp only [c2,c_token_appendQuoted,sxZ,z6,z7,z8,j4,j5,j6,j7,j8,j9,x4,x5,x6,x7,x8,x9,reduceCtorEq,↓reduceIte]
  exact ⟨by omega,hfin [92,92] _ _ _ (by rw [hc]; rfl) rfl rfl⟩
 by_cases c3:((c.toNat:Nat):Int)=8
 ·have hc:=(e 8 (by decide)).1 c3
  simp only [c3,c_token_appendQuoted,sxZ,z6,z7,z8,j4,j5,j6,j7,j8,j9,x4,x5,x6,x7,x8,x9,reduceCtorEq,↓reduceIte]
  exact ⟨by omega,hfin [92,98] _ _ _ (by rw [hc]; rfl) rfl rfl⟩
 by_cases c4:((c.toNat:Nat):Int)=12
 ·have hc:=(e 12 (by decide)).1 c4
  simp only [c4,c_token_appendQuoted,sxZ,z6,z7,z8,j4,j5,j6,j7,j8,j9,x4,x5,x6,x7,x8,x9,reduceCtorEq,↓reduceIte]
  exact ⟨by omega,hfin [92,102] _ _ _ (by rw [hc]; rfl) rfl rfl⟩
 by_cases c5:((c.toNat:Nat):Int)=10
 ·have hc:=(e 10 (by decide)).1 c5
  simp only [c5,c_token_appendQuoted,sxZ,z6,z7,z8,j4,j5,j6,j7,j8,j9,x4,x5,x6,x7,x8,x9,reduceCtorEq,↓reduceIte]
  exact ⟨by omega,hfin [92,110] _ _ _ (by rw [hc]; rfl) rfl rfl⟩
 by_cases c6:((c.toNat:Nat):Int)=13
 ·have hc:=(e 13 (by decide)).1 c6
  simp only [c6,c_token_appendQuoted,sxZ,z6,z7,z8,j4,j5,j6,j7,j8,j9,x4,x5,x6,x7,x8,x9,reduceCtorEq,↓reduceIte]
  exact ⟨by omega,hfin [92,114] _ _ _ (by rw [hc]; rfl) rfl rfl⟩
 by_cases c7:((c.toNat:Nat):Int)=9
 ·have hc:=(e 9 (by decide)).1 c7
  simp only [c7,c_token_appendQuoted,sxZ,z6,z7,z8,j4,j5,j6,j7,j8,j9,x4,x5,x6,x7,x8,x9,reduceCtorEq,↓reduceIte]
  exact ⟨by omega,hfin [92,116] _ _ _ (by rw [hc]; rfl) rfl rfl⟩
 have hq:=zjc (c:=c) (fun h => c1 ((e 34 (by decide)).2 h)) (fun h => c2 ((e 92 (by decide)).2 h)) (fun h => c3 ((e 8 (by decide)).2 h)) (fun h => c4 ((e 12 (by decide)).2 h)) (fun h => c5 ((e 10 (by decide)).2 h)) (fun h => c6 ((e 13 (by decide)).2 h)) (fun h => c7 ((e 9 (by decide)).2 h))
 by_cases c8:((c.toNat:Nat):Int) < 32
 ·rw [if_pos (by omega)] at hq
  simp only [c1,c2,c3,c4,c5,c6,c7,c8,c_token_appendQuoted,sxZ,z6,z7,z8,j4,j5,j6,j7,j8,j9,x4,x5,x6,x7,x8,x9,reduceCtorEq,↓reduceIte]
  obtain ⟨w1,w2⟩:=u8_16 ⟨c.toNat,c.toNat_lt⟩
  simp only at w1 w2
  rw [w1,w2,Int.toNat_natCast,Int.toNat_natCast,zis ⟨c.toNat / 16,by omega⟩,zis ⟨c.toNat % 16,by omega⟩]
  refine ⟨by omega,by omega,by omega,by omega,hfin _ _ _ _ hq ?_ rfl⟩
  rw [List.append_assoc]; rfl
 ·rw [if_neg (by omega)] at hq
  simp only [c1,c2,c3,c4,c5,c6,c7,c8,c_token_appendQuoted,sxZ,z6,z7,z8,j4,j5,j6,j7,j8,j9,x4,x5,x6,x7,x8,x9,reduceCtorEq,↓reduceIte]
  exact ⟨by omega,hfin [c] _ _ _ hq rfl rfl⟩
theorem quote_k [Utf Tryz.prog] (s:List UInt8) (hs:s.length ≤ 140737488351232) (hk:K objs (.tup [.s (zds s).2,.i .i64 (zds s).1])):zae Tryz.prog 53 [.s s] objs K:=by
 refine zaV is_token_Quote rfl fun C _ => ?_
 unfold zds at hk
 by_cases c0:(1048576:Int) < s.length
 ·rw [if_pos (by omega)] at hk
  simp only [c0,c_token_Quote,sxZ,z6,z7,z8,j4,j5,j6,j7,j8,j9,x4,x5,x6,x7,x8,x9,reduceCtorEq,↓reduceIte]
  exact hk
 have c0':s.length ≤ 1048576:=by omega
 rw [if_neg (by omega)] at hk
 simp only [c0,c_token_Quote,sxZ,z6,z7,z8,j4,j5,j6,j7,j8,j9,x4,x5,x6,x7,x8,x9,reduceCtorEq,↓reduceIte]
 refine zak (zfS s hs ?_)
 by_cases c1:zaF s=true
 ·rw [if_neg (by rw [c1]; simp)] at hk
  simp only [c1,sxZ,z6,z7,z8,j4,j5,j6,j7,j8,j9,x4,x5,x6,x7,x8,x9,reduceCtorEq,↓reduceIte]
  (and_intros <;> try omega)
  refine zaA (fun n objs tm => ∃ (i g:Nat),i ≤ s.length ∧ n=s.length - i ∧ objs=[.orow 5 1 g (zkC s i).length (byA (zkC s i))] ∧ tm.length=34 ∧ tm[0]? = some (.s s) ∧ tm[4]? = some (.orow 0 g) ∧ tm[20]? = some (.i .i64 s.length) ∧ tm[21]? = some (.i .i64 i)) s.length ⟨0,1,Nat.zero_le _,rfl,rfl,rfl,rfl,rfl,rfl,rfl⟩ ?_
  rintro n _ tm ⟨i,g,hi,rfl,rfl,hlen,t0,t4,t20,t21⟩
  have hql:=quoP_len s i
  by_cases hlt:(i:Int) < s.length
  ·have hlt':i < s.length:=by omega
   have hg:=zaC hlt'
   simp only [sxZ,z6,z7,z8,j4,j5,j6,j7,j8,j9,x4,x5,x6,x7,x8,x9,reduceCtorEq,↓reduceIte,List.getElem?_set,hlen,t0,t4,t20,t21,hlt]
   refine ⟨by omega,?_⟩
   rw [hg]
   refine zak (zfd s[i] g _ _ (by omega) fun g' => ?_)
   rw [zg6 s i hlt']
   simp only [sxZ,z6,z7,z8,j4,j5,j6,j7,j8,j9,x4,x5,x6,x7,x8,x9,reduceCtorEq,↓reduceIte,List.getElem?_set,hlen,t0,t4,t20,t21]
   exact ⟨by omega,s.length - (i + 1),by omega,i + 1,g',by omega,rfl,rfl,rfl,rfl⟩
  ·obtain rfl:i=s.length:=by omega
   simp only [sxZ,z6,z7,z8,j4,j5,j6,j7,j8,j9,x4,x5,x6,x7,x8,x9,reduceCtorEq,↓reduceIte,List.getElem?_set,hlen,t0,t4,t20,t21,hlt]
   refine ⟨by omega,⟨rfl,rfl⟩,zh8 s,zja s,?_⟩
   simp only [sxZ,z6,z7,z8,j4,j5,j6,j7,j8,j9,x4,x5,x6,x7,x8,x9,reduceCtorEq,↓reduceIte,List.getElem?_set,hlen,t0,t4,t20,t21]
   exact hk
 ·rw [if_pos (by simpa using c1)] at hk
  simp only [c1,sxZ,z6,z7,z8,j4,j5,j6,j7,j8,j9,x4,x5,x6,x7,x8,x9,reduceCtorEq,↓reduceIte]
  exact hk
end
end Go.Proofs.YtadhjoggdbhkgaaGreatDoor
namespace Go.Proofs.YtadhjoggdbhkgaaGreatDoor
open Go.RowKit Sx
theorem zn3 {s:List UInt8} {i:Nat} (h:i < s.length):zb0 s i=match zb3 (s.drop i) with | none => (0,0,7) | some (r,n) => ((r:Int),((i + n:Nat):Int),0):=by
 unfold zb0
 rw [if_neg (by omega),Int.toNat_natCast]
 cases zb3 (s.drop i) <;> simp
theorem zeC (s:List UInt8) (i m:Nat):(s.take (i + m)).drop i=(s.drop i).take m:=by
 rw [List.drop_take,show i + m - i=m by omega]
def zdb (n:Nat) (r:List UInt8):Nat × Nat :=
 if 55296 ≤ n ∧ n < 56320 then (match zcx r with
  | some m => if 56320 ≤ m ∧ m ≤ 57343 then (65536 + (n - 55296) * 1024 + (m - 56320),12) else (n,6)
  | none => (n,6)) else (n,6)
theorem znE {l:List UInt8} {n:Nat} (h0:(l[1]?).bind zeH=none) (h:zcx l=some n):zeh l=if cpB ((zdb n (l.drop 6)).1:Int)=true then (0,zdH (zdb n (l.drop 6)).1,(zdb n (l.drop 6)).2) else (7,[],0):=by
 have hn:=(zck h).2
 have hcp:∀ k:Nat,cpB (k:Int)=decide (k ≤ 1114111 ∧ (k < 55296 ∨ 57343 < k)):=by
  intro k
  unfold cpB
  by_cases h1:k ≤ 1114111 ∧ (k < 55296 ∨ 57343 < k)
  ·rw [decide_eq_true (by omega),decide_eq_true h1]
  ·rw [decide_eq_false (by omega),decide_eq_false h1]
 have hE:zeh l=(if n < 55296 ∨ 57343 < n then ((0:Int),zdH n,6)
   else if 56319 < n then (7,[],0)
   else match zcx (l.drop 6) with
    | none => (7,[],0)
    | some m => if m < 56320 ∨ 57343 < m then (7,[],0) else (0,zdH (65536 + (n - 55296) * 1024 + (m - 56320)),12)):=by
  unfold zeh
  rw [h0,h]
  rfl
 rw [hE]
 by_cases c1:n < 55296 ∨ 57343 < n
 ·have hU:zdb n (l.drop 6)=(n,6):=by unfold zdb; rw [if_neg (show ¬ (55296 ≤ n ∧ n < 56320) by omega)]
  rw [if_pos c1,hU,hcp,if_pos (decide_eq_true (by omega))]
 ·by_cases c2:56319 < n
  ·have hU:zdb n (l.drop 6)=(n,6):=by unfold zdb; rw [if_neg (show ¬ (55296 ≤ n ∧ n < 56320) by omega)]
   rw [if_neg c1,if_pos c2,hU,hcp,if_neg (by rw [decide_eq_true_eq]; omega)]
  ·rw [if_neg c1,if_neg c2]
   cases hu:zcx (l.drop 6) with
   | none =>
    have hU:zdb n (l.drop 6)=(n,6):=by unfold zdb; rw [if_pos (show 55296 ≤ n ∧ n < 56320 by omega),hu]
    rw [hU,hcp,if_neg (by rw [decide_eq_true_eq]; omega)]
   | some m =>
    by_cases c3:m < 56320 ∨ 57343 < m
    ·have hU:zdb n (l.drop 6)=(n,6):=by
      unfold zdb; rw [if_pos (show 55296 ≤ n ∧ n < 56320 by omega),hu]
      simp only
      rw [if_neg (show ¬ (56320 ≤ m ∧ m ≤ 57343) by omega)]
     simp only
     rw [if_pos c3,hU,hcp,if_neg (by rw [decide_eq_true_eq]; omega)]
    ·have hU:zdb n (l.drop 6)=(65536 + (n - 55296) * 1024 + (m - 56320),12):=by
      unfold zdb; rw [if_pos (show 55296 ≤ n ∧ n < 56320 by omega),hu]
      simp only
      rw [if_pos (show 56320 ≤ m ∧ m ≤ 57343 by omega)]
     simp only
     rw [if_neg c3,hU,hcp,if_pos (decide_eq_true (by omega))]
theorem escU_ge (n:Nat) (r:List UInt8):6 ≤ (zdb n r).2:=by
 unfold zdb
 repeat' split
 all_goals first | exact Nat.le_refl _ | (show 6 ≤ 12; omega)
theorem escU_len {l:List UInt8} {n:Nat} (h:zcx l=some n):(zdb n (l.drop 6)).2 ≤ l.length ∧ (zdb n (l.drop 6)).1 ≤ 1114111:=by
 have h1:=zck h
 unfold zdb
 split
 ·cases hu:zcx (l.drop 6) with
  | none => simp only; omega
  | some m =>
   have h2:=zck hu
   rw [List.length_drop] at h2
   simp only
   split
   ·simp only; omega
   ·simp only; omega
 ·simp only; omega
theorem zjO {l x:List UInt8} {n:Nat} (h:zeh l=(0,x,n)):x.length ≤ n ∧ 1 ≤ n ∧ n ≤ l.length:=by
 cases hse:(l[1]?).bind zeH with
 | some d =>
  have he:zeh l=(0,[d],2):=by unfold zeh; rw [hse]
  rw [he] at h
  injection h with _ h; injection h with h1 h2
  subst h1 h2
  obtain ⟨c,h2,_⟩:=Option.bind_eq_some_iff.1 hse
  have:=(List.getElem?_eq_some_iff.1 h2).1
  exact ⟨by simp,by omega,by omega⟩
 | none =>
  cases hu:zcx l with
  | none =>
   have he:zeh l=(130,[],0):=by unfold zeh; rw [hse,hu]
   rw [he] at h
   injection h with h _; cases h
  | some k =>
   have he:=znE hse hu
   have h3:=escU_len hu
   have h4:=escU_ge k (l.drop 6)
   have h5:=encU_len (r:=(zdb k (l.drop 6)).1)
   rw [h] at he
   split at he
   ·injection he with _ he; injection he with h1 h2
    subst h1 h2
    omega
   ·injection he with he _; cases he
section
variable [Tabs Tryz.prog] [Utf Tryz.prog] {objs:List OB} {K:List OB → AV → Prop}
end
end Go.Proofs.YtadhjoggdbhkgaaGreatDoor
namespace Go.Proofs.YtadhjoggdbhkgaaGreatDoor
open Go.RowKit Sx
def zbf (s:List UInt8) (a:Int):(Int × List UInt8 × Int) × Int × Int :=
 if a < 0 ∨ (s.length:Int) < a then ((0,[],0),0,4)
 else if (zbl (s.drop (a.toNat + zbn (s.drop a.toNat)))).1 ≠ 0 then ((0,[],0),0,(zbl (s.drop (a.toNat + zbn (s.drop a.toNat)))).1)
 else (((zbl (s.drop (a.toNat + zbn (s.drop a.toNat)))).2.1,(zbl (s.drop (a.toNat + zbn (s.drop a.toNat)))).2.2.1,((a.toNat + zbn (s.drop a.toNat):Nat):Int)),((a.toNat + zbn (s.drop a.toNat) + (zbl (s.drop (a.toNat + zbn (s.drop a.toNat)))).2.2.2:Nat):Int),0)
def zmI (r:(Int × List UInt8 × Int) × Int × Int):AV:=.tup [.agg [.i .i64 r.1.1,.s r.1.2.1,.i .i64 r.1.2.2],.i .i64 r.2.1,.i .i64 r.2.2]
theorem word_at (s:List UInt8) (i:Nat) (h:i < s.length):zbL (s.drop i)=if zd3 s[i]=true then zbL (s.drop (i + 1)) + 1 else 0:=by
 rw [List.drop_eq_getElem_cons h,zbL]
theorem white_at (s:List UInt8) (i:Nat) (h:i < s.length):zbn (s.drop i)=if zcB s[i]=true then zbn (s.drop (i + 1)) + 1 else 0:=by
 rw [List.drop_eq_getElem_cons h,zbn]
theorem zfP:∀ l:List UInt8,zbL l ≤ l.length
 | [] => Nat.le_refl _
 | c :: t => by
  have:=zfP t
  unfold zbL
  split <;> simp only [List.length_cons] <;> omega
theorem zey:∀ l:List UInt8,zbn l ≤ l.length
 | [] => Nat.le_refl _
 | c :: t => by
  have:=zey t
  unfold zbn
  split <;> simp only [List.length_cons] <;> omega
section
variable [Tabs Tryz.prog] [Utf Tryz.prog] {objs:List OB} {K:List OB → AV → Prop}
end
end Go.Proofs.YtadhjoggdbhkgaaGreatDoor
namespace Go.Proofs.YtadhjoggdbhkgaaGreatDoor
open Nat renaming reduceAdd → z6, reduceSub → z7, reduceLeDiff → z8, reduceLT → j4, reduceMul → j5, reduceEqDiff → j6
open Int renaming reduceToNat → j7, reduceAdd → j8, reduceSub → j9, reduceMul → x4, reduceNeg → x5, reduceLT → x6, reduceLE → x7, reduceEq → x8, reduceNe → x9
open Go.RowKit Sx
theorem rn_condH {P:Program} [Tabs P] {C:Cx} {F:zaH} {k:List IT} {objs:List OB} {tm:List AV} {c:SV} {x y:SCode} (h:∀ X,X=x → run P C (.code (.cond c X y) :: k) objs tm F):run P C (.code (.cond c x y) :: k) objs tm F:=h x rfl
section
variable [Tabs Tryz.prog] {objs:List OB} {K:List OB → AV → Prop}
theorem rwhite_k (c:UInt8) (hk:K objs (.b (zcB c))):zae Tryz.prog 71 [.i .u8 c.toNat] objs K:=by
 refine zaV is_ref13_white rfl fun C _ => ?_
 simp only [c_ref13_white,sxZ,z6,z7,z8,j4,j5,j6,j7,j8,j9,x4,x5,x6,x7,x8,x9,reduceCtorEq,↓reduceIte]
 refine zak (zg2 c _ (by decide) ?_)
 simp only [sxZ,z6,z7,z8,j4,j5,j6,j7,j8,j9,x4,x5,x6,x7,x8,x9,reduceCtorEq,↓reduceIte]
 exact hk
theorem zh5 (s:List UInt8) (a:Nat) (hk:K objs (.s (s.drop a))):zae Tryz.prog 68 [.s s,.i .i64 (a:Nat)] objs K:=by
 refine zaV is_ref13_tail rfl fun C _ => ?_
 by_cases c0:(s.length:Int) ≤ a
 ·rw [List.drop_of_length_le (by omega)] at hk
  simp only [c0,c_ref13_tail,sxZ,z6,z7,z8,j4,j5,j6,j7,j8,j9,x4,x5,x6,x7,x8,x9,reduceCtorEq,↓reduceIte]
  exact hk
 ·simp only [c0,c_ref13_tail,sxZ,z6,z7,z8,j4,j5,j6,j7,j8,j9,x4,x5,x6,x7,x8,x9,reduceCtorEq,↓reduceIte]
  exact ⟨by omega,hk⟩
theorem zlG (s:List UInt8) (hs:s.length ≤ 9000000000000000000) (hk:K objs (.i .i64 (zaR s:Nat))):zae Tryz.prog 102 [.s s] objs K:=by
 refine zaV is_ref13_run rfl fun C _ => ?_
 simp only [c_ref13_run,sxZ,z6,z7,z8,j4,j5,j6,j7,j8,j9,x4,x5,x6,x7,x8,x9,reduceCtorEq,↓reduceIte]
 refine zaA (fun n objs tm => ∃ i:Nat,i ≤ s.length ∧ n=s.length - i ∧ objs=[] ∧ zaR s=i + zaR (s.drop i) ∧ tm.length=17 ∧ tm[0]? = some (.s s) ∧ tm[3]? = some (.i .i64 i)) s.length ⟨0,Nat.zero_le _,rfl,rfl,by simp,rfl,rfl,rfl⟩ ?_
 rintro n _ tm ⟨i,hi,rfl,rfl,hr,hlen,t0,t3⟩
 by_cases hlt:(i:Int) < s.length
 ·have hlt':i < s.length:=by omega
  have hg:=zaC hlt'
  have hrn:=zlE s i hlt'
  simp only [sxZ,z6,z7,z8,j4,j5,j6,j7,j8,j9,x4,x5,x6,x7,x8,x9,reduceCtorEq,↓reduceIte,List.getElem?_set,hlen,t0,t3,hlt]
  refine ⟨by omega,?_⟩
  rw [hg]
  refine zak (zeR s[i] ?_)
  by_cases hd:zal s[i]=true
  ·rw [if_pos hd] at hrn
   simp only [hd,sxZ,z6,z7,z8,j4,j5,j6,j7,j8,j9,x4,x5,x6,x7,x8,x9,reduceCtorEq,↓reduceIte,List.getElem?_set,hlen,t0,t3]
   exact ⟨⟨by omega,by omega⟩,s.length - (i + 1),by omega,i + 1,by omega,rfl,by omega,rfl⟩
  ·rw [if_neg hd] at hrn
   simp only [Bool.not_eq_true] at hd
   simp only [hd,sxZ,z6,z7,z8,j4,j5,j6,j7,j8,j9,x4,x5,x6,x7,x8,x9,reduceCtorEq,↓reduceIte,List.getElem?_set,hlen,t0,t3]
   rw [hr,hrn] at hk
   exact hk
 ·obtain rfl:i=s.length:=by omega
  simp only [sxZ,z6,z7,z8,j4,j5,j6,j7,j8,j9,x4,x5,x6,x7,x8,x9,reduceCtorEq,↓reduceIte,List.getElem?_set,hlen,t0,t3,hlt]
  rw [hr,zlD] at hk
  exact hk
set_option maxHeartbeats 4000000 in
theorem zfn (s:List UInt8) (hs:s.length ≤ 140737488351232) (hk:K objs (.i .i64 (zdD s:Nat))):zae Tryz.prog 65 [.s s] objs K:=by
 refine zaV is_ref13_numeral rfl fun C _ => ?_
 have hmx:=zbP
 rw [c_ref13_numeral]
 refine zaa fun Y1 hY1 => ?_
 simp only [sxZ,z6,z7,z8,j4,j5,j6,j7,j8,j9,x4,x5,x6,x7,x8,x9,reduceCtorEq,↓reduceIte]
 subst hY1
 refine zaa fun Y1 hY1 => ?_
 simp only [sxZ,z6,z7,z8,j4,j5,j6,j7,j8,j9,x4,x5,x6,x7,x8,x9,reduceCtorEq,↓reduceIte]
 subst hY1
 refine zaa fun Y1 hY1 => ?_
 refine zav (fun o t => o=[] ∧ t.length=99 ∧ t[0]? = some (.s s) ∧ t[3]? = some (.i .i64 (zbd s:Nat))) ?_ ?_
 ·unfold zbd
  by_cases c1:(0:Int) < s.length
  ·have c1':0 < s.length:=by omega
   have hg:=zaC c1'
   have h45:s[0]? = some 45 ↔ ((s[0].toNat:Nat):Int)=45:=zd7 c1' 45 (by decide)
   by_cases c2:((s[0].toNat:Nat):Int)=45
   ·rw [if_pos (h45.2 c2)]
    simp only [c1,hg,c2,zab,sxZ,z6,z7,z8,j4,j5,j6,j7,j8,j9,x4,x5,x6,x7,x8,x9,reduceCtorEq,↓reduceIte]
    rfl
   ·rw [if_neg (fun h => c2 (h45.1 h))]
    simp only [c1,hg,c2,zab,sxZ,z6,z7,z8,j4,j5,j6,j7,j8,j9,x4,x5,x6,x7,x8,x9,reduceCtorEq,↓reduceIte]
    rfl
  ·rw [if_neg (zbi (by omega))]
   simp only [c1,zab,sxZ,z6,z7,z8,j4,j5,j6,j7,j8,j9,x4,x5,x6,x7,x8,x9,reduceCtorEq,↓reduceIte]
   rfl
 rintro _ tm ⟨rfl,hlen,t0,t3⟩
 subst hY1
 have hsg:zbd s ≤ s.length:=by
  unfold zbd
  split
  ·rename_i h
   have:=(List.getElem?_eq_some_iff.1 h).1
   omega
  ·omega
 refine zaa fun Y1 hY1 => ?_
 unfold zdD at hk
 have hw:zaI s=if s[zbd s]? = some 48 then zbd s + 1 else zbd s + zaR (s.drop (zbd s)):=rfl
 have hrl:0 < zaR (s.drop (zbd s)) → zbd s + zaR (s.drop (zbd s)) ≤ s.length:=zaQ s _
 generalize zbd s=g at *
 by_cases c0:(g:Int)=s.length
 ·have hr0:zaR (s.drop g)=0:=by rw [List.drop_of_length_le (by omega)]; rfl
  rw [if_pos hr0] at hk
  simp only [c0,sxZ,z6,z7,z8,j4,j5,j6,j7,j8,j9,x4,x5,x6,x7,x8,x9,reduceCtorEq,↓reduceIte,List.getElem?_set,hlen,t0,t3]
  exact hk
 have c1':g < s.length:=by omega
 have hg:=zaC c1'
 have hrun:=zlE s g c1'
 simp only [c0,hg,sxZ,z6,z7,z8,j4,j5,j6,j7,j8,j9,x4,x5,x6,x7,x8,x9,reduceCtorEq,↓reduceIte,List.getElem?_set,hlen,t0,t3]
 refine ⟨by omega,?_⟩
 refine zak (zeR s[g] ?_)
 by_cases c2:zal s[g]=true
 case neg =>
  rw [if_neg c2] at hrun
  rw [if_pos hrun] at hk
  simp only [Bool.not_eq_true] at c2
  simp only [c2,sxZ,z6,z7,z8,j4,j5,j6,j7,j8,j9,x4,x5,x6,x7,x8,x9,reduceCtorEq,↓reduceIte,List.getElem?_set,hlen,t0,t3]
  exact hk
 rw [if_pos c2] at hrun
 rw [if_neg (by omega)] at hk
 simp only [c2,sxZ,z6,z7,z8,j4,j5,j6,j7,j8,j9,x4,x5,x6,x7,x8,x9,reduceCtorEq,↓reduceIte,List.getElem?_set,hlen,t0,t3]
 subst hY1
 refine zaa fun Y1 hY1 => ?_
 refine zav (fun o t => o=[] ∧ t.length=99 ∧ t[0]? = some (.s s) ∧ t[3]? = some (.i .i64 (zaI s:Nat))) ?_ ?_
 ·have h48:s[g]? = some 48 ↔ ((s[g].toNat:Nat):Int)=48:=zd7 c1' 48 (by decide)
  rw [hw]
  by_cases c3:((s[g].toNat:Nat):Int)=48
  ·rw [if_pos (h48.2 c3)]
   simp only [hg,c3,zab,sxZ,z6,z7,z8,j4,j5,j6,j7,j8,j9,x4,x5,x6,x7,x8,x9,reduceCtorEq,↓reduceIte,List.getElem?_set,hlen,t0,t3]
   and_intros <;> first | omega | exact iv (by omega) | rfl | assumption
  ·rw [if_neg (fun h => c3 (h48.1 h))]
   simp only [hg,c3,zab,sxZ,z6,z7,z8,j4,j5,j6,j7,j8,j9,x4,x5,x6,x7,x8,x9,reduceCtorEq,↓reduceIte,List.getElem?_set,hlen,t0,t3]
   refine ⟨by omega,by omega,?_⟩
   refine zak (zlG _ (by rw [List.length_drop]; omega) ?_)
   have:=hrl (by omega)
   simp only [zab,sxZ,z6,z7,z8,j4,j5,j6,j7,j8,j9,x4,x5,x6,x7,x8,x9,reduceCtorEq,↓reduceIte,List.getElem?_set,hlen,t0,t3]
   and_intros <;> first | omega | exact iv (by omega) | rfl | assumption
 rintro _ tm ⟨rfl,hlen,t0,t3⟩
 subst hY1
 refine zaa fun Y1 hY1 => ?_
 have hwl:zaI s ≤ s.length:=by
  rw [hw]
  have:=hrl (by omega)
  split <;> omega
 have hf:zbY s (zaI s)=if s[zaI s]? = some 46 ∧ 0 < zaR (s.drop (zaI s + 1)) then zaI s + 1 + zaR (s.drop (zaI s + 1)) else zaI s:=rfl
 generalize zaI s=w at *
 clear hw hrl hrun hg c2 c0 c1'
 refine zav (fun o t => o=[] ∧ t.length=99 ∧ t[0]? = some (.s s) ∧ t[3]? = some (.i .i64 (zbY s w:Nat))) ?_ ?_
 ·rw [hf]
  simp only [sxZ,z6,z7,z8,j4,j5,j6,j7,j8,j9,x4,x5,x6,x7,x8,x9,reduceCtorEq,↓reduceIte,List.getElem?_set,hlen,t0,t3]
  refine ⟨by omega,?_⟩
  refine zak (zh5 s (w + 1) ?_)
  simp only [sxZ,z6,z7,z8,j4,j5,j6,j7,j8,j9,x4,x5,x6,x7,x8,x9,reduceCtorEq,↓reduceIte,List.getElem?_set,hlen,t0,t3]
  refine zak (zlG _ (by rw [List.length_drop]; omega) ?_)
  have hr:=zaQ s (w + 1)
  generalize zaR (s.drop (w + 1))=r at *
  by_cases c1:(w:Int) < s.length
  ·have c1':w < s.length:=by omega
   have hg:=zaC c1'
   have h46:s[w]? = some 46 ↔ ((s[w].toNat:Nat):Int)=46:=zd7 c1' 46 (by decide)
   by_cases c2:((s[w].toNat:Nat):Int)=46
   ·by_cases c3:0 < r
    ·rw [if_pos ⟨h46.2 c2,c3⟩]
     have c3':(0:Int) < r:=by omega
     simp only [c1,hg,c2,c3',zab,sxZ,z6,z7,z8,j4,j5,j6,j7,j8,j9,x4,x5,x6,x7,x8,x9,reduceCtorEq,↓reduceIte,List.getElem?_set,hlen,t0,t3]
     and_intros <;> first | omega | exact iv (by omega) | rfl | assumption
    ·rw [if_neg (fun h => c3 h.2)]
     have c3':¬ (0:Int) < r:=by omega
     simp only [c1,hg,c2,c3',zab,sxZ,z6,z7,z8,j4,j5,j6,j7,j8,j9,x4,x5,x6,x7,x8,x9,reduceCtorEq,↓reduceIte,List.getElem?_set,hlen,t0,t3]
     and_intros <;> first | omega | exact iv (by omega) | rfl | assumption
   ·rw [if_neg (fun h => c2 (h46.1 h.1))]
    simp only [c1,hg,c2,zab,sxZ,z6,z7,z8,j4,j5,j6,j7,j8,j9,x4,x5,x6,x7,x8,x9,reduceCtorEq,↓reduceIte,List.getElem?_set,hlen,t0,t3]
    and_intros <;> first | omega | exact iv (by omega) | rfl | assumption
  ·rw [if_neg (fun h => zbi (by omega) h.1)]
   simp only [c1,zab,sxZ,z6,z7,z8,j4,j5,j6,j7,j8,j9,x4,x5,x6,x7,x8,x9,reduceCtorEq,↓reduceIte,List.getElem?_set,hlen,t0,t3]
 rintro _ tm ⟨rfl,hlen,t0,t3⟩
 subst hY1
 refine zaa fun Y1 hY1 => ?_
 have hfl:zbY s w ≤ s.length:=by
  rw [hf]
  split
  ·rename_i h
   have:=zaQ s (w + 1) h.2
   omega
  ·exact hwl
 generalize zbY s w=f at *
 clear hf
 have hx:zaZ s f=if s[f + 1]? = some 43 ∨ s[f + 1]? = some 45 then f + 2 else f + 1:=rfl
 have he:zk2 s f=if (s[f]? = some 101 ∨ s[f]? = some 69) ∧ 0 < zaR (s.drop (zaZ s f)) then zaZ s f + zaR (s.drop (zaZ s f)) else f:=rfl
 have in2:∀ (i:Nat) (hi:i < s.length) (x y:UInt8),zcC s[i] [x,y]=decide (s[i]? = some x ∨ s[i]? = some y):=by
  intro i hi x y
  rw [List.getElem?_eq_getElem hi]
  simp [zcC,eq_comm]
 refine zav (fun o t => o=[] ∧ t.length=99 ∧ t[3]? = some (.i .i64 (zk2 s f:Nat))) ?_ ?_
 ·refine zaa fun Y2 hY2 => ?_
  refine zav (fun o t => o=[] ∧ t.length=99 ∧ t[0]? = some (.s s) ∧ t[3]? = some (.i .i64 (f:Nat)) ∧ t[74]? = some (.b (decide (s[f]? = some 101 ∨ s[f]? = some 69)))) ?_ ?_
  ·by_cases c1:(f:Int) < s.length
   ·have c1':f < s.length:=by omega
    have hg:=zaC c1'
    simp only [c1,hg,sxZ,z6,z7,z8,j4,j5,j6,j7,j8,j9,x4,x5,x6,x7,x8,x9,reduceCtorEq,↓reduceIte,List.getElem?_set,hlen,t0,t3]
    refine ⟨by omega,?_⟩
    refine zak (zg2 _ _ (by decide) ?_)
    rw [in2 f c1']
    generalize decide (s[f]? = some 101 ∨ s[f]? = some 69)=E
    simp only [zab,sxZ,z6,z7,z8,j4,j5,j6,j7,j8,j9,x4,x5,x6,x7,x8,x9,reduceCtorEq,↓reduceIte,List.getElem?_set,hlen,t0,t3]
   ·have hE:¬ (s[f]? = some 101 ∨ s[f]? = some 69):=fun h => h.elim (zbi (by omega)) (zbi (by omega))
    simp only [c1,hE,zab,sxZ,z6,z7,z8,j4,j5,j6,j7,j8,j9,x4,x5,x6,x7,x8,x9,reduceCtorEq,↓reduceIte,List.getElem?_set,hlen,t0,t3]
  rintro _ tm ⟨rfl,hlen,t0,t3,t74⟩
  subst hY2
  refine rn_condH fun X hX => ?_
  by_cases hE:s[f]? = some 101 ∨ s[f]? = some 69
  case neg =>
   rw [he,if_neg (fun h => hE h.1)]
   simp only [hE,zab,sxZ,z6,z7,z8,j4,j5,j6,j7,j8,j9,x4,x5,x6,x7,x8,x9,reduceCtorEq,↓reduceIte,List.getElem?_set,hlen,t0,t3,t74]
  have c1':f < s.length:=by
   rcases hE with h | h
   all_goals exact (List.getElem?_eq_some_iff.1 h).1
  simp only [hE,sxZ,z6,z7,z8,j4,j5,j6,j7,j8,j9,x4,x5,x6,x7,x8,x9,reduceCtorEq,↓reduceIte,List.getElem?_set,hlen,t0,t3,t74]
  subst hX
  refine zaa fun Y2 hY2 => ?_
  refine zav (fun o t => o=[] ∧ t.length=99 ∧ t[0]? = some (.s s) ∧ t[3]? = some (.i .i64 (f:Nat)) ∧ t[5]? = some (.i .i64 ((f:Int) + 1))) ?_ ?_
  ·simp only [zab,sxZ,z6,z7,z8,j4,j5,j6,j7,j8,j9,x4,x5,x6,x7,x8,x9,reduceCtorEq,↓reduceIte,List.getElem?_set,hlen,t0,t3]
   and_intros <;> first | omega | exact iv (by omega) | rfl | assumption
  rintro _ tm ⟨rfl,hlen,t0,t3,t5⟩
  subst hY2
  refine zaa fun Y2 hY2 => ?_
  refine zav (fun o t => o=[] ∧ t.length=99 ∧ t[0]? = some (.s s) ∧ t[3]? = some (.i .i64 (f:Nat)) ∧ t[5]? = some (.i .i64 (zaZ s f:Nat))) ?_ ?_
  ·rw [hx]
   by_cases d1:(f:Int) + 1 < s.length
   ·have d1':f + 1 < s.length:=by omega
    have hg2:=zaC d1'
    have e1:((f:Int) + 1).toNat=f + 1:=by omega
    simp only [d1,e1,hg2,sxZ,z6,z7,z8,j4,j5,j6,j7,j8,j9,x4,x5,x6,x7,x8,x9,reduceCtorEq,↓reduceIte,List.getElem?_set,hlen,t0,t3,t5]
    refine ⟨by omega,?_⟩
    refine zak (zg2 _ _ (by decide) ?_)
    rw [in2 (f + 1) d1']
    by_cases c4:s[f + 1]? = some 43 ∨ s[f + 1]? = some 45
    ·rw [if_pos c4]
     simp only [c4,zab,sxZ,z6,z7,z8,j4,j5,j6,j7,j8,j9,x4,x5,x6,x7,x8,x9,reduceCtorEq,↓reduceIte,List.getElem?_set,hlen,t0,t3,t5]
     and_intros <;> first | omega | exact iv (by omega) | rfl | assumption
    ·rw [if_neg c4]
     simp only [c4,zab,sxZ,z6,z7,z8,j4,j5,j6,j7,j8,j9,x4,x5,x6,x7,x8,x9,reduceCtorEq,↓reduceIte,List.getElem?_set,hlen,t0,t3,t5]
     and_intros <;> first | omega | exact iv (by omega) | rfl | assumption
   ·rw [if_neg (fun h => h.elim (zbi (by omega)) (zbi (by omega)))]
    simp only [d1,zab,sxZ,z6,z7,z8,j4,j5,j6,j7,j8,j9,x4,x5,x6,x7,x8,x9,reduceCtorEq,↓reduceIte,List.getElem?_set,hlen,t0,t3,t5]
    and_intros <;> first | omega | exact iv (by omega) | rfl | assumption
  rintro _ tm ⟨rfl,hlen,t0,t3,t5⟩
  subst hY2
  have hxl:zaZ s f ≤ s.length:=by
   rw [hx]
   split
   ·rename_i h
    rcases h with h | h
    all_goals
     have:=(List.getElem?_eq_some_iff.1 h).1
     omega
   ·omega
  have hrl:=zaQ s (zaZ s f)
  generalize zaZ s f=x at *
  simp only [sxZ,z6,z7,z8,j4,j5,j6,j7,j8,j9,x4,x5,x6,x7,x8,x9,reduceCtorEq,↓reduceIte,List.getElem?_set,hlen,t0,t3,t5]
  refine zak (zh5 s x ?_)
  simp only [sxZ,z6,z7,z8,j4,j5,j6,j7,j8,j9,x4,x5,x6,x7,x8,x9,reduceCtorEq,↓reduceIte,List.getElem?_set,hlen,t0,t3,t5]
  refine zak (zlG _ (by rw [List.length_drop]; omega) ?_)
  generalize zaR (s.drop x)=r at *
  rw [he]
  by_cases c4:0 < r
  ·rw [if_pos ⟨hE,c4⟩]
   have c4':(0:Int) < r:=by omega
   simp only [c4',zab,sxZ,z6,z7,z8,j4,j5,j6,j7,j8,j9,x4,x5,x6,x7,x8,x9,reduceCtorEq,↓reduceIte,List.getElem?_set,hlen,t0,t3,t5]
   and_intros <;> first | omega | exact iv (by omega) | rfl | assumption
  ·rw [if_neg (fun h => c4 h.2)]
   have c4':¬ (0:Int) < r:=by omega
   simp only [c4',zab,sxZ,z6,z7,z8,j4,j5,j6,j7,j8,j9,x4,x5,x6,x7,x8,x9,reduceCtorEq,↓reduceIte,List.getElem?_set,hlen,t0,t3,t5]
 rintro _ tm ⟨rfl,hlen,t3⟩
 subst hY1
 simp only [sxZ,z6,z7,z8,j4,j5,j6,j7,j8,j9,x4,x5,x6,x7,x8,x9,reduceCtorEq,↓reduceIte,List.getElem?_set,hlen,t3]
 exact hk
end
end Go.Proofs.YtadhjoggdbhkgaaGreatDoor
namespace Go.Proofs.YtadhjoggdbhkgaaGreatDoor
open Go.RowKit
end Go.Proofs.YtadhjoggdbhkgaaGreatDoor
namespace Go.Proofs.YtadhjoggdbhkgaaGreatDoor
open Go.RowKit Sx
theorem zll {p:NumS} (hp:p.Good):p.neg=decide (p.txt[0]? = some 45):=by
 obtain ⟨c,t,e1,e2⟩:=zbC hp.i0 hp.i1
 unfold NumS.txt
 cases p.neg with
 | true => rfl
 | false =>
  rw [e1]
  have:c ≠ 45:=zbg e2 rfl
  simp [sgT,this]
theorem num_uniq {p q:NumS} (hp:p.Good) (hq:q.Good) (h:p.txt=q.txt):p=q:=by
 have hn:p.neg=q.neg:=by rw [zll hp,zll hq,h]
 unfold NumS.txt at h
 rw [hn] at h
 have h:=List.append_cancel_left h
 have r1:=zb5 p.int _ hp.i1 (zeO hp)
 have r2:=zb5 q.int _ hq.i1 (zeO hq)
 rw [h,r2] at r1
 obtain ⟨hi,hR⟩:=List.append_inj h r1.symm
 have hx:p.fr=q.fr ∧ exT p.ex=exT q.ex:=by
  cases h1:p.fr with
  | nil =>
   cases h2:q.fr with
   | nil => rw [h1,h2] at hR; exact ⟨rfl,hR⟩
   | cons b u =>
    rw [h1,h2] at hR
    exfalso
    rcases zdG hp 46 (by rw [show exT p.ex=frT (b :: u) ++ exT q.ex from hR]; rfl) with h3 | h3 <;> cases h3
  | cons a t =>
   cases h2:q.fr with
   | nil =>
    rw [h1,h2] at hR
    exfalso
    rcases zdG hq 46 (by rw [show exT q.ex=frT (a :: t) ++ exT p.ex from hR.symm]; rfl) with h3 | h3 <;> cases h3
   | cons b u =>
    rw [h1,h2] at hR
    have hR:(46:UInt8) :: ((a :: t) ++ exT p.ex)=46 :: ((b :: u) ++ exT q.ex):=hR
    injection hR with _ hR
    have hd:∀ {r:NumS},r.Good → ∀ c,(exT r.ex)[0]? = some c → zal c=false:=fun hr c h => by
     rcases zdG hr c h with rfl | rfl <;> rfl
    have k1:=zb5 (a :: t) _ (by rw [← h1]; exact hp.f1) (hd hp)
    have k2:=zb5 (b :: u) _ (by rw [← h2]; exact hq.f1) (hd hq)
    rw [hR,k2] at k1
    exact List.append_inj hR k1.symm
 have he:p.ex=q.ex:=by
  have h3:=hx.2
  cases h1:p.ex with
  | none =>
   cases h2:q.ex with
   | none => rfl
   | some e => obtain ⟨c,s,d⟩:=e; rw [h1,h2] at h3; cases h3
  | some e =>
   obtain ⟨c,s,d⟩:=e
   cases h2:q.ex with
   | none => rw [h1,h2] at h3; cases h3
   | some e' =>
    obtain ⟨c',s',d'⟩:=e'
    have k1:=(ziw 0 hp h1).2
    have k2:=(ziw 0 hq h2).2
    rw [h1,h2] at h3
    have h3:c :: (s ++ d)=c' :: (s' ++ d'):=h3
    injection h3 with e1 e2
    rw [e2,k2] at k1
    subst k1
    rw [e1,List.append_cancel_right e2]
 obtain ⟨pn,pi,pf,pe⟩:=p
 obtain ⟨qn,qi,qf,qe⟩:=q
 simp only at hn hi hx he
 rw [hn,hi,hx.1,he]
section
variable [Tabs Tryz.prog] {objs:List OB} {K:List OB → AV → Prop}
end
end Go.Proofs.YtadhjoggdbhkgaaGreatDoor
namespace Go.Proofs.YtadhjoggdbhkgaaGreatDoor
open Nat renaming reduceAdd → z6, reduceSub → z7, reduceLeDiff → z8, reduceLT → j4, reduceMul → j5, reduceEqDiff → j6
open Int renaming reduceToNat → j7, reduceAdd → j8, reduceSub → j9, reduceMul → x4, reduceNeg → x5, reduceLT → x6, reduceLE → x7, reduceEq → x8, reduceNe → x9
open Go.RowKit Sx
theorem minV_at (c:Nat) (l:List UInt8) (i n:Nat) (h:i < l.length):zih c (l.drop i) n=zih c (l.drop (i + 1)) (min (n * 10 + (l[i].toNat - 48)) c):=by
 rw [List.drop_eq_getElem_cons h,zih]
theorem zod {p:NumS} (hp:p.Good):zkL p.body [101,69]=(p.int ++ frT p.fr).length:=by
 have hno:(p.int ++ frT p.fr).findIdx (fun c => zcC c [101,69])=(p.int ++ frT p.fr).length:=by
  rw [List.findIdx_eq_length]
  intro c hc
  rcases List.mem_append.1 hc with h | h
  ·exact (zbD (List.all_eq_true.1 hp.i1 c h)).2.1
  ·exact (ziv hp.f1 c h).2
 unfold zkL NumS.body
 rw [← List.append_assoc,List.findIdx_append,hno,if_neg (by omega)]
 cases he:p.ex with
 | none => simp [exT]
 | some e =>
  obtain ⟨k,s,d⟩:=e
  have:(exT (some (k,s,d))).findIdx (fun c => zcC c [101,69])=0:=by
   unfold exT
   rw [List.findIdx_cons]
   rcases (hp.e1 k s d he).1 with rfl | rfl <;> rfl
  rw [this,Nat.zero_add]
theorem zhJ (p:NumS):p.body.take (p.int ++ frT p.fr).length=p.int ++ frT p.fr:=by
 unfold NumS.body
 rw [← List.append_assoc,List.take_left]
theorem body_exp {p:NumS} (hp:p.Good) (c:Nat):expC c (p.body.drop ((p.int ++ frT p.fr).length + 1))=zef c p.ex ∧ (zdQ (p.body.drop ((p.int ++ frT p.fr).length + 1))).all zal=true:=by
 have hd:p.body.drop ((p.int ++ frT p.fr).length + 1)=(exT p.ex).drop 1:=by
  unfold NumS.body
  rw [← List.append_assoc,← List.drop_drop,List.drop_left]
 rw [hd]
 cases he:p.ex with
 | none => exact ⟨rfl,rfl⟩
 | some e =>
  obtain ⟨k,s,d⟩:=e
  have h:=ziw c hp he
  have h4:=(hp.e1 k s d he).2.2.2
  rw [he] at h
  show expC c (s ++ d)=_ ∧ (zdQ (s ++ d)).all zal=true
  rw [h.2]
  exact ⟨h.1,h4⟩
theorem zR_last {l:List UInt8} (h:l ≠ []) (h2:l.getLast h ≠ 48):zR l=l:=by
 unfold zR
 rw [zL_id,List.reverse_reverse]
 intro c hc
 rw [← List.head?_eq_getElem?,List.head?_reverse,List.getLast?_eq_some_getLast h] at hc
 injection hc with hc
 rw [← hc]; exact h2
section
variable [Tabs Tryz.prog] {objs:List OB} {K:List OB → AV → Prop}
set_option maxHeartbeats 2000000 in
theorem zh6 (l:List UInt8) (hl:l.length ≤ 140737488351232) (hd:(zdQ l).all zal=true) (hk:K objs (.i .i64 (expC 1073741824 l))):zae Tryz.prog 67 [.s l] objs K:=by
 refine zaV is_ref13_exponent rfl fun C _ => ?_
 rw [c_ref13_exponent]
 refine zaa fun Y1 hY1 => ?_
 simp only [sxZ,z6,z7,z8,j4,j5,j6,j7,j8,j9,x4,x5,x6,x7,x8,x9,reduceCtorEq,↓reduceIte]
 subst hY1
 refine zaa fun Y1 hY1 => ?_
 refine zav (fun o t => o=[] ∧ t.length=41 ∧ t[0]? = some (.s l) ∧ t[3]? = some (.b (negE l))) ?_ ?_
 ·unfold negE
  by_cases c0:l=[]
  ·subst c0
   simp [zab,sxZ,z6,z7,z8,j4,j5,j6,j7,j8,j9,x4,x5,x6,x7,x8,x9,reduceCtorEq,↓reduceIte]
  ·have l0:0 < l.length:=List.length_pos_iff.2 c0
   have g0:=zaC l0
   have h45:l[0]? = some 45 ↔ ((l[0].toNat:Nat):Int)=45:=zd7 l0 45 (by decide)
   simp only [c0,g0,zab,sxZ,z6,z7,z8,j4,j5,j6,j7,j8,j9,x4,x5,x6,x7,x8,x9,reduceCtorEq,↓reduceIte]
   refine ⟨by omega,?_⟩
   by_cases c1:((l[0].toNat:Nat):Int)=45
   ·rw [decide_eq_true c1,decide_eq_true (h45.2 c1)]
   ·rw [decide_eq_false c1,decide_eq_false (fun h => c1 (h45.1 h))]
 rintro _ tm ⟨rfl,hlen,t0,t3⟩
 subst hY1
 refine zaa fun Y1 hY1 => ?_
 refine zav (fun o t => o=[] ∧ t.length=41 ∧ t[0]? = some (.s (zdQ l)) ∧ t[3]? = some (.b (negE l))) ?_ ?_
 ·unfold zdQ
  by_cases c0:l=[]
  ·subst c0
   simp only [zab,sxZ,z6,z7,z8,j4,j5,j6,j7,j8,j9,x4,x5,x6,x7,x8,x9,reduceCtorEq,↓reduceIte,List.getElem?_set,hlen,t0,t3]
   rfl
  ·have l0:0 < l.length:=List.length_pos_iff.2 c0
   have g0:=zaC l0
   simp only [c0,g0,sxZ,z6,z7,z8,j4,j5,j6,j7,j8,j9,x4,x5,x6,x7,x8,x9,reduceCtorEq,↓reduceIte,List.getElem?_set,hlen,t0,t3]
   refine ⟨by omega,?_⟩
   refine zak (zg2 _ _ (by decide) ?_)
   have hin:zcC l[0] [43,45]=decide (l[0]? = some 43 ∨ l[0]? = some 45):=by
    rw [List.getElem?_eq_getElem l0]
    simp [zcC,eq_comm]
   rw [hin]
   by_cases c1:l[0]? = some 43 ∨ l[0]? = some 45
   ·rw [if_pos c1]
    simp only [c1,zab,sxZ,z6,z7,z8,j4,j5,j6,j7,j8,j9,x4,x5,x6,x7,x8,x9,reduceCtorEq,↓reduceIte,List.getElem?_set,hlen,t0,t3]
    and_intros <;> first | omega | exact iv (by omega) | rfl | assumption
   ·rw [if_neg c1]
    simp only [c1,zab,sxZ,z6,z7,z8,j4,j5,j6,j7,j8,j9,x4,x5,x6,x7,x8,x9,reduceCtorEq,↓reduceIte,List.getElem?_set,hlen,t0,t3]
 rintro _ tm ⟨rfl,hlen,t0,t3⟩
 subst hY1
 have hsl:(zdQ l).length ≤ l.length:=by unfold zdQ; split <;> simp
 unfold expC at hk
 generalize negE l=ng at *
 generalize zdQ l=d at *
 refine zaa fun Y1 hY1 => ?_
 simp only [sxZ,z6,z7,z8,j4,j5,j6,j7,j8,j9,x4,x5,x6,x7,x8,x9,reduceCtorEq,↓reduceIte,List.getElem?_set,hlen,t0,t3]
 subst hY1
 refine zaa fun Y1 hY1 => ?_
 refine zav (fun o t => o=[] ∧ t.length=41 ∧ t[3]? = some (.b ng) ∧ t[4]? = some (.i .i64 (zih 1073741824 d 0:Nat))) ?_ ?_
 ·simp only [sxZ,z6,z7,z8,j4,j5,j6,j7,j8,j9,x4,x5,x6,x7,x8,x9,reduceCtorEq,↓reduceIte,List.getElem?_set,hlen,t0,t3]
  refine zaA (fun k objs tm => ∃ (i n:Nat),i ≤ d.length ∧ k=d.length - i ∧ objs=[] ∧ n ≤ 1073741824 ∧ zih 1073741824 d 0=zih 1073741824 (d.drop i) n ∧ tm.length=41 ∧ tm[0]? = some (.s d) ∧ tm[3]? = some (.b ng) ∧ tm[4]? = some (.i .i64 (n:Nat)) ∧ tm[5]? = some (.i .i64 (i:Nat))) d.length
   ⟨0,0,Nat.zero_le _,rfl,rfl,by omega,rfl,by simp [hlen],by simp [t0],by simp [t3],by simp [hlen],by simp [hlen]⟩ ?_
  rintro k _ tm ⟨i,n,hi,rfl,rfl,hn,hm,hlen,t0,t3,t4,t5⟩
  by_cases hlt:(i:Int) < d.length
  ·have hlt':i < d.length:=by omega
   have hg:=zaC hlt'
   have hdi:=zgk (List.all_eq_true.1 hd _ (List.getElem_mem hlt'))
   have hmv:=minV_at 1073741824 d i n hlt'
   have hw:IntKind.u8.wrap (((d[i].toNat:Nat):Int) - 48)=((d[i].toNat - 48:Nat):Int):=by
    simp [IntKind.wrap,IntKind.bits,IntKind.signed]; omega
   have hw2:IntKind.i64.wrap ((d[i].toNat - 48:Nat):Int)=((d[i].toNat - 48:Nat):Int):=by rw [IntKind.wrap_i64]; omega
   simp only [hlt,hg,hw,hw2,sxZ,z6,z7,z8,j4,j5,j6,j7,j8,j9,x4,x5,x6,x7,x8,x9,reduceCtorEq,↓reduceIte,List.getElem?_set,hlen,t0,t3,t4,t5]
   have hv:d[i].toNat - 48 ≤ 9:=by omega
   generalize d[i].toNat - 48=v at *
   exact ⟨by omega,by omega,by omega,by omega,d.length - (i + 1),by omega,i + 1,min (n * 10 + v) 1073741824,by omega,rfl,by omega,by rw [hm,hmv],iv (by split <;> omega),iv (by omega)⟩
  ·obtain rfl:i=d.length:=by omega
   rw [List.drop_length,zih] at hm
   simp only [hlt,zbx,zab,sxZ,z6,z7,z8,j4,j5,j6,j7,j8,j9,x4,x5,x6,x7,x8,x9,reduceCtorEq,↓reduceIte,List.getElem?_set,hlen,t0,t3,t4,t5]
   rw [hm]
 rintro _ tm ⟨rfl,hlen,t3,t4⟩
 subst hY1
 have hml:=minV_le 1073741824 d 0 (by omega)
 generalize zih 1073741824 d 0=n at *
 cases ng with
 | true =>
  simp only [sxZ,z6,z7,z8,j4,j5,j6,j7,j8,j9,x4,x5,x6,x7,x8,x9,reduceCtorEq,↓reduceIte,List.getElem?_set,hlen,t3,t4]
  rw [if_pos rfl] at hk
  refine ⟨by omega,?_⟩
  rw [Int.zero_sub]
  exact hk
 | false =>
  simp only [sxZ,z6,z7,z8,j4,j5,j6,j7,j8,j9,x4,x5,x6,x7,x8,x9,reduceCtorEq,↓reduceIte,List.getElem?_set,hlen,t3,t4]
  rw [if_neg (by simp)] at hk
  exact hk
set_option maxHeartbeats 4000000 in
theorem zlI (s:List UInt8) (hs:s.length ≤ 140737488351232) (h1:(s=[] ∨ zdD s ≠ s.length) → K objs (.tup [.s [],.i .i64 130]))
  (h2:∀ p:NumS,p.Good → s=p.txt → K objs (.tup [.s (zn8 1073741824 p).2,.i .i64 (zn8 1073741824 p).1])):zae Tryz.prog 45 [.s s] objs K:=by
 refine zaV is_ref13_Number rfl fun C _ => ?_
 have hmx:=zbP
 by_cases c0:s=[]
 ·have h1:=h1 (.inl c0)
  simp only [c0,c_ref13_Number,sxZ,z6,z7,z8,j4,j5,j6,j7,j8,j9,x4,x5,x6,x7,x8,x9,reduceCtorEq,↓reduceIte]
  exact h1
 rw [c_ref13_Number]
 refine zaa fun Y1 hY1 => ?_
 simp only [sxZ,z6,z7,z8,j4,j5,j6,j7,j8,j9,x4,x5,x6,x7,x8,x9,reduceCtorEq,↓reduceIte]
 subst hY1
 refine zaa fun Y1 hY1 => ?_
 simp only [c0,sxZ,z6,z7,z8,j4,j5,j6,j7,j8,j9,x4,x5,x6,x7,x8,x9,reduceCtorEq,↓reduceIte]
 refine zak (zfn s hs ?_)
 by_cases c1:zdD s=s.length
 case neg =>
  have c1':¬ ((zdD s:Nat):Int)=s.length:=by omega
  simp only [c1',sxZ,z6,z7,z8,j4,j5,j6,j7,j8,j9,x4,x5,x6,x7,x8,x9,reduceCtorEq,↓reduceIte]
  exact h1 (.inr c1)
 clear h1
 obtain ⟨p,hp,rfl⟩:=zha c0 c1
 have h2:=h2 p hp rfl
 simp only [c1,sxZ,z6,z7,z8,j4,j5,j6,j7,j8,j9,x4,x5,x6,x7,x8,x9,reduceCtorEq,↓reduceIte]
 subst hY1
 refine zaa fun Y1 hY1 => ?_
 simp only [sxZ,z6,z7,z8,j4,j5,j6,j7,j8,j9,x4,x5,x6,x7,x8,x9,reduceCtorEq,↓reduceIte]
 subst hY1
 refine zaa fun Y1 hY1 => ?_
 have hbl:p.body.length ≤ p.txt.length:=by unfold NumS.txt NumS.body; simp
 have htl:=zhU p
 have hml:(p.int ++ frT p.fr).length ≤ p.txt.length:=by unfold NumS.txt; simp; omega
 refine zav (fun o t => o=[] ∧ t.length=117 ∧ t[0]? = some (.s p.body) ∧ t[4]? = some (.s (sgT p.neg))) ?_ ?_
 ·obtain ⟨c,t,e1,e2⟩:=zbC hp.i0 hp.i1
  have n45:¬ ((c.toNat:Nat):Int)=45:=by have:=zgk e2; omega
  have hb:p.txt=sgT p.neg ++ p.body:=rfl
  have hpos:0 < p.txt.length:=List.length_pos_iff.2 c0
  cases hn:p.neg with
  | true =>
   have g1:(((p.txt.getD 0 0).toNat:Nat):Int)=45:=by rw [hb,hn]; rfl
   have g2:p.txt.drop 1=p.body:=by rw [hb,hn]; rfl
   generalize p.txt=W at *
   simp only [sgT,g1,g2,zab,sxZ,z6,z7,z8,j4,j5,j6,j7,j8,j9,x4,x5,x6,x7,x8,x9,reduceCtorEq,↓reduceIte]
   and_intros <;> first | omega | exact iv (by omega) | rfl | assumption
  | false =>
   have g1:(p.txt.getD 0 0)=c:=by rw [hb,hn]; unfold NumS.body; rw [e1]; rfl
   have g2:p.txt=p.body:=by rw [hb,hn]; rfl
   rw [g2] at g1 hpos ⊢
   generalize p.body=W at *
   simp only [sgT,g1,n45,zab,sxZ,z6,z7,z8,j4,j5,j6,j7,j8,j9,x4,x5,x6,x7,x8,x9,reduceCtorEq,↓reduceIte]
   and_intros <;> first | omega | exact iv (by omega) | rfl | assumption
 rintro _ tm ⟨rfl,hlen,t0,t4⟩
 subst hY1
 clear c0 c1
 have hbe:=body_exp hp 1073741824
 have hbt:=zhJ p
 have hil:(p.int ++ frT p.fr).length ≤ p.body.length:=by
  have h:=congrArg List.length (zhJ p)
  rw [List.length_take] at h; omega
 have hbi:=zod hp
 generalize hG:p.int ++ frT p.fr=G at *
 refine zaa fun Y1 hY1 => ?_
 simp only [sxZ,z6,z7,z8,j4,j5,j6,j7,j8,j9,x4,x5,x6,x7,x8,x9,reduceCtorEq,↓reduceIte,List.getElem?_set,hlen,t0,t4]
 refine zak (zi9 _ _ (by omega) (by decide) ?_)
 rw [hbi]
 simp only [sxZ,z6,z7,z8,j4,j5,j6,j7,j8,j9,x4,x5,x6,x7,x8,x9,reduceCtorEq,↓reduceIte,List.getElem?_set,hlen,t0,t4]
 subst hY1
 refine zaa fun Y1 hY1 => ?_
 refine zav (fun o t => o=[] ∧ t.length=117 ∧ t[4]? = some (.s (sgT p.neg)) ∧ t[6]? = some (.i .i64 (zef 1073741824 p.ex)) ∧ t[7]? = some (.s G)) ?_ ?_
 ·simp only [sxZ,z6,z7,z8,j4,j5,j6,j7,j8,j9,x4,x5,x6,x7,x8,x9,reduceCtorEq,↓reduceIte,List.getElem?_set,hlen,t0,t4]
  refine ⟨by omega,?_⟩
  refine zco (zh5 p.body (G.length + 1) ⟨rfl,rfl⟩) ?_
  simp only [sxZ,z6,z7,z8,j4,j5,j6,j7,j8,j9,x4,x5,x6,x7,x8,x9,reduceCtorEq,↓reduceIte,List.getElem?_set,hlen,t0,t4]
  refine zco (zh6 _ (by rw [List.length_drop]; omega) hbe.2 ⟨rfl,rfl⟩) ?_
  simp only [hbe.1,hbt,zab,sxZ,z6,z7,z8,j4,j5,j6,j7,j8,j9,x4,x5,x6,x7,x8,x9,reduceCtorEq,↓reduceIte,List.getElem?_set,hlen,t0,t4]
  and_intros <;> first | omega | exact iv (by omega) | rfl | assumption
 rintro _ tm ⟨rfl,hlen,t4,t6,t7⟩
 subst hY1
 refine zaa fun Y1 hY1 => ?_
 have hei:=znD 1073741824 p.ex
 have hcp:=zhB hp
 rw [hG] at hcp
 have hi1:zkL G [46]=p.int.length:=by rw [zjJ,hcp]
 have hGt:G.take p.int.length=p.int:=by rw [← hG,List.take_left]
 have hGd:G.drop (p.int.length + 1)=p.fr:=by
  rw [← hG,← List.drop_drop,List.drop_left]
  cases p.fr <;> rfl
 have hGl:G.length=p.int.length + (frT p.fr).length:=by rw [← hG,List.length_append]
 refine zav (fun o t => o=[] ∧ t.length=117 ∧ t[4]? = some (.s (sgT p.neg)) ∧ t[6]? = some (.i .i64 (zef 1073741824 p.ex - (p.fr.length:Int))) ∧ t[7]? = some (.s (p.int ++ p.fr))) ?_ ?_
 ·simp only [sxZ,z6,z7,z8,j4,j5,j6,j7,j8,j9,x4,x5,x6,x7,x8,x9,reduceCtorEq,↓reduceIte,List.getElem?_set,hlen,t4,t6,t7]
  refine zak (zi9 _ _ (by omega) (by decide) ?_)
  rw [hi1]
  cases hf:p.fr with
  | nil =>
   have c2:¬ ((p.int.length:Nat):Int) < G.length:=by rw [hf] at hGl; simp [frT] at hGl; omega
   have hG2:G=p.int:=by rw [← hG,hf]; simp [frT]
   simp only [c2,zab,sxZ,z6,z7,z8,j4,j5,j6,j7,j8,j9,x4,x5,x6,x7,x8,x9,reduceCtorEq,↓reduceIte,List.getElem?_set,hlen,t4,t6,t7]
   rw [hG2]
   and_intros <;> first | omega | exact iv (by omega) | rfl | assumption
  | cons a u =>
   rw [hf] at hGd
   have c2:((p.int.length:Nat):Int) < G.length:=by rw [hf] at hGl; simp [frT] at hGl; omega
   have hfl:G.length=p.int.length + (u.length + 1) + 1:=by rw [hf] at hGl; simp [frT] at hGl; omega
   have e1:(((p.int.length:Nat):Int) + 1).toNat=p.int.length + 1:=by omega
   simp only [c2,e1,hGt,hGd,zab,sxZ,z6,z7,z8,j4,j5,j6,j7,j8,j9,x4,x5,x6,x7,x8,x9,reduceCtorEq,↓reduceIte,List.getElem?_set,hlen,t4,t6,t7]
   and_intros <;> first | omega | exact iv (by omega) | rfl | assumption
 rintro _ tm ⟨rfl,hlen,t4,t6,t7⟩
 subst hY1
 clear hbe hbt hil hcp hbi hi1 hGt hGd hGl hG hml
 refine zaa fun Y1 hY1 => ?_
 have hzl:=zL_len (p.int ++ p.fr)
 rw [List.length_append] at hzl
 refine zav (fun o t => o=[] ∧ t.length=117 ∧ t[4]? = some (.s (sgT p.neg)) ∧ t[6]? = some (.i .i64 (zef 1073741824 p.ex - (p.fr.length:Int))) ∧ t[7]? = some (.s (zcf p))) ?_ ?_
 ·simp only [sxZ,z6,z7,z8,j4,j5,j6,j7,j8,j9,x4,x5,x6,x7,x8,x9,reduceCtorEq,↓reduceIte]
  refine zaA (fun k o t => ∃ l:List UInt8,k=l.length ∧ o=[] ∧ zL l=zcf p ∧ t.length=117 ∧ t[4]? = some (.s (sgT p.neg)) ∧ t[6]? = some (.i .i64 (zef 1073741824 p.ex - (p.fr.length:Int))) ∧ t[7]? = some (.s l)) (p.int ++ p.fr).length ⟨p.int ++ p.fr,rfl,rfl,rfl,hlen,t4,t6,t7⟩ ?_
  rintro k _ tm ⟨l,rfl,rfl,hz,hlen,t4,t6,t7⟩
  cases l with
  | nil =>
   have z:¬ (0:Int) < ((0:Nat):Int):=by decide
   simp only [z,zbx,zab,sxZ,z6,z7,z8,j4,j5,j6,j7,j8,j9,x4,x5,x6,x7,x8,x9,reduceCtorEq,↓reduceIte,List.getElem?_set,hlen,t4,t6,t7]
   rw [← hz]; rfl
  | cons c u =>
   have hp1:(0:Int) < ((u.length + 1:Nat):Int):=by omega
   have hp2:(c :: u).getD 0 0=c:=rfl
   rw [zfL] at hz
   by_cases c1:((c.toNat:Nat):Int)=48
   ·have hc:c=48:=(zcd (by decide)).1 c1
    rw [if_pos hc] at hz
    simp only [hp1,hp2,c1,zbx,zab,sxZ,z6,z7,z8,j4,j5,j6,j7,j8,j9,x4,x5,x6,x7,x8,x9,reduceCtorEq,↓reduceIte,List.getElem?_set,hlen,t4,t6,t7]
    exact ⟨by omega,u.length,by omega,u,rfl,hz,rfl⟩
   ·have hc:¬ c=48:=fun h => c1 ((zcd (by decide)).2 h)
    rw [if_neg hc] at hz
    simp only [hp1,hp2,c1,zbx,zab,sxZ,z6,z7,z8,j4,j5,j6,j7,j8,j9,x4,x5,x6,x7,x8,x9,reduceCtorEq,↓reduceIte,List.getElem?_set,hlen,t4,t6,t7]
    rw [hz]
 rintro _ tm ⟨rfl,hlen,t4,t6,t7⟩
 subst hY1
 refine zaa fun Y1 hY1 => ?_
 have hmh:=zmL p
 unfold zn8 at h2
 unfold expX at h2
 by_cases c2:zcf p=[]
 ·rw [if_pos c2] at h2
  simp only [c2,sxZ,z6,z7,z8,j4,j5,j6,j7,j8,j9,x4,x5,x6,x7,x8,x9,reduceCtorEq,↓reduceIte,List.getElem?_set,hlen,t4,t6,t7]
  exact h2
 rw [if_neg c2] at h2
 have hml2:=zf8 p
 simp only [c2,sxZ,z6,z7,z8,j4,j5,j6,j7,j8,j9,x4,x5,x6,x7,x8,x9,reduceCtorEq,↓reduceIte,List.getElem?_set,hlen,t4,t6,t7]
 subst hY1
 have hX:-(300000000000000:Int) ≤ zef 1073741824 p.ex - (p.fr.length:Int) ∧ zef 1073741824 p.ex - (p.fr.length:Int) ≤ 300000000000000:=by omega
 generalize zef 1073741824 p.ex - (p.fr.length:Int)=X at *
 generalize zcf p=M at *
 refine zaa fun Y1 hY1 => ?_
 refine zav (fun o t => o=[] ∧ t.length=117 ∧ t[4]? = some (.s (sgT p.neg)) ∧ t[6]? = some (.i .i64 (X + ((M.length:Int) - (zR M).length))) ∧ t[7]? = some (.s (zR M))) ?_ ?_
 ·simp only [sxZ,z6,z7,z8,j4,j5,j6,j7,j8,j9,x4,x5,x6,x7,x8,x9,reduceCtorEq,↓reduceIte]
  refine zaA (fun k o t => ∃ (l:List UInt8) (j:Nat),k=l.length ∧ o=[] ∧ l ≠ [] ∧ M=l ++ List.replicate j 48 ∧ t.length=117 ∧ t[4]? = some (.s (sgT p.neg)) ∧ t[6]? = some (.i .i64 (X + (j:Nat))) ∧ t[7]? = some (.s l)) M.length ⟨M,0,rfl,rfl,c2,by simp,by simp [hlen],by simp [t4],by simp [t6],by simp [t7]⟩ ?_
  rintro k _ tm ⟨l,j,rfl,rfl,hl0,hM,hlen,t4,t6,t7⟩
  have hl1:0 < l.length:=List.length_pos_iff.2 hl0
  have hi:l.length - 1 < l.length:=by omega
  have hg:=zaC hi
  have e1:(((l.length:Nat):Int) - 1).toNat=l.length - 1:=by omega
  have hll:l.getLast hl0=l[l.length - 1]:=List.getLast_eq_getElem hl0
  have hMl:M.length=l.length + j:=by rw [hM]; simp
  by_cases c3:((l[l.length - 1].toNat:Nat):Int)=48
  ·have hc:l[l.length - 1]=48:=(zcd (by decide)).1 c3
   have hsp:l=l.take (l.length - 1) ++ [48]:=by
    have h:=List.dropLast_concat_getLast hl0
    rw [hll,hc,List.dropLast_eq_take] at h
    exact h.symm
   have hM2:M=l.take (l.length - 1) ++ List.replicate (j + 1) 48:=by
    conv => lhs; rw [hM,hsp]
    rw [List.append_assoc,List.replicate_succ]; rfl
   have hne:¬ l.take (l.length - 1)=[]:=by
    intro h
    rw [h,List.nil_append,List.replicate_succ] at hM2
    exact hmh 48 (by rw [hM2]; rfl) rfl
   have htk:(l.take (l.length - 1)).length=l.length - 1:=by rw [List.length_take]; omega
   simp only [e1,hg,c3,sxZ,z6,z7,z8,j4,j5,j6,j7,j8,j9,x4,x5,x6,x7,x8,x9,reduceCtorEq,↓reduceIte,List.getElem?_set,hlen,t4,t6,t7]
   exact ⟨by omega,by omega,by omega,by omega,by omega,(l.take (l.length - 1)).length,by omega,l.take (l.length - 1),j + 1,rfl,hne,hM2,iv (by omega),rfl⟩
  ·have hc:¬ l[l.length - 1]=48:=fun h => c3 ((zcd (by decide)).2 h)
   have hz:zR M=l:=by rw [hM,zR_rep,zR_last hl0 (by rw [hll]; exact hc)]
   simp only [e1,hg,c3,zbx,zab,sxZ,z6,z7,z8,j4,j5,j6,j7,j8,j9,x4,x5,x6,x7,x8,x9,reduceCtorEq,↓reduceIte,List.getElem?_set,hlen,t4,t6,t7]
   rw [hz]
   exact ⟨by omega,by omega,iv (by omega),rfl⟩
 rintro _ tm ⟨rfl,hlen,t4,t6,t7⟩
 subst hY1
 have hzr:=zk3 M
 generalize X + ((M.length:Int) - ((zR M).length:Int))=x at *
 generalize zR M=m at *
 by_cases d1:(40:Int) < m.length
 ·rw [if_pos (.inl (by omega))] at h2
  simp only [d1,sxZ,z6,z7,z8,j4,j5,j6,j7,j8,j9,x4,x5,x6,x7,x8,x9,reduceCtorEq,↓reduceIte,List.getElem?_set,hlen,t4,t6,t7]
  exact h2
 by_cases d3:400 < x
 ·rw [if_pos (.inr (.inr d3))] at h2
  simp only [d1,d3,sxZ,z6,z7,z8,j4,j5,j6,j7,j8,j9,x4,x5,x6,x7,x8,x9,reduceCtorEq,↓reduceIte,List.getElem?_set,hlen,t4,t6,t7]
  exact h2
 by_cases d2:x < -400
 ·rw [if_pos (.inr (.inl d2))] at h2
  simp only [d1,d2,d3,sxZ,z6,z7,z8,j4,j5,j6,j7,j8,j9,x4,x5,x6,x7,x8,x9,reduceCtorEq,↓reduceIte,List.getElem?_set,hlen,t4,t6,t7]
  exact h2
 rw [if_neg (by omega)] at h2
 have hsg:(sgT p.neg).length ≤ 1:=by unfold sgT; split <;> simp
 unfold expS at h2
 generalize sgT p.neg=sg at *
 have hdl:(Lib.decDigits x.natAbs).length ≤ 20:=by rw [Lib.decDigits_length]; exact Lib.nDigits_le20 _ (by omega)
 by_cases d4:x < 0
 ·rw [if_neg (show ¬ x=0 by omega)] at h2
  have hw:IntKind.u64.wrap (0 - x)=((x.natAbs:Nat):Int):=by rw [wrap_u64 _ (by omega) (by omega)]; omega
  have hit:=Lib.itoa_neg x.natAbs (by omega)
  rw [show -((x.natAbs:Nat):Int)=x by omega] at hit
  rw [hit] at h2
  simp only [d1,d2,d3,d4,hw,sxZ,z6,z7,z8,j4,j5,j6,j7,j8,j9,x4,x5,x6,x7,x8,x9,reduceCtorEq,↓reduceIte,List.getElem?_set,hlen,t4,t6,t7]
  (and_intros <;> try omega)
  refine zak (zfp _ (by omega) ?_)
  simp only [sxZ,z6,z7,z8,j4,j5,j6,j7,j8,j9,x4,x5,x6,x7,x8,x9,reduceCtorEq,↓reduceIte,List.getElem?_set,hlen,t4,t6,t7]
  (and_intros <;> try omega)
  simpa using h2
 by_cases d5:0 < x
 ·rw [if_neg (show ¬ x=0 by omega)] at h2
  have hw:IntKind.u64.wrap x=((x.natAbs:Nat):Int):=by rw [wrap_u64 _ (by omega) (by omega)]; omega
  have hit:=Lib.itoa_nonneg x.natAbs
  rw [show ((x.natAbs:Nat):Int)=x by omega] at hit
  rw [hit] at h2
  simp only [d1,d2,d3,d4,d5,hw,sxZ,z6,z7,z8,j4,j5,j6,j7,j8,j9,x4,x5,x6,x7,x8,x9,reduceCtorEq,↓reduceIte,List.getElem?_set,hlen,t4,t6,t7]
  (and_intros <;> try omega)
  refine zak (zfp _ (by omega) ?_)
  simp only [sxZ,z6,z7,z8,j4,j5,j6,j7,j8,j9,x4,x5,x6,x7,x8,x9,reduceCtorEq,↓reduceIte,List.getElem?_set,hlen,t4,t6,t7]
  (and_intros <;> try omega)
  simpa using h2
 ·rw [if_pos (show x=0 by omega)] at h2
  simp only [d1,d2,d3,d4,d5,sxZ,z6,z7,z8,j4,j5,j6,j7,j8,j9,x4,x5,x6,x7,x8,x9,reduceCtorEq,↓reduceIte,List.getElem?_set,hlen,t4,t6,t7]
  (and_intros <;> try omega)
  simpa using h2
end
theorem zkh {n:Nat} (h:n ≤ 65535):IntKind.i64.wrap ((n:Nat):Int)=n:=by rw [IntKind.wrap_i64]; omega
section
variable [Tabs Tryz.prog] {objs:List OB} {K:List OB → AV → Prop}
theorem runit_k (s:List UInt8) (a:Nat) (ha:a ≤ 9000000000000000000) (hs:s.length ≤ 140737488351232) (hk:match zcx (s.drop a) with | some n => K objs (.tup [.i .i64 (n:Nat),.b true]) | none => ∀ x,K objs (.tup [.i .i64 x,.b false])):zae Tryz.prog 130 [.s s,.i .i64 (a:Nat)] objs K:=by
 refine zaV is_ref13_unit rfl fun C _ => ?_
 have hb:=zjk zbI 16 65535 (((s.drop a).drop 2).take 4)
 unfold zcx at hk
 rw [List.length_drop,zcg,zcg,Nat.add_zero] at hk
 by_cases c0:(s.length:Int) < (a:Int) + 6
 ·rw [if_pos (.inl (by omega))] at hk
  simp only [c0,c_ref13_unit,sxZ,z6,z7,z8,j4,j5,j6,j7,j8,j9,x4,x5,x6,x7,x8,x9,reduceCtorEq,↓reduceIte]
  exact ⟨by omega,hk 0⟩
 have l0:a < s.length:=by omega
 have l1:a + 1 < s.length:=by omega
 have g0:=zaC l0
 have g1:=zaC l1
 have e2:((a:Int) + 1).toNat=a + 1:=by omega
 have e0:s[a]? = some 92 ↔ ((s[a].toNat:Nat):Int)=92:=zd7 l0 92 (by decide)
 have e1:s[a + 1]? = some 117 ↔ ((s[a + 1].toNat:Nat):Int)=117:=zd7 l1 117 (by decide)
 have e3:((a:Int) + 2).toNat=a + 2:=by omega
 have e4:((a:Int) + 6).toNat=a + 6:=by omega
 by_cases c1:((s[a].toNat:Nat):Int)=92
 ·by_cases c2:((s[a + 1].toNat:Nat):Int)=117
  ·rw [if_neg (by rintro (h | h | h); exact absurd h (by omega); exact h (e0.2 c1); exact h (e1.2 c2))] at hk
   simp only [c0,c1,c2,e2,e3,e4,g0,g1,c_ref13_unit,sxZ,z6,z7,z8,j4,j5,j6,j7,j8,j9,x4,x5,x6,x7,x8,x9,reduceCtorEq,↓reduceIte]
   refine ⟨by omega,by omega,by omega,by omega,by omega,by omega,by omega,?_⟩
   have hx:(s.take (a + 6)).drop (a + 2)=((s.drop a).drop 2).take 4:=by
    rw [List.drop_drop,show a + 6=(a + 2) + 4 by omega,zeC]
   rw [hx]
   refine zak (rnHex_k _ 65535 (by rw [List.length_take,List.length_drop,zbP]; omega) (by decide) ?_)
   simp only [sxZ,z6,z7,z8,j4,j5,j6,j7,j8,j9,x4,x5,x6,x7,x8,x9,reduceCtorEq,↓reduceIte]
   generalize zbV zbI 16 65535 (((s.drop a).drop 2).take 4)=q at *
   obtain ⟨e,n⟩:=q
   simp only at hk hb ⊢
   rw [zkh hb]
   by_cases c3:e=0
   ·rw [if_pos c3] at hk
    rw [decide_eq_true c3]
    exact hk
   ·rw [if_neg c3] at hk
    rw [decide_eq_false c3]
    exact hk _
  ·rw [if_pos (.inr (.inr (fun h => c2 (e1.1 h))))] at hk
   simp only [c0,c1,c2,e2,g0,g1,c_ref13_unit,sxZ,z6,z7,z8,j4,j5,j6,j7,j8,j9,x4,x5,x6,x7,x8,x9,reduceCtorEq,↓reduceIte]
   refine ⟨by omega,by omega,by omega,by omega,hk 0⟩
 ·rw [if_pos (.inr (.inl (fun h => c1 (e0.1 h))))] at hk
  simp only [c0,c1,g0,g1,c_ref13_unit,sxZ,z6,z7,z8,j4,j5,j6,j7,j8,j9,x4,x5,x6,x7,x8,x9,reduceCtorEq,↓reduceIte]
  refine ⟨by omega,by omega,hk 0⟩
end
end Go.Proofs.YtadhjoggdbhkgaaGreatDoor
namespace Go.Proofs.YtadhjoggdbhkgaaGreatDoor
open Go.RowKit Sx
theorem zhW {P:Program} [Tabs P] {f:FuncId} {args:List AV} {vs:List Value} {Q:Value → Prop} {w:World} (ha:vals args=some vs) (hT:Tabs.T (P:=P) w) (h:zae P f args [] (fun _ r => ∃ v,val r=some v ∧ Q v)) :
  Calls P f vs.toArray w fun e w' => ∃ v,e=.returned v ∧ Q v ∧ Qb w w':=by
 haveI:On P ⟨w,fun _ => False,fun g o v => w.cell? ⟨g,o,none⟩=some v,Gh.none⟩:=⟨hT,fun _ h => h⟩
 have hd:=(zbM Gh.none (fun g o v => w.cell? ⟨g,o,none⟩=some v) args vs ha vs).2 rfl
 have hc:=h ⟨w,fun _ => False,fun g o v => w.cell? ⟨g,o,none⟩=some v,Gh.none⟩ Gh.none (fun g o v => w.cell? ⟨g,o,none⟩=some v) w
  ⟨rfl,rfl,rfl,Nat.le_refl _,fun _ _ _ => rfl,fun _ _ _ h => h,fun _ _ _ h => .inl h,fun b g hb => by simp [Gh.own,Gh.none] at hb,Gh.le.refl _⟩
  ⟨fun _ _ _ h => h,by simp,by simp,by simp,fun b b' g hb => by simp [Gh.own,Gh.none] at hb,fun b g hb => by simp [Gh.own,Gh.none] at hb,fun b g o v hb => by simp [Gh.own,Gh.none] at hb,fun b _ => ⟨rfl,rfl⟩⟩ vs hd
 refine hc.mono ?_
 rintro e w' ⟨y,objs',r,G',I',rfl,⟨v,hv,hq⟩,_,_,hin,_,hy⟩
 rw [(zeA _ _ r v hv y).1 hy]
 exact ⟨v,rfl,hq,hin.os,hin.tape,hin.output,hin.size,fun k hk => hin.block k hk (fun h => h)⟩
def zki (l:List UInt8) (v:Value):Prop:=match zcx l with | some n => v=.tuple #[.int .i64 (n:Nat),.bool true] | none => ∃ x,v=.tuple #[.int .i64 x,.bool false]
theorem zlC [Tabs Tryz.prog] (s:List UInt8) (a:Nat) (ha:a ≤ 9000000000000000000) (hs:s.length ≤ 140737488351232) (w:World) (hT:Tabs.T (P:=Tryz.prog) w) :
  Calls Tryz.prog 130 #[.string (S s),.int .i64 (a:Nat)] w fun e w' => ∃ v,e=.returned v ∧ zki (s.drop a) v ∧ Qb w w' :=
 zhW (args:=[.s s,.i .i64 (a:Nat)]) rfl hT (runit_k s a ha hs (by
  unfold zki
  cases zcx (s.drop a) with
  | some n => exact ⟨_,rfl,rfl⟩
  | none => exact fun x => ⟨_,rfl,x,rfl⟩))
def zbk (s:List UInt8) (a:Nat):List UInt8 × Int × Int:=if (zeh (s.drop a)).1=0 then ((zeh (s.drop a)).2.1,((a + (zeh (s.drop a)).2.2:Nat):Int),0) else ([],0,(zeh (s.drop a)).1)
def tokEscV (r:List UInt8 × Int × Int):Value:=.tuple #[.string (S r.1),.int .i64 r.2.1,.int .i64 r.2.2]
def zaK:ByteArray:=⟨#[34,92,47,98,102,110,114,116]⟩
theorem zh3 [Tabs Tryz.prog] (b:ByteArray) (a:Nat) (x:Int) (hx:x=(a:Nat)) (ha:a ≤ 9000000000000000000) (hs:b.size ≤ 140737488351232) (w:World) (hT:Tabs.T (P:=Tryz.prog) w) :
  Calls Tryz.prog 130 #[.string b,.int .i64 x] w fun e w' => ∃ v,e=.returned v ∧ zki (b.data.toList.drop a) v ∧ Qb w w':=by
 subst hx
 have h:=zlC b.data.toList a ha (by rw [zad]; exact hs) w hT
 rw [S_of b] at h
 exact h
def zfF:List UInt8:=[34,92,47,98,102,110,114,116]
def zoa:List UInt8:=[34,92,47,8,12,10,13,9]
theorem codes_ok:∀ i:Fin 8,zeH (zfF.getD i.val 0)=some (zoa.getD i.val 0):=by decide +kernel
theorem codes_no (c:UInt8) (h:∀ j,j < 8 → zfF.getD j 0 ≠ c):zeH c=none:=by
 have key:∀ n:Fin 256,zeH (UInt8.ofNat n.val)=none ∨ ∃ i:Fin 8,zfF.getD i.val 0=UInt8.ofNat n.val:=by decide +kernel
 have h2:=key ⟨c.toNat,c.toNat_lt⟩
 simp only [UInt8.ofNat_toNat] at h2
 rcases h2 with h2 | ⟨i,h2⟩
 ·exact h2
 ·exact absurd h2 (h i.val i.isLt)
theorem zcW (b:ByteArray) (a k:Nat) (hk:k < 8) (h:a + 1 < b.size) (hx:zfF.getD k 0=b[a + 1]):zbk b.data.toList a=([zoa.getD k 0],((a + 2:Nat):Int),0):=by
 have he:zeh (b.data.toList.drop a)=(0,[zoa.getD k 0],2):=by
  unfold zeh
  rw [zcg,List.getElem?_eq_getElem (by rw [zad]; exact h),Option.bind_some,show b.data.toList[a + 1]'(by rw [zad]; exact h)=zfF.getD k 0 from (zgr b (a + 1) h).symm.trans hx.symm,codes_ok ⟨k,hk⟩]
 unfold zbk
 rw [he]; rfl
theorem zos [Tabs Tryz.prog] {w w':World} (hT:Tabs.T (P:=Tryz.prog) w) (hq:Qb w w'):Tabs.T (P:=Tryz.prog) w' :=
 Tabs.keep w w' hT (fun k hk => hq.block k hk) hq.size
set_option maxRecDepth 1000000 in
set_option maxHeartbeats 4000000 in
theorem zh4 [Tabs Tryz.prog] (b:ByteArray) (a:Nat) (ha:a < b.size) (hs:b.size ≤ 140737488351232) (w:World) (hT:Tabs.T (P:=Tryz.prog) w) :
  Calls Tryz.prog 104 #[.string b,.int .i64 (a:Nat)] w fun e w' => e=.returned (tokEscV (zbk b.data.toList a)) ∧ Qb w w':=by
 by_cases c0:(a:Int) + 1 < b.size
 ·have c0':a + 1 < b.size:=by omega
  have HC:Hid (b[a + 1]=b.data.toList[a + 1]'(by rw [zad]; exact c0')):=Lib.hid (zgr b (a + 1) c0')
  have HG:Hid (b.data.toList[a + 1]? = some b[a + 1]):=Lib.hid (by rw [List.getElem?_eq_getElem (by rw [zad]; exact c0'),zgr b (a + 1) c0'])
  have q1:IntKind.i64.wrap ((a:Int) + 1)=(a:Int) + 1:=IntWalk.i64_in _ (by omega)
  have q2:(0:Int) ≤ (a:Int) + 1:=by omega
  have q3:((a:Int) + 1).toNat=a + 1:=by omega
  have q4:(a:Int) + 1 < b.size:=by omega
  go_enter Tryz.func104,Tryz.ntmps104
  go_wp2_with fail
  go_loopg [7] 8 (fun g _ wx => ∃ i:Nat,i + g=8 ∧ wx.heap[w.heap.size]? = some (.stringIter zaK i) ∧ Qb w wx ∧ Hid (∀ j,j < i → zfF.getD j 0 ≠ b[a + 1]))
  case atStart => exact ⟨0,rfl,World.iter_heap _ _ _,(Qb.refl w).alloc _,Lib.hid (fun j hj => absurd hj (by omega))⟩
  case round =>
   obtain ⟨i,hig,hk,hq,HN⟩:=hrel
   by_cases hi:i < 8
   ·obtain ⟨g,rfl⟩:∃ g,gk=g + 1:=⟨gk - 1,by omega⟩
    have hcases:i=0 ∨ i=1 ∨ i=2 ∨ i=3 ∨ i=4 ∨ i=5 ∨ i=6 ∨ i=7:=by omega
    rcases hcases with rfl | rfl | rfl | rfl | rfl | rfl | rfl | rfl
    ·have hnx:=fun ty => Lib.run_next_ascii_at (P:=Tryz.prog) wr w.heap.size zaK 0 ty hk (by decide) (by decide)
     have hk':=Lib.hid (Lib.iterAt_heap wr w.heap.size zaK 0 1 hk)
     have hq':Qb w (wr.iterAt w.heap.size zaK 1):=Lib.below_iterAt hq (Nat.le_refl _) zaK 1
     clear hk
     by_cases hx:(34:UInt8)=b[a + 1]
     ·have HE:=Lib.hid (zcW b a 0 (by decide) c0' hx)
      have hd:∀ x:Int,x=34 → (x == ((b[a + 1].toNat:Nat):Int))=true:=by
       rintro x rfl
       rw [← hx]; rfl
      clear hx
      go_wp2_with fail
      go_quiet (fail)
      rw [hd]
      rotate_left
      ·rfl
      go_wp2_with fail
      go_ret3
      exact ⟨by rw [HE.out]; rfl,hq'.drewN _⟩
     ·have HX:=Lib.hid hx
      have hd:∀ x:Int,x=34 → (x == ((b[a + 1].toNat:Nat):Int))=false:=by
       rintro x rfl
       rw [beq_eq_false_iff_ne]
       intro h
       have h2:(34:UInt8).toNat=b[a + 1].toNat:=by
        have:(34:UInt8).toNat=34:=rfl
        omega
       exact hx (UInt8.toNat_inj.1 h2)
      clear hx
      go_wp2_with fail
      go_quiet (fail)
      rw [hd]
      rotate_left
      ·rfl
      go_wp2_with fail
      go_roundg g
      case measure => omega
      case rel => exact ⟨1,by omega,hk'.out,hq'.drewN _,Lib.hid (fun j hj => by
       rcases Nat.lt_or_ge j 0 with h | h
       ·exact HN.out j h
       ·obtain rfl:j=0:=by omega
        exact HX.out)⟩
    ·have hnx:=fun ty => Lib.run_next_ascii_at (P:=Tryz.prog) wr w.heap.size zaK 1 ty hk (by decide) (by decide)
     have hk':=Lib.hid (Lib.iterAt_heap wr w.heap.size zaK 1 2 hk)
     have hq':Qb w (wr.iterAt w.heap.size zaK 2):=Lib.below_iterAt hq (Nat.le_refl _) zaK 2
     clear hk
     by_cases hx:(92:UInt8)=b[a + 1]
     ·have HE:=Lib.hid (zcW b a 1 (by decide) c0' hx)
      have hd:∀ x:Int,x=92 → (x == ((b[a + 1].toNat:Nat):Int))=true:=by
       rintro x rfl
       rw [← hx]; rfl
      clear hx
      go_wp2_with fail
      go_quiet (fail)
      rw [hd]
      rotate_left
      ·rfl
      go_wp2_with fail
      go_ret3
      exact ⟨by rw [HE.out]; rfl,hq'.drewN _⟩
     ·have HX:=Lib.hid hx
      have hd:∀ x:Int,x=92 → (x == ((b[a + 1].toNat:Nat):Int))=false:=by
       rintro x rfl
       rw [beq_eq_false_iff_ne]
       intro h
       have h2:(92:UInt8).toNat=b[a + 1].toNat:=by
        have:(92:UInt8).toNat=92:=rfl
        omega
       exact hx (UInt8.toNat_inj.1 h2)
      clear hx
      go_wp2_with fail
      go_quiet (fail)
      rw [hd]
      rotate_left
      ·rfl
      go_wp2_with fail
      go_roundg g
      case measure => omega
      case rel => exact ⟨2,by omega,hk'.out,hq'.drewN _,Lib.hid (fun j hj => by
       rcases Nat.lt_or_ge j 1 with h | h
       ·exact HN.out j h
       ·obtain rfl:j=1:=by omega
        exact HX.out)⟩
    ·have hnx:=fun ty => Lib.run_next_ascii_at (P:=Tryz.prog) wr w.heap.size zaK 2 ty hk (by decide) (by decide)
     have hk':=Lib.hid (Lib.iterAt_heap wr w.heap.size zaK 2 3 hk)
     have hq':Qb w (wr.iterAt w.heap.size zaK 3):=Lib.below_iterAt hq (Nat.le_refl _) zaK 3
     clear hk
     by_cases hx:(47:UInt8)=b[a + 1]
     ·have HE:=Lib.hid (zcW b a 2 (by decide) c0' hx)
      have hd:∀ x:Int,x=47 → (x == ((b[a + 1].toNat:Nat):Int))=true:=by
       rintro x rfl
       rw [← hx]; rfl
      clear hx
      go_wp2_with fail
      go_quiet (fail)
      rw [hd]
      rotate_left
      ·rfl
      go_wp2_with fail
      go_ret3
      exact ⟨by rw [HE.out]; rfl,hq'.drewN _⟩
     ·have HX:=Lib.hid hx
      have hd:∀ x:Int,x=47 → (x == ((b[a + 1].toNat:Nat):Int))=false:=by
       rintro x rfl
       rw [beq_eq_false_iff_ne]
       intro h
       have h2:(47:UInt8).toNat=b[a + 1].toNat:=by
        have:(47:UInt8).toNat=47:=rfl
        omega
       exact hx (UInt8.toNat_inj.1 h2)
      clear hx
      go_wp2_with fail
      go_quiet (fail)
      rw [hd]
      rotate_left
      ·rfl
      go_wp2_with fail
      go_roundg g
      case measure => omega
      case rel => exact ⟨3,by omega,hk'.out,hq'.drewN _,Lib.hid (fun j hj => by
       rcases Nat.lt_or_ge j 2 with h | h
       ·exact HN.out j h
       ·obtain rfl:j=2:=by omega
        exact HX.out)⟩
    ·have hnx:=fun ty => Lib.run_next_ascii_at (P:=Tryz.prog) wr w.heap.size zaK 3 ty hk (by decide) (by decide)
     have hk':=Lib.hid (Lib.iterAt_heap wr w.heap.size zaK 3 4 hk)
     have hq':Qb w (wr.iterAt w.heap.size zaK 4):=Lib.below_iterAt hq (Nat.le_refl _) zaK 4
     clear hk
     by_cases hx:(98:UInt8)=b[a + 1]
     ·have HE:=Lib.hid (zcW b a 3 (by decide) c0' hx)
      have hd:∀ x:Int,x=98 → (x == ((b[a + 1].toNat:Nat):Int))=true:=by
       rintro x rfl
       rw [← hx]; rfl
      clear hx
      go_wp2_with fail
      go_quiet (fail)
      rw [hd]
      rotate_left
      ·rfl
      go_wp2_with fail
      go_ret3
      exact ⟨by rw [HE.out]; rfl,hq'.drewN _⟩
     ·have HX:=Lib.hid hx
      have hd:∀ x:Int,x=98 → (x == ((b[a + 1].toNat:Nat):Int))=false:=by
       rintro x rfl
       rw [beq_eq_false_iff_ne]
       intro h
       have h2:(98:UInt8).toNat=b[a + 1].toNat:=by
        have:(98:UInt8).toNat=98:=rfl
        omega
       exact hx (UInt8.toNat_inj.1 h2)
      clear hx
      go_wp2_with fail
      go_quiet (fail)
      rw [hd]
      rotate_left
      ·rfl
      go_wp2_with fail
      go_roundg g
      case measure => omega
      case rel => exact ⟨4,by omega,hk'.out,hq'.drewN _,Lib.hid (fun j hj => by
       rcases Nat.lt_or_ge j 3 with h | h
       ·exact HN.out j h
       ·obtain rfl:j=3:=by omega
        exact HX.out)⟩
    ·have hnx:=fun ty => Lib.run_next_ascii_at (P:=Tryz.prog) wr w.heap.size zaK 4 ty hk (by decide) (by decide)
     have hk':=Lib.hid (Lib.iterAt_heap wr w.heap.size zaK 4 5 hk)
     have hq':Qb w (wr.iterAt w.heap.size zaK 5):=Lib.below_iterAt hq (Nat.le_refl _) zaK 5
     clear hk
     by_cases hx:(102:UInt8)=b[a + 1]
     ·have HE:=Lib.hid (zcW b a 4 (by decide) c0' hx)
      have hd:∀ x:Int,x=102 → (x == ((b[a + 1].toNat:Nat):Int))=true:=by
       rintro x rfl
       rw [← hx]; rfl
      clear hx
      go_wp2_with fail
      go_quiet (fail)
      rw [hd]
      rotate_left
      ·rfl
      go_wp2_with fail
      go_ret3
      exact ⟨by rw [HE.out]; rfl,hq'.drewN _⟩
     ·have HX:=Lib.hid hx
      have hd:∀ x:Int,x=102 → (x == ((b[a + 1].toNat:Nat):Int))=false:=by
       rintro x rfl
       rw [beq_eq_false_iff_ne]
       intro h
       have h2:(102:UInt8).toNat=b[a + 1].toNat:=by
        have:(102:UInt8).toNat=102:=rfl
        omega
       exact hx (UInt8.toNat_inj.1 h2)
      clear hx
      go_wp2_with fail
      go_quiet (fail)
      rw [hd]
      rotate_left
      ·rfl
      go_wp2_with fail
      go_roundg g
      case measure => omega
      case rel => exact ⟨5,by omega,hk'.out,hq'.drewN _,Lib.hid (fun j hj => by
       rcases Nat.lt_or_ge j 4 with h | h
       ·exact HN.out j h
       ·obtain rfl:j=4:=by omega
        exact HX.out)⟩
    ·have hnx:=fun ty => Lib.run_next_ascii_at (P:=Tryz.prog) wr w.heap.size zaK 5 ty hk (by decide) (by decide)
     have hk':=Lib.hid (Lib.iterAt_heap wr w.heap.size zaK 5 6 hk)
     have hq':Qb w (wr.iterAt w.heap.size zaK 6):=Lib.below_iterAt hq (Nat.le_refl _) zaK 6
     clear hk
     by_cases hx:(110:UInt8)=b[a + 1]
     ·have HE:=Lib.hid (zcW b a 5 (by decide) c0' hx)
      have hd:∀ x:Int,x=110 → (x == ((b[a + 1].toNat:Nat):Int))=true:=by
       rintro x rfl
       rw [← hx]; rfl
      clear hx
      go_wp2_with fail
      go_quiet (fail)
      rw [hd]
      rotate_left
      ·rfl
      go_wp2_with fail
      go_ret3
      exact ⟨by rw [HE.out]; rfl,hq'.drewN _⟩
     ·have HX:=Lib.hid hx
      have hd:∀ x:Int,x=110 → (x == ((b[a + 1].toNat:Nat):Int))=false:=by
       rintro x rfl
       rw [beq_eq_false_iff_ne]
       intro h
       have h2:(110:UInt8).toNat=b[a + 1].toNat:=by
        have:(110:UInt8).toNat=110:=rfl
        omega
       exact hx (UInt8.toNat_inj.1 h2)
      clear hx
      go_wp2_with fail
      go_quiet (fail)
      rw [hd]
      rotate_left
      ·rfl
      go_wp2_with fail
      go_roundg g
      case measure => omega
      case rel => exact ⟨6,by omega,hk'.out,hq'.drewN _,Lib.hid (fun j hj => by
       rcases Nat.lt_or_ge j 5 with h | h
       ·exact HN.out j h
       ·obtain rfl:j=5:=by omega
        exact HX.out)⟩
    ·have hnx:=fun ty => Lib.run_next_ascii_at (P:=Tryz.prog) wr w.heap.size zaK 6 ty hk (by decide) (by decide)
     have hk':=Lib.hid (Lib.iterAt_heap wr w.heap.size zaK 6 7 hk)
     have hq':Qb w (wr.iterAt w.heap.size zaK 7):=Lib.below_iterAt hq (Nat.le_refl _) zaK 7
     clear hk
     by_cases hx:(114:UInt8)=b[a + 1]
     ·have HE:=Lib.hid (zcW b a 6 (by decide) c0' hx)
      have hd:∀ x:Int,x=114 → (x == ((b[a + 1].toNat:Nat):Int))=true:=by
       rintro x rfl
       rw [← hx]; rfl
      clear hx
      go_wp2_with fail
      go_quiet (fail)
      rw [hd]
      rotate_left
      ·rfl
      go_wp2_with fail
      go_ret3
      exact ⟨by rw [HE.out]; rfl,hq'.drewN _⟩
     ·have HX:=Lib.hid hx
      have hd:∀ x:Int,x=114 → (x == ((b[a + 1].toNat:Nat):Int))=false:=by
       rintro x rfl
       rw [beq_eq_false_iff_ne]
       intro h
       have h2:(114:UInt8).toNat=b[a + 1].toNat:=by
        have:(114:UInt8).toNat=114:=rfl
        omega
       exact hx (UInt8.toNat_inj.1 h2)
      clear hx
      go_wp2_with fail
      go_quiet (fail)
      rw [hd]
      rotate_left
      ·rfl
      go_wp2_with fail
      go_roundg g
      case measure => omega
      case rel => exact ⟨7,by omega,hk'.out,hq'.drewN _,Lib.hid (fun j hj => by
       rcases Nat.lt_or_ge j 6 with h | h
       ·exact HN.out j h
       ·obtain rfl:j=6:=by omega
        exact HX.out)⟩
    ·have hnx:=fun ty => Lib.run_next_ascii_at (P:=Tryz.prog) wr w.heap.size zaK 7 ty hk (by decide) (by decide)
     have hk':=Lib.hid (Lib.iterAt_heap wr w.heap.size zaK 7 8 hk)
     have hq':Qb w (wr.iterAt w.heap.size zaK 8):=Lib.below_iterAt hq (Nat.le_refl _) zaK 8
     clear hk
     by_cases hx:(116:UInt8)=b[a + 1]
     ·have HE:=Lib.hid (zcW b a 7 (by decide) c0' hx)
      have hd:∀ x:Int,x=116 → (x == ((b[a + 1].toNat:Nat):Int))=true:=by
       rintro x rfl
       rw [← hx]; rfl
      clear hx
      go_wp2_with fail
      go_quiet (fail)
      rw [hd]
      rotate_left
      ·rfl
      go_wp2_with fail
      go_ret3
      exact ⟨by rw [HE.out]; rfl,hq'.drewN _⟩
     ·have HX:=Lib.hid hx
      have hd:∀ x:Int,x=116 → (x == ((b[a + 1].toNat:Nat):Int))=false:=by
       rintro x rfl
       rw [beq_eq_false_iff_ne]
       intro h
       have h2:(116:UInt8).toNat=b[a + 1].toNat:=by
        have:(116:UInt8).toNat=116:=rfl
        omega
       exact hx (UInt8.toNat_inj.1 h2)
      clear hx
      go_wp2_with fail
      go_quiet (fail)
      rw [hd]
      rotate_left
      ·rfl
      go_wp2_with fail
      go_roundg g
      case measure => omega
      case rel => exact ⟨8,by omega,hk'.out,hq'.drewN _,Lib.hid (fun j hj => by
       rcases Nat.lt_or_ge j 7 with h | h
       ·exact HN.out j h
       ·obtain rfl:j=7:=by omega
        exact HX.out)⟩
   ·have hnx:=fun ty => Lib.run_next_end_at (P:=Tryz.prog) wr w.heap.size zaK i ty hk (by show ¬ i < 8; exact hi)
    have HS:Hid ((b.data.toList.drop a)[1]?.bind zeH=none):=Lib.hid (by
     rw [zcg,HG.out,Option.bind_some]
     exact codes_no _ (fun j hj => HN.out j (by omega)))
    go_wp2_with fail
    refine (zh3 b a a rfl (by omega) hs _ (zos hT hq)).mono ?_
    rintro e w1 ⟨v,rfl,hv,hq1⟩
    have hq2:=hq.trans hq1
    unfold zki at hv
    cases hu:zcx (b.data.toList.drop a) with
    | none =>
     rw [hu] at hv
     obtain ⟨x,rfl⟩:=hv
     have hE:zbk b.data.toList a=([],0,130):=by
      have:zeh (b.data.toList.drop a)=(130,[],0):=by unfold zeh; rw [HS.out,hu]
      unfold zbk
      rw [this]; rfl
     go_wp2_with fail
     go_ret3
     exact ⟨by rw [hE]; rfl,hq2⟩
    | some n =>
     rw [hu] at hv
     subst hv
     have hul:=zck hu
     rw [List.length_drop,zad] at hul
     have HU:=Lib.hid hu
     clear hu
     have okE:∀ (U Z:Nat),zdb n ((b.data.toList.drop a).drop 6)=(U,Z) → cpB (U:Int)=true → zbk b.data.toList a=(zdH U,((a + Z:Nat):Int),0):=by
      intro U Z h1 h2
      have:=znE HS.out HU.out
      rw [h1] at this
      simp only at this
      rw [if_pos h2] at this
      unfold zbk
      rw [this]; rfl
     have noE:∀ (U Z:Nat),zdb n ((b.data.toList.drop a).drop 6)=(U,Z) → cpB (U:Int)=false → zbk b.data.toList a=([],0,7):=by
      intro U Z h1 h2
      have:=znE HS.out HU.out
      rw [h1] at this
      simp only at this
      rw [if_neg (by rw [h2]; simp)] at this
      unfold zbk
      rw [this]; rfl
     have HO:=Lib.hid okE
     have HNo:=Lib.hid noE
     clear okE noE
     have hq3:=zos hT hq2
     have HQ2:=Lib.hid hq2
     have b1:IntKind.i64.wrap ((a:Int) + 6)=(a:Int) + 6:=IntWalk.i64_in _ (by omega)
     have b2:IntKind.i64.wrap ((a:Int) + 12)=(a:Int) + 12:=IntWalk.i64_in _ (by omega)
     have encOk:∀ U:Nat,cpB (U:Int)=true → ∀ wz,Calls Tryz.prog 129 #[.int .i64 (U:Nat)] wz fun e w' => e=.returned (.tuple #[.string (S (zdH U)),.int .i64 0]) ∧ Qb wz w':=by
      intro U hU wz
      have:=zcP (U:Nat) wz
      unfold zgi at this
      rw [if_pos hU,Int.toNat_natCast] at this
      exact this
     by_cases c1:n < 55296 ∨ 57343 < n
     ·have hU:zdb n ((b.data.toList.drop a).drop 6)=(n,6):=by unfold zdb; rw [if_neg (show ¬ (55296 ≤ n ∧ n < 56320) by omega)]
      have hcp:cpB (n:Int)=true:=decide_eq_true (by omega)
      have hE:=Lib.hid (HO.out n 6 hU hcp)
      have hEn:=Lib.hid (encOk n hcp)
      clear hU hcp encOk
      by_cases c2:n < 55296
      ·have d1:decide ((n:Int) < 55296)=true:=decide_eq_true (by omega)
       clear c1 c2 hul
       go_wp2_with fail
       refine (hEn.out _).mono ?_
       rintro e w2 ⟨rfl,hq4⟩
       have HE2:=hE.out
       clear hE hEn
       generalize zdH n=X at *
       have HE3:=Lib.hid HE2
       clear HE2
       go_wp2_with fail
       go_ret3
       exact ⟨by rw [HE3.out]; rfl,HQ2.out.trans hq4⟩
      ·have d1:decide ((n:Int) < 55296)=false:=decide_eq_false (by omega)
       have d2:decide ((57343:Int) < (n:Int))=true:=decide_eq_true (by omega)
       clear c1 c2 hul
       go_wp2_with fail
       refine (hEn.out _).mono ?_
       rintro e w2 ⟨rfl,hq4⟩
       have HE2:=hE.out
       clear hE hEn
       generalize zdH n=X at *
       have HE3:=Lib.hid HE2
       clear HE2
       go_wp2_with fail
       go_ret3
       exact ⟨by rw [HE3.out]; rfl,HQ2.out.trans hq4⟩
     ·have d1:decide ((n:Int) < 55296)=false:=decide_eq_false (by omega)
      have d2:decide ((57343:Int) < (n:Int))=false:=decide_eq_false (by omega)
      have C1:=Lib.hid c1
      have HL:=Lib.hid hul
      clear c1 hul
      go_wp2_with fail
      refine (zh3 b (a + 6) _ (by omega) (by omega) hs _ hq3).mono ?_
      rintro e w2 ⟨v,rfl,hv,hq4⟩
      have HQ5:=Lib.hid (HQ2.out.trans hq4)
      unfold zki at hv
      have hdd:(b.data.toList.drop a).drop 6=b.data.toList.drop (a + 6):=List.drop_drop
      have hcn:=C1.out
      have hln:=HL.out
      have hne:cpB (n:Int)=false:=decide_eq_false (by omega)
      cases hu2:zcx (b.data.toList.drop (a + 6)) with
      | none =>
       rw [hu2] at hv
       obtain ⟨x,rfl⟩:=hv
       have hU:zdb n ((b.data.toList.drop a).drop 6)=(n,6):=by unfold zdb; rw [hdd,hu2]; simp
       have hE:=Lib.hid (HNo.out n 6 hU hne)
       clear hU hcn hln hne hdd encOk
       by_cases c3:(56319:Int) < n
       ·have d3:decide ((56319:Int) < (n:Int))=true:=decide_eq_true c3
        clear c3
        go_wp2_with fail
        go_ret3
        exact ⟨by rw [hE.out]; rfl,HQ5.out⟩
       ·have d3:decide ((56319:Int) < (n:Int))=false:=decide_eq_false c3
        clear c3
        go_wp2_with fail
        go_ret3
        exact ⟨by rw [hE.out]; rfl,HQ5.out⟩
      | some m =>
       rw [hu2] at hv
       subst hv
       have hml:=(zck hu2).2
       by_cases c3:(56319:Int) < n
       ·have hU:zdb n ((b.data.toList.drop a).drop 6)=(n,6):=by unfold zdb; rw [if_neg (show ¬ (55296 ≤ n ∧ n < 56320) by omega)]
        have hE:=Lib.hid (HNo.out n 6 hU hne)
        have d3:decide ((56319:Int) < (n:Int))=true:=decide_eq_true c3
        clear hU hcn hln hne hdd encOk c3 hml hu2
        go_wp2_with fail
        go_ret3
        exact ⟨by rw [hE.out]; rfl,HQ5.out⟩
       have d3:decide ((56319:Int) < (n:Int))=false:=decide_eq_false c3
       by_cases c4:(m:Int) < 56320
       ·have hU:zdb n ((b.data.toList.drop a).drop 6)=(n,6):=by
         unfold zdb; rw [hdd,hu2,if_pos (show 55296 ≤ n ∧ n < 56320 by omega)]
         simp only
         rw [if_neg (by omega)]
        have hE:=Lib.hid (HNo.out n 6 hU hne)
        have d4:decide ((m:Int) < 56320)=true:=decide_eq_true c4
        clear hU hcn hln hne hdd encOk c3 c4 hml hu2
        go_wp2_with fail
        go_ret3
        exact ⟨by rw [hE.out]; rfl,HQ5.out⟩
       have d4:decide ((m:Int) < 56320)=false:=decide_eq_false c4
       by_cases c5:(57343:Int) < m
       ·have hU:zdb n ((b.data.toList.drop a).drop 6)=(n,6):=by
         unfold zdb; rw [hdd,hu2,if_pos (show 55296 ≤ n ∧ n < 56320 by omega)]
         simp only
         rw [if_neg (by omega)]
        have hE:=Lib.hid (HNo.out n 6 hU hne)
        have d5:decide ((57343:Int) < (m:Int))=true:=decide_eq_true c5
        clear hU hcn hln hne hdd encOk c3 c4 c5 hml hu2
        go_wp2_with fail
        go_ret3
        exact ⟨by rw [hE.out]; rfl,HQ5.out⟩
       have d5:decide ((57343:Int) < (m:Int))=false:=decide_eq_false c5
       have hU:zdb n ((b.data.toList.drop a).drop 6)=(65536 + (n - 55296) * 1024 + (m - 56320),12):=by
        unfold zdb; rw [hdd,hu2,if_pos (show 55296 ≤ n ∧ n < 56320 by omega)]
        simp only
        rw [if_pos (by omega)]
       have hcp:cpB ((65536 + (n - 55296) * 1024 + (m - 56320):Nat):Int)=true:=decide_eq_true (by omega)
       have hE:=Lib.hid (HO.out _ 12 hU hcp)
       have hEn:=Lib.hid (encOk _ hcp)
       have e1:(n:Int) - 55296=((n - 55296:Nat):Int):=by omega
       have e2:((n - 55296:Nat):Int) * 1024=(((n - 55296) * 1024:Nat):Int):=by omega
       have e3:(65536:Int) + (((n - 55296) * 1024:Nat):Int)=((65536 + (n - 55296) * 1024:Nat):Int):=by omega
       have e4:((65536 + (n - 55296) * 1024:Nat):Int) + (m:Int)=((65536 + (n - 55296) * 1024 + m:Nat):Int):=by omega
       have e5:((65536 + (n - 55296) * 1024 + m:Nat):Int) - 56320=((65536 + (n - 55296) * 1024 + (m - 56320):Nat):Int):=by omega
       have hz:(65536:Int) + ((n:Int) - 55296) * 1024 + (m:Int) - 56320=((65536 + (n - 55296) * 1024 + (m - 56320):Nat):Int):=by omega
       have HZ:=Lib.hid hz
       clear hU hne hdd encOk c3 c4 c5 hu2 hcp e1 e2 e3 e4 e5 hz
       go_wp2_with fail
       rw [HZ.out]
       refine (hEn.out _).mono ?_
       rintro e w3 ⟨rfl,hq6⟩
       have HE2:=hE.out
       clear hE hEn HZ
       generalize zdH (65536 + (n - 55296) * 1024 + (m - 56320))=X at *
       have HE3:=Lib.hid HE2
       clear HE2 hcn hln hml
       go_wp2_with fail
       go_ret3
       exact ⟨by rw [HE3.out]; rfl,HQ5.out.trans hq6⟩
 ·go_enter Tryz.func104,Tryz.ntmps104
  have hu:zcx (b.data.toList.drop a)=none:=by
   cases hu:zcx (b.data.toList.drop a) with
   | none => rfl
   | some n => have:=(zck hu).1; rw [List.length_drop,zad] at this; omega
  have hE:zbk b.data.toList a=([],0,130):=by
   have:zeh (b.data.toList.drop a)=(130,[],0):=by
    unfold zeh
    rw [zcg,List.getElem?_eq_none (by rw [zad]; omega),hu]; rfl
   unfold zbk
   rw [this]; rfl
  rw [hE]
  go_wp2_with fail
  refine (zh3 b a a rfl (by omega) hs _ hT).mono ?_
  rintro e w1 ⟨v,rfl,hv,hq⟩
  unfold zki at hv
  rw [hu] at hv
  obtain ⟨x,rfl⟩:=hv
  go_wp2_with fail
  go_ret3
  exact ⟨rfl,hq⟩
end Go.Proofs.YtadhjoggdbhkgaaGreatDoor
namespace Go.Proofs.YtadhjoggdbhkgaaGreatDoor
open Nat renaming reduceAdd → z6, reduceSub → z7, reduceLeDiff → z8, reduceLT → j4, reduceMul → j5, reduceEqDiff → j6
open Int renaming reduceToNat → j7, reduceAdd → j8, reduceSub → j9, reduceMul → x4, reduceNeg → x5, reduceLT → x6, reduceLE → x7, reduceEq → x8, reduceNe → x9
open Go.RowKit Sx
section
variable [Tabs Tryz.prog] {objs:List OB} {K:List OB → AV → Prop}
theorem zlF (s:List UInt8) (a:Nat) (ha:a < s.length) (hs:s.length ≤ 140737488351232) (hk:K objs (.tup [.s (zbk s a).1,.i .i64 (zbk s a).2.1,.i .i64 (zbk s a).2.2])):zae Tryz.prog 104 [.s s,.i .i64 (a:Nat)] objs K :=
 convT (vs:=[.string (S s),.int .i64 (a:Nat)]) rfl rfl (fun w hT => zh4 (S s) a (by rw [zbJ]; exact ha) (by rw [zbJ]; exact hs) w hT) hk
set_option maxHeartbeats 4000000 in
theorem zks (s:List UInt8) (a:Nat) (hs:s.length ≤ 140737488351232) (ha:a < s.length) (R:Int × List UInt8 × Nat) (hR:zeB ((s.drop (a + 1)).length + 1) (s.drop (a + 1)) [] 0=R)
  (h1:R.1 ≠ 0 → K objs (.tup [.s [],.i .i64 0,.i .i64 R.1])) (h0:R.1=0 → K objs (.tup [.s R.2.1,.i .i64 ((a + 1 + R.2.2:Nat):Int),.i .i64 0])):zae Tryz.prog 73 [.s s,.i .i64 (a:Nat)] objs K:=by
 refine zaV is_ref13_text rfl fun C _ => ?_
 simp only [c_ref13_text,sxZ,z6,z7,z8,j4,j5,j6,j7,j8,j9,x4,x5,x6,x7,x8,x9,reduceCtorEq,↓reduceIte]
 refine ⟨by omega,?_⟩
 refine zaA (fun n o tm => ∃ (i:Nat) (out:List UInt8) (m:Nat),i ≤ s.length ∧ a + 1 ≤ i ∧ n=s.length - i ∧ o=[] ∧ out.length ≤ i ∧ s.length - i < m ∧ zeB m (s.drop i) out (i - (a + 1))=R ∧ tm.length=70 ∧ tm[0]? = some (.s s) ∧ tm[7]? = some (.s out) ∧ tm[8]? = some (.i .i64 (i:Nat))) (s.length - (a + 1))
  ⟨a + 1,[],(s.drop (a + 1)).length + 1,ha,Nat.le_refl _,rfl,rfl,Nat.zero_le _,by rw [List.length_drop]; omega,by rw [Nat.sub_self]; exact hR,rfl,rfl,rfl,rfl⟩ ?_
 rintro n _ tm ⟨i,out,m,hi,hai,rfl,rfl,ho,hm,hT,hlen,t0,t7,t8⟩
 obtain ⟨m,rfl⟩:∃ m',m=m' + 1:=⟨m - 1,by omega⟩
 by_cases hlt:(i:Int) < s.length
 ·have hlt':i < s.length:=by omega
  have hg:=zaC hlt'
  have hdc:=List.drop_eq_getElem_cons hlt'
  by_cases c1:((s[i].toNat:Nat):Int)=34
  ·have hc:s[i]=34:=(zcd (by decide)).1 c1
   rw [hdc,zeB,if_pos hc] at hT
   subst hT
   have h0:=h0 rfl
   rw [show a + 1 + (i - (a + 1) + 1)=i + 1 by omega] at h0
   simp only [hlt,hg,c1,sxZ,z6,z7,z8,j4,j5,j6,j7,j8,j9,x4,x5,x6,x7,x8,x9,reduceCtorEq,↓reduceIte,List.getElem?_set,hlen,t0,t7,t8]
   exact ⟨by omega,by omega,h0⟩
  ·have hc:¬ s[i]=34:=fun h => c1 ((zcd (by decide)).2 h)
   by_cases c2:((s[i].toNat:Nat):Int)=92
   ·have hc2:s[i]=92:=(zcd (by decide)).1 c2
    rw [hdc,zeB,if_neg hc,if_pos hc2,← hdc] at hT
    simp only [hlt,hg,c1,c2,sxZ,z6,z7,z8,j4,j5,j6,j7,j8,j9,x4,x5,x6,x7,x8,x9,reduceCtorEq,↓reduceIte,List.getElem?_set,hlen,t0,t7,t8]
    refine ⟨by omega,by omega,?_⟩
    refine zak (zlF s i hlt' hs ?_)
    unfold zbk
    generalize hq:zeh (s.drop i)=q at *
    obtain ⟨e,x,m'⟩:=q
    simp only at hT
    by_cases c3:e=0
    ·subst c3
     rw [if_neg (by simp)] at hT
     have hl:=zjO hq
     rw [List.length_drop] at hl
     simp only [sxZ,z6,z7,z8,j4,j5,j6,j7,j8,j9,x4,x5,x6,x7,x8,x9,reduceCtorEq,↓reduceIte,List.getElem?_set,hlen,t0,t7,t8]
     exact ⟨by omega,s.length - (i + m'),by omega,i + m',out ++ x,m,by omega,by omega,rfl,by rw [List.length_append]; omega,by omega,by rw [← List.drop_drop,show i + m' - (a + 1)=i - (a + 1) + m' by omega]; exact hT,rfl,rfl⟩
    ·rw [if_pos c3] at hT
     subst hT
     simp only [c3,sxZ,z6,z7,z8,j4,j5,j6,j7,j8,j9,x4,x5,x6,x7,x8,x9,reduceCtorEq,↓reduceIte,List.getElem?_set,hlen,t0,t7,t8]
     exact h1 c3
   ·have hc2:¬ s[i]=92:=fun h => c2 ((zcd (by decide)).2 h)
    rw [hdc,zeB,if_neg hc,if_neg hc2,← hdc] at hT
    by_cases c4:((s[i].toNat:Nat):Int) < 32
    ·rw [if_pos (by omega)] at hT
     subst hT
     simp only [hlt,hg,c1,c2,c4,sxZ,z6,z7,z8,j4,j5,j6,j7,j8,j9,x4,x5,x6,x7,x8,x9,reduceCtorEq,↓reduceIte,List.getElem?_set,hlen,t0,t7,t8]
     exact ⟨by omega,by omega,by omega,h1 (by decide)⟩
    ·rw [if_neg (by omega)] at hT
     simp only [hlt,hg,c1,c2,c4,sxZ,z6,z7,z8,j4,j5,j6,j7,j8,j9,x4,x5,x6,x7,x8,x9,reduceCtorEq,↓reduceIte,List.getElem?_set,hlen,t0,t7,t8]
     refine ⟨by omega,by omega,by omega,?_⟩
     refine zak (zkr s i hs ?_)
     rw [zn3 hlt']
     cases hd:zb3 (s.drop i) with
     | none =>
      rw [hd] at hT
      simp only at hT
      subst hT
      simp only [sxZ,z6,z7,z8,j4,j5,j6,j7,j8,j9,x4,x5,x6,x7,x8,x9,reduceCtorEq,↓reduceIte,List.getElem?_set,hlen,t0,t7,t8]
      exact h1 (by decide)
     | some q =>
      obtain ⟨r,m'⟩:=q
      rw [hd] at hT
      simp only at hT
      have gg:m' ≤ (s.drop i).length ∧ 1 ≤ m':=⟨(zbE hd).2.2.1,(zbE hd).2.2.2.1⟩
      have hxl:((s.drop i).take m').length ≤ m':=by rw [List.length_take]; omega
      rw [List.length_drop] at gg
      simp only [sxZ,z6,z7,z8,j4,j5,j6,j7,j8,j9,x4,x5,x6,x7,x8,x9,reduceCtorEq,↓reduceIte,List.getElem?_set,hlen,t0,t7,t8]
      rw [zeC]
      exact ⟨by omega,by omega,s.length - (i + m'),by omega,i + m',out ++ (s.drop i).take m',m,by omega,by omega,rfl,by rw [List.length_append]; omega,by omega,by rw [← List.drop_drop,show i + m' - (a + 1)=i - (a + 1) + m' by omega]; exact hT,rfl,rfl⟩
 ·obtain rfl:i=s.length:=by omega
  rw [List.drop_length,zeB] at hT
  subst hT
  simp only [sxZ,z6,z7,z8,j4,j5,j6,j7,j8,j9,x4,x5,x6,x7,x8,x9,reduceCtorEq,↓reduceIte,List.getElem?_set,hlen,t0,t7,t8,hlt]
  exact h1 (by decide)
end
theorem zfZ {P:Program} [Tabs P] {C:Cx} {F:zaH} {k:List IT} {objs:List OB} {tm:List AV} {c:SV} {x y:SCode} (h:c.ev tm=.b true) (hr:run P C (.code x :: k) objs tm F):run P C (.code (.cond c x y) :: k) objs tm F:=by
 rw [zf1,h,kC_t]; exact hr
theorem zf0 {P:Program} [Tabs P] {C:Cx} {F:zaH} {k:List IT} {objs:List OB} {tm:List AV} {c:SV} {x y:SCode} (h:c.ev tm=.b false) (hr:run P C (.code y :: k) objs tm F):run P C (.code (.cond c x y) :: k) objs tm F:=by
 rw [zf1,h,kC_f]; exact hr
section
variable [Tabs Tryz.prog] {objs:List OB} {K:List OB → AV → Prop}
set_option maxHeartbeats 4000000 in
theorem zkt (s:List UInt8) (a:Int) (hs:s.length ≤ 140737488351232) (hk:K objs (zmI (zbf s a))):zae Tryz.prog 52 [.s s,.i .i64 a] objs K:=by
 refine zaV is_ref13_Next rfl fun C _ => ?_
 unfold zbf zmI at hk
 by_cases c0:a < 0
 ·rw [if_pos (.inl c0)] at hk
  simp only [c0,c_ref13_Next,sxZ,z6,z7,z8,j4,j5,j6,j7,j8,j9,x4,x5,x6,x7,x8,x9,reduceCtorEq,↓reduceIte]
  exact hk
 by_cases c1:(s.length:Int) < a
 ·rw [if_pos (.inr c1)] at hk
  simp only [c0,c1,c_ref13_Next,sxZ,z6,z7,z8,j4,j5,j6,j7,j8,j9,x4,x5,x6,x7,x8,x9,reduceCtorEq,↓reduceIte]
  exact hk
 rw [if_neg (by omega)] at hk
 obtain ⟨a,rfl⟩:∃ n:Nat,a=n:=⟨a.toNat,by omega⟩
 rw [Int.toNat_natCast] at hk
 rw [c_ref13_Next]
 refine zaa fun Y1 hY1 => ?_
 simp only [sxZ,z6,z7,z8,j4,j5,j6,j7,j8,j9,x4,x5,x6,x7,x8,x9,reduceCtorEq,↓reduceIte]
 subst hY1
 refine zaa fun Y1 hY1 => ?_
 simp only [c0,c1,sxZ,z6,z7,z8,j4,j5,j6,j7,j8,j9,x4,x5,x6,x7,x8,x9,reduceCtorEq,↓reduceIte]
 subst hY1
 refine zaa fun Y1 hY1 => ?_
 have hwl:=zey (s.drop a)
 rw [List.length_drop] at hwl
 refine zav (fun o t => o=[.box 54 [.i .i64 0,.s [],.i .i64 0]] ∧ t.length=139 ∧ t[0]? = some (.s s) ∧ t[1]? = some (.i .i64 ((a + zbn (s.drop a):Nat):Int)) ∧ t[4]? = some (.p 0 0)) ?_ ?_
 ·simp only [sxZ,z6,z7,z8,j4,j5,j6,j7,j8,j9,x4,x5,x6,x7,x8,x9,reduceCtorEq,↓reduceIte]
  refine zaA (fun n objs tm => ∃ i:Nat,i ≤ s.length ∧ n=s.length - i ∧ objs=[.box 54 [.i .i64 0,.s [],.i .i64 0]] ∧ a + zbn (s.drop a)=i + zbn (s.drop i) ∧ tm.length=139 ∧ tm[0]? = some (.s s) ∧ tm[1]? = some (.i .i64 i) ∧ tm[4]? = some (.p 0 0)) (s.length - a) ⟨a,by omega,rfl,rfl,rfl,rfl,rfl,rfl,rfl⟩ ?_
  rintro n _ tm ⟨i,hil,rfl,rfl,hr,hlen,t0,t1,t4⟩
  by_cases hlt2:(i:Int) < s.length
  ·have hlt':i < s.length:=by omega
   have hg2:=zaC hlt'
   have hrn:=white_at s i hlt'
   simp only [sxZ,z6,z7,z8,j4,j5,j6,j7,j8,j9,x4,x5,x6,x7,x8,x9,reduceCtorEq,↓reduceIte,List.getElem?_set,hlen,t0,t1,t4,hlt2]
   refine ⟨by omega,?_⟩
   rw [hg2]
   refine zak (rwhite_k s[i] ?_)
   by_cases hd:zcB s[i]=true
   ·rw [if_pos hd] at hrn
    simp only [hd,sxZ,z6,z7,z8,j4,j5,j6,j7,j8,j9,x4,x5,x6,x7,x8,x9,reduceCtorEq,↓reduceIte,List.getElem?_set,hlen,t0,t1,t4]
    exact ⟨⟨by omega,by omega⟩,s.length - (i + 1),by omega,i + 1,by omega,rfl,by omega,rfl⟩
   ·rw [if_neg hd] at hrn
    simp only [Bool.not_eq_true] at hd
    simp only [hd,zbx,zab,sxZ,z6,z7,z8,j4,j5,j6,j7,j8,j9,x4,x5,x6,x7,x8,x9,reduceCtorEq,↓reduceIte,List.getElem?_set,hlen,t0,t1,t4]
    rw [hr,hrn]; rfl
  ·obtain rfl:i=s.length:=by omega
   have hw:zbn (s.drop s.length)=0:=by rw [List.drop_length]; rfl
   simp only [hlt2,zbx,zab,sxZ,z6,z7,z8,j4,j5,j6,j7,j8,j9,x4,x5,x6,x7,x8,x9,reduceCtorEq,↓reduceIte,List.getElem?_set,hlen,t0,t1,t4]
   rw [hr,hw]; rfl
 rintro _ tm ⟨rfl,hlen,t0,t1,t4⟩
 subst hY1
 have ha:a + zbn (s.drop a) ≤ s.length:=by omega
 generalize a + zbn (s.drop a)=i at *
 have h1:∀ e x n k,zbl (s.drop i)=(e,k,x,n) → e ≠ 0 → K objs (.tup [.agg [.i .i64 0,.s [],.i .i64 0],.i .i64 0,.i .i64 e]):=by
  intro e x n k h he
  rw [h,if_pos he] at hk
  exact hk
 have h0:∀ x n k,zbl (s.drop i)=(0,k,x,n) → K objs (.tup [.agg [.i .i64 k,.s x,.i .i64 (i:Nat)],.i .i64 ((i + n:Nat):Int),.i .i64 0]):=by
  intro x n k h
  rw [h,if_neg (by simp)] at hk
  exact hk
 clear hk c0 c1
 refine zaa fun Y1 hY1 => ?_
 by_cases c0:(i:Int)=s.length
 ·obtain rfl:i=s.length:=by omega
  have:=h0 [] 0 1 (by rw [List.drop_length]; rfl)
  simp only [c0,sxZ,z6,z7,z8,j4,j5,j6,j7,j8,j9,x4,x5,x6,x7,x8,x9,reduceCtorEq,↓reduceIte,List.getElem?_set,hlen,t0,t1,t4]
  exact this
 have hlt:i < s.length:=by omega
 have hg:=zaC hlt
 have hdc:=List.drop_eq_getElem_cons hlt
 simp only [c0,sxZ,z6,z7,z8,j4,j5,j6,j7,j8,j9,x4,x5,x6,x7,x8,x9,reduceCtorEq,↓reduceIte,List.getElem?_set,hlen,t0,t1,t4]
 subst hY1
 refine zaa fun Y1 hY1 => ?_
 refine zaa fun Y2 hY2 => ?_
 refine zav (fun o t => o=[.box 54 [.i .i64 0,.s [],.i .i64 0]] ∧ t.length=139 ∧ t[0]? = some (.s s) ∧ t[1]? = some (.i .i64 (i:Nat)) ∧ t[4]? = some (.p 0 0) ∧ t[7]? = some (.i .u8 (s[i].toNat:Nat))) ?_ ?_
 ·simp only [hg,zab,sxZ,z6,z7,z8,j4,j5,j6,j7,j8,j9,x4,x5,x6,x7,x8,x9,reduceCtorEq,↓reduceIte,List.getElem?_set,hlen,t0,t1,t4]
  and_intros <;> first | omega | exact iv (by omega) | rfl | assumption
 rintro _ tm ⟨rfl,hlen,t0,t1,t4,t7⟩
 subst hY2
 rw [zaB]
 refine zaa fun Y2 hY2 => ?_
 refine zav (fun o t => o=[.box 54 [.i .i64 0,.s [],.i .i64 0]] ∧ t.length=139 ∧ t[0]? = some (.s s) ∧ t[1]? = some (.i .i64 (i:Nat)) ∧ t[4]? = some (.p 0 0) ∧ t[7]? = some (.i .u8 (s[i].toNat:Nat)) ∧ t[45]? = some (.b (zcC s[i] [123,125,91,93,58,44]))) ?_ ?_
 ·simp only [sxZ,z6,z7,z8,j4,j5,j6,j7,j8,j9,x4,x5,x6,x7,x8,x9,reduceCtorEq,↓reduceIte,List.getElem?_set,hlen,t0,t1,t4,t7]
  refine zak (zg2 s[i] _ (by decide) ?_)
  simp only [zab,sxZ,z6,z7,z8,j4,j5,j6,j7,j8,j9,x4,x5,x6,x7,x8,x9,reduceCtorEq,↓reduceIte,List.getElem?_set,hlen,t0,t1,t4,t7]
 rintro _ tm ⟨rfl,hlen,t0,t1,t4,t7,t45⟩
 subst hY2
 by_cases c1:zcC s[i] [123,125,91,93,58,44]=true
 ·have hx:(s.take (i + 1)).drop i=[s[i]]:=by rw [zeC,hdc]; rfl
  have e1:((i:Int) + 1).toNat=i + 1:=by omega
  have:=h0 [s[i]] 1 2 (by rw [hdc,zbl,if_pos c1])
  refine zfZ (by simp only [SV.ev,t45,Option.getD_some,c1]) ?_
  simp only [e1,hx,sxZ,z6,z7,z8,j4,j5,j6,j7,j8,j9,x4,x5,x6,x7,x8,x9,reduceCtorEq,↓reduceIte,List.getElem?_set,hlen,t0,t1,t4,t7]
  (and_intros <;> try omega)
  exact this
 refine zf0 (by rw [Bool.not_eq_true] at c1; simp only [SV.ev,t45,Option.getD_some,c1]) ?_
 refine zaa fun Y2 hY2 => ?_
 refine zav (fun o t => o=[.box 54 [.i .i64 0,.s [],.i .i64 0]] ∧ t.length=139 ∧ t[0]? = some (.s s) ∧ t[1]? = some (.i .i64 (i:Nat)) ∧ t[4]? = some (.p 0 0) ∧ t[7]? = some (.i .u8 (s[i].toNat:Nat)) ∧ t[57]? = some (.b (decide (((s[i].toNat:Nat):Int)=34)))) ?_ ?_
 ·simp only [zab,sxZ,z6,z7,z8,j4,j5,j6,j7,j8,j9,x4,x5,x6,x7,x8,x9,reduceCtorEq,↓reduceIte,List.getElem?_set,hlen,t0,t1,t4,t7]
 rintro _ tm ⟨rfl,hlen,t0,t1,t4,t7,t57⟩
 subst hY2
 by_cases c2:((s[i].toNat:Nat):Int)=34
 ·have hc:s[i]=34:=(zcd (by decide)).1 c2
  refine zfZ (by simp only [SV.ev,t57,Option.getD_some,c2,decide_true]) ?_
  have he:zbl (s.drop i)=if (zeB ((s.drop (i + 1)).length + 1) (s.drop (i + 1)) [] 0).1 ≠ 0 then ((zeB ((s.drop (i + 1)).length + 1) (s.drop (i + 1)) [] 0).1,0,[],0) else (0,3,(zeB ((s.drop (i + 1)).length + 1) (s.drop (i + 1)) [] 0).2.1,(zeB ((s.drop (i + 1)).length + 1) (s.drop (i + 1)) [] 0).2.2 + 1):=by
   rw [hdc,zbl,if_neg c1,if_pos hc]
  obtain ⟨TT,hTT⟩:∃ TT,zeB ((s.drop (i + 1)).length + 1) (s.drop (i + 1)) [] 0=TT:=⟨_,rfl⟩
  rw [hTT] at he
  simp only [sxZ,z6,z7,z8,j4,j5,j6,j7,j8,j9,x4,x5,x6,x7,x8,x9,reduceCtorEq,↓reduceIte,List.getElem?_set,hlen,t0,t1,t4,t7]
  refine zak (zks s i hs hlt TT hTT (fun hR => ?_) (fun hR => ?_))
  ·rw [if_pos hR] at he
   have:=h1 _ _ _ _ he hR
   simp only [hR,sxZ,z6,z7,z8,j4,j5,j6,j7,j8,j9,x4,x5,x6,x7,x8,x9,reduceCtorEq,↓reduceIte,List.getElem?_set,hlen,t0,t1,t4,t7]
   exact this
  ·rw [if_neg (by rw [hR]; simp)] at he
   have:=h0 _ _ _ he
   simp only [sxZ,z6,z7,z8,j4,j5,j6,j7,j8,j9,x4,x5,x6,x7,x8,x9,reduceCtorEq,↓reduceIte,List.getElem?_set,hlen,t0,t1,t4,t7]
   rw [show i + (TT.2.2 + 1)=i + 1 + TT.2.2 by omega] at this
   exact this
 have hc:¬ s[i]=34:=fun h => c2 ((zcd (by decide)).2 h)
 refine zf0 (by simp only [SV.ev,t57,Option.getD_some,c2,decide_false]) ?_
 refine zaa fun Y2 hY2 => ?_
 refine zav (fun o t => o=[.box 54 [.i .i64 0,.s [],.i .i64 0]] ∧ t.length=139 ∧ t[0]? = some (.s s) ∧ t[1]? = some (.i .i64 (i:Nat)) ∧ t[4]? = some (.p 0 0) ∧ t[7]? = some (.i .u8 (s[i].toNat:Nat)) ∧ t[75]? = some (.b (decide (s[i]=45 ∨ zal s[i]=true)))) ?_ ?_
 ·by_cases c3:((s[i].toNat:Nat):Int)=45
  ·have hc3:s[i]=45 ∨ zal s[i]=true:=.inl ((zcd (by decide)).1 c3)
   simp only [c3,hc3,zab,sxZ,z6,z7,z8,j4,j5,j6,j7,j8,j9,x4,x5,x6,x7,x8,x9,reduceCtorEq,↓reduceIte,List.getElem?_set,hlen,t0,t1,t4,t7]
  ·have hc3:¬ s[i]=45:=fun h => c3 ((zcd (by decide)).2 h)
   simp only [c3,sxZ,z6,z7,z8,j4,j5,j6,j7,j8,j9,x4,x5,x6,x7,x8,x9,reduceCtorEq,↓reduceIte,List.getElem?_set,hlen,t0,t1,t4,t7]
   refine zak (zeR s[i] ?_)
   have e3:decide (s[i]=45 ∨ zal s[i]=true)=zal s[i]:=by
    cases zal s[i] <;> simp [hc3]
   rw [e3]
   generalize zal s[i]=dg
   simp only [zab,sxZ,z6,z7,z8,j4,j5,j6,j7,j8,j9,x4,x5,x6,x7,x8,x9,reduceCtorEq,↓reduceIte,List.getElem?_set,hlen,t0,t1,t4,t7]
 rintro _ tm ⟨rfl,hlen,t0,t1,t4,t7,t75⟩
 subst hY2
 by_cases c3:s[i]=45 ∨ zal s[i]=true
 ·refine zfZ (by simp only [SV.ev,t75,Option.getD_some,c3,decide_true]) ?_
  have he:zbl (s.drop i)=if zdD (s.drop i)=0 then (130,0,[],0) else (0,4,(s.drop i).take (zdD (s.drop i)),zdD (s.drop i)):=by
   conv => lhs; rw [hdc]
   rw [zbl,if_neg c1,if_neg hc,if_pos c3,← hdc]
  have hnl:=zmG (s.drop i)
  rw [List.length_drop] at hnl
  simp only [sxZ,z6,z7,z8,j4,j5,j6,j7,j8,j9,x4,x5,x6,x7,x8,x9,reduceCtorEq,↓reduceIte,List.getElem?_set,hlen,t0,t1,t4,t7]
  refine ⟨by omega,?_⟩
  refine zak (zfn _ (by rw [List.length_drop]; omega) ?_)
  generalize zdD (s.drop i)=n at *
  by_cases c4:((n:Nat):Int)=0
  ·rw [if_pos (by omega)] at he
   have:=h1 _ _ _ _ he (by decide)
   simp only [c4,sxZ,z6,z7,z8,j4,j5,j6,j7,j8,j9,x4,x5,x6,x7,x8,x9,reduceCtorEq,↓reduceIte,List.getElem?_set,hlen,t0,t1,t4,t7]
   exact this
  ·rw [if_neg (by omega)] at he
   have:=h0 _ _ _ he
   have e2:((i:Int) + (n:Int)).toNat=i + n:=by omega
   simp only [c4,e2,sxZ,z6,z7,z8,j4,j5,j6,j7,j8,j9,x4,x5,x6,x7,x8,x9,reduceCtorEq,↓reduceIte,List.getElem?_set,hlen,t0,t1,t4,t7]
   rw [zeC]
   (and_intros <;> try omega)
   exact this
 refine zf0 (by simp only [SV.ev,t75,Option.getD_some,c3,decide_false]) ?_
 have he:zbl (s.drop i)=if (s.drop i).take (zbL (s.drop i))=[116,114,117,101] ∨ (s.drop i).take (zbL (s.drop i))=[102,97,108,115,101] ∨ (s.drop i).take (zbL (s.drop i))=[110,117,108,108] then (0,5,(s.drop i).take (zbL (s.drop i)),zbL (s.drop i)) else (130,0,[],0):=by
  conv => lhs; rw [hdc]
  rw [zbl,if_neg c1,if_neg hc,if_neg c3,← hdc]
 have hwl2:=zfP (s.drop i)
 rw [List.length_drop] at hwl2
 simp only [sxZ,z6,z7,z8,j4,j5,j6,j7,j8,j9,x4,x5,x6,x7,x8,x9,reduceCtorEq,↓reduceIte]
 subst hY1
 refine zaa fun Y1 hY1 => ?_
 simp only [sxZ,z6,z7,z8,j4,j5,j6,j7,j8,j9,x4,x5,x6,x7,x8,x9,reduceCtorEq,↓reduceIte]
 subst hY1
 refine zaa fun Y1 hY1 => ?_
 refine zav (fun o t => o=[.box 54 [.i .i64 0,.s [],.i .i64 0]] ∧ t.length=139 ∧ t[0]? = some (.s s) ∧ t[1]? = some (.i .i64 (i:Nat)) ∧ t[4]? = some (.p 0 0) ∧ t[12]? = some (.i .i64 (zbL (s.drop i):Nat))) ?_ ?_
 ·simp only [sxZ,z6,z7,z8,j4,j5,j6,j7,j8,j9,x4,x5,x6,x7,x8,x9,reduceCtorEq,↓reduceIte]
  refine zaA (fun n o t => ∃ k:Nat,i + k ≤ s.length ∧ n=s.length - (i + k) ∧ zbL (s.drop i)=k + zbL (s.drop (i + k)) ∧ o=[.box 54 [.i .i64 0,.s [],.i .i64 0]] ∧ t.length=139 ∧ t[0]? = some (.s s) ∧ t[1]? = some (.i .i64 (i:Nat)) ∧ t[4]? = some (.p 0 0) ∧ t[12]? = some (.i .i64 (k:Nat))) (s.length - i) ⟨0,by omega,rfl,by simp,rfl,by simp [hlen],by simp [t0],by simp [t1],by simp [t4],by simp [hlen]⟩ ?_
  rintro n _ tm ⟨k,hk,rfl,hr,rfl,hlen,t0,t1,t4,t12⟩
  have e1:((i:Int) + (k:Int)).toNat=i + k:=by omega
  by_cases hlt2:(i:Int) + (k:Int) < s.length
  ·have hlt':i + k < s.length:=by omega
   have hg2:=zaC hlt'
   have hrn:=word_at s (i + k) hlt'
   simp only [e1,hg2,hlt2,sxZ,z6,z7,z8,j4,j5,j6,j7,j8,j9,x4,x5,x6,x7,x8,x9,reduceCtorEq,↓reduceIte,List.getElem?_set,hlen,t0,t1,t4,t12]
   refine ⟨by omega,by omega,by omega,?_⟩
   refine zak (zmb s[i + k] ?_)
   by_cases hd:zd3 s[i + k]=true
   ·rw [if_pos hd] at hrn
    simp only [hd,sxZ,z6,z7,z8,j4,j5,j6,j7,j8,j9,x4,x5,x6,x7,x8,x9,reduceCtorEq,↓reduceIte,List.getElem?_set,hlen,t0,t1,t4,t12]
    exact ⟨by omega,s.length - (i + (k + 1)),by omega,k + 1,by omega,rfl,by rw [← Nat.add_assoc]; omega,rfl⟩
   ·rw [if_neg hd] at hrn
    simp only [Bool.not_eq_true] at hd
    simp only [hd,zbx,zab,sxZ,z6,z7,z8,j4,j5,j6,j7,j8,j9,x4,x5,x6,x7,x8,x9,reduceCtorEq,↓reduceIte,List.getElem?_set,hlen,t0,t1,t4,t12]
    rw [hr,hrn]; rfl
  ·have hie:i + k=s.length:=by omega
   have hw:zbL (s.drop (i + k))=0:=by rw [hie,List.drop_length]; rfl
   simp only [hlt2,zbx,zab,sxZ,z6,z7,z8,j4,j5,j6,j7,j8,j9,x4,x5,x6,x7,x8,x9,reduceCtorEq,↓reduceIte,List.getElem?_set,hlen,t0,t1,t4,t12]
   refine ⟨by omega,?_⟩
   rw [hr,hw]; rfl
 rintro _ tm ⟨rfl,hlen,t0,t1,t4,t12⟩
 subst hY1
 have hx:=zeC s i (zbL (s.drop i))
 generalize zbL (s.drop i)=n at *
 rw [← hx] at he
 have e2:((i:Int) + (n:Int)).toNat=i + n:=by omega
 have n1:¬ ([102,97,108,115,101]:List UInt8)=[116,114,117,101]:=by decide
 have n2:¬ ([110,117,108,108]:List UInt8)=[116,114,117,101]:=by decide
 have n3:¬ ([110,117,108,108]:List UInt8)=[102,97,108,115,101]:=by decide
 refine zaa fun Y1 hY1 => ?_
 refine zaa fun Y2 hY2 => ?_
 refine zav (fun o t => o=[.box 54 [.i .i64 0,.s [],.i .i64 0]] ∧ t.length=139 ∧ t[1]? = some (.i .i64 (i:Nat)) ∧ t[4]? = some (.p 0 0) ∧ t[12]? = some (.i .i64 (n:Nat)) ∧ t[13]? = some (.s ((s.take (i + n)).drop i))) ?_ ?_
 ·simp only [e2,zab,sxZ,z6,z7,z8,j4,j5,j6,j7,j8,j9,x4,x5,x6,x7,x8,x9,reduceCtorEq,↓reduceIte,List.getElem?_set,hlen,t0,t1,t4,t12]
  and_intros <;> first | omega | exact iv (by omega) | rfl | assumption
 rintro _ tm ⟨rfl,hlen,t1,t4,t12,t13⟩
 subst hY2
 generalize (s.take (i + n)).drop i=x at *
 by_cases hw:x=[116,114,117,101] ∨ x=[102,97,108,115,101] ∨ x=[110,117,108,108]
 ·rw [if_pos hw] at he
  have:=h0 _ _ _ he
  rcases hw with rfl | rfl | rfl
  ·simp only [sxZ,z6,z7,z8,j4,j5,j6,j7,j8,j9,x4,x5,x6,x7,x8,x9,reduceCtorEq,↓reduceIte,List.getElem?_set,hlen,t1,t4,t12,t13]
   (and_intros <;> try omega)
   exact this
  ·simp only [n1,sxZ,z6,z7,z8,j4,j5,j6,j7,j8,j9,x4,x5,x6,x7,x8,x9,reduceCtorEq,↓reduceIte,List.getElem?_set,hlen,t1,t4,t12,t13]
   (and_intros <;> try omega)
   exact this
  ·simp only [n2,n3,sxZ,z6,z7,z8,j4,j5,j6,j7,j8,j9,x4,x5,x6,x7,x8,x9,reduceCtorEq,↓reduceIte,List.getElem?_set,hlen,t1,t4,t12,t13]
   (and_intros <;> try omega)
   exact this
 ·rw [if_neg hw] at he
  have:=h1 _ _ _ _ he (by decide)
  have d1:¬ x=[116,114,117,101]:=fun h => hw (.inl h)
  have d2:¬ x=[102,97,108,115,101]:=fun h => hw (.inr (.inl h))
  have d3:¬ x=[110,117,108,108]:=fun h => hw (.inr (.inr h))
  simp only [d1,d2,d3,sxZ,z6,z7,z8,j4,j5,j6,j7,j8,j9,x4,x5,x6,x7,x8,x9,reduceCtorEq,↓reduceIte,List.getElem?_set,hlen,t1,t4,t12,t13]
  subst hY1
  simp only [sxZ,z6,z7,z8,j4,j5,j6,j7,j8,j9,x4,x5,x6,x7,x8,x9,reduceCtorEq,↓reduceIte,List.getElem?_set,hlen,t1,t4,t12,t13]
  exact this
end
end Go.Proofs.YtadhjoggdbhkgaaGreatDoor
namespace Go.Proofs.YtadhjoggdbhkgaaGreatDoor
open Go.RowKit Sx
section
attribute [local irreducible] run
def intN (l:List UInt8):List UInt8:=if l[zbd l]? = some 48 then [48] else (l.drop (zbd l)).take (zaR (l.drop (zbd l)))
def frN (l:List UInt8) (t:Nat):List UInt8:=if l[t]? = some 46 ∧ 0 < zaR (l.drop (t + 1)) then (l.drop (t + 1)).take (zaR (l.drop (t + 1))) else []
def sgnX (l:List UInt8) (f:Nat):List UInt8:=if l[f + 1]? = some 43 then [43] else if l[f + 1]? = some 45 then [45] else []
def exN (l:List UInt8) (f:Nat):Option (UInt8 × List UInt8 × List UInt8) :=
 if (l[f]? = some 101 ∨ l[f]? = some 69) ∧ 0 < zaR (l.drop (zaZ l f)) then some (if l[f]? = some 101 then 101 else 69,sgnX l f,l.drop (zaZ l f)) else none
def zje (l:List UInt8):NumS:=⟨decide (l[0]? = some 45),intN l,frN l (zaI l),exN l (zbY l (zaI l))⟩
theorem zml {l:List UInt8} (h0:l ≠ []) (h:zdD l=l.length):(zje l).Good ∧ l=(zje l).txt:=by
 have hl:0 < l.length:=List.length_pos_iff.2 h0
 unfold zdD at h
 by_cases hr:zaR (l.drop (zbd l))=0
 ·rw [if_pos hr] at h; omega
 rw [if_neg hr] at h
 have hsg:l=sgT (decide (l[0]? = some 45)) ++ l.drop (zbd l):=by
  unfold zbd sgT
  by_cases hc:l[0]? = some 45
  ·rw [if_pos hc,if_pos (by rw [hc]; rfl)]
   conv => lhs; rw [← List.drop_zero (l:=l),zbj hc]
   rfl
  ·rw [if_neg hc,if_neg (by rw [decide_eq_false hc]; exact Bool.false_ne_true)]; simp
 have hrl:=zaQ l (zbd l) (by omega)
 obtain ⟨I,hIe,hI0,hI1,hI2,hIl,hI⟩:∃ I:List UInt8,I=intN l ∧ I ≠ [] ∧ I.all zal=true ∧ (I[0]? = some 48 → I=[48]) ∧ zaI l ≤ l.length ∧ l.drop (zbd l)=I ++ l.drop (zaI l):=by
  have hd:=zdW (l.drop (zbd l)) 0 (by omega)
  obtain ⟨c,hc1,hc2⟩:=hd
  rw [List.getElem?_drop,Nat.add_zero] at hc1
  have hdc:=zbj hc1
  unfold zaI
  by_cases hz:l[zbd l]? = some 48
  ·rw [if_pos hz]
   refine ⟨[48],by unfold intN; rw [if_pos hz],by simp,rfl,fun _ => rfl,?_,?_⟩
   ·have:=(List.getElem?_eq_some_iff.1 hz).1; omega
   ·exact zbj hz
  ·rw [if_neg hz]
   refine ⟨(l.drop (zbd l)).take (zaR (l.drop (zbd l))),by unfold intN; rw [if_neg hz],zfU (by omega) (zdV _),zbT _,?_,hrl,?_⟩
   ·intro h1
    exfalso
    rw [List.getElem?_take,if_pos (by omega),List.getElem?_drop,Nat.add_zero] at h1
    exact hz h1
   ·have:=zet l (show zbd l ≤ zbd l + zaR (l.drop (zbd l)) by omega)
    rw [show zbd l + zaR (l.drop (zbd l)) - zbd l=zaR (l.drop (zbd l)) by omega] at this
    exact this
 unfold zje
 rw [← hIe]
 clear hIe
 generalize zaI l=t at *
 obtain ⟨F,hFe,hF1,hFl,hF⟩:∃ F:List UInt8,F=frN l t ∧ F.all zal=true ∧ zbY l t ≤ l.length ∧ l.drop t=frT F ++ l.drop (zbY l t):=by
  unfold zbY
  by_cases hc:l[t]? = some 46 ∧ 0 < zaR (l.drop (t + 1))
  ·rw [if_pos hc]
   have hb:=zaQ l (t + 1) hc.2
   refine ⟨(l.drop (t + 1)).take (zaR (l.drop (t + 1))),by unfold frN; rw [if_pos hc],zbT _,hb,?_⟩
   have h1:=zet l (show t + 1 ≤ t + 1 + zaR (l.drop (t + 1)) by omega)
   rw [show t + 1 + zaR (l.drop (t + 1)) - (t + 1)=zaR (l.drop (t + 1)) by omega] at h1
   have hne:=zfU hc.2 (zdV (l.drop (t + 1)))
   rw [zbj hc.1]
   generalize (l.drop (t + 1)).take (zaR (l.drop (t + 1)))=F at *
   cases F with
   | nil => exact absurd rfl hne
   | cons a F =>
    show 46 :: l.drop (t + 1)=46 :: (a :: F ++ _)
    rw [← h1]
  ·rw [if_neg hc]
   exact ⟨[],by unfold frN; rw [if_neg hc],rfl,hIl,rfl⟩
 rw [← hFe]
 clear hFe
 generalize zbY l t=f at *
 obtain ⟨E,hEe,hE1,hE⟩:∃ E:Option (UInt8 × List UInt8 × List UInt8),E=exN l f ∧ (∀ c s d,E=some (c,s,d) → (c=101 ∨ c=69) ∧ (s=[] ∨ s=[43] ∨ s=[45]) ∧ d ≠ [] ∧ d.all zal=true) ∧ l.drop f=exT E:=by
  unfold zk2 at h
  by_cases hc:(l[f]? = some 101 ∨ l[f]? = some 69) ∧ 0 < zaR (l.drop (zaZ l f))
  ·rw [if_pos hc] at h
   have hex:exN l f=some (if l[f]? = some 101 then 101 else 69,sgnX l f,l.drop (zaZ l f)):=by unfold exN; rw [if_pos hc]
   obtain ⟨c,hc1,hc2,hc3⟩:∃ c,l[f]? = some c ∧ (c=101 ∨ c=69) ∧ (if l[f]? = some 101 then 101 else 69)=c:=by
    rcases hc.1 with h1 | h1
    ·exact ⟨_,h1,.inl rfl,by rw [if_pos h1]⟩
    ·exact ⟨_,h1,.inr rfl,by rw [h1]; rfl⟩
   rw [hc3] at hex
   have hdig:l.drop (zaZ l f) ≠ [] ∧ (l.drop (zaZ l f)).all zal=true:=by
    have h1:=zbT (l.drop (zaZ l f))
    have h2:zaR (l.drop (zaZ l f))=(l.drop (zaZ l f)).length:=by rw [List.length_drop]; omega
    rw [h2,List.take_length] at h1
    refine ⟨fun e => ?_,h1⟩
    rw [e] at hc
    exact absurd hc.2 (by simp [zaR])
   rw [zbj hc1]
   unfold zaZ at hdig hc hex
   by_cases hs:l[f + 1]? = some 43 ∨ l[f + 1]? = some 45
   ·rw [if_pos hs] at hdig hex
    obtain ⟨s,hs1,hs2,hs3⟩:∃ s,l[f + 1]? = some s ∧ (s=43 ∨ s=45) ∧ sgnX l f=[s]:=by
     unfold sgnX
     rcases hs with h1 | h1
     ·exact ⟨_,h1,.inl rfl,by rw [if_pos h1]⟩
     ·exact ⟨_,h1,.inr rfl,by rw [h1]; rfl⟩
    refine ⟨some (c,[s],l.drop (f + 2)),by rw [hex,hs3],?_,?_⟩
    ·intro c' s' d' e
     injection e with e; injection e with e1 e2; injection e2 with e2 e3
     subst e1 e2 e3
     exact ⟨hc2,by rcases hs2 with rfl | rfl <;> simp,hdig.1,hdig.2⟩
    ·rw [zbj hs1]; rfl
   ·rw [if_neg hs] at hdig hex
    have hs3:sgnX l f=[]:=by
     unfold sgnX
     rw [if_neg (fun h => hs (.inl h)),if_neg (fun h => hs (.inr h))]
    refine ⟨some (c,[],l.drop (f + 1)),by rw [hex,hs3],?_,rfl⟩
    intro c' s' d' e
    injection e with e; injection e with e1 e2; injection e2 with e2 e3
    subst e1 e2 e3
    exact ⟨hc2,.inl rfl,hdig.1,hdig.2⟩
  ·rw [if_neg hc] at h
   subst h
   exact ⟨none,by unfold exN; rw [if_neg hc],fun _ _ _ e => (by cases e),by simp [exT]⟩
 rw [← hEe]
 refine ⟨⟨hI0,hI1,hI2,hF1,hE1⟩,?_⟩
 show l=sgT _ ++ (I ++ (frT F ++ exT E))
 rw [← hE,← hF,← hI,← hsg]
def zbv (l:List UInt8):Int × List UInt8:=if l=[] ∨ ¬ zdD l=l.length then (130,[]) else zn8 1099511627776 (zje l)
theorem zmH {p:NumS} (hp:p.Good):zbv p.txt=zn8 1099511627776 p:=by
 obtain ⟨h1,h2⟩:=num_txt hp
 unfold zbv
 rw [if_neg (fun h => h.elim h2 (fun h => h h1))]
 obtain ⟨q1,q2⟩:=zml h2 h1
 exact congrArg _ (num_uniq hp q1 q2).symm
theorem can_cut2 (p:NumS) (h:p.txt.length ≤ 1048576):zn8 1099511627776 p=zn8 1073741824 p:=by
 have h1:=zhU p
 have h2:=zf8 p
 have h3:=zk3 (zcf p)
 unfold zn8
 by_cases hm:zcf p=[]
 ·rw [if_pos hm,if_pos hm]
 rw [if_neg hm,if_neg hm]
 by_cases he:zef 1099511627776 p.ex=zef 1073741824 p.ex
 ·have:expX 1099511627776 p=expX 1073741824 p:=by unfold expX; rw [he]
  rw [this]
 ·have key:(zef 1099511627776 p.ex < -100000000 ∧ zef 1073741824 p.ex < -100000000) ∨ (100000000 < zef 1099511627776 p.ex ∧ 100000000 < zef 1073741824 p.ex):=by
   cases hx:p.ex with
   | none => rw [hx] at he; exact absurd rfl he
   | some e =>
    obtain ⟨c,s,d⟩:=e
    rw [hx] at he
    simp only [zef] at he ⊢
    by_cases hs:s=[45]
    ·rw [if_pos hs,if_pos hs] at he ⊢; left; omega
    ·rw [if_neg hs,if_neg hs] at he ⊢; right; omega
  rw [if_pos,if_pos]
  ·unfold expX; omega
  ·unfold expX; omega
theorem zfT:∀ (n:Nat) (l out x:List UInt8) (k m:Nat),zeB n l out k=(0,x,m) → k < m ∧ m ≤ k + l.length ∧ x.length ≤ out.length + (m - k)
 | 0,l,out,x,k,m,h => by rw [zeB] at h; cases h
 | n + 1,[],out,x,k,m,h => by rw [zeB] at h; cases h
 | n + 1,c :: t,out,x,k,m,h => by
  rw [zeB] at h
  have hl:(c :: t).length=t.length + 1:=rfl
  split at h
  ·cases h; exact ⟨by omega,by omega,by omega⟩
  ·split at h
   ·split at h
    ·rename_i g; injection h with h _; exact absurd h g
    ·rename_i g
     have g:(zeh (c :: t)).1=0:=by simpa using g
     obtain ⟨⟨e,y,j⟩,hE⟩:∃ r,zeh (c :: t)=r:=⟨_,rfl⟩
     rw [hE] at h g
     simp only at g h
     subst g
     have hl2:=zjO hE
     have:=zfT n _ _ _ _ _ h
     rw [List.length_drop,List.length_append] at this
     omega
   ·split at h
    ·cases h
    ·split at h
     ·cases h
     ·rename_i r j hd
      have hd':=zbE hd
      have:=zfT n _ _ _ _ _ h
      rw [List.length_drop,List.length_append,List.length_take] at this
      omega
theorem zl6 {l:List UInt8} (h:(zbl l).1=0):(zbl l).2.2.2 ≤ l.length ∧ (¬ (zbl l).2.1=1 → 1 ≤ (zbl l).2.2.2) ∧ ((zbl l).2.1=1 → l=[]) ∧ (zbl l).2.2.1.length ≤ l.length ∧ 1 ≤ (zbl l).2.1 ∧ (zbl l).2.1 ≤ 5:=by
 cases l with
 | nil => exact ⟨by simp [zbl],fun h => absurd rfl h,fun _ => rfl,by simp [zbl],by decide,by decide⟩
 | cons c t =>
  have hl:(c :: t).length=t.length + 1:=rfl
  rw [zbl] at h ⊢
  by_cases c1:zcC c [123,125,91,93,58,44]=true
  ·simp only [if_pos c1]
   exact ⟨by simp,fun _ => by simp,fun h => by simp at h,by simp,by decide,by decide⟩
  simp only [if_neg c1] at h ⊢
  by_cases c2:c=34
  ·simp only [if_pos c2] at h ⊢
   by_cases c3:(zeB (t.length + 1) t [] 0).1 ≠ 0
   ·simp only [if_pos c3] at h; exact absurd h c3
   ·simp only [if_neg c3] at h ⊢
    obtain ⟨⟨e,x,m⟩,hE⟩:∃ r,zeB (t.length + 1) t [] 0=r:=⟨_,rfl⟩
    have c3:e=0:=by rw [hE] at c3; simpa using c3
    subst c3
    have:=zfT _ _ _ _ _ _ hE
    rw [List.length_nil] at this
    rw [hE]
    exact ⟨by show m + 1 ≤ _; omega,fun _ => by show 1 ≤ m + 1; omega,fun h => by simp at h,by show x.length ≤ _; omega,by decide,by decide⟩
  simp only [if_neg c2] at h ⊢
  by_cases c3:c=45 ∨ zal c=true
  ·simp only [if_pos c3] at h ⊢
   by_cases c4:zdD (c :: t)=0
   ·simp only [if_pos c4] at h; cases h
   ·simp only [if_neg c4] at h ⊢
    have:=zmG (c :: t)
    exact ⟨by show zdD (c :: t) ≤ _; omega,fun _ => by show 1 ≤ zdD (c :: t); omega,fun h => by simp at h,by show (List.take _ _).length ≤ _; rw [List.length_take]; omega,by decide,by decide⟩
  simp only [if_neg c3] at h ⊢
  split at h
  ·rename_i c4
   rw [if_pos c4]
   have hw:=zfP (c :: t)
   refine ⟨hw,fun _ => ?_,fun h => by simp at h,by show (List.take _ _).length ≤ _; rw [List.length_take]; omega,by show (1:Int) ≤ 5; decide,by show (5:Int) ≤ 5; decide⟩
   show 1 ≤ zbL (c :: t)
   rcases Nat.eq_zero_or_pos (zbL (c :: t)) with h0 | h0
   ·rw [h0] at c4; simp at c4
   ·exact h0
  ·cases h
theorem zjl {s:List UInt8} {a:Int} (h0:0 ≤ a) (h:(zbf s a).2.2=0) :
  (a ≤ (zbf s a).2.1 ∧ (zbf s a).2.1 ≤ s.length ∧ ((zbf s a).1.1 ≠ 1 → a < (zbf s a).2.1) ∧ ((zbf s a).1.1=1 → (zbf s a).2.1=s.length)) ∧ (zbf s a).1.2.1.length ≤ s.length ∧ 1 ≤ (zbf s a).1.1 ∧ (zbf s a).1.1 ≤ 5 ∧ 0 ≤ (zbf s a).1.2.2 ∧ (zbf s a).1.2.2 ≤ s.length:=by
 unfold zbf at h ⊢
 by_cases c1:a < 0 ∨ (s.length:Int) < a
 ·simp only [if_pos c1] at h; cases h
 simp only [if_neg c1] at h ⊢
 obtain ⟨x,hx⟩:=Int.eq_ofNat_of_zero_le h0
 subst hx
 simp only [Int.toNat_natCast] at h ⊢
 have hw:=zey (s.drop x)
 rw [List.length_drop] at hw
 generalize hA:x + zbn (s.drop x)=A at *
 by_cases c2:(zbl (s.drop A)).1 ≠ 0
 ·simp only [if_pos c2] at h; exact absurd h c2
 simp only [if_neg c2]
 have c2:(zbl (s.drop A)).1=0:=by simpa using c2
 obtain ⟨r1,r2,r3,r4,r5,r6⟩:=zl6 c2
 rw [List.length_drop] at r1 r4
 refine ⟨⟨?_,?_,?_,?_⟩,?_,r5,r6,?_,?_⟩
 ·show (x:Int) ≤ ((A + _:Nat):Int); omega
 ·show ((A + _:Nat):Int) ≤ _; omega
 ·intro h; have:=r2 h; show (x:Int) < ((A + _:Nat):Int); omega
 ·intro h
  have h1:=r3 h
  have h2:=congrArg List.length h1
  rw [List.length_drop,List.length_nil] at h2
  show ((A + _:Nat):Int)=_; omega
 ·show (zbl (s.drop A)).2.2.1.length ≤ _; omega
 ·show (0:Int) ≤ ((A:Nat):Int); omega
 ·show ((A:Nat):Int) ≤ _; omega
theorem next_lt {s:List UInt8} {a:Int} (h0:0 ≤ a) (h:(zbf s a).2.2=0):a ≤ (zbf s a).2.1 ∧ (zbf s a).2.1 ≤ s.length ∧ ((zbf s a).1.1 ≠ 1 → a < (zbf s a).2.1) ∧ ((zbf s a).1.1=1 → (zbf s a).2.1=s.length):=(zjl h0 h).1
section
variable [Tabs Tryz.prog] [Pow Tryz.prog] {objs:List OB} {K:List OB → AV → Prop}
theorem number_e (s:List UInt8) (hs:s.length ≤ 140737488351232) (hk:K objs (.tup [.s (zbv s).2,.i .i64 (zbv s).1])):zae Tryz.prog 41 [.s s] objs K :=
 number_k s hs (fun h => by unfold zbv at hk; rw [if_pos (by simpa using h)] at hk; exact hk) (fun p hp e => by subst e; rw [zmH hp] at hk; exact hk)
omit [Pow Tryz.prog] in
theorem zgV (s:List UInt8) (hs:s.length ≤ 1048576) (hk:K objs (.tup [.s (zbv s).2,.i .i64 (zbv s).1])):zae Tryz.prog 45 [.s s] objs K :=
 zlI s (by omega) (fun h => by unfold zbv at hk; rw [if_pos (by simpa using h)] at hk; exact hk) (fun p hp e => by subst e; rw [zmH hp,can_cut2 p hs] at hk; exact hk)
end
end
end Go.Proofs.YtadhjoggdbhkgaaGreatDoor
namespace Go.Proofs.YtadhjoggdbhkgaaGreatDoor
open Go.RowKit Sx
section
attribute [local irreducible] run
inductive JV where
 | mk (k:Int) (t:List UInt8) (ks:List (List UInt8)) (its:List JV)
def jvZ:JV:=.mk 0 [] [] []
abbrev Tk:=Int × List UInt8 × Int
def tkZ:Tk:=(0,[],0)
def isP (t:Tk) (c:UInt8):Bool:=decide (t.1=2) && decide (t.2.1=[c])
def zhV:List UInt8:=[116,114,117,101]
def ze0:List UInt8:=[102,97,108,115,101]
def zfb (l:List UInt8):Int:=if l=zhV then 3 else if l=ze0 then 2 else 1
def vkE (t:Tk):Int :=
 if t.1=3 then 5 else if t.1=4 then 4 else if isP t 91=true then 6 else if isP t 123=true then 7 else if ¬ t.1=5 then 0 else zfb t.2.1
structure Fr where
 obj:Bool
 ks:List (List UInt8)
 its:List JV
structure Ms where
 st:Int
 stk:List Fr
 nodes:Nat
 root:JV
def Fr.val (f:Fr):JV:=.mk (if f.obj=true then 7 else 6) [] f.ks f.its
structure Rs where
 pos:Int
 nodes:Nat
 fail:Int
 wh:Int
def zaO (ρ:Rs) (a e:Int):Rs:=if ρ.fail=0 then ⟨ρ.pos,ρ.nodes,e,a⟩ else ρ
def zan (s:List UInt8) (ρ:Rs):Tk × Rs :=
 if ¬ ρ.fail=0 then (tkZ,ρ)
 else if ¬ (zbf s ρ.pos).2.2=0 then (tkZ,zaO ρ ρ.pos (zbf s ρ.pos).2.2)
 else ((zbf s ρ.pos).1,⟨(zbf s ρ.pos).2.1,ρ.nodes,ρ.fail,ρ.wh⟩)
def zaU (ρ:Rs) (t:Tk) (c:UInt8):Rs:=if ρ.fail=0 ∧ isP t c=false then zaO ρ t.2.2 140 else ρ
def zdn (s:List UInt8) (val:Rs → Tk → JV × Rs):Nat → Rs → Tk → List JV → List JV × Rs
 | 0,ρ,_,acc => (acc,ρ)
 | n + 1,ρ,t,acc =>
  if ¬ ρ.fail=0 then (acc,ρ) else
  let a:=val ρ t
  let b:=zan s a.2
  if isP b.1 93=true then (acc ++ [a.1],b.2) else
  let c:=zan s (zaU b.2 b.1 44)
  zdn s val n c.2 c.1 (acc ++ [a.1])
def zl1 (ρ:Rs) (t:Tk) (ks:List (List UInt8)):Rs :=
 let ρ:=if ¬ t.1=3 then zaO ρ t.2.2 140 else ρ
 if t.2.1 ∈ ks then zaO ρ t.2.2 143 else ρ
def zcM (s:List UInt8) (val:Rs → Tk → JV × Rs):Nat → Rs → Tk → List (List UInt8) → List JV → (List (List UInt8) × List JV) × Rs
 | 0,ρ,_,ks,its => ((ks,its),ρ)
 | n + 1,ρ,t,ks,its =>
  if ¬ ρ.fail=0 then ((ks,its),ρ) else
  let a:=zan s (zl1 ρ t ks)
  let b:=zan s (zaU a.2 a.1 58)
  let v:=val b.2 b.1
  let c:=zan s v.2
  if isP c.1 125=true then ((ks ++ [t.2.1],its ++ [v.1]),c.2) else
  let d:=zan s (zaU c.2 c.1 44)
  zcM s val n d.2 d.1 (ks ++ [t.2.1]) (its ++ [v.1])
def zf2 (s:List UInt8) (val:Rs → Tk → JV × Rs) (ρ:Rs):JV × Rs :=
 let a:=zan s ρ
 if isP a.1 93=true then (.mk 6 [] [] [],a.2) else
 let b:=zdn s val (s.length + 2) a.2 a.1 []
 (.mk 6 [] [] b.1,b.2)
def zgx (s:List UInt8) (val:Rs → Tk → JV × Rs) (ρ:Rs):JV × Rs :=
 let a:=zan s ρ
 if isP a.1 125=true then (.mk 7 [] [] [],a.2) else
 let b:=zcM s val (s.length + 2) a.2 a.1 [] []
 (.mk 7 [] b.1.1 b.1.2,b.2)
def zbu (ρ:Rs) (t:Tk):Rs :=
 let ρ:=if t.1=4 ∧ ¬ (zbv t.2.1).1=0 then zaO ρ t.2.2 (zbv t.2.1).1 else ρ
 if 20000 < ρ.nodes + 1 then zaO ⟨ρ.pos,ρ.nodes + 1,ρ.fail,ρ.wh⟩ t.2.2 142 else ⟨ρ.pos,ρ.nodes + 1,ρ.fail,ρ.wh⟩
def zaz (s:List UInt8):Nat → Rs → Tk → Nat → JV × Rs
 | 0,ρ,_,_ => (jvZ,ρ)
 | f + 1,ρ,t,d =>
  if ¬ ρ.fail=0 then (jvZ,ρ)
  else if vkE t=0 then (jvZ,zaO ρ t.2.2 140)
  else if t.1=2 ∧ d=64 then (jvZ,zaO ρ t.2.2 141)
  else if t.1=5 then (.mk (zfb t.2.1) [] [] [],zbu ρ t)
  else if isP t 91=true then zf2 s (fun ρ t => zaz s f ρ t (d + 1)) (zbu ρ t)
  else if isP t 123=true then zgx s (fun ρ t => zaz s f ρ t (d + 1)) (zbu ρ t)
  else if t.1=4 then (.mk 4 (zbv t.2.1).2 [] [],zbu ρ t)
  else (.mk 5 t.2.1 [] [],zbu ρ t)
def rs0:Rs:=⟨0,0,0,0⟩
def zeK (s:List UInt8):JV × Int × Int :=
 if 1048576 < s.length then (jvZ,0,142) else
 let a:=zan s rs0
 let v:=zaz s 65 a.2 a.1 0
 let b:=zan s v.2
 let ρ:=if b.2.fail=0 ∧ ¬ b.1.1=1 then zaO b.2 b.1.2.2 140 else b.2
 if ¬ ρ.fail=0 then (jvZ,ρ.wh,ρ.fail) else (v.1,s.length,0)
def zkY (ρ ρ':Rs):Prop:=¬ ρ.fail=0 → ρ'.fail=ρ.fail ∧ ρ'.wh=ρ.wh
theorem zkY.refl (ρ:Rs):zkY ρ ρ:=fun _ => ⟨rfl,rfl⟩
theorem zkY.trans {a b c:Rs} (h:zkY a b) (k:zkY b c):zkY a c:=fun ha => by
 obtain ⟨h1,h2⟩:=h ha
 obtain ⟨k1,k2⟩:=k (by rw [h1]; exact ha)
 exact ⟨k1.trans h1,k2.trans h2⟩
theorem zku (ρ:Rs) (a e:Int):zkY ρ (zaO ρ a e):=fun h => by unfold zaO; rw [if_neg h]; exact ⟨rfl,rfl⟩
theorem zbO (s:List UInt8) (ρ:Rs):zkY ρ (zan s ρ).2:=fun h => by unfold zan; rw [if_pos h]; exact ⟨rfl,rfl⟩
theorem zdT (ρ:Rs) (t:Tk) (c:UInt8):zkY ρ (zaU ρ t c):=by
 unfold zaU; split
 ·exact zku _ _ _
 ·exact zkY.refl _
theorem zh2 (s:List UInt8) (f:Nat) (ρ:Rs) (t:Tk) (d:Nat):zkY ρ (zaz s f ρ t d).2:=fun h => by
 cases f with
 | zero => exact ⟨rfl,rfl⟩
 | succ f => rw [zaz,if_pos h]; exact ⟨rfl,rfl⟩
theorem vk_val (t:Tk):vkE t=0 ∨ vkE t=1 ∨ vkE t=2 ∨ vkE t=3 ∨ vkE t=4 ∨ vkE t=5 ∨ vkE t=6 ∨ vkE t=7:=by
 unfold vkE zfb
 repeat' split
 all_goals simp
theorem vk_kind {t:Tk}:(vkE t=5 ↔ t.1=3) ∧ (vkE t=4 ↔ t.1=4) ∧ ((vkE t=1 ∨ vkE t=2 ∨ vkE t=3) ↔ t.1=5) ∧ (vkE t=6 ↔ isP t 91=true) ∧ (vkE t=7 ↔ isP t 123=true) ∧ (t.1=5 → vkE t=zfb t.2.1):=by
 have e1:∀ c,isP t c=true ↔ t.1=2 ∧ t.2.1=[c]:=fun c => by simp [isP]
 have hw:zfb t.2.1=1 ∨ zfb t.2.1=2 ∨ zfb t.2.1=3:=by
  unfold zfb
  by_cases a1:t.2.1=zhV
  ·rw [if_pos a1]; exact .inr (.inr rfl)
  ·rw [if_neg a1]
   by_cases a2:t.2.1=ze0
   ·rw [if_pos a2]; exact .inr (.inl rfl)
   ·rw [if_neg a2]; exact .inl rfl
 unfold vkE
 simp only [e1]
 by_cases h3:t.1=3
 ·simp [h3]
 by_cases h4:t.1=4
 ·simp [h4]
 by_cases h6:t.1=2 ∧ t.2.1=[91]
 ·simp [h6]
 by_cases h7:t.1=2 ∧ t.2.1=[123]
 ·simp [h7]
 by_cases h5:t.1=5
 ·simp only [h5]
  rcases hw with h | h | h <;> simp [h]
 ·simp only [h3,h4,h6,h7,h5]
  simp
def ValFroz (val:Rs → Tk → JV × Rs):Prop:=∀ ρ t,zkY ρ (val ρ t).2
theorem zjI {t:Tk} {c:UInt8} (h:isP t c=true):t.1=2 ∧ t.2.1=[c]:=by
 simpa [isP] using h
end
end Go.Proofs.YtadhjoggdbhkgaaGreatDoor
namespace Go.Proofs.YtadhjoggdbhkgaaGreatDoor.Sx
open Go.RowKit
def zcy (b gen n:Nat) (xs:List AV):AV → AV
 | .orow b' g' => if b'=b ∧ g'=gen then .row n xs else .orow b' g'
 | x => x
def zlr (b gen n:Nat) (xs:List AV):OB → OB
 | .box T cs => .box T (cs.map (zcy b gen n xs))
 | x => x
def pubO (objs:List OB) (b gen n:Nat) (xs:List AV):List OB:=(objs.map (zlr b gen n xs)).set b .dead
def zhP (G:Gh) (b gen:Nat):Gh:=⟨G.blk,fun x => if x=b then some (gen + 1,.slice none 0 0) else G.cur x⟩
theorem zia {G:Gh} {b gen:Nat} {v:Value} (h:G.cur b=some (gen,v)):G.le (zhP G b gen) where
 blk:=fun _ _ h => h
 cur:=fun x n w hx => by
  by_cases hb:x=b
  ·subst hb
   rw [h] at hx; injection hx with hx; injection hx with h1 h2
   exact ⟨gen + 1,.slice none 0 0,by simp [zhP],.inr (by omega)⟩
  ·exact ⟨n,w,by simp [zhP,hb,hx],.inl ⟨rfl,rfl⟩⟩
theorem zdA {G:Gh} {b gen:Nat} (hb:G.blk b=none) {x g:Nat} (h:(zhP G b gen).own x=some g):x ≠ b ∧ G.own x=some g:=by
 by_cases hx:x=b
 ·subst hx
  exfalso
  unfold Gh.own zhP at h
  simp only [hb] at h
  simp [Value.ownBlock] at h
 ·refine ⟨hx,?_⟩
  unfold Gh.own zhP at h
  simp only [if_neg hx] at h
  exact h
def pubI (I:Imm) (G:Gh) (b:Nat) (w:World):Imm:=fun g o v => I g o v ∨ (w.cell? ⟨g,o,none⟩=some v ∧ G.own b=some g)
theorem zn0 {G:Gh} {I:Imm} {objs:List OB} {w:World} (hm:MemOk G I objs w) {b E sz gen n:Nat} {xs:List AV} (hb:objs[b]? = some (.orow E sz gen n xs)) (x:AV) (y:Value) (h:Den G I x y):Den (zhP G b gen) (pubI I G b w) (zcy b gen n xs x) y:=by
 obtain ⟨v',vs,m1,m2,m3,m4,m5⟩:=hm.row b E sz gen n xs hb
 have hG:=zia m1
 have hI:Imm.le I (pubI I G b w):=fun _ _ _ h => .inl h
 have other:zcy b gen n xs x=x → Den (zhP G b gen) (pubI I G b w) (zcy b gen n xs x) y:=fun e => by rw [e]; exact Den.mono hG hI x y h
 cases x with
 | orow b' g' =>
  by_cases hh:b'=b ∧ g'=gen
  ·obtain ⟨rfl,rfl⟩:=hh
   have e:zcy b' g' n xs (.orow b' g')=.row n xs:=by simp [zcy]
   rw [e]
   simp only [Den] at h ⊢
   obtain ⟨g0,v,k1,k2,k3,_⟩:=h
   rw [k1] at m1; injection m1 with m1; injection m1 with m1 m6
   have hv:=k3 m1.symm
   subst m1 m6 hv
   have hown:=zbb m5 k1
   have q1:=zah.mono hG hI xs vs m3
   rcases m2.2 with ⟨rfl,rfl⟩ | ⟨g,cap,cur,rfl,hx1,hx2,hx3,hx4⟩
   ·have hvs:vs=[]:=List.eq_nil_of_length_eq_zero (by simpa using m2.1)
    subst hvs
    exact ⟨none,0,[],rfl,⟨Nat.le_refl _,by intro _ e; cases e⟩,q1,by simp,by simp⟩
   ·refine ⟨some ⟨g,0,none⟩,cap,vs,rfl,⟨hx3,by rintro _ ⟨⟩ _; rfl⟩,q1,m4,fun j u hj => ⟨g,0,rfl,.inr ⟨?_,hown⟩⟩⟩
    have:=m2.cells (g:=g) rfl j u hj
    rwa [zay] at this
  ·exact other (by simp only [zcy,if_neg hh])
 | _ => exact other rfl
theorem zgl {G:Gh} {I:Imm} {objs:List OB} {w:World} (hm:MemOk G I objs w) {b E sz gen n:Nat} {xs:List AV} (hb:objs[b]? = some (.orow E sz gen n xs)):∀ (l:List AV) (ys:List Value),zah G I l ys → zah (zhP G b gen) (pubI I G b w) (l.map (zcy b gen n xs)) ys
 | [],ys,h => by simpa [zah] using h
 | x :: l,ys,h => by
  simp only [zah] at h
  obtain ⟨y,ys',rfl,h1,h2⟩:=h
  exact zah.cons (zn0 hm hb x y h1) (zgl hm hb l ys' h2)
theorem mem_pub {P:Program} [Tabs P] {C:Cx} {G:Gh} {I:Imm} {w:World} {objs:List OB} {b E sz gen n:Nat} {xs:List AV} (hb:objs[b]? = some (.orow E sz gen n xs)) (hin:In C G I w) (hm:MemOk G I objs w) :
  In C (zhP G b gen) (pubI I G b w) w ∧ MemOk (zhP G b gen) (pubI I G b w) (pubO objs b gen n xs) w:=by
 obtain ⟨v',vs,m1,m2,m3,m4,m5⟩:=hm.row b E sz gen n xs hb
 have hlt:b < objs.length:=by
  by_cases h:b < objs.length
  ·exact h
  ·rw [List.getElem?_eq_none (by omega)] at hb; cases hb
 have hG:=zia m1
 have hI:Imm.le I (pubI I G b w):=fun _ _ _ h => .inl h
 have hin':In C (zhP G b gen) (pubI I G b w) w:={
  os:=hin.os,tape:=hin.tape,output:=hin.output,size:=hin.size,block:=hin.block
  imm:=fun g o v h => .inl (hin.imm g o v h)
  news:=fun g o v h => by
   rcases h with h | ⟨_,h⟩
   ·exact hin.news g o v h
   ·exact .inr (hin.blk b g h)
  blk:=fun x g h => hin.blk x g (zdA m5 h).2
  gh:=hin.gh.trans hG }
 have hat:∀ x o,(pubO objs b gen n xs)[x]? = some o → o=.dead ∨ (x ≠ b ∧ ∃ o',objs[x]? = some o' ∧ zlr b gen n xs o'=o):=by
  intro x o h
  unfold pubO at h
  by_cases hx:x=b
  ·subst hx
   rw [List.getElem?_set_self (by simpa using hlt)] at h
   injection h with h; exact .inl h.symm
  ·rw [List.getElem?_set_ne (Ne.symm hx),List.getElem?_map] at h
   obtain ⟨o',h1,h2⟩:=Option.map_eq_some_iff.1 h
   exact .inr ⟨hx,o',h1,h2⟩
 have hm':MemOk (zhP G b gen) (pubI I G b w) (pubO objs b gen n xs) w:={
  imm:=fun g o v h => by
   rcases h with h | ⟨h,_⟩
   ·exact hm.imm g o v h
   ·exact h
  box:=fun x T cs h => by
   rcases hat x _ h with h | ⟨hx,o',h1,h2⟩
   ·cases h
   ·cases o' with
    | box T' cs' =>
     injection h2 with e1 e2
     subst e1 e2
     obtain ⟨g,ys,k1,k2,k3,k4⟩:=hm.box x _ _ h1
     exact ⟨g,ys,k1,k2,zgl hm hb _ _ k3,k4⟩
    | orow => cases h2
    | mp => cases h2
    | dead => cases h2
  row:=fun x E' sz' gen' n' xs' h => by
   rcases hat x _ h with h | ⟨hx,o',h1,h2⟩
   ·cases h
   ·cases o' with
    | box T' cs' => cases h2
    | orow =>
     injection h2 with e1 e2 e3 e4 e5
     subst e1 e2 e3 e4 e5
     obtain ⟨v,ys,k1,k2,k3,k4,k5⟩:=hm.row x _ _ _ _ _ h1
     exact ⟨v,ys,by simp [zhP,hx,k1],k2,zah.mono hG hI _ _ k3,k4,k5⟩
    | mp => cases h2
    | dead => cases h2
  map:=fun x es h => by
   rcases hat x _ h with h | ⟨hx,o',h1,h2⟩
   ·cases h
   ·cases o' with
    | box T' cs' => cases h2
    | orow => cases h2
    | mp =>
     injection h2 with e1
     subst e1
     obtain ⟨g,en,ck,k1,k2,k3⟩:=hm.map x _ h1
     exact ⟨g,en,ck,k1,k2,k3.mono hG hI⟩
    | dead => cases h2
  inj:=fun x x' g h h' => hm.inj x x' g (zdA m5 h).2 (zdA m5 h').2
  lt:=fun x g h => hm.lt x g (zdA m5 h).2
  apart:=fun x g o v h h' => by
   obtain ⟨hx,h1⟩:=zdA m5 h
   rcases h' with h' | ⟨_,h'⟩
   ·exact hm.apart x g o v h1 h'
   ·exact hx (hm.inj x b g h1 h')
  fresh:=fun x hx => by
   have hx':objs.length ≤ x:=by simpa [pubO] using hx
   obtain ⟨k1,k2⟩:=hm.fresh x hx'
   exact ⟨k1,by simp [zhP,k2]; omega⟩ }
 exact ⟨hin',hm'⟩
end Go.Proofs.YtadhjoggdbhkgaaGreatDoor.Sx
namespace Go.Proofs.YtadhjoggdbhkgaaGreatDoor.Sx
open Go.RowKit
section
variable {P:Program} [Tabs P] {C:Cx} [On P C] {F:zaH} {objs:List OB} {tm:List AV}
end
section
variable {P:Program} [Tabs P]
end
end Go.Proofs.YtadhjoggdbhkgaaGreatDoor.Sx
namespace Go.Proofs.YtadhjoggdbhkgaaGreatDoor
open Go.RowKit Sx
section
variable [Tabs Tryz.prog] {objs:List OB} {K:List OB → AV → Prop}
end
end Go.Proofs.YtadhjoggdbhkgaaGreatDoor
namespace Go.Proofs.YtadhjoggdbhkgaaGreatDoor
open Go.RowKit Sx
section
attribute [local irreducible] run
mutual
/-- a JSON value, cell for cell -/
def zaj:JV → List AV
 | .mk k t ks its => [.i .i64 k,.s t,.row ks.length (ks.map .s),.row its.length (zac its)]
def zac:List JV → List AV
 | [] => []
 | v :: l => zaj v ++ zac l
end
def JV.kind:JV → Int | .mk k _ _ _ => k
def JV.text:JV → List UInt8 | .mk _ t _ _ => t
def JV.keys:JV → List (List UInt8) | .mk _ _ ks _ => ks
def JV.items:JV → List JV | .mk _ _ _ its => its
theorem zaf (v:JV):zaj v=[.i .i64 v.kind,.s v.text,.row v.keys.length (v.keys.map .s),.row v.items.length (zac v.items)]:=by cases v; rw [zaj]; rfl
theorem zas:zac []=[]:=by rw [zac]
theorem zaw (v:JV) (l:List JV):zac (v :: l)=zaj v ++ zac l:=by rw [zac]
theorem zd2 (v:JV):(zaj v).length=4:=by rw [zaf]; rfl
theorem zax (l:List JV):(zac l).length=l.length * 4:=by
 induction l with
 | nil => rw [zas]; rfl
 | cons v l ih => rw [zaw,List.length_append,zd2,ih,List.length_cons]; omega
theorem zbW (a b:List JV):zac (a ++ b)=zac a ++ zac b:=by
 induction a with
 | nil => rw [zas]; rfl
 | cons v l ih => rw [List.cons_append,zaw,zaw,ih,List.append_assoc]
theorem zdF:∀ {l:List JV} {i:Nat} (hi:i < l.length),((zac l).drop (i * 4)).take 4=zaj l[i]
 | a :: l,0,hi => by
  rw [zaw,Nat.zero_mul,List.drop_zero]
  exact List.take_left' (zd2 a)
 | a :: l,i + 1,hi => by
  rw [zaw,show (i + 1) * 4=4 + i * 4 by omega,← List.drop_drop,List.drop_left' (zd2 a)]
  simpa using zdF (l:=l) (i:=i) (by simpa using hi)
theorem zaP (l:List (List UInt8)):zaq (l.map AV.s)=true:=by
 induction l with
 | nil => rfl
 | cons a l ih => simp [zaq,AV.plain,ih]
theorem zio (a b:List AV):zaq (a ++ b)=(zaq a && zaq b):=by
 induction a with
 | nil => simp [zaq]
 | cons x a ih => simp [zaq,ih,Bool.and_assoc]
mutual
theorem zaJ:∀ v:JV,zaq (zaj v)=true
 | .mk k t ks its => by
  rw [zaj]
  simp only [zaq,AV.plain,zaP,zbX its,Bool.and_self]
theorem zbX:∀ l:List JV,zaq (zac l)=true
 | [] => by rw [zac]; rfl
 | v :: l => by rw [zac,zio,zaJ v,zbX l]; rfl
end
mutual
/-- equal field by field -/
def zdk:JV → JV → Bool
 | .mk k t ks its,.mk k' t' ks' its' => decide (k=k') && (decide (t=t') && (decide (ks=ks') && zbF its its'))
def zbF:List JV → List JV → Bool
 | [],[] => true
 | v :: l,w :: m => zdk v w && zbF l m
 | _,_ => false
end
mutual
theorem zfm:∀ v,zdk v v=true
 | .mk k t ks its => by rw [zdk,zeJ its]; simp
theorem zeJ:∀ l,zbF l l=true
 | [] => by rw [zbF]
 | v :: l => by rw [zbF,zfm v,zeJ l]; rfl
end
mutual
/-- how many values there are in a value -/
def JV.size:JV → Nat
 | .mk _ _ _ its => JV.sizes its + 1
def JV.sizes:List JV → Nat
 | [] => 0
 | v :: l => JV.size v + JV.sizes l
end
theorem zlw:∀ {l:List JV} {i:Nat} (hi:i < l.length),JV.size l[i] ≤ JV.sizes l
 | a :: l,0,hi => by rw [JV.sizes]; simp
 | a :: l,i + 1,hi => by
  rw [JV.sizes]
  have:=zlw (l:=l) (i:=i) (by simpa using hi)
  simp only [List.getElem_cons_succ]
  omega
theorem zaT {v:JV} {i:Nat} (hi:i < v.items.length):JV.size v.items[i] < JV.size v:=by
 cases v with
 | mk k t ks its =>
  have:=zlw (l:=its) (i:=i) hi
  rw [JV.size.eq_def (.mk k t ks its)]
  show JV.size its[i] < _
  simp only
  omega
def zau {α:Type} (L:List (Nat × α)) (o:List α):Prop:=(L.map (·.1)).Nodup ∧ ∀ x ∈ L,o[x.1]? = some x.2
theorem zau.get {α:Type} {L:List (Nat × α)} {o:List α} (h:zau L o) {i:Nat} {x:α} (hx:(i,x) ∈ L):o[i]? = some x:=h.2 _ hx
theorem zau.perm {α:Type} {L L':List (Nat × α)} {o:List α} (h:zau L o) (p:L.Perm L'):zau L' o :=
 ⟨(p.map _).nodup_iff.1 h.1,fun x hx => h.2 x (p.mem_iff.2 hx)⟩
theorem zau.sub {α:Type} {L L':List (Nat × α)} {o:List α} (h:zau L o) (p:L'.Sublist L):zau L' o :=
 ⟨(p.map _).nodup h.1,fun x hx => h.2 x (p.subset hx)⟩
theorem zau.set {α:Type} {A B:List (Nat × α)} {o:List α} {i:Nat} {x:α} (y:α) (h:zau (A ++ (i,x) :: B) o):zau (A ++ (i,y) :: B) (o.set i y):=by
 obtain ⟨h1,h2⟩:=h
 simp only [List.map_append,List.map_cons] at h1
 have hi:o[i]? = some x:=h2 (i,x) (by simp)
 have hlt:=(List.getElem?_eq_some_iff.1 hi).1
 have hne:∀ z ∈ A ++ B,z.1 ≠ i:=by
  intro z hz e
  rw [List.nodup_append] at h1
  obtain ⟨n1,n2,n3⟩:=h1
  rcases List.mem_append.1 hz with hz | hz
  ·exact n3 z.1 (List.mem_map_of_mem hz) i (by simp) e
  ·rw [List.nodup_cons] at n2
   exact n2.1 (e ▸ List.mem_map_of_mem hz)
 refine ⟨by simpa only [List.map_append,List.map_cons] using h1,fun z hz => ?_⟩
 rcases List.mem_append.1 hz with hz | hz
 ·rw [List.getElem?_set_ne (hne z (List.mem_append_left _ hz)).symm]
  exact h2 z (List.mem_append_left _ hz)
 ·rcases List.mem_cons.1 hz with rfl | hz
  ·exact List.getElem?_set_self hlt
  ·rw [List.getElem?_set_ne (hne z (List.mem_append_right _ hz)).symm]
   exact h2 z (List.mem_append_right _ (List.mem_cons_of_mem _ hz))
theorem zau.lt {α:Type} {L:List (Nat × α)} {o:List α} (h:zau L o) {i:Nat} {x:α} (hx:(i,x) ∈ L):i < o.length:=(List.getElem?_eq_some_iff.1 (h.get hx)).1
theorem zau.app {α:Type} {L:List (Nat × α)} {o:List α} (h:zau L o) (more:List α):zau L (o ++ more) :=
 ⟨h.1,fun x hx => by rw [List.getElem?_append_left (h.lt (i:=x.1) (x:=x.2) hx)]; exact h.2 x hx⟩
theorem zau.new {α:Type} {L:List (Nat × α)} {o:List α} (h:zau L o) (x:α):zau ((o.length,x) :: L) (o ++ [x]):=by
 refine ⟨?_,fun z hz => ?_⟩
 ·rw [List.map_cons,List.nodup_cons]
  refine ⟨fun hm => ?_,h.1⟩
  obtain ⟨z,hz,e⟩:=List.mem_map.1 hm
  have:=h.lt (i:=z.1) (x:=z.2) hz
  simp only at e
  omega
 ·rcases List.mem_cons.1 hz with rfl | hz
  ·simp
  ·exact (h.app [x]).2 z hz
theorem zau.mapset {α:Type} {L:List (Nat × α)} {o:List α} {b:Nat} {x d:α} (f:α → α) (h:zau ((b,x) :: L) o) (hf:∀ z ∈ L,f z.2=z.2):zau L ((o.map f).set b d):=by
 obtain ⟨h1,h2⟩:=h
 rw [List.map_cons,List.nodup_cons] at h1
 refine ⟨h1.2,fun z hz => ?_⟩
 have hne:¬ b=z.1:=fun e => h1.1 (by show b ∈ _; rw [e]; exact List.mem_map_of_mem hz)
 rw [List.getElem?_set_ne hne,List.getElem?_map,h2 z (List.mem_cons_of_mem _ hz),Option.map_some,hf z hz]
theorem zf9 {G:Gh} {I:Imm} {y:Value} (h:Den G I .nil y):Den G I (.row 0 []) y:=by
 simp only [Den] at h ⊢
 exact ⟨none,0,[],h,⟨Nat.le_refl _,fun ad h => by cases h⟩,zah.nil,by simp,by simp⟩
def subD (b gen n:Nat) (xs:List AV):AV → AV
 | .agg cs => .agg (cs.map (zcy b gen n xs))
 | x => zcy b gen n xs x
theorem den_subD {G:Gh} {I:Imm} {objs:List OB} {w:World} (hm:MemOk G I objs w) {b E sz gen n:Nat} {xs:List AV} (hb:objs[b]? = some (.orow E sz gen n xs)) (x:AV) (y:Value) (h:Den G I x y):Den (zhP G b gen) (pubI I G b w) (subD b gen n xs x) y:=by
 cases x with
 | agg cs =>
  simp only [Den,subD] at h ⊢
  obtain ⟨ys,h1,h2,h3⟩:=h
  exact ⟨ys,h1,zgl hm hb _ _ h2,h3⟩
 | _ => exact zn0 hm hb _ _ h
theorem zlq {b gen n:Nat} {xs:List AV} {x:AV} (h:x.plain=true):zcy b gen n xs x=x:=by
 cases x <;> first | rfl | (simp [AV.plain] at h)
end
end Go.Proofs.YtadhjoggdbhkgaaGreatDoor
namespace Go.Proofs.YtadhjoggdbhkgaaGreatDoor.Sx
open Go.RowKit Go.WideShapes Go.ChangeShapes Go.ChangeAt
inductive TT where
 | s
 | b
 | i (k:IntKind)
 | st (ts:List TT)
 | sl (t:TT)
 | rv
inductive RV where
 | mk (k:Int) (t:List UInt8) (ks:List (List UInt8)) (its:List RV)
mutual
def zdy:RV → List AV
 | .mk k t ks its => [.i .i64 k,.s t,.row ks.length (ks.map .s),.row its.length (zcO its)]
def zcO:List RV → List AV
 | [] => []
 | v :: l => zdy v ++ zcO l
end
mutual
def RVok:RV → Prop
 | .mk k t ks its => (Lit.int .i64 k).wf=true ∧ t.length ≤ 140737488351232 ∧ ks.length ≤ 140737488351232 ∧ (∀ k ∈ ks,k.length ≤ 140737488351232) ∧ its.length ≤ 140737488351232 ∧ ziG its
def ziG:List RV → Prop
 | [] => True
 | v :: l => RVok v ∧ ziG l
end
mutual
def ShT:TT → List AV → Prop
 | .s,xs => ∃ l:List UInt8,xs=[.s l] ∧ l.length ≤ 140737488351232
 | .b,xs => ∃ b,xs=[.b b]
 | .i k,xs => ∃ n,xs=[.i k n] ∧ (Lit.int k n).wf=true
 | .st ts,xs => ShTs ts xs
 | .sl t,xs => ∃ gs:List (List AV),xs=[.row gs.length gs.flatten] ∧ gs.length ≤ 140737488351232 ∧ ∀ g ∈ gs,ShT t g
 | .rv,xs => ∃ r:RV,xs=zdy r ∧ RVok r
def ShTs:List TT → List AV → Prop
 | [],xs => xs=[]
 | t :: ts,xs => ∃ a b,xs=a ++ b ∧ ShT t a ∧ ShTs ts b
end
def ShA:TT → AV → Prop
 | .st ts,x => ∃ cs,x=.agg cs ∧ ShTs ts cs
 | .rv,x => ∃ r:RV,x=.agg (zdy r) ∧ RVok r
 | t,x => ShT t [x]
def ShAs:List TT → List AV → Prop
 | [],xs => xs=[]
 | t :: ts,xs => ∃ x ys,xs=x :: ys ∧ ShA t x ∧ ShAs ts ys
def trTs (P:Program) (rc:TypeId → Option TT):Nat → List Field → Option (List TT)
 | o,[] => some []
 | o,f :: fs => match rc f.type,trTs P rc (o + P.cellsOf f.type) fs with
  | some t,some ts => if f.offset=o then some (t :: ts) else none
  | _,_ => none
def ze5 (P:Program):List Field → Nat
 | [] => 0
 | f :: fs => P.cellsOf f.type + ze5 P fs
def isRV (P:Program) (t:TypeId):List Field → Bool
 | [a,b,c,d] => (a.offset == 0 && b.offset == 1 && c.offset == 2 && d.offset == 3) && (P.cellsOf t == 4 && P.cellsOf a.type == 1 && P.cellsOf b.type == 1 && P.cellsOf c.type == 1 && P.cellsOf d.type == 1) && decide (0 < P.bytesOf t) && (match P.underlying a.type,P.underlying b.type,P.underlying c.type,P.underlying d.type with
  | some (.int .i64),some .string,some (.slice e),some (.slice f) => f == t && P.cellsOf e == 1 && decide (0 < P.bytesOf e) && (match P.underlying e with | some .string => true | _ => false)
  | _,_,_,_ => false)
 | _ => false
def trT (P:Program):Nat → TypeId → Option TT
 | 0,_ => none
 | d + 1,t => match P.underlying t with
  | some .string => some .s
  | some .bool => some .b
  | some (.int k) => some (.i k)
  | some (.struct fs) => if isRV P t fs.toList=true then some .rv else if P.cellsOf t=ze5 P fs.toList then (trTs P (trT P d) 0 fs.toList).map .st else none
  | some (.slice e) => if 0 < P.cellsOf e ∧ 0 < P.bytesOf e then (trT P d e).map .sl else none
  | _ => none
theorem zcK {H:Type} {P:Program} {e:TypeId}:∀ {ds:List (DataW H)} {d:DataW H},d ∈ ds → ∀ n ∈ d.weights P e,n ∈ DataW.weightsAll P e ds
 | [],d,hd,n,hn => by cases hd
 | d0 :: ds,d,hd,n,hn => by
  simp only [DataW.weightsAll,List.mem_append]
  rcases List.mem_cons.1 hd with rfl | hd
  ·exact .inl hn
  ·exact .inr (zcK hd n hn)
theorem ziV {w:World} {G:Gh} {I:Imm} {t:TT} (a:Addr) (c:Nat) (hI:∀ g o v,w.cell? ⟨g,o,none⟩=some v → I g o v):∀ k:Nat,
  (∀ i,i < k → ∃ (g:List AV) (ys:List Value),ys.length=c ∧ (∀ j,j < c → w.cell? ((a.add (i * c)).add j)=ys[j]?) ∧ zah G I g ys ∧ ShT t g ∧ ∀ u ∈ ys,u.oneCell'=true) →
  ∃ (gs:List (List AV)) (ys:List Value),gs.length=k ∧ ys.length=k * c ∧ zah G I gs.flatten ys ∧ (∀ g ∈ gs,ShT t g) ∧ (∀ u ∈ ys,u.oneCell'=true) ∧ ∀ j,j < k * c → w.cell? (a.add j)=ys[j]?
 | 0,_ => ⟨[],[],rfl,by simp,zah.nil,by simp,by simp,fun j hj => by simp at hj⟩
 | k + 1,h => by
  obtain ⟨gs,ys,h1,h2,h3,h4,h5,h6⟩:=ziV a c hI k (fun i hi => h i (by omega))
  obtain ⟨g,zs,k1,k2,k3,k4,k5⟩:=h k (by omega)
  have hm:(k + 1) * c=k * c + c:=Nat.succ_mul k c
  refine ⟨gs ++ [g],ys ++ zs,by simp [h1],by rw [List.length_append,h2,k1,hm],?_,?_,?_,?_⟩
  ·rw [List.flatten_append,List.flatten_cons,List.flatten_nil,List.append_nil]
   exact zah.append h3 k3
  ·intro x hx
   rcases List.mem_append.1 hx with hx | hx
   ·exact h4 x hx
   ·rw [List.mem_singleton] at hx; subst hx; exact k4
  ·intro u hu
   rcases List.mem_append.1 hu with hu | hu
   ·exact h5 u hu
   ·exact k5 u hu
  ·intro j hj
   by_cases hjk:j < k * c
   ·rw [h6 j hjk,List.getElem?_append_left (by omega)]
   ·have:=k2 (j - k * c) (by omega)
    rw [Addr.add_add,show k * c + (j - k * c)=j by omega] at this
    rw [this,List.getElem?_append_right (by omega),h2]
theorem add_flat {a:Addr} {j:Nat} (ha:a.spot=none):a.add j=⟨a.block,a.off + j,none⟩:=by
 cases a
 simp only at ha
 subst ha
 unfold Addr.add
 split
 ·rename_i h; subst h; rfl
 ·rfl
section
variable {H:Type} {enc:TypeId × Value → H} {P:Program} {w:World} {base:Nat} {spare:Nat → Bool} {held:Bool} {G:Gh} {I:Imm}
theorem zft (d:Nat) (ih:∀ (t:TypeId) (tt:TT) (fuel:Nat) (cs:List Value) (x:DataW H × List MemPlace),trT P d t=some tt → DataW.trod enc P w base spare held fuel t cs=some x → (∀ n ∈ x.1.weights P t,n ≤ reachBytes) → ∃ xs,zah G I xs cs ∧ ShT tt xs ∧ ∀ u ∈ cs,u.oneCell'=true) (n:Nat) :
  ∀ (fs:List Field) (ts:List TT) (o:Nat) (cs:List Value),trTs P (trT P d) o fs=some ts → cs.length=o + ze5 P fs → (∀ f ∈ fs,∃ x,DataW.trod enc P w base spare held n f.type ((cs.drop f.offset).take (P.cellsOf f.type))=some x ∧ ∀ m ∈ x.1.weights P f.type,m ≤ reachBytes) →
   ∃ xs,zah G I xs (cs.drop o) ∧ ShTs ts xs ∧ ∀ u ∈ cs.drop o,u.oneCell'=true
 | [],ts,o,cs,ht,hl,hf => by
  simp only [trTs,Option.some.injEq] at ht; subst ht
  have:cs.drop o=[]:=List.drop_eq_nil_of_le (by simp [ze5] at hl; omega)
  rw [this]
  exact ⟨[],zah.nil,rfl,by simp⟩
 | f :: fs,ts,o,cs,ht,hl,hf => by
  simp only [trTs] at ht
  split at ht
  ·rename_i t ts' h1 h2
   split at ht
   ·rename_i ho
    injection ht with ht; subst ht
    obtain ⟨x,hx,hxw⟩:=hf f (List.mem_cons_self ..)
    rw [ho] at hx
    obtain ⟨xs,k1,k2,k3⟩:=ih _ _ _ _ _ h1 hx hxw
    simp only [ze5] at hl
    obtain ⟨ys,m1,m2,m3⟩:=zft d ih n fs ts' (o + P.cellsOf f.type) cs h2 (by omega) (fun f' hf' => hf f' (List.mem_cons_of_mem _ hf'))
    have e:cs.drop o=(cs.drop o).take (P.cellsOf f.type) ++ cs.drop (o + P.cellsOf f.type):=by
     rw [← List.drop_drop,List.take_append_drop]
    refine ⟨xs ++ ys,?_,?_,?_⟩
    ·rw [e]; exact zah.append k1 m1
    ·exact ⟨xs,ys,rfl,k2,m2⟩
    ·rw [e]; intro u hu
     rcases List.mem_append.1 hu with hu | hu
     ·exact k3 u hu
     ·exact m3 u hu
   ·cases ht
  ·cases ht
theorem zdZ (hI:∀ g o v,w.cell? ⟨g,o,none⟩=some v → I g o v) (hspa:∀ b,spare b=true) {t e:TypeId} {te:TT} {fuel:Nat} {cs:List Value} {x:DataW H × List MemPlace} (hu:P.underlying t=some (.slice e)) (hc:0 < P.cellsOf e ∧ 0 < P.bytesOf e)
  (ih:∀ (n:Nat) (ys:List Value) (x:DataW H × List MemPlace),n < fuel → DataW.trod enc P w base spare held n e ys=some x → (∀ n ∈ x.1.weights P e,n ≤ reachBytes) → ∃ g,zah G I g ys ∧ ShT te g ∧ ∀ u ∈ ys,u.oneCell'=true)
  (h:DataW.trod enc P w base spare held fuel t cs=some x) (hwt:∀ n ∈ x.1.weights P t,n ≤ reachBytes):∃ xs,zah G I xs cs ∧ ShT (.sl te) xs ∧ ∀ u ∈ cs,u.oneCell'=true:=by
 rcases DataW.trod_slice hu h with ⟨rfl,rfl⟩ | ⟨a,len,cap,elems,rest,n,hfu,rfl,rfl,hb,hl,hm,hlen,hel,hsr,_⟩
 ·exact ⟨[.row 0 []],zah.cons (by simp only [Den]; exact ⟨none,0,[],rfl,⟨Nat.le_refl _,fun ad h => by cases h⟩,zah.nil,by simp,by simp⟩) zah.nil,⟨[],rfl,by simp,by simp⟩,by simp; rfl⟩
 ·have hw2:(elems.length + rest.length) * P.bytesOf e ≤ reachBytes:=by
   have:=hwt ((elems.map (·.1)).length + (rest.map (·.1)).length |> (· * P.bytesOf e)) (by simp [DataW.weights,hu])
   simpa using this
  have hel2:elems.length ≤ 140737488351232:=by
   have h1:elems.length * 1 ≤ (elems.length + rest.length) * P.bytesOf e:=Nat.mul_le_mul (by omega) hc.2
   have:reachBytes=140737488351232:=rfl
   omega
  have hel3:∀ i,i < len → ∃ (g:List AV) (ys:List Value),ys.length=P.cellsOf e ∧ (∀ j,j < P.cellsOf e → w.cell? ((a.add (i * P.cellsOf e)).add j)=ys[j]?) ∧ zah G I g ys ∧ ShT te g ∧ ∀ u ∈ ys,u.oneCell'=true:=by
   intro i hi
   have h1:=hel i hi
   have hil:i < elems.length:=by omega
   rw [List.getElem?_eq_getElem hil,Option.bind_eq_some_iff] at h1
   obtain ⟨ys,y1,y2⟩:=h1
   obtain ⟨_,z1,z2⟩:=World.cells?_some y1
   obtain ⟨g,g1,g2,g3⟩:=ih n ys _ (by omega) y2 (fun m hm => hwt m (by
    simp only [DataW.weights,hu,List.mem_cons,List.mem_append]
    exact .inr (.inl (zcK (List.mem_map.2 ⟨_,List.getElem_mem hil,rfl⟩) m hm))))
   exact ⟨g,ys,z1,z2,g1,g2,g3⟩
  obtain ⟨gs,ys,k1,k2,k3,k4,k5,k6⟩:=ziV (G:=G) a (P.cellsOf e) hI len hel3
  have hsp0:cap ≠ 0 → a.spot=none:=by
   intro hcap
   by_cases hl0:0 < len
   ·have hp:0 < len * P.cellsOf e:=Nat.mul_pos hl0 hc.1
    have h2:=k6 0 hp
    rw [List.getElem?_eq_getElem (by omega)] at h2
    have:=World.cell?_spot h2
    simpa [Addr.add] using this
   ·have hr:=(hsr (hspa _)).2 0 (by omega)
    have hrl:=(hsr (hspa _)).1
    rw [List.getElem?_eq_getElem (by omega),Option.bind_eq_some_iff] at hr
    obtain ⟨zs,y1,_⟩:=hr
    obtain ⟨_,z1,z2⟩:=World.cells?_some y1
    have h2:=z2 0 hc.1
    rw [List.getElem?_eq_getElem (by omega)] at h2
    have:=World.cell?_spot h2
    have hl1:len=0:=by omega
    subst hl1
    simpa [Addr.add] using this
  refine ⟨[.row gs.length gs.flatten],zah.cons ?_ zah.nil,⟨gs,rfl,by omega,k4⟩,by simp; rfl⟩
  simp only [Den]
  refine ⟨some a,cap,ys,by rw [k1],⟨by omega,fun ad h hc0 => by injection h with h; subst h; exact hsp0 hc0⟩,k3,k5,fun j u hj => ?_⟩
  have hjl:=(List.getElem?_eq_some_iff.1 hj).1
  have hlp:len ≠ 0:=by rintro rfl; rw [k2,Nat.zero_mul] at hjl; omega
  have hs:=hsp0 (by omega)
  refine ⟨a.block,a.off,by cases a; simp only at hs; subst hs; rfl,hI _ _ _ ?_⟩
  have h2:=k6 j (k2 ▸ hjl)
  rw [add_flat hs] at h2
  rw [h2,hj]
theorem isRV_of {t:TypeId} {fs:List Field} (h:isRV P t fs=true):∃ a b c d e,fs=[a,b,c,d] ∧ (a.offset=0 ∧ b.offset=1 ∧ c.offset=2 ∧ d.offset=3) ∧ (P.cellsOf t=4 ∧ P.cellsOf a.type=1 ∧ P.cellsOf b.type=1 ∧ P.cellsOf c.type=1 ∧ P.cellsOf d.type=1) ∧ 0 < P.bytesOf t ∧
  P.underlying a.type=some (.int .i64) ∧ P.underlying b.type=some .string ∧ P.underlying c.type=some (.slice e) ∧ P.underlying d.type=some (.slice t) ∧ P.cellsOf e=1 ∧ 0 < P.bytesOf e ∧ P.underlying e=some .string:=by
 unfold isRV at h
 split at h
 ·rename_i a b c d
  simp only [Bool.and_eq_true,beq_iff_eq,decide_eq_true_eq] at h
  obtain ⟨⟨⟨h1,h2⟩,h3⟩,h4⟩:=h
  split at h4
  ·rename_i e f u1 u2 u3 u4
   simp only [Bool.and_eq_true,beq_iff_eq,decide_eq_true_eq] at h4
   obtain ⟨⟨⟨k1,k2⟩,k3⟩,k4⟩:=h4
   subst k1
   split at k4
   ·rename_i u5
    exact ⟨a,b,c,d,e,rfl,⟨h1.1.1.1,h1.1.1.2,h1.1.2,h1.2⟩,⟨h2.1.1.1.1,h2.1.1.1.2,h2.1.1.2,h2.1.2,h2.2⟩,h3,u1,u2,u3,u4,k2,k3,u5⟩
   ·cases k4
  ·cases h4
 ·cases h
theorem zlA:∀ gs:List (List AV),(∀ g ∈ gs,ShT .s g) → ∃ ks:List (List UInt8),gs.flatten=ks.map .s ∧ ks.length=gs.length ∧ ∀ k ∈ ks,k.length ≤ 140737488351232
 | [],_ => ⟨[],rfl,rfl,by simp⟩
 | g :: gs,h => by
  obtain ⟨ks,h1,h2,h3⟩:=zlA gs (fun g hg => h g (List.mem_cons_of_mem _ hg))
  obtain ⟨l,hl,hl2⟩:=h g (List.mem_cons_self ..)
  refine ⟨l :: ks,by rw [List.flatten_cons,hl,h1]; rfl,by simp [h2],fun k hk => ?_⟩
  rcases List.mem_cons.1 hk with rfl | hk
  ·exact hl2
  ·exact h3 k hk
theorem ziU:∀ gs:List (List AV),(∀ g ∈ gs,ShT .rv g) → ∃ rs:List RV,gs.flatten=zcO rs ∧ rs.length=gs.length ∧ ziG rs
 | [],_ => ⟨[],by rw [zcO]; rfl,rfl,by rw [ziG]; trivial⟩
 | g :: gs,h => by
  obtain ⟨rs,h1,h2,h3⟩:=ziU gs (fun g hg => h g (List.mem_cons_of_mem _ hg))
  obtain ⟨r,hr,hr2⟩:=h g (List.mem_cons_self ..)
  exact ⟨r :: rs,by rw [List.flatten_cons,hr,h1,zcO],by simp [h2],by rw [ziG]; exact ⟨hr2,h3⟩⟩
theorem open_rv (hI:∀ g o v,w.cell? ⟨g,o,none⟩=some v → I g o v) (hspa:∀ b,spare b=true) {t:TypeId} {fs:Array Field} (hu:P.underlying t=some (.struct fs)) (hrv:isRV P t fs.toList=true):∀ (m fuel:Nat) (cs:List Value) (x:DataW H × List MemPlace),fuel < m → DataW.trod enc P w base spare held fuel t cs=some x → (∀ n ∈ x.1.weights P t,n ≤ reachBytes) → ∃ xs,zah G I xs cs ∧ ShT .rv xs ∧ ∀ u ∈ cs,u.oneCell'=true:=by
 intro m
 induction m with
 | zero => intro fuel cs x hm; omega
 | succ m ih =>
  intro fuel cs x hm h hwt
  obtain ⟨a,b,c,d,e,hfs,⟨o1,o2,o3,o4⟩,⟨c0,c1,c2,c3,c4⟩,hb,u1,u2,u3,u4,e1,e2,e3⟩:=isRV_of hrv
  obtain ⟨xs,n,hfu,rfl,hlen,hxl,hf⟩:=DataW.trod_struct hu h
  have hsz:fs.size=4:=by rw [← Array.length_toList,hfs]; rfl
  have gf:∀ j,fs[j]? = [a,b,c,d][j]?:=fun j => by rw [← hfs,Array.getElem?_toList]
  have hall:∀ (j:Nat) (f:Field),[a,b,c,d][j]? = some f → ∃ x,DataW.trod enc P w base spare held n f.type ((cs.drop f.offset).take (P.cellsOf f.type))=some x ∧ ∀ m ∈ x.1.weights P f.type,m ≤ reachBytes:=by
   intro j f hj
   have h1:=hf j f (by rw [gf]; exact hj)
   have hjl:j < xs.length:=by
    rw [hxl,hsz]
    exact (List.getElem?_eq_some_iff.1 hj).1
   rw [List.getElem?_eq_getElem hjl] at h1
   refine ⟨_,h1,fun m hm => hwt m ?_⟩
   have hj2:(fs.toList.map (·.type))[j]? = some f.type:=by rw [List.getElem?_map,hfs,hj]; rfl
   have:=DataW.weights_mem_each hj2 (show (xs.map (·.1))[j]? = some xs[j].1 by rw [List.getElem?_map,List.getElem?_eq_getElem hjl]; rfl) m hm
   simpa [DataW.weights,hu] using this
  obtain ⟨xa,ha,wa⟩:=hall 0 a rfl
  obtain ⟨xb,hb',wb⟩:=hall 1 b rfl
  obtain ⟨xc,hc',wc⟩:=hall 2 c rfl
  obtain ⟨xd,hd',wd⟩:=hall 3 d rfl
  rw [o1,c1] at ha
  rw [o2,c2] at hb'
  rw [o3,c3] at hc'
  rw [o4,c4] at hd'
  rw [c0] at hlen
  obtain ⟨v0,v1,v2,v3,rfl⟩:∃ v0 v1 v2 v3,cs=[v0,v1,v2,v3]:=by
   match cs,hlen with
   | [v0,v1,v2,v3],_ => exact ⟨v0,v1,v2,v3,rfl⟩
  simp only [List.drop_zero,List.drop_succ_cons,List.take_succ_cons,List.take_zero] at ha hb' hc' hd'
  obtain ⟨i0,r0,_,w0⟩:=DataW.trod_int u1 ha
  injection r0 with r0 _
  obtain ⟨s0,r1,rx1,_⟩:=DataW.trod_string u2 hb'
  injection r1 with r1 _
  subst r0 r1
  obtain ⟨ys2,d2,⟨g2,q2,l2,m2⟩,oc2⟩:=zdZ (te:=.s) (G:=G) (I:=I) hI hspa u3 ⟨by omega,e2⟩ (fun n' ys y hn' hy hyw => by
   obtain ⟨s,rfl,rfl,hs⟩:=DataW.trod_string e3 hy
   exact ⟨[.s s.data.toList],zah.cons (by simp [Den]) zah.nil,⟨_,rfl,hyw _ (by simp [DataW.weights])⟩,by simp; rfl⟩) hc' wc
  obtain ⟨ys3,d3,⟨g3,q3,l3,m3⟩,oc3⟩:=zdZ (te:=.rv) (G:=G) (I:=I) hI hspa u4 ⟨by omega,hb⟩ (fun n' ys y hn' hy hyw => ih n' ys y (by omega) hy hyw) hd' wd
  subst q2 q3
  obtain ⟨ks,k1,k2,k3⟩:=zlA g2 m2
  obtain ⟨rs,j1,j2,j3⟩:=ziU g3 m3
  refine ⟨zdy (.mk i0 s0.data.toList ks rs),?_,⟨_,rfl,?_⟩,?_⟩
  ·rw [zdy,k2,j2,← k1,← j1]
   exact zah.cons (by simp [Den]) (zah.cons (by simp [Den]) (zah.append d2 d3))
  ·rw [RVok]
   refine ⟨w0,?_,by omega,k3,by omega,j3⟩
   subst rx1
   exact wb _ (by simp [DataW.weights])
  ·intro u hu'
   simp only [List.mem_cons,List.not_mem_nil,or_false] at hu'
   rcases hu' with rfl | rfl | rfl | rfl
   ·rfl
   ·rfl
   ·exact oc2 _ (by simp)
   ·exact oc3 _ (by simp)
theorem zmw (hI:∀ g o v,w.cell? ⟨g,o,none⟩=some v → I g o v) (hspa:∀ b,spare b=true):∀ (d:Nat) (t:TypeId) (tt:TT) (fuel:Nat) (cs:List Value) (x:DataW H × List MemPlace),trT P d t=some tt → DataW.trod enc P w base spare held fuel t cs=some x → (∀ n ∈ x.1.weights P t,n ≤ reachBytes) → ∃ xs,zah G I xs cs ∧ ShT tt xs ∧ ∀ u ∈ cs,u.oneCell'=true:=by
 intro d
 induction d with
 | zero => intro t tt fuel cs x ht; simp [trT] at ht
 | succ d ih =>
  intro t tt fuel cs x ht h hwt
  simp only [trT] at ht
  split at ht
  ·rename_i hu
   injection ht with ht; subst ht
   obtain ⟨s,rfl,rfl,hs⟩:=DataW.trod_string hu h
   refine ⟨[.s s.data.toList],zah.cons (by simp [Den]) zah.nil,⟨_,rfl,?_⟩,by simp; rfl⟩
   exact hwt _ (by simp [DataW.weights])
  ·rename_i hu
   injection ht with ht; subst ht
   obtain ⟨b,rfl,_⟩:=DataW.trod_bool hu h
   exact ⟨[.b b],zah.cons (by simp [Den]) zah.nil,⟨_,rfl⟩,by simp; rfl⟩
  ·rename_i k hu
   injection ht with ht; subst ht
   obtain ⟨n,rfl,_,hw⟩:=DataW.trod_int hu h
   exact ⟨[.i k n],zah.cons (by simp [Den]) zah.nil,⟨_,rfl,hw⟩,by simp; rfl⟩
  ·rename_i fs hu
   split at ht
   ·rename_i hrv
    injection ht with ht; subst ht
    exact open_rv hI hspa hu hrv (fuel + 1) fuel cs x (by omega) h hwt
   split at ht
   ·rename_i hc
    cases hts:trTs P (trT P d) 0 fs.toList with
    | none => rw [hts] at ht; cases ht
    | some ts =>
     rw [hts] at ht; injection ht with ht; subst ht
     obtain ⟨xs,n,_,rfl,hlen,hxl,hf⟩:=DataW.trod_struct hu h
     have hall:∀ f ∈ fs.toList,∃ x,DataW.trod enc P w base spare held n f.type ((cs.drop f.offset).take (P.cellsOf f.type))=some x ∧ ∀ m ∈ x.1.weights P f.type,m ≤ reachBytes:=by
      intro f hfm
      obtain ⟨j,hj⟩:=List.mem_iff_getElem?.1 hfm
      have h1:=hf j f (by simpa using hj)
      have hjl:j < xs.length:=by
       rw [hxl]
       have:=(List.getElem?_eq_some_iff.1 hj).1
       simpa using this
      rw [List.getElem?_eq_getElem hjl] at h1
      refine ⟨_,h1,fun m hm => hwt m ?_⟩
      have hj2:(fs.toList.map (·.type))[j]? = some f.type:=by rw [List.getElem?_map,hj]; rfl
      have:=DataW.weights_mem_each hj2 (show (xs.map (·.1))[j]? = some xs[j].1 by rw [List.getElem?_map,List.getElem?_eq_getElem hjl]; rfl) m hm
      simpa [DataW.weights,hu] using this
     obtain ⟨ys,k1,k2,k3⟩:=zft d ih n fs.toList ts 0 cs hts (by rw [hlen,hc]; omega) hall
     exact ⟨ys,by simpa using k1,k2,by simpa using k3⟩
   ·cases ht
  ·rename_i e hu
   split at ht
   ·rename_i hc
    cases hte:trT P d e with
    | none => rw [hte] at ht; cases ht
    | some te =>
     rw [hte] at ht; injection ht with ht; subst ht
     exact zdZ hI hspa hu hc (fun n ys y _ hy hyw => ih e te n ys y hte hy hyw) h hwt
   ·cases ht
  ·cases ht
theorem open_arg (hI:∀ g o v,w.cell? ⟨g,o,none⟩=some v → I g o v) (hspa:∀ b,spare b=true) {r:Reach} {b0:Nat} {t:TypeId} {tt:TT} {v:Value} {dd:DataW H} {ps:List MemPlace} (ht:trT P 20 t=some tt) (hv:Value.okWide P w r b0 t v) (h:DataW.Trod enc P w base spare held t v dd ps) (hwt:∀ n ∈ dd.weights P t,n ≤ reachBytes):∃ x,Den G I x v ∧ ShA tt x:=by
 obtain ⟨fuel,hf⟩:=h
 obtain ⟨xs,h1,h2,h3⟩:=zmw hI hspa 20 t tt fuel _ _ ht hf hwt
 have ht':=ht
 unfold trT at ht
 cases tt with
 | st ts =>
  split at ht <;> first | (injection ht with ht; cases ht; done) | skip
  ·rename_i fs hu
   obtain ⟨cs,rfl,_⟩:=okWide_struct hu hv
   refine ⟨.agg xs,?_,⟨xs,rfl,h2⟩⟩
   simp only [Den]
   exact ⟨cs.toList,by simp,h1,h3⟩
  ·split at ht
   ·cases hq:trT P 19 _ with
    | none => rw [hq] at ht; cases ht
    | some q => rw [hq] at ht; injection ht with ht; cases ht
   ·cases ht
  ·cases ht
 | rv =>
  split at ht <;> first | (injection ht with ht; cases ht; done) | skip
  ·rename_i fs hu
   obtain ⟨cs,rfl,_⟩:=okWide_struct hu hv
   obtain ⟨r,rfl,hr⟩:=h2
   refine ⟨.agg (zdy r),?_,⟨r,rfl,hr⟩⟩
   simp only [Den]
   exact ⟨cs.toList,by simp,h1,h3⟩
  ·split at ht
   ·cases hq:trT P 19 _ with
    | none => rw [hq] at ht; cases ht
    | some q => rw [hq] at ht; injection ht with ht; cases ht
   ·cases ht
  ·cases ht
 | sl t =>
  split at ht <;> first | (injection ht with ht; cases ht; done) | skip
  ·split at ht
   ·injection ht with ht; cases ht
   split at ht
   ·cases hq:trTs P (trT P 19) 0 _ with
    | none => rw [hq] at ht; cases ht
    | some q => rw [hq] at ht; injection ht with ht; cases ht
   ·cases ht
  ·rename_i e hu
   obtain ⟨a,len,cap,rfl⟩:=okWide_slice hu hv
   obtain ⟨gs,rfl,hl,hg⟩:=h2
   simp only [zah] at h1
   obtain ⟨y,ys,e1,k1,k2⟩:=h1
   subst k2
   have e2:[Value.slice a len cap]=[y]:=e1
   injection e2 with e2 _
   subst e2
   exact ⟨.row gs.length gs.flatten,k1,⟨gs,rfl,hl,hg⟩⟩
  ·cases ht
 | s =>
  split at ht <;> first | (injection ht with ht; cases ht; done) | skip
  ·rename_i hu
   obtain ⟨s,rfl⟩:=okWide_string hu hv
   obtain ⟨l,rfl,hl⟩:=h2
   simp only [zah] at h1
   obtain ⟨y,ys,e,k1,k2⟩:=h1
   subst k2
   have e2:[Value.string s]=[y]:=e
   injection e2 with e2 _
   subst e2
   exact ⟨.s l,k1,⟨l,rfl,hl⟩⟩
  ·split at ht
   ·injection ht with ht; cases ht
   split at ht
   ·cases hq:trTs P (trT P 19) 0 _ with
    | none => rw [hq] at ht; cases ht
    | some q => rw [hq] at ht; injection ht with ht; cases ht
   ·cases ht
  ·split at ht
   ·cases hq:trT P 19 _ with
    | none => rw [hq] at ht; cases ht
    | some q => rw [hq] at ht; injection ht with ht; cases ht
   ·cases ht
  ·cases ht
 | b =>
  split at ht <;> first | (injection ht with ht; cases ht; done) | skip
  ·rename_i hu
   obtain ⟨s,rfl⟩:=okWide_bool hu hv
   obtain ⟨l,rfl⟩:=h2
   simp only [zah] at h1
   obtain ⟨y,ys,e,k1,k2⟩:=h1
   subst k2
   have e2:[Value.bool s]=[y]:=e
   injection e2 with e2 _
   subst e2
   exact ⟨.b l,k1,⟨l,rfl⟩⟩
  ·split at ht
   ·injection ht with ht; cases ht
   split at ht
   ·cases hq:trTs P (trT P 19) 0 _ with
    | none => rw [hq] at ht; cases ht
    | some q => rw [hq] at ht; injection ht with ht; cases ht
   ·cases ht
  ·split at ht
   ·cases hq:trT P 19 _ with
    | none => rw [hq] at ht; cases ht
    | some q => rw [hq] at ht; injection ht with ht; cases ht
   ·cases ht
  ·cases ht
 | i k =>
  split at ht <;> first | (injection ht with ht; cases ht; done) | skip
  ·rename_i k' hu
   injection ht with ht; injection ht with ht; subst ht
   obtain ⟨s,rfl⟩:=okWide_int hu hv
   obtain ⟨l,rfl,hl⟩:=h2
   simp only [zah] at h1
   obtain ⟨y,ys,e,k1,k2⟩:=h1
   subst k2
   have e2:[Value.int _ s]=[y]:=e
   injection e2 with e2 _
   subst e2
   exact ⟨.i _ l,k1,⟨l,rfl,hl⟩⟩
  ·split at ht
   ·injection ht with ht; cases ht
   split at ht
   ·cases hq:trTs P (trT P 19) 0 _ with
    | none => rw [hq] at ht; cases ht
    | some q => rw [hq] at ht; injection ht with ht; cases ht
   ·cases ht
  ·split at ht
   ·cases hq:trT P 19 _ with
    | none => rw [hq] at ht; cases ht
    | some q => rw [hq] at ht; injection ht with ht; cases ht
   ·cases ht
  ·cases ht
theorem open_args (hI:∀ g o v,w.cell? ⟨g,o,none⟩=some v → I g o v) (hspa:∀ b,spare b=true) {r:Reach} {b0:Nat}:∀ (ts:List TypeId) (tts:List TT) (vs:List Value) (ds:List (DataW H)) (ps:List MemPlace),ts.mapM (trT P 20)=some tts → (∀ (j:Nat) t v,ts[j]? = some t → vs[j]? = some v → Value.okWide P w r b0 t v) → DataW.TrodAll enc P w base spare held ts vs ds ps → (∀ n ∈ DataW.weightsEach P ts ds,n ≤ reachBytes) → ∃ xs,zah G I xs vs ∧ ShAs tts xs
 | [],tts,vs,ds,ps,ht,hv,h,hwt => by
  simp at ht; subst ht
  obtain ⟨rfl,_,_⟩:=trodAll_nil h
  exact ⟨[],zah.nil,rfl⟩
 | t :: ts,tts,vs,ds,ps,ht,hv,h,hwt => by
  simp only [List.mapM_cons,Option.bind_eq_bind,Option.pure_def] at ht
  cases h1:trT P 20 t with
  | none => simp [h1] at ht
  | some tt =>
   cases h2:ts.mapM (trT P 20) with
   | none => simp [h1,h2] at ht
   | some tts' =>
    simp [h1,h2] at ht
    subst ht
    obtain ⟨v,vs',d,ds',p,q,rfl,rfl,rfl,k1,k2⟩:=trodAll_cons h
    obtain ⟨x,x1,x2⟩:=open_arg (G:=G) (I:=I) hI hspa h1 (hv 0 t v rfl rfl) k1 (fun n hn => hwt n (by simp only [DataW.weightsEach,List.mem_append]; exact .inl hn))
    obtain ⟨xs,y1,y2⟩:=open_args hI hspa ts tts' vs' ds' q h2 (fun j t v hj hv' => hv (j + 1) t v (by simpa using hj) (by simpa using hv')) k2 (fun n hn => hwt n (by simp only [DataW.weightsEach,List.mem_append]; exact .inr hn))
    exact ⟨x :: xs,zah.cons x1 y1,⟨x,xs,rfl,x2,y2⟩⟩
theorem zdu (hl:laidOutB P=true) {W W':World} {sp':Nat → Bool}:∀ (ts:List TypeId) (vs:List Value) (ds:List (DataW H)) (ps:List MemPlace),(∀ t ∈ ts,P.readableRec t=true ∧ t < P.types.size) → DataW.TrodAll enc P W 0 (fun _ => true) true ts vs ds ps → Below W.heap.size W W' → (∀ p ∈ ps,p.block < W.heap.size) → (∀ p ∈ ps,sp' p.block=true) → DataW.TrodAll enc P W' 0 sp' true ts vs ds ps
 | [],vs,ds,ps,hr,h,hb,hlt,hs => by
  obtain ⟨rfl,rfl,rfl⟩:=trodAll_nil h
  exact trodAll_mk0
 | t :: ts,vs,ds,ps,hr,h,hb,hlt,hs => by
  obtain ⟨v,vs',d,ds',p,q,rfl,rfl,rfl,k1,k2⟩:=trodAll_cons h
  have h1:=hr t (List.mem_cons_self ..)
  exact trodAll_cons_mk (WideElems.Trod_stays hl h1.1 h1.2 k1 (fun x hx => hb.same (hlt x (List.mem_append_left _ hx))) (fun x hx => hs x (List.mem_append_left _ hx)))
   (zdu hl ts vs' ds' q (fun t ht => hr t (List.mem_cons_of_mem _ ht)) k2 hb (fun x hx => hlt x (List.mem_append_right _ hx)) (fun x hx => hs x (List.mem_append_right _ hx)))
end
theorem post_true {H:Type} {enc:TypeId × Value → H} {P:Program} {f:Func} {s:ChangeSpec} {apart fresh handsOn again:Bool} {W W':World} {args:Array Value} {ds gs:List (DataW H)} {before:List MemPlace}
  (hl:laidOutB P=true) (hts:∀ t ∈ f.params.toList,P.readableRec t=true ∧ t < P.types.size) {tb:TypeId} (hrt:f.resultTypes=#[tb]) (hub:P.underlying tb=some .bool) (hsv:s.vars=[])
  (hW:DataW.Whole enc P f.params.toList s.vars apart W args.toList ds gs before) (hfn:s.fn H (ds ++ gs)={ results:=[.lit (.bool true)],args:=ds }) (hb:Below W.heap.size W W'):s.post enc P f apart fresh handsOn again W args (.bool true) W':=by
 have hlt:∀ p ∈ before,p.block < W.heap.size:=fun p hp => hW.lt p hp
 have hold:∀ p ∈ before,(fun b => decide (b < W.heap.size)) p.block=true:=fun p hp => by simpa using hlt p hp
 have hW':=hW
 obtain ⟨p,q,hA,hV,rfl,hz,hn⟩:=hW'
 rw [hsv] at hV
 have hvars:gs=[] ∧ q=[]:=by
  cases gs with
  | nil => exact ⟨rfl,hV⟩
  | cons g gs => exact hV.elim
 obtain ⟨rfl,rfl⟩:=hvars
 simp only [List.append_nil] at *
 have hres:∀ (b:Nat) (sp:Nat → Bool) (hd:Bool),DataW.TrodAll enc P W' b sp hd f.resultTypes.toList ((Value.bool true).resultList f.resultTypes.size) (s.fn H ds).results []:=by
  intro b sp hd
  rw [hfn,hrt]
  exact trodAll_cons_mk (shut_bool hub _) trodAll_mk0
 have hargs:∀ sp:Nat → Bool,(∀ x ∈ p,sp x.block=true) → DataW.TrodAll enc P W' 0 sp true f.params.toList args.toList (s.fn H ds).args p:=by
  intro sp hsp
  rw [hfn]
  exact zdu hl _ _ _ _ hts hA hb hlt hsp
 have hvs:∀ sp:Nat → Bool,DataW.TrodVars enc P W' sp s.vars (s.fn H ds).vars []:=by
  intro sp
  rw [hsv,hfn]; rfl
 refine ⟨ds,[],p,[],p,[],hW,by simpa using hres _ _ _,by simpa using hargs _ hold,by simpa using hvs _,World.keptBut_mono (fun x hx => ⟨hx,?_⟩) (hb.frame (· ∈ p)),fun _ => ?_⟩
 ·exact Or.inr (Or.inl hx)
 ·refine ⟨?_,_,_,([] ++ p) ++ [],⟨[] ++ p,[],trodAll_append (by simpa using hargs _ (fun _ _ => rfl)) (by simpa using hres _ _ _),by simpa using hvs _,rfl,?_,?_⟩,?_⟩
  ·intro j t r hj hr
   rw [hrt] at hj hr
   cases j with
   | zero =>
    simp at hj; subst hj
    have:r=.bool true:=by simpa [Value.resultList] using hr.symm
    subst this
    exact okWide_bool_mk hub _
   | succ j => simp at hj
  ·intro b off hp
   have hin:MemPlace.cell b off ∈ p:=by simpa using hp
   rw [hb.frozen (hlt _ hin)]
   exact hz b off hin
  ·intro ha
   simpa using hn ha
  ·intro x hx _
   simpa using hx
section
variable {H:Type} {enc:TypeId × Value → H}
end
end Go.Proofs.YtadhjoggdbhkgaaGreatDoor.Sx
