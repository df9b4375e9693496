/- The texts that the proofs of these statements reach, in their order, as few files. -/
import Derived.Lib.IndexAny
import Derived.Shelf.Strings.IndexAnyAll
import Derived.Lib.OthersKept
import Derived.ProofKit
import Derived.OpenShut
import Derived.ShutString
import Derived.Carry
import Derived.WideKeyArgs
import Derived.SizedLaws
import Derived.Test.YtadhjoggdbhkgaaGreatDoorJo4
set_option linter.unusedVariables false
set_option linter.unusedSimpArgs false
set_option maxRecDepth 100000
namespace Go.Proofs.YtadhjoggdbhkgaaGreatDoor.Sx
open Go.RowKit
theorem zgs {k:IntKind} {r:Int} {K K':Int → Prop} (hk:∀ v,K v → K' v) (h:arK k r K):arK k r K':=by
 cases k
 all_goals first | exact hk _ h | exact ⟨h.1,hk _ h.2⟩
theorem znQ {op:BinOp} {x y:AV} {K K':AV → Prop} (hk:∀ v,K v → K' v) (h:binK op x y K):binK op x y K':=by
 unfold binK at h ⊢
 split at h
 ·refine ⟨h.1,?_⟩
  replace h:=h.2
  cases op
  all_goals first
   | exact h.elim
   | exact zgs (fun _ g => hk _ g) h
   | exact ⟨h.1,zgs (fun _ g => hk _ g) h.2⟩
   | exact ⟨h.1,hk _ h.2⟩
   | exact hk _ h
 all_goals
  revert h
  cases op
  all_goals first
   | exact fun h => h.elim
   | exact fun h => ⟨h.1,hk _ h.2⟩
   | exact fun h => hk _ h
section
variable {P:Program} [Tabs P] {C:Cx}
theorem zeh {so:SOp} {objs:List OB} {tm:List AV} {K K':List OB → AV → Prop} (hk:∀ o v,K o v → K' o v) (h:wpS P so objs tm K):wpS P so objs tm K':=by
 cases so
 all_goals simp only [wpS] at h ⊢
 all_goals try exact hk _ _ h
 all_goals try exact ⟨h.1,hk _ _ h.2⟩
 all_goals try exact znQ (fun _ g => hk _ _ g) h
 all_goals try exact h.mono hk
 all_goals try exact ⟨h.1,h.2.mono fun _ _ g => ⟨g.1,hk _ _ g.2⟩⟩
 all_goals
  revert h
  repeat' split
  all_goals first
   | exact fun h => h.elim
   | exact fun h => hk _ _ h
   | exact fun h => ⟨h.1,hk _ _ h.2⟩
   | exact fun h => zgs (fun _ g => hk _ _ g) h
   | exact fun h => ⟨fun e => hk _ _ (h.1 e),fun e => hk _ _ (h.2 e)⟩
   | exact fun ⟨v,h1,h2⟩ => ⟨v,h1,hk _ _ h2⟩
   | exact fun ⟨h0,l,h1,h2⟩ => ⟨h0,l,h1,hk _ _ h2⟩
   | exact fun h => ⟨h.1,h.2.mono hk⟩
theorem zbe:∀ {l:List SO} {objs:List OB} {tm:List AV} {K K':List OB → List AV → Prop},(∀ o t,K o t → K' o t) → wpR P l objs tm K → wpR P l objs tm K'
 | [],_,_,_,_,hk,h => hk _ _ h
 | ⟨dst,op,none⟩ :: r,_,_,_,_,hk,h => zeh (fun _ _ g => zbe hk g) h
 | ⟨dst,op,some (t,want)⟩ :: r,objs,tm,K,K',hk,h => by
  simp only [wpR] at h ⊢
  revert h
  split
  ·exact fun h => ⟨fun e => zeh (fun _ _ g => zbe hk g) (h.1 e),fun e => zbe hk (h.2 e)⟩
  ·exact fun h => zbe hk h
  ·exact fun h => h.elim
theorem zcy:∀ {l:List SO} {objs:List OB} {tm:List AV} {K K':List OB → List AV → Prop},(∀ o t,K o t → K' o t) → wpD P l objs tm K → wpD P l objs tm K'
 | [],_,_,_,_,hk,h => hk _ _ h
 | ⟨dst,op,none⟩ :: r,_,_,_,_,hk,h => by
  simp only [wpD] at h ⊢
  revert h
  split
  ·exact fun ⟨v,h1,h2⟩ => ⟨v,h1,zcy hk h2⟩
  ·exact fun h => zeh (fun _ _ g => zcy hk g) h
 | ⟨dst,op,some (t,want)⟩ :: r,objs,tm,K,K',hk,h => by
  simp only [wpD] at h ⊢
  revert h
  split
  ·refine fun h => ⟨fun e => ?_,fun e => zcy hk (h.2 e)⟩
   have h1:=h.1 e
   revert h1
   split
   ·exact fun ⟨v,h1,h2⟩ => ⟨v,h1,zcy hk h2⟩
   ·exact fun h => zeh (fun _ _ g => zcy hk g) h
  ·exact fun h => zcy hk h
  ·exact fun h => h.elim
theorem zkd {N N':List OB → List AV → Prop} {K K':zaG} (hn:∀ o t,N o t → N' o t) (hk:∀ e o t,K e o t → K' e o t):∀ e o t,zed N K e o t → zed N' K' e o t:=by
 intro e o t h
 cases e <;> first | exact hn _ _ h | exact hk _ _ _ h
theorem znP {id:Nat} {K K':zaG} (hk:∀ e o t,K e o t → K' e o t):∀ e o t,blkK id K e o t → blkK id K' e o t:=by
 intro e o t h
 cases e
 all_goals try exact hk _ _ _ h
 rename_i i
 unfold blkK at h ⊢
 simp only at h ⊢
 split at h
 ·rename_i g; rw [if_pos g]; exact hk _ _ _ h
 ·rename_i g; rw [if_neg g]; exact hk _ _ _ h
theorem ziy:∀ (st:List (List SO × SO)) (h:List (List SO × List AV × List AV)) (last:List SO) (o:List OB) (t:List AV) {K K':List OB → List AV → Prop},(∀ o t,K o t → K' o t) → wpT P st h last o t K → wpT P st h last o t K'
 | [],h,last,o,t,K,K',hk,g => zbe hk g
 | (L,c) :: st,h,last,o,t,K,K',hk,g => zbe (fun _ _ g => zbe (fun _ _ g => ⟨g.1,ziy st _ last _ _ hk g.2⟩) g) g
theorem zcY:∀ (c:SCode) {K K':zaG} {objs:List OB} {tm:List AV},(∀ e o t,K e o t → K' e o t) → wpC P C c K objs tm → wpC P C c K' objs tm
 | .skip,_,_,_,_,hk,h => hk _ _ _ h
 | .reg l,_,_,_,_,hk,h => zbe (fun _ _ g => hk _ _ _ g) h
 | .drw l k ap,_,_,_,_,hk,h => zcy (fun _ _ g => ⟨g.1,zbe (fun _ _ g => hk _ _ _ g) g.2⟩) h
 | .crg pre cl post,_,_,_,_,hk,h => zbe (fun _ _ g => zbe (fun _ _ g => ⟨g.1,zbe (fun _ _ g => hk _ _ _ g) g.2⟩) g) h
 | .crs st last,_,_,_,_,hk,h => ziy st [] last _ _ (fun _ _ g => hk _ _ _ g) h
 | .seq x y,_,_,_,_,hk,h => zcY x (zkd (fun _ _ g => zcY y hk g) hk) h
 | .cond c x y,_,_,_,_,hk,h => by
  simp only [wpC] at h ⊢
  revert h
  split
  ·exact fun h => ⟨fun e => zcY x hk (h.1 e),fun e => zcY y hk (h.2 e)⟩
  ·exact fun h => h.elim
 | .blk id c,_,_,_,_,hk,h => zcY c (znP hk) h
 | .loop c,_,_,_,_,hk,h => fun c hc => WP.mono (fun e o t g => by cases e <;> first | exact hk _ _ _ g | exact g) (h c hc)
 | .exit id,_,_,_,_,hk,h => hk _ _ _ h
 | .ret,_,_,_,_,hk,h => hk _ _ _ h
 | .dead,_,_,_,_,hk,h => h.elim
def cutF (P:Program) [Tabs P] (C:Cx) (J:List OB → List AV → Prop) (k:List IT) (F:zaG):zaG:=zed J (zcG P C F k)
variable {F:zaG} {k:List IT} {objs:List OB} {tm:List AV}
theorem zaa (J:List OB → List AV → Prop):cutF P C J k F .normal objs tm=J objs tm:=Eq.trans rfl rfl
theorem zbx (J:List OB → List AV → Prop) (id:Nat):cutF P C J k F (.exit id) objs tm=xit P C id k objs tm F:=Eq.trans rfl rfl
theorem zaw {x:SCode} (J:List OB → List AV → Prop) (h:run P C [.code x] objs tm (cutF P C J k F)) (hJ:∀ o t,J o t → run P C k o t F):run P C (.code x :: k) objs tm F :=
 zcY x (fun e o t g => by
  cases e
  ·exact hJ _ _ g
  all_goals exact g) h
theorem kC_cut {x y:SCode} {t:Bool} (J:List OB → List AV → Prop) (h1:t=true → run P C [.code x] objs tm (cutF P C J k F)) (h2:t=false → run P C [.code y] objs tm (cutF P C J k F)) (hJ:∀ o t,J o t → run P C k o t F):kC P C (.b t) x y k objs tm F :=
 ⟨fun e => zaw J (h1 e) hJ,fun e => zaw J (h2 e) hJ⟩
end
end Go.Proofs.YtadhjoggdbhkgaaGreatDoor.Sx
namespace Go.Proofs.YtadhjoggdbhkgaaGreatDoor.Sx
open Go.RowKit
section
variable {P:Program} [Tabs P] {C:Cx} {F:zaG} {k:List IT} {objs:List OB} {tm:List AV}
theorem zab {x y:SCode} (h:∀ Y,Y=y → run P C (.code x :: .code Y :: k) objs tm F):run P C (.code (.seq x y) :: k) objs tm F:=h y rfl
theorem zbN (J:List AV → Prop) (h:J tm) (hk:∀ t,J t → run P C k objs t F):run P C k objs tm F:=hk tm h
end
end Go.Proofs.YtadhjoggdbhkgaaGreatDoor.Sx
namespace Go.Proofs.YtadhjoggdbhkgaaGreatDoor
open Nat renaming reduceAdd → z6, reduceSub → z7, reduceLeDiff → z8, reduceLT → j4, reduceMul → j5, reduceEqDiff → j6
open Int renaming reduceToNat → j7, reduceAdd → j8, reduceSub → j9, reduceMul → x4, reduceNeg → x5, reduceLT → x6, reduceLE → x7, reduceEq → x8, reduceNe → x9
open Go.RowKit Sx
theorem iv {k:IntKind} {x y:Int} (h:x=y):some (AV.i k x)=some (AV.i k y):=by rw [h]
theorem zln (s:List UInt8) (i:Nat) (h:i < s.length):zaT (s.drop i)=if zaj s[i]=true then zaT (s.drop (i + 1)) + 1 else 0:=by
 rw [List.drop_eq_getElem_cons h,zaT]
theorem zlm (s:List UInt8):zaT (s.drop s.length)=0:=by rw [List.drop_length]; rfl
theorem get_some {s:List UInt8} {i:Nat} (h:i < s.length) {c:UInt8}:(s[i]? = some c) ↔ s[i]=c:=by
 rw [List.getElem?_eq_getElem h,Option.some.injEq]
theorem zbg {s:List UInt8} {i:Nat} (h:¬ i < s.length) {c:UInt8}:¬ s[i]? = some c:=by
 rw [List.getElem?_eq_none (by omega)]; simp
theorem zdt {c:UInt8} {k:Nat} (hk:k < 256):(((c.toNat:Nat):Int)=((k:Nat):Int)) ↔ c=UInt8.ofNat k:=by
 constructor
 ·intro h
  have h2:c.toNat=k:=by omega
  rw [← h2]; simp
 ·rintro rfl
  rw [UInt8.toNat_ofNat']; omega
theorem zd3 {s:List UInt8} {i:Nat} (h:i < s.length) (k:Nat) (hk:k < 256):s[i]? = some (UInt8.ofNat k) ↔ ((s[i].toNat:Nat):Int)=((k:Nat):Int):=by
 rw [get_some h]
 exact (zdt hk).symm
theorem zcc (s:List UInt8) (a i:Nat):(s.drop a)[i]? = s[a + i]?:=List.getElem?_drop
theorem zgi (s:List UInt8) (a i:Nat):(s.drop a).drop i=s.drop (a + i):=List.drop_drop
section
variable [Tabs Tryz.prog] {objs:List OB} {K:List OB → AV → Prop}
theorem zdm (s:List UInt8) (a:Nat) (ha:a ≤ s.length) (hs:s.length ≤ 9000000000000000000) (hk:K objs (.i .i64 ((a + zaT (s.drop a):Nat):Int))):zah Tryz.prog 87 [.s s,.i .i64 (a:Nat)] objs K:=by
 refine zbI is_token_digitsEnd rfl fun C _ => ?_
 simp only [c_token_digitsEnd,sxZ,z6,z7,z8,j4,j5,j6,j7,j8,j9,x4,x5,x6,x7,x8,x9,reduceCtorEq,↓reduceIte]
 refine zaV (fun n objs tm => ∃ i:Nat,i ≤ s.length ∧ n=s.length - i ∧ objs=[] ∧ a + zaT (s.drop a)=i + zaT (s.drop i) ∧ tm.length=18 ∧ tm[0]? = some (.s s) ∧ tm[1]? = some (.i .i64 i)) (s.length - a) ⟨a,ha,rfl,rfl,rfl,rfl,rfl,rfl⟩ ?_
 rintro n _ tm ⟨i,hi,rfl,rfl,hr,hlen,t0,t1⟩
 by_cases hlt:(i:Int) < s.length
 ·have hlt':i < s.length:=by omega
  have hg:=zaB hlt'
  have hrn:=zln s i hlt'
  simp only [sxZ,z6,z7,z8,j4,j5,j6,j7,j8,j9,x4,x5,x6,x7,x8,x9,reduceCtorEq,↓reduceIte,List.getElem?_set,hlen,t0,t1,hlt]
  refine ⟨by omega,?_⟩
  rw [hg]
  generalize s[i]=c at *
  refine zal (aDigit_k c ?_)
  by_cases hd:zaj c=true
  ·rw [if_pos hd] at hrn
   simp only [hd,sxZ,z6,z7,z8,j4,j5,j6,j7,j8,j9,x4,x5,x6,x7,x8,x9,reduceCtorEq,↓reduceIte,List.getElem?_set,hlen,t0,t1]
   exact ⟨⟨by omega,by omega⟩,s.length - (i + 1),by omega,i + 1,by omega,rfl,by omega,rfl⟩
  ·rw [if_neg hd] at hrn
   simp only [Bool.not_eq_true] at hd
   simp only [hd,sxZ,z6,z7,z8,j4,j5,j6,j7,j8,j9,x4,x5,x6,x7,x8,x9,reduceCtorEq,↓reduceIte,List.getElem?_set,hlen,t0,t1]
   rw [hr,hrn] at hk
   exact hk
 ·obtain rfl:i=s.length:=by omega
  simp only [sxZ,z6,z7,z8,j4,j5,j6,j7,j8,j9,x4,x5,x6,x7,x8,x9,reduceCtorEq,↓reduceIte,List.getElem?_set,hlen,t0,t1,hlt]
  rw [hr,zlm] at hk
  exact hk
end
section
variable [Tabs Tryz.prog] {objs:List OB} {K:List OB → AV → Prop}
set_option maxHeartbeats 4000000 in
theorem zh5 (s:List UInt8) (a:Nat) (ha:a ≤ s.length) (hs:s.length ≤ 9000000000000000000) (hk:K objs (.i .i64 ((a + zc8 (s.drop a):Nat):Int))):zah Tryz.prog 57 [.s s,.i .i64 (a:Nat)] objs K:=by
 refine zbI is_token_numberEnd rfl fun C _ => ?_
 rw [c_token_numberEnd]
 refine zab fun Y1 hY1 => ?_
 simp only [sxZ,z6,z7,z8,j4,j5,j6,j7,j8,j9,x4,x5,x6,x7,x8,x9,reduceCtorEq,↓reduceIte]
 subst hY1
 refine zab fun Y1 hY1 => ?_
 simp only [sxZ,z6,z7,z8,j4,j5,j6,j7,j8,j9,x4,x5,x6,x7,x8,x9,reduceCtorEq,↓reduceIte]
 subst hY1
 refine zab fun Y1 hY1 => ?_
 refine zaw (fun o t => o=[] ∧ t.length=99 ∧ t[0]? = some (.s s) ∧ t[1]? = some (.i .i64 (a:Nat)) ∧ t[5]? = some (.i .i64 ((a + zba (s.drop a):Nat):Int))) ?_ ?_
 ·unfold zba
  rw [zcc,Nat.add_zero]
  by_cases c1:(a:Int) < s.length
  ·have c1':a < s.length:=by omega
   have hg:=zaB c1'
   have h45:s[a]? = some 45 ↔ ((s[a].toNat:Nat):Int)=45:=zd3 c1' 45 (by decide)
   by_cases c2:((s[a].toNat:Nat):Int)=45
   ·rw [if_pos (h45.2 c2)]
    simp only [c1,hg,c2,zaa,sxZ,z6,z7,z8,j4,j5,j6,j7,j8,j9,x4,x5,x6,x7,x8,x9,reduceCtorEq,↓reduceIte]
    and_intros <;> first | omega | exact iv (by omega) | rfl | assumption
   ·rw [if_neg (fun h => c2 (h45.1 h))]
    simp only [c1,hg,c2,zaa,sxZ,z6,z7,z8,j4,j5,j6,j7,j8,j9,x4,x5,x6,x7,x8,x9,reduceCtorEq,↓reduceIte]
    exact ⟨by omega,rfl⟩
  ·rw [if_neg (zbg (by omega))]
   simp only [c1,zaa,sxZ,z6,z7,z8,j4,j5,j6,j7,j8,j9,x4,x5,x6,x7,x8,x9,reduceCtorEq,↓reduceIte]
   rfl
 rintro _ tm ⟨rfl,hlen,t0,t1,t5⟩
 subst hY1
 have hsg:a + zba (s.drop a) ≤ s.length:=by
  unfold zba
  split
  ·rename_i h
   have:=(List.getElem?_eq_some_iff.1 h).1
   rw [List.length_drop] at this; omega
  ·omega
 refine zab fun Y1 hY1 => ?_
 simp only [sxZ,z6,z7,z8,j4,j5,j6,j7,j8,j9,x4,x5,x6,x7,x8,x9,reduceCtorEq,↓reduceIte,List.getElem?_set,hlen,t0,t1,t5]
 refine zal (zdm s _ hsg hs ?_)
 simp only [sxZ,z6,z7,z8,j4,j5,j6,j7,j8,j9,x4,x5,x6,x7,x8,x9,reduceCtorEq,↓reduceIte,List.getElem?_set,hlen,t0,t1,t5]
 subst hY1
 refine zab fun Y1 hY1 => ?_
 unfold zc8 at hk
 rw [zgi] at hk
 have hw:zaF (s.drop a)=if s[a + zba (s.drop a)]? = some 48 then zba (s.drop a) + 1 else zba (s.drop a) + zaT (s.drop (a + zba (s.drop a))):=by unfold zaF; rw [zcc,zgi]
 have hrl:0 < zaT (s.drop (a + zba (s.drop a))) → a + zba (s.drop a) + zaT (s.drop (a + zba (s.drop a))) ≤ s.length:=zaP s _
 generalize zba (s.drop a)=g at *
 by_cases c0:zaT (s.drop (a + g))=0
 ·rw [if_pos c0] at hk
  simp only [c0,Nat.add_zero,sxZ,z6,z7,z8,j4,j5,j6,j7,j8,j9,x4,x5,x6,x7,x8,x9,reduceCtorEq,↓reduceIte,List.getElem?_set,hlen,t0,t1,t5]
  exact hk
 rw [if_neg c0] at hk
 have c0':¬ ((a + g + zaT (s.drop (a + g)):Nat):Int)=((a + g:Nat):Int):=by omega
 simp only [c0',sxZ,z6,z7,z8,j4,j5,j6,j7,j8,j9,x4,x5,x6,x7,x8,x9,reduceCtorEq,↓reduceIte,List.getElem?_set,hlen,t0,t1,t5]
 subst hY1
 refine zab fun Y1 hY1 => ?_
 refine zaw (fun o t => o=[] ∧ t.length=99 ∧ t[0]? = some (.s s) ∧ t[6]? = some (.i .i64 ((a + zaF (s.drop a):Nat):Int))) ?_ ?_
 ·have c1':a + g < s.length:=by have:=hrl (by omega); omega
  have hg:=zaB c1'
  have h48:s[a + g]? = some 48 ↔ ((s[a + g].toNat:Nat):Int)=48:=zd3 c1' 48 (by decide)
  rw [hw]
  by_cases c2:((s[a + g].toNat:Nat):Int)=48
  ·rw [if_pos (h48.2 c2)]
   simp only [hg,c2,zaa,sxZ,z6,z7,z8,j4,j5,j6,j7,j8,j9,x4,x5,x6,x7,x8,x9,reduceCtorEq,↓reduceIte,List.getElem?_set,hlen,t0,t1,t5]
   and_intros <;> first | omega | exact iv (by omega) | rfl | assumption
  ·rw [if_neg (fun h => c2 (h48.1 h))]
   simp only [hg,c2,zaa,sxZ,z6,z7,z8,j4,j5,j6,j7,j8,j9,x4,x5,x6,x7,x8,x9,reduceCtorEq,↓reduceIte,List.getElem?_set,hlen,t0,t1,t5]
   and_intros <;> first | omega | exact iv (by omega) | rfl | assumption
 rintro _ tm ⟨rfl,hlen,t0,t6⟩
 subst hY1
 refine zab fun Y1 hY1 => ?_
 have hwl:a + zaF (s.drop a) ≤ s.length:=by
  rw [hw]
  have:=hrl (by omega)
  split <;> omega
 have hf:zbY (s.drop a) (zaF (s.drop a))=if s[a + zaF (s.drop a)]? = some 46 ∧ 0 < zaT (s.drop (a + zaF (s.drop a) + 1)) then zaF (s.drop a) + 1 + zaT (s.drop (a + zaF (s.drop a) + 1)) else zaF (s.drop a):=by unfold zbY; rw [zcc,zgi,Nat.add_assoc a]
 generalize zaF (s.drop a)=w at *
 clear hw hrl
 refine zaw (fun o t => o=[] ∧ t.length=99 ∧ t[0]? = some (.s s) ∧ t[6]? = some (.i .i64 ((a + zbY (s.drop a) w:Nat):Int))) ?_ ?_
 ·rw [hf]
  by_cases c1:((a + w:Nat):Int) < s.length
  ·have c1':a + w < s.length:=by omega
   have hg:=zaB c1'
   have h46:s[a + w]? = some 46 ↔ ((s[a + w].toNat:Nat):Int)=46:=zd3 c1' 46 (by decide)
   by_cases c2:((s[a + w].toNat:Nat):Int)=46
   ·simp only [c1,hg,c2,zaa,sxZ,z6,z7,z8,j4,j5,j6,j7,j8,j9,x4,x5,x6,x7,x8,x9,reduceCtorEq,↓reduceIte,List.getElem?_set,hlen,t0,t6]
    refine ⟨by omega,⟨by omega,by omega⟩,?_⟩
    refine zal (zdm s (a + w + 1) (by omega) hs ?_)
    have hr:=zaP s (a + w + 1)
    generalize zaT (s.drop (a + w + 1))=r at *
    by_cases c3:0 < r
    ·rw [if_pos ⟨h46.2 c2,c3⟩]
     have c3':((a + w:Nat):Int) + 1 < ((a + w + 1 + r:Nat):Int):=by omega
     simp only [c3',zaa,sxZ,z6,z7,z8,j4,j5,j6,j7,j8,j9,x4,x5,x6,x7,x8,x9,reduceCtorEq,↓reduceIte,List.getElem?_set,hlen,t0,t6]
     and_intros <;> first | omega | exact iv (by omega) | rfl | assumption
    ·rw [if_neg (fun h => c3 h.2)]
     have c3':¬ ((a + w:Nat):Int) + 1 < ((a + w + 1 + r:Nat):Int):=by omega
     simp only [c3',zaa,sxZ,z6,z7,z8,j4,j5,j6,j7,j8,j9,x4,x5,x6,x7,x8,x9,reduceCtorEq,↓reduceIte,List.getElem?_set,hlen,t0,t6]
     and_intros <;> first | omega | exact iv (by omega) | rfl | assumption
   ·rw [if_neg (fun h => c2 (h46.1 h.1))]
    simp only [c1,hg,c2,zaa,sxZ,z6,z7,z8,j4,j5,j6,j7,j8,j9,x4,x5,x6,x7,x8,x9,reduceCtorEq,↓reduceIte,List.getElem?_set,hlen,t0,t6]
    and_intros <;> first | omega | exact iv (by omega) | rfl | assumption
  ·rw [if_neg (fun h => zbg (by omega) h.1)]
   simp only [c1,zaa,sxZ,z6,z7,z8,j4,j5,j6,j7,j8,j9,x4,x5,x6,x7,x8,x9,reduceCtorEq,↓reduceIte,List.getElem?_set,hlen,t0,t6]
 rintro _ tm ⟨rfl,hlen,t0,t6⟩
 subst hY1
 refine zab fun Y1 hY1 => ?_
 have hfl:a + zbY (s.drop a) w ≤ s.length:=by
  rw [hf]
  split
  ·rename_i h
   have:=zaP s (a + w + 1) h.2
   omega
  ·exact hwl
 generalize zbY (s.drop a) w=f at *
 clear hf
 have hx:zaZ (s.drop a) f=if s[a + f + 1]? = some 43 ∨ s[a + f + 1]? = some 45 then f + 2 else f + 1:=by unfold zaZ; rw [zcc,Nat.add_assoc a]
 have he:zkP (s.drop a) f=if (s[a + f]? = some 101 ∨ s[a + f]? = some 69) ∧ 0 < zaT (s.drop (a + zaZ (s.drop a) f)) then zaZ (s.drop a) f + zaT (s.drop (a + zaZ (s.drop a) f)) else f:=by unfold zkP; rw [zcc,zgi]
 refine zaw (fun o t => o=[] ∧ t.length=99 ∧ t[6]? = some (.i .i64 ((a + zkP (s.drop a) f:Nat):Int))) ?_ ?_
 ·refine zab fun Y2 hY2 => ?_
  refine zaw (fun o t => o=[] ∧ t.length=99 ∧ t[0]? = some (.s s) ∧ t[6]? = some (.i .i64 ((a + f:Nat):Int)) ∧ t[70]? = some (.b (decide (s[a + f]? = some 101 ∨ s[a + f]? = some 69)))) ?_ ?_
  ·by_cases c1:((a + f:Nat):Int) < s.length
   ·have c1':a + f < s.length:=by omega
    have hg:=zaB c1'
    have h101:s[a + f]? = some 101 ↔ ((s[a + f].toNat:Nat):Int)=101:=zd3 c1' 101 (by decide)
    have h69:s[a + f]? = some 69 ↔ ((s[a + f].toNat:Nat):Int)=69:=zd3 c1' 69 (by decide)
    by_cases c2:((s[a + f].toNat:Nat):Int)=101
    ·have hE:s[a + f]? = some 101 ∨ s[a + f]? = some 69:=.inl (h101.2 c2)
     simp only [c1,hg,c2,hE,zaa,sxZ,z6,z7,z8,j4,j5,j6,j7,j8,j9,x4,x5,x6,x7,x8,x9,reduceCtorEq,↓reduceIte,List.getElem?_set,hlen,t0,t6]
     and_intros <;> first | omega | exact iv (by omega) | rfl | assumption
    ·by_cases c3:((s[a + f].toNat:Nat):Int)=69
     ·have hE:s[a + f]? = some 101 ∨ s[a + f]? = some 69:=.inr (h69.2 c3)
      simp only [c1,hg,c2,c3,hE,zaa,sxZ,z6,z7,z8,j4,j5,j6,j7,j8,j9,x4,x5,x6,x7,x8,x9,reduceCtorEq,↓reduceIte,List.getElem?_set,hlen,t0,t6]
      and_intros <;> first | omega | exact iv (by omega) | rfl | assumption
     ·have hE:¬ (s[a + f]? = some 101 ∨ s[a + f]? = some 69):=fun h => h.elim (fun h => c2 (h101.1 h)) (fun h => c3 (h69.1 h))
      simp only [c1,hg,c2,c3,hE,zaa,sxZ,z6,z7,z8,j4,j5,j6,j7,j8,j9,x4,x5,x6,x7,x8,x9,reduceCtorEq,↓reduceIte,List.getElem?_set,hlen,t0,t6]
      and_intros <;> first | omega | exact iv (by omega) | rfl | assumption
   ·have hE:¬ (s[a + f]? = some 101 ∨ s[a + f]? = some 69):=fun h => h.elim (zbg (by omega)) (zbg (by omega))
    simp only [c1,hE,zaa,sxZ,z6,z7,z8,j4,j5,j6,j7,j8,j9,x4,x5,x6,x7,x8,x9,reduceCtorEq,↓reduceIte,List.getElem?_set,hlen,t0,t6]
  rintro _ tm ⟨rfl,hlen,t0,t6,t70⟩
  subst hY2
  simp only [sxZ,z6,z7,z8,j4,j5,j6,j7,j8,j9,x4,x5,x6,x7,x8,x9,reduceCtorEq,↓reduceIte,List.getElem?_set,hlen,t70]
  refine kC_split (fun hE => ?_) (fun hE => ?_)
  ·have hE:=of_decide_eq_true hE
   have c1':a + f < s.length:=by
    rcases hE with h | h
    all_goals exact (List.getElem?_eq_some_iff.1 h).1
   refine zab fun Y3 hY3 => ?_
   simp only [sxZ,z6,z7,z8,j4,j5,j6,j7,j8,j9,x4,x5,x6,x7,x8,x9,reduceCtorEq,↓reduceIte,List.getElem?_set,hlen,t0,t6]
   refine ⟨by omega,?_⟩
   subst hY3
   refine zab fun Y3 hY3 => ?_
   refine zaw (fun o t => o=[] ∧ t.length=99 ∧ t[0]? = some (.s s) ∧ t[6]? = some (.i .i64 ((a + f:Nat):Int)) ∧ t[8]? = some (.i .i64 ((a + zaZ (s.drop a) f:Nat):Int))) ?_ ?_
   ·rw [hx]
    by_cases d1:((a + f:Nat):Int) + 1 < s.length
    ·have d1':a + f + 1 < s.length:=by omega
     have hg:=zaB d1'
     have h43:s[a + f + 1]? = some 43 ↔ ((s[a + f + 1].toNat:Nat):Int)=43:=zd3 d1' 43 (by decide)
     have h45:s[a + f + 1]? = some 45 ↔ ((s[a + f + 1].toNat:Nat):Int)=45:=zd3 d1' 45 (by decide)
     have e1:(((a + f:Nat):Int) + 1).toNat=a + f + 1:=by omega
     by_cases c2:((s[a + f + 1].toNat:Nat):Int)=43
     ·rw [if_pos (.inl (h43.2 c2))]
      simp only [d1,e1,hg,c2,zaa,sxZ,z6,z7,z8,j4,j5,j6,j7,j8,j9,x4,x5,x6,x7,x8,x9,reduceCtorEq,↓reduceIte,List.getElem?_set,hlen,t0,t6]
      and_intros <;> first | omega | exact iv (by omega) | rfl | assumption
     ·by_cases c3:((s[a + f + 1].toNat:Nat):Int)=45
      ·rw [if_pos (.inr (h45.2 c3))]
       simp only [d1,e1,hg,c2,c3,zaa,sxZ,z6,z7,z8,j4,j5,j6,j7,j8,j9,x4,x5,x6,x7,x8,x9,reduceCtorEq,↓reduceIte,List.getElem?_set,hlen,t0,t6]
       and_intros <;> first | omega | exact iv (by omega) | rfl | assumption
      ·rw [if_neg (fun h => h.elim (fun h => c2 (h43.1 h)) (fun h => c3 (h45.1 h)))]
       simp only [d1,e1,hg,c2,c3,zaa,sxZ,z6,z7,z8,j4,j5,j6,j7,j8,j9,x4,x5,x6,x7,x8,x9,reduceCtorEq,↓reduceIte,List.getElem?_set,hlen,t0,t6]
       and_intros <;> first | omega | exact iv (by omega) | rfl | assumption
    ·rw [if_neg (fun h => h.elim (zbg (by omega)) (zbg (by omega)))]
     simp only [d1,zaa,sxZ,z6,z7,z8,j4,j5,j6,j7,j8,j9,x4,x5,x6,x7,x8,x9,reduceCtorEq,↓reduceIte,List.getElem?_set,hlen,t0,t6]
     and_intros <;> first | omega | exact iv (by omega) | rfl | assumption
   rintro _ tm ⟨rfl,hlen,t0,t6,t8⟩
   subst hY3
   have hxl:a + zaZ (s.drop a) f ≤ s.length:=by
    rw [hx]
    split
    ·rename_i h
     rcases h with h | h
     all_goals
      have:=(List.getElem?_eq_some_iff.1 h).1
      omega
    ·omega
   generalize zaZ (s.drop a) f=x at *
   simp only [sxZ,z6,z7,z8,j4,j5,j6,j7,j8,j9,x4,x5,x6,x7,x8,x9,reduceCtorEq,↓reduceIte,List.getElem?_set,hlen,t0,t6,t8]
   refine zal (zdm s _ hxl hs ?_)
   generalize zaT (s.drop (a + x))=r at *
   rw [he]
   by_cases c4:0 < r
   ·rw [if_pos ⟨hE,c4⟩]
    have c4':((a + x:Nat):Int) < ((a + x + r:Nat):Int):=by omega
    simp only [c4',zaa,sxZ,z6,z7,z8,j4,j5,j6,j7,j8,j9,x4,x5,x6,x7,x8,x9,reduceCtorEq,↓reduceIte,List.getElem?_set,hlen,t0,t6,t8]
    and_intros <;> first | omega | exact iv (by omega) | rfl | assumption
   ·rw [if_neg (fun h => c4 h.2)]
    have c4':¬ ((a + x:Nat):Int) < ((a + x + r:Nat):Int):=by omega
    simp only [c4',zaa,sxZ,z6,z7,z8,j4,j5,j6,j7,j8,j9,x4,x5,x6,x7,x8,x9,reduceCtorEq,↓reduceIte,List.getElem?_set,hlen,t0,t6,t8]
  ·have hE:=of_decide_eq_false hE
   rw [he,if_neg (fun h => hE h.1)]
   simp only [zaa,sxZ,z6,z7,z8,j4,j5,j6,j7,j8,j9,x4,x5,x6,x7,x8,x9,reduceCtorEq,↓reduceIte,List.getElem?_set,hlen,t0,t6]
 rintro _ tm ⟨rfl,hlen,t6⟩
 subst hY1
 simp only [sxZ,z6,z7,z8,j4,j5,j6,j7,j8,j9,x4,x5,x6,x7,x8,x9,reduceCtorEq,↓reduceIte,List.getElem?_set,hlen,t6]
 exact hk
end
end Go.Proofs.YtadhjoggdbhkgaaGreatDoor
namespace Go.Proofs.YtadhjoggdbhkgaaGreatDoor
open Go.RowKit Sx
theorem znT:∀ w,(zeroValue 111).run Tryz.prog w=.ok (.agg (Array.replicate 256 (.bool false))) w:=(zero_of_info (n:=256) (by kernel_rfl)).1
set_option maxHeartbeats 8000000 in
set_option maxRecDepth 1000000 in
theorem zhe (s chars:ByteArray) (w:World) (h8:8 < s.size) (hs:s.size ≤ 9000000000000000000) (h2:chars.size=2) (h0:chars.data.toList=[101,69]) :
  Calls Tryz.prog 89 #[.string s,.string chars] w fun e w' => e=.returned (.int .i64 (Lib.indexAny s.data.toList [101,69])) ∧ Qb w w':=by
 have hM:=Tryz.strings_makeASCIISet znT chars w (by omega) (fun j b hb => by
  have:∀ c ∈ chars.data.toList,c.toNat < 128:=by rw [h0]; decide
  exact this _ (List.mem_of_getElem? hb))
 rw [h0] at hM
 have hemp:chars.toList.isEmpty=false:=by rw [Lib.toList_data,h0]; rfl
 clear h0
 have hn1:((chars.size:Int) == 1)=false:=beq_eq_false_iff_ne.2 (by omega)
 have h8z:decide ((8:Int) < (s.size:Int))=true:=decide_eq_true (by omega)
 have hsc:(storeCells ⟨w.heap.size + 1,0,none⟩ (Lib.setCells [101,69]).toList 0).run Tryz.prog ((w.alloc (.cells (Lib.setCells [101,69]) 111)).alloc (.cells (Array.replicate 256 (.bool false)) 111))=.ok () ((w.alloc (.cells (Lib.setCells [101,69]) 111)).alloc (.cells (Lib.setCells [101,69]) 111)):=by
  have:=run_storeCells_new (P:=Tryz.prog) (w.alloc (.cells (Lib.setCells [101,69]) 111)) 111 (Array.replicate 256 (.bool false)) (Lib.setCells [101,69]) (by rw [Lib.setCells_size]; kernel_rfl) (by rw [Lib.setCells_size,Array.size_replicate]) (Lib.setCells_one _)
  simpa using this
 have hsz:=Lib.setCells_size [101,69]
 have HC:Hid (∀ x:UInt8,((w.alloc (.cells (Lib.setCells [101,69]) 111)).alloc (.cells (Lib.setCells [101,69]) 111)).cell? ⟨w.heap.size + 1,x.toNat,none⟩=some (.bool (([101,69]:List UInt8).contains x))):=Lib.hid (fun x => by
  rw [World.cell?_alloc_at _ _ _ _ (by simp),Lib.setCells_at])
 go_enter Tryz.func89,Tryz.ntmps89
 go_wp2_with fail
 refine (Tryz.strings_shouldUseASCIISet _ _).mono ?_
 rintro e w1 ⟨rfl,rfl⟩
 rw [h8z]
 go_wp2_with fail
 refine hM.mono ?_
 rintro e w2 ⟨rfl,rfl⟩
 go_wp2_with fail
 have hz:Tryz.zeroCells111=Array.replicate 256 (.bool false):=by kernel_rfl
 rw [hz,hsc]
 simp only [Result.andThen]
 rw [Oper.upon_skip]
 clear hM hsc hz
 go_wp2_with fail
 go_loopg [8] s.size (fun g s8 wx => ∃ i:Nat,i + g=s.size ∧ s8=.int .i64 i ∧ wx=((w1.alloc (.cells (Lib.setCells [101,69]) 111)).alloc (.cells (Lib.setCells [101,69]) 111)) ∧ Hid (Lib.NoAny s.data.toList [101,69] i))
 case atStart => exact ⟨0,by omega,rfl,rfl,Lib.hid (Lib.NoAny.zero _ _)⟩
 case round =>
  obtain ⟨i,hig,rfl,rfl,HN⟩:=hrel
  have hq:Qb w1 ((w1.alloc (.cells (Lib.setCells [101,69]) 111)).alloc (.cells (Lib.setCells [101,69]) 111)):=((Qb.refl _).alloc _).alloc _
  cases gk with
  | zero =>
   obtain rfl:i=s.size:=by omega
   have hiz:¬ ((s.size:Int) < (s.size:Int)):=by omega
   go_wp2_with fail
   go_ret
   exact ⟨by rw [Lib.indexAny_none (by rw [← Lib.size_eq]; exact HN.out)]; rfl,hq⟩
  | succ g =>
   have hi:i < s.size:=by omega
   have hiz:(i:Int) < (s.size:Int):=by omega
   obtain ⟨x,hx⟩:∃ x:UInt8,s[i]'hi=x:=⟨_,rfl⟩
   have Hx:Hid (s.data.toList[i]? = some x):=Lib.hid (by rw [← hx]; exact Lib.data_getElem? s i hi)
   have hcx:=HC.out x
   cases hin:([101,69]:List UInt8).contains x <;> rw [hin] at hcx
   ·go_wp2_with fail
    refine (Tryz.asciiSet_contains _ x _ _ hcx).mono ?_
    rintro e w' ⟨rfl,hw⟩
    rw [hw]
    go_wp2_with fail
    go_roundg g
    case measure => omega
    case rel => exact ⟨i + 1,by omega,by first | rfl | simp,rfl,Lib.hid (HN.out.succ Hx.out hin)⟩
   ·go_wp2_with fail
    refine (Tryz.asciiSet_contains _ x _ _ hcx).mono ?_
    rintro e w' ⟨rfl,hw⟩
    rw [hw]
    go_wp2_with fail
    go_ret
    exact ⟨by rw [Lib.indexAny_hit HN.out Hx.out hin]; rfl,hq⟩
theorem zkg [Tabs Tryz.prog] {objs:List OB} {K:List OB → AV → Prop} (s:List UInt8) (hs:s.length ≤ 9000000000000000000) (ha:∀ c ∈ s,c.toNat < 128) (hk:K objs (.i .i64 (Lib.indexAny s [101,69]))):zah Tryz.prog 89 [.s s,.s [101,69]] objs K :=
 conv (vs:=[.string (S s),.string (S [101,69])]) rfl rfl (fun w => by
  by_cases h8:8 < s.length
  ·exact zhe (S s) (S [101,69]) w (by rw [zb1]; exact h8) (by rw [zb1]; exact hs) (by decide) rfl
  ·refine (Tryz.strings_IndexAny_laid (S s) (S [101,69]) w (by rw [zb1]; omega) (by decide) (fun j b hb => ha b (List.mem_of_getElem? hb)) (fun j b hb => ?_)).mono fun e w' ⟨h1,h2⟩ => ⟨h1,h2⟩
   have:∀ c ∈ (S [101,69]).data.toList,c.toNat < 128:=by decide
   exact this _ (List.mem_of_getElem? hb)) hk
end Go.Proofs.YtadhjoggdbhkgaaGreatDoor
namespace Go.Proofs.YtadhjoggdbhkgaaGreatDoor
open Nat renaming reduceAdd → z6, reduceSub → z7, reduceLeDiff → z8, reduceLT → j4, reduceMul → j5, reduceEqDiff → j6
open Int renaming reduceToNat → j7, reduceAdd → j8, reduceSub → j9, reduceMul → x4, reduceNeg → x5, reduceLT → x6, reduceLE → x7, reduceEq → x8, reduceNe → x9
open Go.RowKit Sx
theorem zfx (cs v:List UInt8):∀ u:List UInt8,(∀ c ∈ u,cs.contains c=false) → Lib.indexAny (u ++ v) cs=if Lib.indexAny v cs=-1 then -1 else u.length + Lib.indexAny v cs
 | [],_ => by
  rw [List.nil_append]
  split
  ·rename_i h; exact h
  ·simp
 | c :: u,h => by
  rw [List.cons_append,Lib.indexAny,if_neg (by rw [h c (by simp)]; simp),zfx cs v u (fun x hx => h x (by simp [hx]))]
  by_cases hv:Lib.indexAny v cs=-1
  ·rw [if_pos hv,if_pos hv]; rfl
  ·have:=Lib.indexAny_ge cs v
   rw [if_neg hv,if_neg hv,if_neg (by rw [beq_iff_eq]; omega),List.length_cons]
   omega
theorem zbD {c:UInt8} (h:zaj c=true):c.toNat < 128 ∧ ([101,69]:List UInt8).contains c=false ∧ c ≠ 46:=by
 have:=zgj h
 refine ⟨by omega,?_,?_⟩
 ·have h1:c ≠ 101:=fun e => by subst e; exact absurd this (by decide)
  have h2:c ≠ 69:=fun e => by subst e; exact absurd this (by decide)
  simp [h1,h2]
 ·rintro rfl; exact absurd this (by decide)
def NumS.body (p:NumS):List UInt8:=p.int ++ (frT p.fr ++ exT p.ex)
theorem zih {f:List UInt8} (hf:f.all zaj=true):∀ c ∈ frT f,c.toNat < 128 ∧ ([101,69]:List UInt8).contains c=false:=by
 intro c hc
 cases f with
 | nil => cases hc
 | cons a t =>
  have hc:c=46 ∨ c ∈ a :: t:=by simpa [frT] using hc
  rcases hc with rfl | hc
  ·exact ⟨by decide,by decide⟩
  ·have:=zbD (List.all_eq_true.1 hf c hc)
   exact ⟨this.1,this.2.1⟩
theorem zkI {p:NumS} (hp:p.Good):∀ c ∈ p.body,c.toNat < 128:=by
 intro c hc
 unfold NumS.body at hc
 rcases List.mem_append.1 hc with h | h
 ·exact (zbD (List.all_eq_true.1 hp.i1 c h)).1
 rcases List.mem_append.1 h with h | h
 ·exact (zih hp.f1 c h).1
 cases he:p.ex with
 | none => rw [he] at h; cases h
 | some e =>
  obtain ⟨k,s,d⟩:=e
  obtain ⟨h1,h2,h3,h4⟩:=hp.e1 k s d he
  rw [he] at h
  have h:c=k ∨ c ∈ s ∨ c ∈ d:=by simpa [exT] using h
  rcases h with rfl | h | h
  ·rcases h1 with rfl | rfl <;> decide
  ·rcases h2 with rfl | rfl | rfl
   ·cases h
   ·simp only [List.mem_singleton] at h; subst h; decide
   ·simp only [List.mem_singleton] at h; subst h; decide
  ·exact (zbD (List.all_eq_true.1 h4 c h)).1
theorem body_idx {p:NumS} (hp:p.Good):Lib.indexAny p.body [101,69]=match p.ex with | none => -1 | some _ => ((p.int ++ frT p.fr).length:Int):=by
 have hno:∀ c ∈ p.int ++ frT p.fr,([101,69]:List UInt8).contains c=false:=by
  intro c hc
  rcases List.mem_append.1 hc with h | h
  ·exact (zbD (List.all_eq_true.1 hp.i1 c h)).2.1
  ·exact (zih hp.f1 c h).2
 unfold NumS.body
 rw [← List.append_assoc,zfx _ _ _ hno]
 cases he:p.ex with
 | none => rw [if_pos (by rfl)]
 | some e =>
  obtain ⟨k,s,d⟩:=e
  obtain ⟨h1,_,_,_⟩:=hp.e1 k s d he
  have h0:Lib.indexAny (exT (some (k,s,d))) [101,69]=0:=by
   unfold exT
   rw [Lib.indexAny,if_pos]
   rcases h1 with rfl | rfl <;> decide
  rw [h0,if_neg (by decide)]
  simp
theorem za1 (c x:UInt8) (t:List UInt8):Lib.trimPrefix (x :: t) [c]=(if x=c then t else x :: t) ∧ Lib.hasPrefix (x :: t) [c]=decide (x=c):=by
 have h:Lib.hasPrefix (x :: t) [c]=decide (x=c):=by
  rw [pre_take]
  by_cases h:x=c
  ·subst h; simp
  ·rw [decide_eq_false h]; simp [h]
 refine ⟨?_,h⟩
 unfold Lib.trimPrefix
 rw [h]
 by_cases hx:x=c
 ·subst hx; simp
 ·simp [hx]
theorem zlg {p:NumS} (hp:p.Good) {k:UInt8} {s d:List UInt8} (he:p.ex=some (k,s,d)):Lib.trimPrefix (Lib.trimPrefix (s ++ d) [45]) [43]=d ∧ Lib.hasPrefix (s ++ d) [45]=decide (s=[45]):=by
 obtain ⟨_,h2,h3,h4⟩:=hp.e1 k s d he
 obtain ⟨c,t,e1,e2⟩:=zbC h3 h4
 have n45:c ≠ 45:=zbd e2 rfl
 have n43:c ≠ 43:=zbd e2 rfl
 rcases h2 with rfl | rfl | rfl
 ·rw [List.nil_append,e1,(za1 45 c t).1,if_neg n45,(za1 43 c t).1,if_neg n43,(za1 45 c t).2]
  exact ⟨rfl,by simp [n45]⟩
 ·rw [show [43] ++ d=43 :: d from rfl,(za1 45 43 d).1,if_neg (by decide),(za1 43 43 d).1,if_pos rfl,(za1 45 43 d).2]
  exact ⟨rfl,by decide⟩
 ·rw [show [45] ++ d=45 :: d from rfl,(za1 45 45 d).1,if_pos rfl,(za1 45 45 d).2,e1,(za1 43 c t).1,if_neg n43]
  exact ⟨rfl,by decide⟩
theorem zhp {p:NumS} (hp:p.Good):ze7 46 (p.int ++ frT p.fr)=(p.int,p.fr,!p.fr.isEmpty):=by
 have key:∀ (u v:List UInt8),(∀ c ∈ u,c ≠ 46) → ze7 46 (u ++ v)=(u ++ (ze7 46 v).1,(ze7 46 v).2.1,(ze7 46 v).2.2):=by
  intro u v
  induction u with
  | nil => intro _; rfl
  | cons c u ih =>
   intro h
   rw [List.cons_append,ze0,if_neg (h c (by simp)),ih (fun x hx => h x (by simp [hx]))]
   rfl
 rw [key _ _ (fun c hc => (zbD (List.all_eq_true.1 hp.i1 c hc)).2.2)]
 cases hf:p.fr with
 | nil => simp [frT,ze7]
 | cons a t => simp [frT,ze0]
section
variable [Tabs Tryz.prog] {objs:List OB} {K:List OB → AV → Prop}
theorem zgp (p:NumS) (hp:p.Good) (hs:p.body.length ≤ 140737488351232) (hk:K objs (.tup [.s (p.int ++ frT p.fr),.i .i64 (zdM 1099511627776 p.ex)])):zah Tryz.prog 59 [.s p.body] objs K:=by
 refine zbI is_token_cutExponent rfl fun C _ => ?_
 simp only [c_token_cutExponent,sxZ,z6,z7,z8,j4,j5,j6,j7,j8,j9,x4,x5,x6,x7,x8,x9,reduceCtorEq,↓reduceIte]
 refine zal (zkg _ (by omega) (zkI hp) ?_)
 have hi:=body_idx hp
 cases he:p.ex with
 | none =>
  rw [he] at hi hk
  rw [hi]
  simp only [sxZ,z6,z7,z8,j4,j5,j6,j7,j8,j9,x4,x5,x6,x7,x8,x9,reduceCtorEq,↓reduceIte]
  have:p.body=p.int ++ frT p.fr:=by unfold NumS.body; rw [he]; simp [exT]
  rw [this]
  exact hk
 | some e =>
  obtain ⟨k,s,d⟩:=e
  rw [he] at hi hk
  simp only at hi
  rw [hi]
  obtain ⟨g1,g2,g3,g4⟩:=hp.e1 k s d he
  have hb:p.body=(p.int ++ frT p.fr) ++ k :: (s ++ d):=by unfold NumS.body; rw [he]; simp [exT]
  have hst:=zlg hp he
  rw [hb] at hs ⊢
  generalize p.int ++ frT p.fr=u at *
  have n0:¬ ((u.length:Nat):Int) < 0:=by omega
  have e1:(((u.length:Nat):Int) + 1).toNat=u.length + 1:=by omega
  have e2:(u ++ k :: (s ++ d)).drop (u.length + 1)=s ++ d:=by rw [← List.drop_drop,List.drop_left]; rfl
  have e3:(u ++ k :: (s ++ d)).take u.length=u:=List.take_left
  have e4:(u ++ k :: (s ++ d)).length=u.length + (s.length + d.length + 1):=by simp
  generalize u ++ k :: (s ++ d)=W at *
  simp only [n0,e1,e2,sxZ,z6,z7,z8,j4,j5,j6,j7,j8,j9,x4,x5,x6,x7,x8,x9,reduceCtorEq,↓reduceIte]
  (and_intros <;> try omega)
  refine zal (zd8 _ _ ?_)
  simp only [sxZ,z6,z7,z8,j4,j5,j6,j7,j8,j9,x4,x5,x6,x7,x8,x9,reduceCtorEq,↓reduceIte]
  refine zal (zfU _ _ ?_)
  simp only [hst.1,hst.2,sxZ,z6,z7,z8,j4,j5,j6,j7,j8,j9,x4,x5,x6,x7,x8,x9,reduceCtorEq,↓reduceIte]
  refine zal (nParse_k d 1099511627776 (by rw [zco]; omega) (by decide) ?_)
  have hnum:=zkt 1099511627776 g3 g4
  simp only [zdM] at hk
  by_cases c1:zgz d 0 ≤ 1099511627776
  ·have hw:IntKind.i64.wrap ((zgz d 0:Nat):Int)=zgz d 0:=by rw [IntKind.wrap_i64]; omega
   rw [Nat.min_eq_left c1] at hk
   rw [if_pos c1] at hnum
   by_cases c2:s=[45]
   ·rw [if_pos c2] at hk
    simp only [hnum,hw,c2,e3,sxZ,z6,z7,z8,j4,j5,j6,j7,j8,j9,x4,x5,x6,x7,x8,x9,reduceCtorEq,↓reduceIte]
    refine ⟨by omega,by omega,?_⟩
    rw [Int.zero_sub]
    exact hk
   ·rw [if_neg c2] at hk
    simp only [hnum,hw,c2,e3,sxZ,z6,z7,z8,j4,j5,j6,j7,j8,j9,x4,x5,x6,x7,x8,x9,reduceCtorEq,↓reduceIte]
    exact ⟨by omega,hk⟩
  ·rw [Nat.min_eq_right (by omega)] at hk
   rw [if_neg c1] at hnum
   by_cases c2:s=[45]
   ·rw [if_pos c2] at hk
    simp only [hnum,c2,e3,sxZ,z6,z7,z8,j4,j5,j6,j7,j8,j9,x4,x5,x6,x7,x8,x9,reduceCtorEq,↓reduceIte]
    refine ⟨by omega,?_⟩
    exact hk
   ·rw [if_neg c2] at hk
    simp only [hnum,c2,e3,sxZ,z6,z7,z8,j4,j5,j6,j7,j8,j9,x4,x5,x6,x7,x8,x9,reduceCtorEq,↓reduceIte]
    exact ⟨by omega,hk⟩
set_option maxHeartbeats 4000000 in
theorem number_k [Pow Tryz.prog] (s:List UInt8) (hs:s.length ≤ 140737488351232) (h1:(s=[] ∨ zc8 s ≠ s.length) → K objs (.tup [.s [],.i .i64 130]))
  (h2:∀ p:NumS,p.Good → s=p.txt → K objs (.tup [.s (zfH 1099511627776 p).2,.i .i64 (zfH 1099511627776 p).1])):zah Tryz.prog 41 [.s s] objs K:=by
 refine zbI is_token_Number rfl fun C _ => ?_
 have hmx:=zco
 by_cases c0:s=[]
 ·have h1:=h1 (.inl c0)
  simp only [c0,c_token_Number,sxZ,z6,z7,z8,j4,j5,j6,j7,j8,j9,x4,x5,x6,x7,x8,x9,reduceCtorEq,↓reduceIte]
  exact h1
 rw [c_token_Number]
 refine zab fun Y1 hY1 => ?_
 simp only [sxZ,z6,z7,z8,j4,j5,j6,j7,j8,j9,x4,x5,x6,x7,x8,x9,reduceCtorEq,↓reduceIte]
 subst hY1
 refine zab fun Y1 hY1 => ?_
 simp only [c0,sxZ,z6,z7,z8,j4,j5,j6,j7,j8,j9,x4,x5,x6,x7,x8,x9,reduceCtorEq,↓reduceIte]
 refine zal (zh5 s 0 (Nat.zero_le _) (by omega) ?_)
 rw [List.drop_zero,Nat.zero_add]
 by_cases c1:zc8 s=s.length
 case neg =>
  have c1':¬ ((zc8 s:Nat):Int)=s.length:=by omega
  simp only [c1',sxZ,z6,z7,z8,j4,j5,j6,j7,j8,j9,x4,x5,x6,x7,x8,x9,reduceCtorEq,↓reduceIte]
  exact h1 (.inr c1)
 clear h1
 obtain ⟨p,hp,rfl⟩:=zeQ c0 c1
 have h2:=h2 p hp rfl
 simp only [c1,sxZ,z6,z7,z8,j4,j5,j6,j7,j8,j9,x4,x5,x6,x7,x8,x9,reduceCtorEq,↓reduceIte]
 subst hY1
 refine zab fun Y1 hY1 => ?_
 simp only [sxZ,z6,z7,z8,j4,j5,j6,j7,j8,j9,x4,x5,x6,x7,x8,x9,reduceCtorEq,↓reduceIte]
 refine zal (zd8 _ _ ?_)
 have hcp:Lib.trimPrefix p.txt [45]=p.body ∧ Lib.hasPrefix p.txt [45]=p.neg:=by
  obtain ⟨c,t,e1,e2⟩:=zbC hp.i0 hp.i1
  have n45:c ≠ 45:=zbd e2 rfl
  unfold NumS.txt NumS.body
  cases p.neg with
  | true =>
   have:=za1 45 45 (p.int ++ (frT p.fr ++ exT p.ex))
   rw [if_pos rfl] at this
   exact ⟨this.1,this.2⟩
  | false =>
   have:=za1 45 c (t ++ (frT p.fr ++ exT p.ex))
   rw [if_neg n45,decide_eq_false n45] at this
   rw [e1]
   exact this
 have hbl:p.body.length ≤ p.txt.length:=by unfold NumS.txt NumS.body; simp
 simp only [hcp.1,hcp.2,sxZ,z6,z7,z8,j4,j5,j6,j7,j8,j9,x4,x5,x6,x7,x8,x9,reduceCtorEq,↓reduceIte]
 subst hY1
 refine zab fun Y1 hY1 => ?_
 simp only [sxZ,z6,z7,z8,j4,j5,j6,j7,j8,j9,x4,x5,x6,x7,x8,x9,reduceCtorEq,↓reduceIte]
 refine zal (zgp p hp (by omega) ?_)
 simp only [sxZ,z6,z7,z8,j4,j5,j6,j7,j8,j9,x4,x5,x6,x7,x8,x9,reduceCtorEq,↓reduceIte]
 subst hY1
 refine zab fun Y1 hY1 => ?_
 simp only [sxZ,z6,z7,z8,j4,j5,j6,j7,j8,j9,x4,x5,x6,x7,x8,x9,reduceCtorEq,↓reduceIte]
 have hml:(p.int ++ frT p.fr).length ≤ p.txt.length:=by unfold NumS.txt; simp; omega
 refine zal (sCut_k _ 46 (by omega) ?_)
 rw [zhp hp]
 simp only [sxZ,z6,z7,z8,j4,j5,j6,j7,j8,j9,x4,x5,x6,x7,x8,x9,reduceCtorEq,↓reduceIte]
 subst hY1
 refine zab fun Y1 hY1 => ?_
 simp only [sxZ,z6,z7,z8,j4,j5,j6,j7,j8,j9,x4,x5,x6,x7,x8,x9,reduceCtorEq,↓reduceIte]
 have htl:=zhJ p
 refine ⟨by omega,?_⟩
 refine zal (zhQ _ 48 (by decide) ?_)
 have hzl:Lib.trimLeftB (p.int ++ p.fr) 48=zbs p:=rfl
 have hml2:=zen p
 have hzr:=ziu (zbs p)
 have hei:=zne 1099511627776 p.ex
 rw [hzl]
 unfold zfH at h2
 unfold zfy at h2
 simp only [sxZ,z6,z7,z8,j4,j5,j6,j7,j8,j9,x4,x5,x6,x7,x8,x9,reduceCtorEq,↓reduceIte]
 subst hY1
 refine zab fun Y1 hY1 => ?_
 by_cases c2:zbs p=[]
 ·rw [if_pos c2] at h2
  simp only [c2,sxZ,z6,z7,z8,j4,j5,j6,j7,j8,j9,x4,x5,x6,x7,x8,x9,reduceCtorEq,↓reduceIte]
  exact h2
 rw [if_neg c2] at h2
 generalize zdM 1099511627776 p.ex=E at *
 simp only [c2,sxZ,z6,z7,z8,j4,j5,j6,j7,j8,j9,x4,x5,x6,x7,x8,x9,reduceCtorEq,↓reduceIte]
 subst hY1
 refine zab fun Y1 hY1 => ?_
 simp only [sxZ,z6,z7,z8,j4,j5,j6,j7,j8,j9,x4,x5,x6,x7,x8,x9,reduceCtorEq,↓reduceIte]
 refine zal (zgO _ 48 (by decide) (by omega) ?_)
 have hzr2:Lib.trimRightB (zbs p) 48=zR (zbs p):=rfl
 rw [hzr2]
 simp only [sxZ,z6,z7,z8,j4,j5,j6,j7,j8,j9,x4,x5,x6,x7,x8,x9,reduceCtorEq,↓reduceIte]
 subst hY1
 refine zab fun Y1 hY1 => ?_
 simp only [sxZ,z6,z7,z8,j4,j5,j6,j7,j8,j9,x4,x5,x6,x7,x8,x9,reduceCtorEq,↓reduceIte]
 (and_intros <;> try omega)
 subst hY1
 refine zab fun Y1 hY1 => ?_
 generalize E - (p.fr.length:Int) + (((zbs p).length:Int) - ((zR (zbs p)).length:Int))=x at *
 generalize zR (zbs p)=m at *
 by_cases d1:(40:Int) < m.length
 ·rw [if_pos (.inl (by omega))] at h2
  simp only [d1,sxZ,z6,z7,z8,j4,j5,j6,j7,j8,j9,x4,x5,x6,x7,x8,x9,reduceCtorEq,↓reduceIte]
  exact h2
 by_cases d2:x < -400
 ·rw [if_pos (.inr (.inl d2))] at h2
  simp only [d1,d2,sxZ,z6,z7,z8,j4,j5,j6,j7,j8,j9,x4,x5,x6,x7,x8,x9,reduceCtorEq,↓reduceIte]
  exact h2
 by_cases d3:400 < x
 ·rw [if_pos (.inr (.inr d3))] at h2
  simp only [d1,d2,d3,sxZ,z6,z7,z8,j4,j5,j6,j7,j8,j9,x4,x5,x6,x7,x8,x9,reduceCtorEq,↓reduceIte]
  exact h2
 rw [if_neg (by omega)] at h2
 simp only [d1,d2,d3,sxZ,z6,z7,z8,j4,j5,j6,j7,j8,j9,x4,x5,x6,x7,x8,x9,reduceCtorEq,↓reduceIte]
 subst hY1
 refine zab fun Y1 hY1 => ?_
 have hit:=Lib.itoa_length_le x (by omega) (by omega)
 unfold expS sgT at h2
 cases hn:p.neg with
 | true =>
  rw [hn] at h2
  simp only [sxZ,z6,z7,z8,j4,j5,j6,j7,j8,j9,x4,x5,x6,x7,x8,x9,reduceCtorEq,↓reduceIte]
  (and_intros <;> try omega)
  subst hY1
  by_cases d4:x=0
  ·subst d4
   simp only [sxZ,z6,z7,z8,j4,j5,j6,j7,j8,j9,x4,x5,x6,x7,x8,x9,reduceCtorEq,↓reduceIte]
   simpa using h2
  ·rw [if_neg d4] at h2
   simp only [d4,sxZ,z6,z7,z8,j4,j5,j6,j7,j8,j9,x4,x5,x6,x7,x8,x9,reduceCtorEq,↓reduceIte]
   refine zal (zeS x (by omega) (by omega) ?_)
   simp only [sxZ,z6,z7,z8,j4,j5,j6,j7,j8,j9,x4,x5,x6,x7,x8,x9,reduceCtorEq,↓reduceIte]
   (and_intros <;> try omega)
   simpa using h2
 | false =>
  rw [hn] at h2
  simp only [sxZ,z6,z7,z8,j4,j5,j6,j7,j8,j9,x4,x5,x6,x7,x8,x9,reduceCtorEq,↓reduceIte]
  subst hY1
  by_cases d4:x=0
  ·subst d4
   simp only [sxZ,z6,z7,z8,j4,j5,j6,j7,j8,j9,x4,x5,x6,x7,x8,x9,reduceCtorEq,↓reduceIte]
   simpa using h2
  ·rw [if_neg d4] at h2
   simp only [d4,sxZ,z6,z7,z8,j4,j5,j6,j7,j8,j9,x4,x5,x6,x7,x8,x9,reduceCtorEq,↓reduceIte]
   refine zal (zeS x (by omega) (by omega) ?_)
   simp only [sxZ,z6,z7,z8,j4,j5,j6,j7,j8,j9,x4,x5,x6,x7,x8,x9,reduceCtorEq,↓reduceIte]
   (and_intros <;> try omega)
   simpa using h2
end
end Go.Proofs.YtadhjoggdbhkgaaGreatDoor
namespace Go.Proofs.YtadhjoggdbhkgaaGreatDoor
open Go.RowKit
end Go.Proofs.YtadhjoggdbhkgaaGreatDoor
namespace Go.Proofs.YtadhjoggdbhkgaaGreatDoor
open Nat renaming reduceAdd → z6, reduceSub → z7, reduceLeDiff → z8, reduceLT → j4, reduceMul → j5, reduceEqDiff → j6
open Int renaming reduceToNat → j7, reduceAdd → j8, reduceSub → j9, reduceMul → x4, reduceNeg → x5, reduceLT → x6, reduceLE → x7, reduceEq → x8, reduceNe → x9
open Go.RowKit Sx
theorem znM (a b:List UInt8):byA (a ++ b)=byA a ++ byA b:=by simp [byA]
theorem zm7:∀ k:Fin 16,([48,49,50,51,52,53,54,55,56,57,97,98,99,100,101,102]:List UInt8).getD k.val 0=hexS k.val:=by decide +kernel
theorem u8_16:∀ n:Fin 256,((n.val:Nat):Int).fdiv (2 ^ min 4 IntKind.u8.bits)=((n.val / 16:Nat):Int) ∧ IntKind.u8.wrap ((BitVec.ofInt IntKind.u8.bits ((n.val:Nat):Int) &&& BitVec.ofInt IntKind.u8.bits 15).toNat:Int)=((n.val % 16:Nat):Int):=by decide +kernel
theorem quoB_hex {c:UInt8} (h1:c ≠ 34) (h2:c ≠ 92) (h3:c ≠ 8) (h4:c ≠ 12) (h5:c ≠ 10) (h6:c ≠ 13) (h7:c ≠ 9):zlZ c=if c.toNat < 32 then [92,117,48,48,hexS (c.toNat / 16),hexS (c.toNat % 16)] else [c]:=by
 unfold zlZ
 rw [if_neg (by rintro (h | h); exact h1 h; exact h2 h),if_neg h3,if_neg h4,if_neg h5,if_neg h6,if_neg h7]
theorem zi2 (l:List UInt8):(l.flatMap zlZ).length ≤ 6 * l.length:=by
 induction l with
 | nil => simp
 | cons c t ih =>
  have:(zlZ c).length ≤ 6:=by
   unfold zlZ
   repeat' split
   all_goals simp
  rw [List.flatMap_cons,List.length_append,List.length_cons]; omega
def quoP (s:List UInt8) (i:Nat):List UInt8:=34 :: (s.take i).flatMap zlZ
theorem quoP_len (s:List UInt8) (i:Nat):(quoP s i).length ≤ 6 * s.length + 1:=by
 have h:=zi2 (s.take i)
 rw [List.length_take] at h
 unfold quoP
 rw [List.length_cons]; omega
theorem zlY (s:List UInt8) (i:Nat) (h:i < s.length):quoP s i ++ zlZ s[i]=quoP s (i + 1):=by
 unfold quoP
 rw [List.take_add_one,List.getElem?_eq_getElem h,List.flatMap_append]
 simp
theorem quoP_end (s:List UInt8):byA (quoP s s.length) ++ [.i .u8 34]=byA (zkO s):=by
 unfold quoP zkO
 rw [List.take_length,← List.cons_append,znM]; rfl
def zhW (s:List UInt8):Int × List UInt8:=if 1048576 < s.length then (5,[]) else if zaA s=false then (7,[]) else (0,zkO s)
theorem zcg {l:List UInt8} {n:Nat} (h:zch l=some n):6 ≤ l.length ∧ n ≤ 65535:=by
 unfold zch at h
 split at h
 ·cases h
 ·rename_i g
  split at h
  ·injection h with h
   have:=zi9 zbH 16 65535 ((l.drop 2).take 4)
   constructor
   ·apply Classical.byContradiction
    intro h1
    exact g (.inl (by omega))
   ·omega
  ·cases h
section
variable [Tabs Tryz.prog] {objs:List OB} {K:List OB → AV → Prop}
set_option maxHeartbeats 4000000 in
theorem zfa (c:UInt8) (g:Nat) (l:List UInt8) (more:List OB) (hl:l.length ≤ 100000000000000) (hk:∀ g',K (.orow 5 1 g' (l ++ zlZ c).length (byA (l ++ zlZ c)) :: more) (.orow 0 g')) :
  zah Tryz.prog 76 [.orow 0 g,.i .u8 c.toNat] (.orow 5 1 g l.length (byA l) :: more) K:=by
 refine zcq is_token_appendQuoted fun C _ => ?_
 have hfin:∀ (q:List UInt8) (x:List AV) (g' n:Nat),zlZ c=q → x=byA l ++ byA q → n=l.length + q.length → K (.orow 5 1 g' n x :: more) (.orow 0 g'):=by
  rintro q x g' n rfl rfl rfl
  have:=hk g'
  rw [List.length_append,znM] at this
  exact this
 have e:=fun k (hk:k < 256) => zdt (c:=c) (k:=k) hk
 by_cases c1:((c.toNat:Nat):Int)=34
 ·have hc:=(e 34 (by decide)).1 c1
  simp only [c1,c_token_appendQuoted,sxZ,z6,z7,z8,j4,j5,j6,j7,j8,j9,x4,x5,x6,x7,x8,x9,reduceCtorEq,↓reduceIte]
  exact ⟨by omega,hfin [92,34] _ _ _ (by rw [hc]; rfl) rfl rfl⟩
 by_cases c2:((c.toNat:Nat):Int)=92
 ·have hc:=(e 92 (by decide)).1 c2
  simp only [c2,c_token_appendQuoted,sxZ,z6,z7,z8,j4,j5,j6,j7,j8,j9,x4,x5,x6,x7,x8,x9,reduceCtorEq,↓reduceIte]
  exact ⟨by omega,hfin [92,92] _ _ _ (by rw [hc]; rfl) rfl rfl⟩
 by_cases c3:((c.toNat:Nat):Int)=8
 ·have hc:=(e 8 (by decide)).1 c3
  simp only [c3,c_token_appendQuoted,sxZ,z6,z7,z8,j4,j5,j6,j7,j8,j9,x4,x5,x6,x7,x8,x9,reduceCtorEq,↓reduceIte]
  exact ⟨by omega,hfin [92,98] _ _ _ (by rw [hc]; rfl) rfl rfl⟩
 by_cases c4:((c.toNat:Nat):Int)=12
 ·have hc:=(e 12 (by decide)).1 c4
  simp only [c4,c_token_appendQuoted,sxZ,z6,z7,z8,j4,j5,j6,j7,j8,j9,x4,x5,x6,x7,x8,x9,reduceCtorEq,↓reduceIte]
  exact ⟨by omega,hfin [92,102] _ _ _ (by rw [hc]; rfl) rfl rfl⟩
 by_cases c5:((c.toNat:Nat):Int)=10
 ·have hc:=(e 10 (by decide)).1 c5
  simp only [c5,c_token_appendQuoted,sxZ,z6,z7,z8,j4,j5,j6,j7,j8,j9,x4,x5,x6,x7,x8,x9,reduceCtorEq,↓reduceIte]
  exact ⟨by omega,hfin [92,110] _ _ _ (by rw [hc]; rfl) rfl rfl⟩
 by_cases c6:((c.toNat:Nat):Int)=13
 ·have hc:=(e 13 (by decide)).1 c6
  simp only [c6,c_token_appendQuoted,sxZ,z6,z7,z8,j4,j5,j6,j7,j8,j9,x4,x5,x6,x7,x8,x9,reduceCtorEq,↓reduceIte]
  exact ⟨by omega,hfin [92,114] _ _ _ (by rw [hc]; rfl) rfl rfl⟩
 by_cases c7:((c.toNat:Nat):Int)=9
 ·have hc:=(e 9 (by decide)).1 c7
  simp only [c7,c_token_appendQuoted,sxZ,z6,z7,z8,j4,j5,j6,j7,j8,j9,x4,x5,x6,x7,x8,x9,reduceCtorEq,↓reduceIte]
  exact ⟨by omega,hfin [92,116] _ _ _ (by rw [hc]; rfl) rfl rfl⟩
 have hq:=quoB_hex (c:=c) (fun h => c1 ((e 34 (by decide)).2 h)) (fun h => c2 ((e 92 (by decide)).2 h)) (fun h => c3 ((e 8 (by decide)).2 h)) (fun h => c4 ((e 12 (by decide)).2 h)) (fun h => c5 ((e 10 (by decide)).2 h)) (fun h => c6 ((e 13 (by decide)).2 h)) (fun h => c7 ((e 9 (by decide)).2 h))
 by_cases c8:((c.toNat:Nat):Int) < 32
 ·rw [if_pos (by omega)] at hq
  simp only [c1,c2,c3,c4,c5,c6,c7,c8,c_token_appendQuoted,sxZ,z6,z7,z8,j4,j5,j6,j7,j8,j9,x4,x5,x6,x7,x8,x9,reduceCtorEq,↓reduceIte]
  obtain ⟨w1,w2⟩:=u8_16 ⟨c.toNat,c.toNat_lt⟩
  simp only at w1 w2
  rw [w1,w2,Int.toNat_natCast,Int.toNat_natCast,zm7 ⟨c.toNat / 16,by omega⟩,zm7 ⟨c.toNat % 16,by omega⟩]
  refine ⟨by omega,by omega,by omega,by omega,hfin _ _ _ _ hq ?_ rfl⟩
  rw [List.append_assoc]; rfl
 ·rw [if_neg (by omega)] at hq
  simp only [c1,c2,c3,c4,c5,c6,c7,c8,c_token_appendQuoted,sxZ,z6,z7,z8,j4,j5,j6,j7,j8,j9,x4,x5,x6,x7,x8,x9,reduceCtorEq,↓reduceIte]
  exact ⟨by omega,hfin [c] _ _ _ hq rfl rfl⟩
theorem quote_k [Utf Tryz.prog] (s:List UInt8) (hs:s.length ≤ 140737488351232) (hk:K objs (.tup [.s (zhW s).2,.i .i64 (zhW s).1])):zah Tryz.prog 53 [.s s] objs K:=by
 refine zbI is_token_Quote rfl fun C _ => ?_
 unfold zhW at hk
 by_cases c0:(1048576:Int) < s.length
 ·rw [if_pos (by omega)] at hk
  simp only [c0,c_token_Quote,sxZ,z6,z7,z8,j4,j5,j6,j7,j8,j9,x4,x5,x6,x7,x8,x9,reduceCtorEq,↓reduceIte]
  exact hk
 have c0':s.length ≤ 1048576:=by omega
 rw [if_neg (by omega)] at hk
 simp only [c0,c_token_Quote,sxZ,z6,z7,z8,j4,j5,j6,j7,j8,j9,x4,x5,x6,x7,x8,x9,reduceCtorEq,↓reduceIte]
 refine zal (zfR s hs ?_)
 by_cases c1:zaA s=true
 ·rw [if_neg (by rw [c1]; simp)] at hk
  simp only [c1,sxZ,z6,z7,z8,j4,j5,j6,j7,j8,j9,x4,x5,x6,x7,x8,x9,reduceCtorEq,↓reduceIte]
  (and_intros <;> try omega)
  refine zaV (fun n objs tm => ∃ (i g:Nat),i ≤ s.length ∧ n=s.length - i ∧ objs=[.orow 5 1 g (quoP s i).length (byA (quoP s i))] ∧ tm.length=34 ∧ tm[0]? = some (.s s) ∧ tm[4]? = some (.orow 0 g) ∧ tm[20]? = some (.i .i64 s.length) ∧ tm[21]? = some (.i .i64 i)) s.length ⟨0,1,Nat.zero_le _,rfl,rfl,rfl,rfl,rfl,rfl,rfl⟩ ?_
  rintro n _ tm ⟨i,g,hi,rfl,rfl,hlen,t0,t4,t20,t21⟩
  have hql:=quoP_len s i
  by_cases hlt:(i:Int) < s.length
  ·have hlt':i < s.length:=by omega
   have hg:=zaB hlt'
   simp only [sxZ,z6,z7,z8,j4,j5,j6,j7,j8,j9,x4,x5,x6,x7,x8,x9,reduceCtorEq,↓reduceIte,List.getElem?_set,hlen,t0,t4,t20,t21,hlt]
   refine ⟨by omega,?_⟩
   rw [hg]
   refine zal (zfa s[i] g _ _ (by omega) fun g' => ?_)
   rw [zlY s i hlt']
   simp only [sxZ,z6,z7,z8,j4,j5,j6,j7,j8,j9,x4,x5,x6,x7,x8,x9,reduceCtorEq,↓reduceIte,List.getElem?_set,hlen,t0,t4,t20,t21]
   exact ⟨by omega,s.length - (i + 1),by omega,i + 1,g',by omega,rfl,rfl,rfl,rfl⟩
  ·obtain rfl:i=s.length:=by omega
   simp only [sxZ,z6,z7,z8,j4,j5,j6,j7,j8,j9,x4,x5,x6,x7,x8,x9,reduceCtorEq,↓reduceIte,List.getElem?_set,hlen,t0,t4,t20,t21,hlt]
   refine ⟨by omega,⟨rfl,rfl⟩,zkO s,quoP_end s,?_⟩
   simp only [sxZ,z6,z7,z8,j4,j5,j6,j7,j8,j9,x4,x5,x6,x7,x8,x9,reduceCtorEq,↓reduceIte,List.getElem?_set,hlen,t0,t4,t20,t21]
   exact hk
 ·rw [if_pos (by simpa using c1)] at hk
  simp only [c1,sxZ,z6,z7,z8,j4,j5,j6,j7,j8,j9,x4,x5,x6,x7,x8,x9,reduceCtorEq,↓reduceIte]
  exact hk
end
end Go.Proofs.YtadhjoggdbhkgaaGreatDoor
namespace Go.Proofs.YtadhjoggdbhkgaaGreatDoor
open Go.RowKit Sx
theorem znF {s:List UInt8} {i:Nat} (h:i < s.length):zbZ s i=match zbK (s.drop i) with | none => (0,0,7) | some (r,n) => ((r:Int),((i + n:Nat):Int),0):=by
 unfold zbZ
 rw [if_neg (by omega),Int.toNat_natCast]
 cases zbK (s.drop i) <;> simp
theorem zeB (s:List UInt8) (i m:Nat):(s.take (i + m)).drop i=(s.drop i).take m:=by
 rw [List.drop_take,show i + m - i=m by omega]
def zc9 (n:Nat) (r:List UInt8):Nat × Nat :=
 if 55296 ≤ n ∧ n < 56320 then (match zch r with
  | some m => if 56320 ≤ m ∧ m ≤ 57343 then (65536 + (n - 55296) * 1024 + (m - 56320),12) else (n,6)
  | none => (n,6)) else (n,6)
theorem zjD {l:List UInt8} {n:Nat} (h0:(l[1]?).bind zcK=none) (h:zch l=some n):zcU l=if cpB ((zc9 n (l.drop 6)).1:Int)=true then (0,zdq (zc9 n (l.drop 6)).1,(zc9 n (l.drop 6)).2) else (7,[],0):=by
 have hn:=(zcg h).2
 have hcp:∀ k:Nat,cpB (k:Int)=decide (k ≤ 1114111 ∧ (k < 55296 ∨ 57343 < k)):=by
  intro k
  unfold cpB
  by_cases h1:k ≤ 1114111 ∧ (k < 55296 ∨ 57343 < k)
  ·rw [decide_eq_true (by omega),decide_eq_true h1]
  ·rw [decide_eq_false (by omega),decide_eq_false h1]
 have hE:zcU l=(if n < 55296 ∨ 57343 < n then ((0:Int),zdq n,6)
   else if 56319 < n then (7,[],0)
   else match zch (l.drop 6) with
    | none => (7,[],0)
    | some m => if m < 56320 ∨ 57343 < m then (7,[],0) else (0,zdq (65536 + (n - 55296) * 1024 + (m - 56320)),12)):=by
  unfold zcU
  rw [h0,h]
  rfl
 rw [hE]
 by_cases c1:n < 55296 ∨ 57343 < n
 ·have hU:zc9 n (l.drop 6)=(n,6):=by unfold zc9; rw [if_neg (show ¬ (55296 ≤ n ∧ n < 56320) by omega)]
  rw [if_pos c1,hU,hcp,if_pos (decide_eq_true (by omega))]
 ·by_cases c2:56319 < n
  ·have hU:zc9 n (l.drop 6)=(n,6):=by unfold zc9; rw [if_neg (show ¬ (55296 ≤ n ∧ n < 56320) by omega)]
   rw [if_neg c1,if_pos c2,hU,hcp,if_neg (by rw [decide_eq_true_eq]; omega)]
  ·rw [if_neg c1,if_neg c2]
   cases hu:zch (l.drop 6) with
   | none =>
    have hU:zc9 n (l.drop 6)=(n,6):=by unfold zc9; rw [if_pos (show 55296 ≤ n ∧ n < 56320 by omega),hu]
    rw [hU,hcp,if_neg (by rw [decide_eq_true_eq]; omega)]
   | some m =>
    by_cases c3:m < 56320 ∨ 57343 < m
    ·have hU:zc9 n (l.drop 6)=(n,6):=by
      unfold zc9; rw [if_pos (show 55296 ≤ n ∧ n < 56320 by omega),hu]
      simp only
      rw [if_neg (show ¬ (56320 ≤ m ∧ m ≤ 57343) by omega)]
     simp only
     rw [if_pos c3,hU,hcp,if_neg (by rw [decide_eq_true_eq]; omega)]
    ·have hU:zc9 n (l.drop 6)=(65536 + (n - 55296) * 1024 + (m - 56320),12):=by
      unfold zc9; rw [if_pos (show 55296 ≤ n ∧ n < 56320 by omega),hu]
      simp only
      rw [if_pos (show 56320 ≤ m ∧ m ≤ 57343 by omega)]
     simp only
     rw [if_neg c3,hU,hcp,if_pos (decide_eq_true (by omega))]
theorem escU_ge (n:Nat) (r:List UInt8):6 ≤ (zc9 n r).2:=by
 unfold zc9
 repeat' split
 all_goals first | exact Nat.le_refl _ | (show 6 ≤ 12; omega)
theorem escU_len {l:List UInt8} {n:Nat} (h:zch l=some n):(zc9 n (l.drop 6)).2 ≤ l.length ∧ (zc9 n (l.drop 6)).1 ≤ 1114111:=by
 have h1:=zcg h
 unfold zc9
 split
 ·cases hu:zch (l.drop 6) with
  | none => simp only; omega
  | some m =>
   have h2:=zcg hu
   rw [List.length_drop] at h2
   simp only
   split
   ·simp only; omega
   ·simp only; omega
 ·simp only; omega
theorem zgf {l x:List UInt8} {n:Nat} (h:zcU l=(0,x,n)):x.length ≤ n ∧ 1 ≤ n ∧ n ≤ l.length:=by
 cases hse:(l[1]?).bind zcK with
 | some d =>
  have he:zcU l=(0,[d],2):=by unfold zcU; rw [hse]
  rw [he] at h
  injection h with _ h; injection h with h1 h2
  subst h1 h2
  obtain ⟨c,h2,_⟩:=Option.bind_eq_some_iff.1 hse
  have:=(List.getElem?_eq_some_iff.1 h2).1
  exact ⟨by simp,by omega,by omega⟩
 | none =>
  cases hu:zch l with
  | none =>
   have he:zcU l=(130,[],0):=by unfold zcU; rw [hse,hu]
   rw [he] at h
   injection h with h _; cases h
  | some k =>
   have he:=zjD hse hu
   have h3:=escU_len hu
   have h4:=escU_ge k (l.drop 6)
   have h5:=encU_len (r:=(zc9 k (l.drop 6)).1)
   rw [h] at he
   split at he
   ·injection he with _ he; injection he with h1 h2
    subst h1 h2
    omega
   ·injection he with he _; cases he
section
variable [Tabs Tryz.prog] [Utf Tryz.prog] {objs:List OB} {K:List OB → AV → Prop}
end
end Go.Proofs.YtadhjoggdbhkgaaGreatDoor
namespace Go.Proofs.YtadhjoggdbhkgaaGreatDoor
open Go.RowKit Sx
def zaQ (s:List UInt8) (a:Int):(Int × List UInt8 × Int) × Int × Int :=
 if a < 0 ∨ (s.length:Int) < a then ((0,[],0),0,4)
 else if (zaU (s.drop (a.toNat + za8 (s.drop a.toNat)))).1 ≠ 0 then ((0,[],0),0,(zaU (s.drop (a.toNat + za8 (s.drop a.toNat)))).1)
 else (((zaU (s.drop (a.toNat + za8 (s.drop a.toNat)))).2.1,(zaU (s.drop (a.toNat + za8 (s.drop a.toNat)))).2.2.1,((a.toNat + za8 (s.drop a.toNat):Nat):Int)),((a.toNat + za8 (s.drop a.toNat) + (zaU (s.drop (a.toNat + za8 (s.drop a.toNat)))).2.2.2:Nat):Int),0)
def zmp (r:(Int × List UInt8 × Int) × Int × Int):AV:=.tup [.agg [.i .i64 r.1.1,.s r.1.2.1,.i .i64 r.1.2.2],.i .i64 r.2.1,.i .i64 r.2.2]
theorem word_at (s:List UInt8) (i:Nat) (h:i < s.length):zbF (s.drop i)=if zdZ s[i]=true then zbF (s.drop (i + 1)) + 1 else 0:=by
 rw [List.drop_eq_getElem_cons h,zbF]
theorem white_at (s:List UInt8) (i:Nat) (h:i < s.length):za8 (s.drop i)=if zcB s[i]=true then za8 (s.drop (i + 1)) + 1 else 0:=by
 rw [List.drop_eq_getElem_cons h,za8]
theorem zei:∀ l:List UInt8,zbF l ≤ l.length
 | [] => Nat.le_refl _
 | c :: t => by
  have:=zei t
  unfold zbF
  split <;> simp only [List.length_cons] <;> omega
theorem zds:∀ l:List UInt8,za8 l ≤ l.length
 | [] => Nat.le_refl _
 | c :: t => by
  have:=zds t
  unfold za8
  split <;> simp only [List.length_cons] <;> omega
section
variable [Tabs Tryz.prog] [Utf Tryz.prog] {objs:List OB} {K:List OB → AV → Prop}
end
end Go.Proofs.YtadhjoggdbhkgaaGreatDoor
namespace Go.Proofs.YtadhjoggdbhkgaaGreatDoor
open Nat renaming reduceAdd → z6, reduceSub → z7, reduceLeDiff → z8, reduceLT → j4, reduceMul → j5, reduceEqDiff → j6
open Int renaming reduceToNat → j7, reduceAdd → j8, reduceSub → j9, reduceMul → x4, reduceNeg → x5, reduceLT → x6, reduceLE → x7, reduceEq → x8, reduceNe → x9
open Go.RowKit Sx
theorem rn_condH {P:Program} [Tabs P] {C:Cx} {F:zaG} {k:List IT} {objs:List OB} {tm:List AV} {c:SV} {x y:SCode} (h:∀ X,X=x → run P C (.code (.cond c X y) :: k) objs tm F):run P C (.code (.cond c x y) :: k) objs tm F:=h x rfl
section
variable [Tabs Tryz.prog] {objs:List OB} {K:List OB → AV → Prop}
theorem rwhite_k (c:UInt8) (hk:K objs (.b (zcB c))):zah Tryz.prog 71 [.i .u8 c.toNat] objs K:=by
 refine zbI is_ref13_white rfl fun C _ => ?_
 simp only [c_ref13_white,sxZ,z6,z7,z8,j4,j5,j6,j7,j8,j9,x4,x5,x6,x7,x8,x9,reduceCtorEq,↓reduceIte]
 refine zal (zgY c _ (by decide) ?_)
 simp only [sxZ,z6,z7,z8,j4,j5,j6,j7,j8,j9,x4,x5,x6,x7,x8,x9,reduceCtorEq,↓reduceIte]
 exact hk
theorem zhT (s:List UInt8) (a:Nat) (hk:K objs (.s (s.drop a))):zah Tryz.prog 68 [.s s,.i .i64 (a:Nat)] objs K:=by
 refine zbI is_ref13_tail rfl fun C _ => ?_
 by_cases c0:(s.length:Int) ≤ a
 ·rw [List.drop_of_length_le (by omega)] at hk
  simp only [c0,c_ref13_tail,sxZ,z6,z7,z8,j4,j5,j6,j7,j8,j9,x4,x5,x6,x7,x8,x9,reduceCtorEq,↓reduceIte]
  exact hk
 ·simp only [c0,c_ref13_tail,sxZ,z6,z7,z8,j4,j5,j6,j7,j8,j9,x4,x5,x6,x7,x8,x9,reduceCtorEq,↓reduceIte]
  exact ⟨by omega,hk⟩
theorem zlp (s:List UInt8) (hs:s.length ≤ 9000000000000000000) (hk:K objs (.i .i64 (zaT s:Nat))):zah Tryz.prog 102 [.s s] objs K:=by
 refine zbI is_ref13_run rfl fun C _ => ?_
 simp only [c_ref13_run,sxZ,z6,z7,z8,j4,j5,j6,j7,j8,j9,x4,x5,x6,x7,x8,x9,reduceCtorEq,↓reduceIte]
 refine zaV (fun n objs tm => ∃ i:Nat,i ≤ s.length ∧ n=s.length - i ∧ objs=[] ∧ zaT s=i + zaT (s.drop i) ∧ tm.length=17 ∧ tm[0]? = some (.s s) ∧ tm[3]? = some (.i .i64 i)) s.length ⟨0,Nat.zero_le _,rfl,rfl,by simp,rfl,rfl,rfl⟩ ?_
 rintro n _ tm ⟨i,hi,rfl,rfl,hr,hlen,t0,t3⟩
 by_cases hlt:(i:Int) < s.length
 ·have hlt':i < s.length:=by omega
  have hg:=zaB hlt'
  have hrn:=zln s i hlt'
  simp only [sxZ,z6,z7,z8,j4,j5,j6,j7,j8,j9,x4,x5,x6,x7,x8,x9,reduceCtorEq,↓reduceIte,List.getElem?_set,hlen,t0,t3,hlt]
  refine ⟨by omega,?_⟩
  rw [hg]
  refine zal (zeK s[i] ?_)
  by_cases hd:zaj s[i]=true
  ·rw [if_pos hd] at hrn
   simp only [hd,sxZ,z6,z7,z8,j4,j5,j6,j7,j8,j9,x4,x5,x6,x7,x8,x9,reduceCtorEq,↓reduceIte,List.getElem?_set,hlen,t0,t3]
   exact ⟨⟨by omega,by omega⟩,s.length - (i + 1),by omega,i + 1,by omega,rfl,by omega,rfl⟩
  ·rw [if_neg hd] at hrn
   simp only [Bool.not_eq_true] at hd
   simp only [hd,sxZ,z6,z7,z8,j4,j5,j6,j7,j8,j9,x4,x5,x6,x7,x8,x9,reduceCtorEq,↓reduceIte,List.getElem?_set,hlen,t0,t3]
   rw [hr,hrn] at hk
   exact hk
 ·obtain rfl:i=s.length:=by omega
  simp only [sxZ,z6,z7,z8,j4,j5,j6,j7,j8,j9,x4,x5,x6,x7,x8,x9,reduceCtorEq,↓reduceIte,List.getElem?_set,hlen,t0,t3,hlt]
  rw [hr,zlm] at hk
  exact hk
set_option maxHeartbeats 4000000 in
theorem zfl (s:List UInt8) (hs:s.length ≤ 140737488351232) (hk:K objs (.i .i64 (zc8 s:Nat))):zah Tryz.prog 65 [.s s] objs K:=by
 refine zbI is_ref13_numeral rfl fun C _ => ?_
 have hmx:=zco
 rw [c_ref13_numeral]
 refine zab fun Y1 hY1 => ?_
 simp only [sxZ,z6,z7,z8,j4,j5,j6,j7,j8,j9,x4,x5,x6,x7,x8,x9,reduceCtorEq,↓reduceIte]
 subst hY1
 refine zab fun Y1 hY1 => ?_
 simp only [sxZ,z6,z7,z8,j4,j5,j6,j7,j8,j9,x4,x5,x6,x7,x8,x9,reduceCtorEq,↓reduceIte]
 subst hY1
 refine zab fun Y1 hY1 => ?_
 refine zaw (fun o t => o=[] ∧ t.length=99 ∧ t[0]? = some (.s s) ∧ t[3]? = some (.i .i64 (zba s:Nat))) ?_ ?_
 ·unfold zba
  by_cases c1:(0:Int) < s.length
  ·have c1':0 < s.length:=by omega
   have hg:=zaB c1'
   have h45:s[0]? = some 45 ↔ ((s[0].toNat:Nat):Int)=45:=zd3 c1' 45 (by decide)
   by_cases c2:((s[0].toNat:Nat):Int)=45
   ·rw [if_pos (h45.2 c2)]
    simp only [c1,hg,c2,zaa,sxZ,z6,z7,z8,j4,j5,j6,j7,j8,j9,x4,x5,x6,x7,x8,x9,reduceCtorEq,↓reduceIte]
    rfl
   ·rw [if_neg (fun h => c2 (h45.1 h))]
    simp only [c1,hg,c2,zaa,sxZ,z6,z7,z8,j4,j5,j6,j7,j8,j9,x4,x5,x6,x7,x8,x9,reduceCtorEq,↓reduceIte]
    rfl
  ·rw [if_neg (zbg (by omega))]
   simp only [c1,zaa,sxZ,z6,z7,z8,j4,j5,j6,j7,j8,j9,x4,x5,x6,x7,x8,x9,reduceCtorEq,↓reduceIte]
   rfl
 rintro _ tm ⟨rfl,hlen,t0,t3⟩
 subst hY1
 have hsg:zba s ≤ s.length:=by
  unfold zba
  split
  ·rename_i h
   have:=(List.getElem?_eq_some_iff.1 h).1
   omega
  ·omega
 refine zab fun Y1 hY1 => ?_
 unfold zc8 at hk
 have hw:zaF s=if s[zba s]? = some 48 then zba s + 1 else zba s + zaT (s.drop (zba s)):=rfl
 have hrl:0 < zaT (s.drop (zba s)) → zba s + zaT (s.drop (zba s)) ≤ s.length:=zaP s _
 generalize zba s=g at *
 by_cases c0:(g:Int)=s.length
 ·have hr0:zaT (s.drop g)=0:=by rw [List.drop_of_length_le (by omega)]; rfl
  rw [if_pos hr0] at hk
  simp only [c0,sxZ,z6,z7,z8,j4,j5,j6,j7,j8,j9,x4,x5,x6,x7,x8,x9,reduceCtorEq,↓reduceIte,List.getElem?_set,hlen,t0,t3]
  exact hk
 have c1':g < s.length:=by omega
 have hg:=zaB c1'
 have hrun:=zln s g c1'
 simp only [c0,hg,sxZ,z6,z7,z8,j4,j5,j6,j7,j8,j9,x4,x5,x6,x7,x8,x9,reduceCtorEq,↓reduceIte,List.getElem?_set,hlen,t0,t3]
 refine ⟨by omega,?_⟩
 refine zal (zeK s[g] ?_)
 by_cases c2:zaj s[g]=true
 case neg =>
  rw [if_neg c2] at hrun
  rw [if_pos hrun] at hk
  simp only [Bool.not_eq_true] at c2
  simp only [c2,sxZ,z6,z7,z8,j4,j5,j6,j7,j8,j9,x4,x5,x6,x7,x8,x9,reduceCtorEq,↓reduceIte,List.getElem?_set,hlen,t0,t3]
  exact hk
 rw [if_pos c2] at hrun
 rw [if_neg (by omega)] at hk
 simp only [c2,sxZ,z6,z7,z8,j4,j5,j6,j7,j8,j9,x4,x5,x6,x7,x8,x9,reduceCtorEq,↓reduceIte,List.getElem?_set,hlen,t0,t3]
 subst hY1
 refine zab fun Y1 hY1 => ?_
 refine zaw (fun o t => o=[] ∧ t.length=99 ∧ t[0]? = some (.s s) ∧ t[3]? = some (.i .i64 (zaF s:Nat))) ?_ ?_
 ·have h48:s[g]? = some 48 ↔ ((s[g].toNat:Nat):Int)=48:=zd3 c1' 48 (by decide)
  rw [hw]
  by_cases c3:((s[g].toNat:Nat):Int)=48
  ·rw [if_pos (h48.2 c3)]
   simp only [hg,c3,zaa,sxZ,z6,z7,z8,j4,j5,j6,j7,j8,j9,x4,x5,x6,x7,x8,x9,reduceCtorEq,↓reduceIte,List.getElem?_set,hlen,t0,t3]
   and_intros <;> first | omega | exact iv (by omega) | rfl | assumption
  ·rw [if_neg (fun h => c3 (h48.1 h))]
   simp only [hg,c3,zaa,sxZ,z6,z7,z8,j4,j5,j6,j7,j8,j9,x4,x5,x6,x7,x8,x9,reduceCtorEq,↓reduceIte,List.getElem?_set,hlen,t0,t3]
   refine ⟨by omega,by omega,?_⟩
   refine zal (zlp _ (by rw [List.length_drop]; omega) ?_)
   have:=hrl (by omega)
   simp only [zaa,sxZ,z6,z7,z8,j4,j5,j6,j7,j8,j9,x4,x5,x6,x7,x8,x9,reduceCtorEq,↓reduceIte,List.getElem?_set,hlen,t0,t3]
   and_intros <;> first | omega | exact iv (by omega) | rfl | assumption
 rintro _ tm ⟨rfl,hlen,t0,t3⟩
 subst hY1
 refine zab fun Y1 hY1 => ?_
 have hwl:zaF s ≤ s.length:=by
  rw [hw]
  have:=hrl (by omega)
  split <;> omega
 have hf:zbY s (zaF s)=if s[zaF s]? = some 46 ∧ 0 < zaT (s.drop (zaF s + 1)) then zaF s + 1 + zaT (s.drop (zaF s + 1)) else zaF s:=rfl
 generalize zaF s=w at *
 clear hw hrl hrun hg c2 c0 c1'
 refine zaw (fun o t => o=[] ∧ t.length=99 ∧ t[0]? = some (.s s) ∧ t[3]? = some (.i .i64 (zbY s w:Nat))) ?_ ?_
 ·rw [hf]
  simp only [sxZ,z6,z7,z8,j4,j5,j6,j7,j8,j9,x4,x5,x6,x7,x8,x9,reduceCtorEq,↓reduceIte,List.getElem?_set,hlen,t0,t3]
  refine ⟨by omega,?_⟩
  refine zal (zhT s (w + 1) ?_)
  simp only [sxZ,z6,z7,z8,j4,j5,j6,j7,j8,j9,x4,x5,x6,x7,x8,x9,reduceCtorEq,↓reduceIte,List.getElem?_set,hlen,t0,t3]
  refine zal (zlp _ (by rw [List.length_drop]; omega) ?_)
  have hr:=zaP s (w + 1)
  generalize zaT (s.drop (w + 1))=r at *
  by_cases c1:(w:Int) < s.length
  ·have c1':w < s.length:=by omega
   have hg:=zaB c1'
   have h46:s[w]? = some 46 ↔ ((s[w].toNat:Nat):Int)=46:=zd3 c1' 46 (by decide)
   by_cases c2:((s[w].toNat:Nat):Int)=46
   ·by_cases c3:0 < r
    ·rw [if_pos ⟨h46.2 c2,c3⟩]
     have c3':(0:Int) < r:=by omega
     simp only [c1,hg,c2,c3',zaa,sxZ,z6,z7,z8,j4,j5,j6,j7,j8,j9,x4,x5,x6,x7,x8,x9,reduceCtorEq,↓reduceIte,List.getElem?_set,hlen,t0,t3]
     and_intros <;> first | omega | exact iv (by omega) | rfl | assumption
    ·rw [if_neg (fun h => c3 h.2)]
     have c3':¬ (0:Int) < r:=by omega
     simp only [c1,hg,c2,c3',zaa,sxZ,z6,z7,z8,j4,j5,j6,j7,j8,j9,x4,x5,x6,x7,x8,x9,reduceCtorEq,↓reduceIte,List.getElem?_set,hlen,t0,t3]
     and_intros <;> first | omega | exact iv (by omega) | rfl | assumption
   ·rw [if_neg (fun h => c2 (h46.1 h.1))]
    simp only [c1,hg,c2,zaa,sxZ,z6,z7,z8,j4,j5,j6,j7,j8,j9,x4,x5,x6,x7,x8,x9,reduceCtorEq,↓reduceIte,List.getElem?_set,hlen,t0,t3]
    and_intros <;> first | omega | exact iv (by omega) | rfl | assumption
  ·rw [if_neg (fun h => zbg (by omega) h.1)]
   simp only [c1,zaa,sxZ,z6,z7,z8,j4,j5,j6,j7,j8,j9,x4,x5,x6,x7,x8,x9,reduceCtorEq,↓reduceIte,List.getElem?_set,hlen,t0,t3]
 rintro _ tm ⟨rfl,hlen,t0,t3⟩
 subst hY1
 refine zab fun Y1 hY1 => ?_
 have hfl:zbY s w ≤ s.length:=by
  rw [hf]
  split
  ·rename_i h
   have:=zaP s (w + 1) h.2
   omega
  ·exact hwl
 generalize zbY s w=f at *
 clear hf
 have hx:zaZ s f=if s[f + 1]? = some 43 ∨ s[f + 1]? = some 45 then f + 2 else f + 1:=rfl
 have he:zkP s f=if (s[f]? = some 101 ∨ s[f]? = some 69) ∧ 0 < zaT (s.drop (zaZ s f)) then zaZ s f + zaT (s.drop (zaZ s f)) else f:=rfl
 have in2:∀ (i:Nat) (hi:i < s.length) (x y:UInt8),zcw s[i] [x,y]=decide (s[i]? = some x ∨ s[i]? = some y):=by
  intro i hi x y
  rw [List.getElem?_eq_getElem hi]
  simp [zcw,eq_comm]
 refine zaw (fun o t => o=[] ∧ t.length=99 ∧ t[3]? = some (.i .i64 (zkP s f:Nat))) ?_ ?_
 ·refine zab fun Y2 hY2 => ?_
  refine zaw (fun o t => o=[] ∧ t.length=99 ∧ t[0]? = some (.s s) ∧ t[3]? = some (.i .i64 (f:Nat)) ∧ t[74]? = some (.b (decide (s[f]? = some 101 ∨ s[f]? = some 69)))) ?_ ?_
  ·by_cases c1:(f:Int) < s.length
   ·have c1':f < s.length:=by omega
    have hg:=zaB c1'
    simp only [c1,hg,sxZ,z6,z7,z8,j4,j5,j6,j7,j8,j9,x4,x5,x6,x7,x8,x9,reduceCtorEq,↓reduceIte,List.getElem?_set,hlen,t0,t3]
    refine ⟨by omega,?_⟩
    refine zal (zgY _ _ (by decide) ?_)
    rw [in2 f c1']
    generalize decide (s[f]? = some 101 ∨ s[f]? = some 69)=E
    simp only [zaa,sxZ,z6,z7,z8,j4,j5,j6,j7,j8,j9,x4,x5,x6,x7,x8,x9,reduceCtorEq,↓reduceIte,List.getElem?_set,hlen,t0,t3]
   ·have hE:¬ (s[f]? = some 101 ∨ s[f]? = some 69):=fun h => h.elim (zbg (by omega)) (zbg (by omega))
    simp only [c1,hE,zaa,sxZ,z6,z7,z8,j4,j5,j6,j7,j8,j9,x4,x5,x6,x7,x8,x9,reduceCtorEq,↓reduceIte,List.getElem?_set,hlen,t0,t3]
  rintro _ tm ⟨rfl,hlen,t0,t3,t74⟩
  subst hY2
  refine rn_condH fun X hX => ?_
  by_cases hE:s[f]? = some 101 ∨ s[f]? = some 69
  case neg =>
   rw [he,if_neg (fun h => hE h.1)]
   simp only [hE,zaa,sxZ,z6,z7,z8,j4,j5,j6,j7,j8,j9,x4,x5,x6,x7,x8,x9,reduceCtorEq,↓reduceIte,List.getElem?_set,hlen,t0,t3,t74]
  have c1':f < s.length:=by
   rcases hE with h | h
   all_goals exact (List.getElem?_eq_some_iff.1 h).1
  simp only [hE,sxZ,z6,z7,z8,j4,j5,j6,j7,j8,j9,x4,x5,x6,x7,x8,x9,reduceCtorEq,↓reduceIte,List.getElem?_set,hlen,t0,t3,t74]
  subst hX
  refine zab fun Y2 hY2 => ?_
  refine zaw (fun o t => o=[] ∧ t.length=99 ∧ t[0]? = some (.s s) ∧ t[3]? = some (.i .i64 (f:Nat)) ∧ t[5]? = some (.i .i64 ((f:Int) + 1))) ?_ ?_
  ·simp only [zaa,sxZ,z6,z7,z8,j4,j5,j6,j7,j8,j9,x4,x5,x6,x7,x8,x9,reduceCtorEq,↓reduceIte,List.getElem?_set,hlen,t0,t3]
   and_intros <;> first | omega | exact iv (by omega) | rfl | assumption
  rintro _ tm ⟨rfl,hlen,t0,t3,t5⟩
  subst hY2
  refine zab fun Y2 hY2 => ?_
  refine zaw (fun o t => o=[] ∧ t.length=99 ∧ t[0]? = some (.s s) ∧ t[3]? = some (.i .i64 (f:Nat)) ∧ t[5]? = some (.i .i64 (zaZ s f:Nat))) ?_ ?_
  ·rw [hx]
   by_cases d1:(f:Int) + 1 < s.length
   ·have d1':f + 1 < s.length:=by omega
    have hg2:=zaB d1'
    have e1:((f:Int) + 1).toNat=f + 1:=by omega
    simp only [d1,e1,hg2,sxZ,z6,z7,z8,j4,j5,j6,j7,j8,j9,x4,x5,x6,x7,x8,x9,reduceCtorEq,↓reduceIte,List.getElem?_set,hlen,t0,t3,t5]
    refine ⟨by omega,?_⟩
    refine zal (zgY _ _ (by decide) ?_)
    rw [in2 (f + 1) d1']
    by_cases c4:s[f + 1]? = some 43 ∨ s[f + 1]? = some 45
    ·rw [if_pos c4]
     simp only [c4,zaa,sxZ,z6,z7,z8,j4,j5,j6,j7,j8,j9,x4,x5,x6,x7,x8,x9,reduceCtorEq,↓reduceIte,List.getElem?_set,hlen,t0,t3,t5]
     and_intros <;> first | omega | exact iv (by omega) | rfl | assumption
    ·rw [if_neg c4]
     simp only [c4,zaa,sxZ,z6,z7,z8,j4,j5,j6,j7,j8,j9,x4,x5,x6,x7,x8,x9,reduceCtorEq,↓reduceIte,List.getElem?_set,hlen,t0,t3,t5]
     and_intros <;> first | omega | exact iv (by omega) | rfl | assumption
   ·rw [if_neg (fun h => h.elim (zbg (by omega)) (zbg (by omega)))]
    simp only [d1,zaa,sxZ,z6,z7,z8,j4,j5,j6,j7,j8,j9,x4,x5,x6,x7,x8,x9,reduceCtorEq,↓reduceIte,List.getElem?_set,hlen,t0,t3,t5]
    and_intros <;> first | omega | exact iv (by omega) | rfl | assumption
  rintro _ tm ⟨rfl,hlen,t0,t3,t5⟩
  subst hY2
  have hxl:zaZ s f ≤ s.length:=by
   rw [hx]
   split
   ·rename_i h
    rcases h with h | h
    all_goals
     have:=(List.getElem?_eq_some_iff.1 h).1
     omega
   ·omega
  have hrl:=zaP s (zaZ s f)
  generalize zaZ s f=x at *
  simp only [sxZ,z6,z7,z8,j4,j5,j6,j7,j8,j9,x4,x5,x6,x7,x8,x9,reduceCtorEq,↓reduceIte,List.getElem?_set,hlen,t0,t3,t5]
  refine zal (zhT s x ?_)
  simp only [sxZ,z6,z7,z8,j4,j5,j6,j7,j8,j9,x4,x5,x6,x7,x8,x9,reduceCtorEq,↓reduceIte,List.getElem?_set,hlen,t0,t3,t5]
  refine zal (zlp _ (by rw [List.length_drop]; omega) ?_)
  generalize zaT (s.drop x)=r at *
  rw [he]
  by_cases c4:0 < r
  ·rw [if_pos ⟨hE,c4⟩]
   have c4':(0:Int) < r:=by omega
   simp only [c4',zaa,sxZ,z6,z7,z8,j4,j5,j6,j7,j8,j9,x4,x5,x6,x7,x8,x9,reduceCtorEq,↓reduceIte,List.getElem?_set,hlen,t0,t3,t5]
   and_intros <;> first | omega | exact iv (by omega) | rfl | assumption
  ·rw [if_neg (fun h => c4 h.2)]
   have c4':¬ (0:Int) < r:=by omega
   simp only [c4',zaa,sxZ,z6,z7,z8,j4,j5,j6,j7,j8,j9,x4,x5,x6,x7,x8,x9,reduceCtorEq,↓reduceIte,List.getElem?_set,hlen,t0,t3,t5]
 rintro _ tm ⟨rfl,hlen,t3⟩
 subst hY1
 simp only [sxZ,z6,z7,z8,j4,j5,j6,j7,j8,j9,x4,x5,x6,x7,x8,x9,reduceCtorEq,↓reduceIte,List.getElem?_set,hlen,t3]
 exact hk
end
end Go.Proofs.YtadhjoggdbhkgaaGreatDoor
namespace Go.Proofs.YtadhjoggdbhkgaaGreatDoor
open Go.RowKit
end Go.Proofs.YtadhjoggdbhkgaaGreatDoor
namespace Go.Proofs.YtadhjoggdbhkgaaGreatDoor
open Go.RowKit Sx
theorem zk4 {p:NumS} (hp:p.Good):p.neg=decide (p.txt[0]? = some 45):=by
 obtain ⟨c,t,e1,e2⟩:=zbC hp.i0 hp.i1
 unfold NumS.txt
 cases p.neg with
 | true => rfl
 | false =>
  rw [e1]
  have:c ≠ 45:=zbd e2 rfl
  simp [sgT,this]
theorem num_uniq {p q:NumS} (hp:p.Good) (hq:q.Good) (h:p.txt=q.txt):p=q:=by
 have hn:p.neg=q.neg:=by rw [zk4 hp,zk4 hq,h]
 unfold NumS.txt at h
 rw [hn] at h
 have h:=List.append_cancel_left h
 have r1:=zb4 p.int _ hp.i1 (zeI hp)
 have r2:=zb4 q.int _ hq.i1 (zeI hq)
 rw [h,r2] at r1
 obtain ⟨hi,hR⟩:=List.append_inj h r1.symm
 have hx:p.fr=q.fr ∧ exT p.ex=exT q.ex:=by
  cases h1:p.fr with
  | nil =>
   cases h2:q.fr with
   | nil => rw [h1,h2] at hR; exact ⟨rfl,hR⟩
   | cons b u =>
    rw [h1,h2] at hR
    exfalso
    rcases zdF hp 46 (by rw [show exT p.ex=frT (b :: u) ++ exT q.ex from hR]; rfl) with h3 | h3 <;> cases h3
  | cons a t =>
   cases h2:q.fr with
   | nil =>
    rw [h1,h2] at hR
    exfalso
    rcases zdF hq 46 (by rw [show exT q.ex=frT (a :: t) ++ exT p.ex from hR.symm]; rfl) with h3 | h3 <;> cases h3
   | cons b u =>
    rw [h1,h2] at hR
    have hR:(46:UInt8) :: ((a :: t) ++ exT p.ex)=46 :: ((b :: u) ++ exT q.ex):=hR
    injection hR with _ hR
    have hd:∀ {r:NumS},r.Good → ∀ c,(exT r.ex)[0]? = some c → zaj c=false:=fun hr c h => by
     rcases zdF hr c h with rfl | rfl <;> rfl
    have k1:=zb4 (a :: t) _ (by rw [← h1]; exact hp.f1) (hd hp)
    have k2:=zb4 (b :: u) _ (by rw [← h2]; exact hq.f1) (hd hq)
    rw [hR,k2] at k1
    exact List.append_inj hR k1.symm
 have he:p.ex=q.ex:=by
  have h3:=hx.2
  cases h1:p.ex with
  | none =>
   cases h2:q.ex with
   | none => rfl
   | some e => obtain ⟨c,s,d⟩:=e; rw [h1,h2] at h3; cases h3
  | some e =>
   obtain ⟨c,s,d⟩:=e
   cases h2:q.ex with
   | none => rw [h1,h2] at h3; cases h3
   | some e' =>
    obtain ⟨c',s',d'⟩:=e'
    have k1:=(zii 0 hp h1).2
    have k2:=(zii 0 hq h2).2
    rw [h1,h2] at h3
    have h3:c :: (s ++ d)=c' :: (s' ++ d'):=h3
    injection h3 with e1 e2
    rw [e2,k2] at k1
    subst k1
    rw [e1,List.append_cancel_right e2]
 obtain ⟨pn,pi,pf,pe⟩:=p
 obtain ⟨qn,qi,qf,qe⟩:=q
 simp only at hn hi hx he
 rw [hn,hi,hx.1,he]
section
variable [Tabs Tryz.prog] {objs:List OB} {K:List OB → AV → Prop}
end
end Go.Proofs.YtadhjoggdbhkgaaGreatDoor
namespace Go.Proofs.YtadhjoggdbhkgaaGreatDoor
open Nat renaming reduceAdd → z6, reduceSub → z7, reduceLeDiff → z8, reduceLT → j4, reduceMul → j5, reduceEqDiff → j6
open Int renaming reduceToNat → j7, reduceAdd → j8, reduceSub → j9, reduceMul → x4, reduceNeg → x5, reduceLT → x6, reduceLE → x7, reduceEq → x8, reduceNe → x9
open Go.RowKit Sx
theorem minV_at (c:Nat) (l:List UInt8) (i n:Nat) (h:i < l.length):zh8 c (l.drop i) n=zh8 c (l.drop (i + 1)) (min (n * 10 + (l[i].toNat - 48)) c):=by
 rw [List.drop_eq_getElem_cons h,zh8]
theorem znO {p:NumS} (hp:p.Good):zkz p.body [101,69]=(p.int ++ frT p.fr).length:=by
 have hno:(p.int ++ frT p.fr).findIdx (fun c => zcw c [101,69])=(p.int ++ frT p.fr).length:=by
  rw [List.findIdx_eq_length]
  intro c hc
  rcases List.mem_append.1 hc with h | h
  ·exact (zbD (List.all_eq_true.1 hp.i1 c h)).2.1
  ·exact (zih hp.f1 c h).2
 unfold zkz NumS.body
 rw [← List.append_assoc,List.findIdx_append,hno,if_neg (by omega)]
 cases he:p.ex with
 | none => simp [exT]
 | some e =>
  obtain ⟨k,s,d⟩:=e
  have:(exT (some (k,s,d))).findIdx (fun c => zcw c [101,69])=0:=by
   unfold exT
   rw [List.findIdx_cons]
   rcases (hp.e1 k s d he).1 with rfl | rfl <;> rfl
  rw [this,Nat.zero_add]
theorem zhx (p:NumS):p.body.take (p.int ++ frT p.fr).length=p.int ++ frT p.fr:=by
 unfold NumS.body
 rw [← List.append_assoc,List.take_left]
theorem body_exp {p:NumS} (hp:p.Good) (c:Nat):expC c (p.body.drop ((p.int ++ frT p.fr).length + 1))=zdM c p.ex ∧ (zdP (p.body.drop ((p.int ++ frT p.fr).length + 1))).all zaj=true:=by
 have hd:p.body.drop ((p.int ++ frT p.fr).length + 1)=(exT p.ex).drop 1:=by
  unfold NumS.body
  rw [← List.append_assoc,← List.drop_drop,List.drop_left]
 rw [hd]
 cases he:p.ex with
 | none => exact ⟨rfl,rfl⟩
 | some e =>
  obtain ⟨k,s,d⟩:=e
  have h:=zii c hp he
  have h4:=(hp.e1 k s d he).2.2.2
  rw [he] at h
  show expC c (s ++ d)=_ ∧ (zdP (s ++ d)).all zaj=true
  rw [h.2]
  exact ⟨h.1,h4⟩
theorem zR_last {l:List UInt8} (h:l ≠ []) (h2:l.getLast h ≠ 48):zR l=l:=by
 unfold zR
 rw [zL_id,List.reverse_reverse]
 intro c hc
 rw [← List.head?_eq_getElem?,List.head?_reverse,List.getLast?_eq_some_getLast h] at hc
 injection hc with hc
 rw [← hc]; exact h2
section
variable [Tabs Tryz.prog] {objs:List OB} {K:List OB → AV → Prop}
set_option maxHeartbeats 2000000 in
theorem zhU (l:List UInt8) (hl:l.length ≤ 140737488351232) (hd:(zdP l).all zaj=true) (hk:K objs (.i .i64 (expC 1073741824 l))):zah Tryz.prog 67 [.s l] objs K:=by
 refine zbI is_ref13_exponent rfl fun C _ => ?_
 rw [c_ref13_exponent]
 refine zab fun Y1 hY1 => ?_
 simp only [sxZ,z6,z7,z8,j4,j5,j6,j7,j8,j9,x4,x5,x6,x7,x8,x9,reduceCtorEq,↓reduceIte]
 subst hY1
 refine zab fun Y1 hY1 => ?_
 refine zaw (fun o t => o=[] ∧ t.length=41 ∧ t[0]? = some (.s l) ∧ t[3]? = some (.b (negE l))) ?_ ?_
 ·unfold negE
  by_cases c0:l=[]
  ·subst c0
   simp [zaa,sxZ,z6,z7,z8,j4,j5,j6,j7,j8,j9,x4,x5,x6,x7,x8,x9,reduceCtorEq,↓reduceIte]
  ·have l0:0 < l.length:=List.length_pos_iff.2 c0
   have g0:=zaB l0
   have h45:l[0]? = some 45 ↔ ((l[0].toNat:Nat):Int)=45:=zd3 l0 45 (by decide)
   simp only [c0,g0,zaa,sxZ,z6,z7,z8,j4,j5,j6,j7,j8,j9,x4,x5,x6,x7,x8,x9,reduceCtorEq,↓reduceIte]
   refine ⟨by omega,?_⟩
   by_cases c1:((l[0].toNat:Nat):Int)=45
   ·rw [decide_eq_true c1,decide_eq_true (h45.2 c1)]
   ·rw [decide_eq_false c1,decide_eq_false (fun h => c1 (h45.1 h))]
 rintro _ tm ⟨rfl,hlen,t0,t3⟩
 subst hY1
 refine zab fun Y1 hY1 => ?_
 refine zaw (fun o t => o=[] ∧ t.length=41 ∧ t[0]? = some (.s (zdP l)) ∧ t[3]? = some (.b (negE l))) ?_ ?_
 ·unfold zdP
  by_cases c0:l=[]
  ·subst c0
   simp only [zaa,sxZ,z6,z7,z8,j4,j5,j6,j7,j8,j9,x4,x5,x6,x7,x8,x9,reduceCtorEq,↓reduceIte,List.getElem?_set,hlen,t0,t3]
   rfl
  ·have l0:0 < l.length:=List.length_pos_iff.2 c0
   have g0:=zaB l0
   simp only [c0,g0,sxZ,z6,z7,z8,j4,j5,j6,j7,j8,j9,x4,x5,x6,x7,x8,x9,reduceCtorEq,↓reduceIte,List.getElem?_set,hlen,t0,t3]
   refine ⟨by omega,?_⟩
   refine zal (zgY _ _ (by decide) ?_)
   have hin:zcw l[0] [43,45]=decide (l[0]? = some 43 ∨ l[0]? = some 45):=by
    rw [List.getElem?_eq_getElem l0]
    simp [zcw,eq_comm]
   rw [hin]
   by_cases c1:l[0]? = some 43 ∨ l[0]? = some 45
   ·rw [if_pos c1]
    simp only [c1,zaa,sxZ,z6,z7,z8,j4,j5,j6,j7,j8,j9,x4,x5,x6,x7,x8,x9,reduceCtorEq,↓reduceIte,List.getElem?_set,hlen,t0,t3]
    and_intros <;> first | omega | exact iv (by omega) | rfl | assumption
   ·rw [if_neg c1]
    simp only [c1,zaa,sxZ,z6,z7,z8,j4,j5,j6,j7,j8,j9,x4,x5,x6,x7,x8,x9,reduceCtorEq,↓reduceIte,List.getElem?_set,hlen,t0,t3]
 rintro _ tm ⟨rfl,hlen,t0,t3⟩
 subst hY1
 have hsl:(zdP l).length ≤ l.length:=by unfold zdP; split <;> simp
 unfold expC at hk
 generalize negE l=ng at *
 generalize zdP l=d at *
 refine zab fun Y1 hY1 => ?_
 simp only [sxZ,z6,z7,z8,j4,j5,j6,j7,j8,j9,x4,x5,x6,x7,x8,x9,reduceCtorEq,↓reduceIte,List.getElem?_set,hlen,t0,t3]
 subst hY1
 refine zab fun Y1 hY1 => ?_
 refine zaw (fun o t => o=[] ∧ t.length=41 ∧ t[3]? = some (.b ng) ∧ t[4]? = some (.i .i64 (zh8 1073741824 d 0:Nat))) ?_ ?_
 ·simp only [sxZ,z6,z7,z8,j4,j5,j6,j7,j8,j9,x4,x5,x6,x7,x8,x9,reduceCtorEq,↓reduceIte,List.getElem?_set,hlen,t0,t3]
  refine zaV (fun k objs tm => ∃ (i n:Nat),i ≤ d.length ∧ k=d.length - i ∧ objs=[] ∧ n ≤ 1073741824 ∧ zh8 1073741824 d 0=zh8 1073741824 (d.drop i) n ∧ tm.length=41 ∧ tm[0]? = some (.s d) ∧ tm[3]? = some (.b ng) ∧ tm[4]? = some (.i .i64 (n:Nat)) ∧ tm[5]? = some (.i .i64 (i:Nat))) d.length
   ⟨0,0,Nat.zero_le _,rfl,rfl,by omega,rfl,by simp [hlen],by simp [t0],by simp [t3],by simp [hlen],by simp [hlen]⟩ ?_
  rintro k _ tm ⟨i,n,hi,rfl,rfl,hn,hm,hlen,t0,t3,t4,t5⟩
  by_cases hlt:(i:Int) < d.length
  ·have hlt':i < d.length:=by omega
   have hg:=zaB hlt'
   have hdi:=zgj (List.all_eq_true.1 hd _ (List.getElem_mem hlt'))
   have hmv:=minV_at 1073741824 d i n hlt'
   have hw:IntKind.u8.wrap (((d[i].toNat:Nat):Int) - 48)=((d[i].toNat - 48:Nat):Int):=by
    simp [IntKind.wrap,IntKind.bits,IntKind.signed]; omega
   have hw2:IntKind.i64.wrap ((d[i].toNat - 48:Nat):Int)=((d[i].toNat - 48:Nat):Int):=by rw [IntKind.wrap_i64]; omega
   simp only [hlt,hg,hw,hw2,sxZ,z6,z7,z8,j4,j5,j6,j7,j8,j9,x4,x5,x6,x7,x8,x9,reduceCtorEq,↓reduceIte,List.getElem?_set,hlen,t0,t3,t4,t5]
   have hv:d[i].toNat - 48 ≤ 9:=by omega
   generalize d[i].toNat - 48=v at *
   exact ⟨by omega,by omega,by omega,by omega,d.length - (i + 1),by omega,i + 1,min (n * 10 + v) 1073741824,by omega,rfl,by omega,by rw [hm,hmv],iv (by split <;> omega),iv (by omega)⟩
  ·obtain rfl:i=d.length:=by omega
   rw [List.drop_length,zh8] at hm
   simp only [hlt,zbx,zaa,sxZ,z6,z7,z8,j4,j5,j6,j7,j8,j9,x4,x5,x6,x7,x8,x9,reduceCtorEq,↓reduceIte,List.getElem?_set,hlen,t0,t3,t4,t5]
   rw [hm]
 rintro _ tm ⟨rfl,hlen,t3,t4⟩
 subst hY1
 have hml:=minV_le 1073741824 d 0 (by omega)
 generalize zh8 1073741824 d 0=n at *
 cases ng with
 | true =>
  simp only [sxZ,z6,z7,z8,j4,j5,j6,j7,j8,j9,x4,x5,x6,x7,x8,x9,reduceCtorEq,↓reduceIte,List.getElem?_set,hlen,t3,t4]
  rw [if_pos rfl] at hk
  refine ⟨by omega,?_⟩
  rw [Int.zero_sub]
  exact hk
 | false =>
  simp only [sxZ,z6,z7,z8,j4,j5,j6,j7,j8,j9,x4,x5,x6,x7,x8,x9,reduceCtorEq,↓reduceIte,List.getElem?_set,hlen,t3,t4]
  rw [if_neg (by simp)] at hk
  exact hk
set_option maxHeartbeats 4000000 in
theorem zlt (s:List UInt8) (hs:s.length ≤ 140737488351232) (h1:(s=[] ∨ zc8 s ≠ s.length) → K objs (.tup [.s [],.i .i64 130]))
  (h2:∀ p:NumS,p.Good → s=p.txt → K objs (.tup [.s (zfH 1073741824 p).2,.i .i64 (zfH 1073741824 p).1])):zah Tryz.prog 45 [.s s] objs K:=by
 refine zbI is_ref13_Number rfl fun C _ => ?_
 have hmx:=zco
 by_cases c0:s=[]
 ·have h1:=h1 (.inl c0)
  simp only [c0,c_ref13_Number,sxZ,z6,z7,z8,j4,j5,j6,j7,j8,j9,x4,x5,x6,x7,x8,x9,reduceCtorEq,↓reduceIte]
  exact h1
 rw [c_ref13_Number]
 refine zab fun Y1 hY1 => ?_
 simp only [sxZ,z6,z7,z8,j4,j5,j6,j7,j8,j9,x4,x5,x6,x7,x8,x9,reduceCtorEq,↓reduceIte]
 subst hY1
 refine zab fun Y1 hY1 => ?_
 simp only [c0,sxZ,z6,z7,z8,j4,j5,j6,j7,j8,j9,x4,x5,x6,x7,x8,x9,reduceCtorEq,↓reduceIte]
 refine zal (zfl s hs ?_)
 by_cases c1:zc8 s=s.length
 case neg =>
  have c1':¬ ((zc8 s:Nat):Int)=s.length:=by omega
  simp only [c1',sxZ,z6,z7,z8,j4,j5,j6,j7,j8,j9,x4,x5,x6,x7,x8,x9,reduceCtorEq,↓reduceIte]
  exact h1 (.inr c1)
 clear h1
 obtain ⟨p,hp,rfl⟩:=zeQ c0 c1
 have h2:=h2 p hp rfl
 simp only [c1,sxZ,z6,z7,z8,j4,j5,j6,j7,j8,j9,x4,x5,x6,x7,x8,x9,reduceCtorEq,↓reduceIte]
 subst hY1
 refine zab fun Y1 hY1 => ?_
 simp only [sxZ,z6,z7,z8,j4,j5,j6,j7,j8,j9,x4,x5,x6,x7,x8,x9,reduceCtorEq,↓reduceIte]
 subst hY1
 refine zab fun Y1 hY1 => ?_
 have hbl:p.body.length ≤ p.txt.length:=by unfold NumS.txt NumS.body; simp
 have htl:=zhJ p
 have hml:(p.int ++ frT p.fr).length ≤ p.txt.length:=by unfold NumS.txt; simp; omega
 refine zaw (fun o t => o=[] ∧ t.length=117 ∧ t[0]? = some (.s p.body) ∧ t[4]? = some (.s (sgT p.neg))) ?_ ?_
 ·obtain ⟨c,t,e1,e2⟩:=zbC hp.i0 hp.i1
  have n45:¬ ((c.toNat:Nat):Int)=45:=by have:=zgj e2; omega
  have hb:p.txt=sgT p.neg ++ p.body:=rfl
  have hpos:0 < p.txt.length:=List.length_pos_iff.2 c0
  cases hn:p.neg with
  | true =>
   have g1:(((p.txt.getD 0 0).toNat:Nat):Int)=45:=by rw [hb,hn]; rfl
   have g2:p.txt.drop 1=p.body:=by rw [hb,hn]; rfl
   generalize p.txt=W at *
   simp only [sgT,g1,g2,zaa,sxZ,z6,z7,z8,j4,j5,j6,j7,j8,j9,x4,x5,x6,x7,x8,x9,reduceCtorEq,↓reduceIte]
   and_intros <;> first | omega | exact iv (by omega) | rfl | assumption
  | false =>
   have g1:(p.txt.getD 0 0)=c:=by rw [hb,hn]; unfold NumS.body; rw [e1]; rfl
   have g2:p.txt=p.body:=by rw [hb,hn]; rfl
   rw [g2] at g1 hpos ⊢
   generalize p.body=W at *
   simp only [sgT,g1,n45,zaa,sxZ,z6,z7,z8,j4,j5,j6,j7,j8,j9,x4,x5,x6,x7,x8,x9,reduceCtorEq,↓reduceIte]
   and_intros <;> first | omega | exact iv (by omega) | rfl | assumption
 rintro _ tm ⟨rfl,hlen,t0,t4⟩
 subst hY1
 clear c0 c1
 have hbe:=body_exp hp 1073741824
 have hbt:=zhx p
 have hil:(p.int ++ frT p.fr).length ≤ p.body.length:=by
  have h:=congrArg List.length (zhx p)
  rw [List.length_take] at h; omega
 have hbi:=znO hp
 generalize hG:p.int ++ frT p.fr=G at *
 refine zab fun Y1 hY1 => ?_
 simp only [sxZ,z6,z7,z8,j4,j5,j6,j7,j8,j9,x4,x5,x6,x7,x8,x9,reduceCtorEq,↓reduceIte,List.getElem?_set,hlen,t0,t4]
 refine zal (zi0 _ _ (by omega) (by decide) ?_)
 rw [hbi]
 simp only [sxZ,z6,z7,z8,j4,j5,j6,j7,j8,j9,x4,x5,x6,x7,x8,x9,reduceCtorEq,↓reduceIte,List.getElem?_set,hlen,t0,t4]
 subst hY1
 refine zab fun Y1 hY1 => ?_
 refine zaw (fun o t => o=[] ∧ t.length=117 ∧ t[4]? = some (.s (sgT p.neg)) ∧ t[6]? = some (.i .i64 (zdM 1073741824 p.ex)) ∧ t[7]? = some (.s G)) ?_ ?_
 ·simp only [sxZ,z6,z7,z8,j4,j5,j6,j7,j8,j9,x4,x5,x6,x7,x8,x9,reduceCtorEq,↓reduceIte,List.getElem?_set,hlen,t0,t4]
  refine ⟨by omega,?_⟩
  refine zje (zhT p.body (G.length + 1) ⟨rfl,rfl⟩) ?_
  simp only [sxZ,z6,z7,z8,j4,j5,j6,j7,j8,j9,x4,x5,x6,x7,x8,x9,reduceCtorEq,↓reduceIte,List.getElem?_set,hlen,t0,t4]
  refine zje (zhU _ (by rw [List.length_drop]; omega) hbe.2 ⟨rfl,rfl⟩) ?_
  simp only [hbe.1,hbt,zaa,sxZ,z6,z7,z8,j4,j5,j6,j7,j8,j9,x4,x5,x6,x7,x8,x9,reduceCtorEq,↓reduceIte,List.getElem?_set,hlen,t0,t4]
  and_intros <;> first | omega | exact iv (by omega) | rfl | assumption
 rintro _ tm ⟨rfl,hlen,t4,t6,t7⟩
 subst hY1
 refine zab fun Y1 hY1 => ?_
 have hei:=zne 1073741824 p.ex
 have hcp:=zhp hp
 rw [hG] at hcp
 have hi1:zkz G [46]=p.int.length:=by rw [zjy,hcp]
 have hGt:G.take p.int.length=p.int:=by rw [← hG,List.take_left]
 have hGd:G.drop (p.int.length + 1)=p.fr:=by
  rw [← hG,← List.drop_drop,List.drop_left]
  cases p.fr <;> rfl
 have hGl:G.length=p.int.length + (frT p.fr).length:=by rw [← hG,List.length_append]
 refine zaw (fun o t => o=[] ∧ t.length=117 ∧ t[4]? = some (.s (sgT p.neg)) ∧ t[6]? = some (.i .i64 (zdM 1073741824 p.ex - (p.fr.length:Int))) ∧ t[7]? = some (.s (p.int ++ p.fr))) ?_ ?_
 ·simp only [sxZ,z6,z7,z8,j4,j5,j6,j7,j8,j9,x4,x5,x6,x7,x8,x9,reduceCtorEq,↓reduceIte,List.getElem?_set,hlen,t4,t6,t7]
  refine zal (zi0 _ _ (by omega) (by decide) ?_)
  rw [hi1]
  cases hf:p.fr with
  | nil =>
   have c2:¬ ((p.int.length:Nat):Int) < G.length:=by rw [hf] at hGl; simp [frT] at hGl; omega
   have hG2:G=p.int:=by rw [← hG,hf]; simp [frT]
   simp only [c2,zaa,sxZ,z6,z7,z8,j4,j5,j6,j7,j8,j9,x4,x5,x6,x7,x8,x9,reduceCtorEq,↓reduceIte,List.getElem?_set,hlen,t4,t6,t7]
   rw [hG2]
   and_intros <;> first | omega | exact iv (by omega) | rfl | assumption
  | cons a u =>
   rw [hf] at hGd
   have c2:((p.int.length:Nat):Int) < G.length:=by rw [hf] at hGl; simp [frT] at hGl; omega
   have hfl:G.length=p.int.length + (u.length + 1) + 1:=by rw [hf] at hGl; simp [frT] at hGl; omega
   have e1:(((p.int.length:Nat):Int) + 1).toNat=p.int.length + 1:=by omega
   simp only [c2,e1,hGt,hGd,zaa,sxZ,z6,z7,z8,j4,j5,j6,j7,j8,j9,x4,x5,x6,x7,x8,x9,reduceCtorEq,↓reduceIte,List.getElem?_set,hlen,t4,t6,t7]
   and_intros <;> first | omega | exact iv (by omega) | rfl | assumption
 rintro _ tm ⟨rfl,hlen,t4,t6,t7⟩
 subst hY1
 clear hbe hbt hil hcp hbi hi1 hGt hGd hGl hG hml
 refine zab fun Y1 hY1 => ?_
 have hzl:=zL_len (p.int ++ p.fr)
 rw [List.length_append] at hzl
 refine zaw (fun o t => o=[] ∧ t.length=117 ∧ t[4]? = some (.s (sgT p.neg)) ∧ t[6]? = some (.i .i64 (zdM 1073741824 p.ex - (p.fr.length:Int))) ∧ t[7]? = some (.s (zbs p))) ?_ ?_
 ·simp only [sxZ,z6,z7,z8,j4,j5,j6,j7,j8,j9,x4,x5,x6,x7,x8,x9,reduceCtorEq,↓reduceIte]
  refine zaV (fun k o t => ∃ l:List UInt8,k=l.length ∧ o=[] ∧ zL l=zbs p ∧ t.length=117 ∧ t[4]? = some (.s (sgT p.neg)) ∧ t[6]? = some (.i .i64 (zdM 1073741824 p.ex - (p.fr.length:Int))) ∧ t[7]? = some (.s l)) (p.int ++ p.fr).length ⟨p.int ++ p.fr,rfl,rfl,rfl,hlen,t4,t6,t7⟩ ?_
  rintro k _ tm ⟨l,rfl,rfl,hz,hlen,t4,t6,t7⟩
  cases l with
  | nil =>
   have z:¬ (0:Int) < ((0:Nat):Int):=by decide
   simp only [z,zbx,zaa,sxZ,z6,z7,z8,j4,j5,j6,j7,j8,j9,x4,x5,x6,x7,x8,x9,reduceCtorEq,↓reduceIte,List.getElem?_set,hlen,t4,t6,t7]
   rw [← hz]; rfl
  | cons c u =>
   have hp1:(0:Int) < ((u.length + 1:Nat):Int):=by omega
   have hp2:(c :: u).getD 0 0=c:=rfl
   rw [zfK] at hz
   by_cases c1:((c.toNat:Nat):Int)=48
   ·have hc:c=48:=(zdt (by decide)).1 c1
    rw [if_pos hc] at hz
    simp only [hp1,hp2,c1,zbx,zaa,sxZ,z6,z7,z8,j4,j5,j6,j7,j8,j9,x4,x5,x6,x7,x8,x9,reduceCtorEq,↓reduceIte,List.getElem?_set,hlen,t4,t6,t7]
    exact ⟨by omega,u.length,by omega,u,rfl,hz,rfl⟩
   ·have hc:¬ c=48:=fun h => c1 ((zdt (by decide)).2 h)
    rw [if_neg hc] at hz
    simp only [hp1,hp2,c1,zbx,zaa,sxZ,z6,z7,z8,j4,j5,j6,j7,j8,j9,x4,x5,x6,x7,x8,x9,reduceCtorEq,↓reduceIte,List.getElem?_set,hlen,t4,t6,t7]
    rw [hz]
 rintro _ tm ⟨rfl,hlen,t4,t6,t7⟩
 subst hY1
 refine zab fun Y1 hY1 => ?_
 have hmh:=zg6 p
 unfold zfH at h2
 unfold zfy at h2
 by_cases c2:zbs p=[]
 ·rw [if_pos c2] at h2
  simp only [c2,sxZ,z6,z7,z8,j4,j5,j6,j7,j8,j9,x4,x5,x6,x7,x8,x9,reduceCtorEq,↓reduceIte,List.getElem?_set,hlen,t4,t6,t7]
  exact h2
 rw [if_neg c2] at h2
 have hml2:=zen p
 simp only [c2,sxZ,z6,z7,z8,j4,j5,j6,j7,j8,j9,x4,x5,x6,x7,x8,x9,reduceCtorEq,↓reduceIte,List.getElem?_set,hlen,t4,t6,t7]
 subst hY1
 have hX:-(300000000000000:Int) ≤ zdM 1073741824 p.ex - (p.fr.length:Int) ∧ zdM 1073741824 p.ex - (p.fr.length:Int) ≤ 300000000000000:=by omega
 generalize zdM 1073741824 p.ex - (p.fr.length:Int)=X at *
 generalize zbs p=M at *
 refine zab fun Y1 hY1 => ?_
 refine zaw (fun o t => o=[] ∧ t.length=117 ∧ t[4]? = some (.s (sgT p.neg)) ∧ t[6]? = some (.i .i64 (X + ((M.length:Int) - (zR M).length))) ∧ t[7]? = some (.s (zR M))) ?_ ?_
 ·simp only [sxZ,z6,z7,z8,j4,j5,j6,j7,j8,j9,x4,x5,x6,x7,x8,x9,reduceCtorEq,↓reduceIte]
  refine zaV (fun k o t => ∃ (l:List UInt8) (j:Nat),k=l.length ∧ o=[] ∧ l ≠ [] ∧ M=l ++ List.replicate j 48 ∧ t.length=117 ∧ t[4]? = some (.s (sgT p.neg)) ∧ t[6]? = some (.i .i64 (X + (j:Nat))) ∧ t[7]? = some (.s l)) M.length ⟨M,0,rfl,rfl,c2,by simp,by simp [hlen],by simp [t4],by simp [t6],by simp [t7]⟩ ?_
  rintro k _ tm ⟨l,j,rfl,rfl,hl0,hM,hlen,t4,t6,t7⟩
  have hl1:0 < l.length:=List.length_pos_iff.2 hl0
  have hi:l.length - 1 < l.length:=by omega
  have hg:=zaB hi
  have e1:(((l.length:Nat):Int) - 1).toNat=l.length - 1:=by omega
  have hll:l.getLast hl0=l[l.length - 1]:=List.getLast_eq_getElem hl0
  have hMl:M.length=l.length + j:=by rw [hM]; simp
  by_cases c3:((l[l.length - 1].toNat:Nat):Int)=48
  ·have hc:l[l.length - 1]=48:=(zdt (by decide)).1 c3
   have hsp:l=l.take (l.length - 1) ++ [48]:=by
    have h:=List.dropLast_concat_getLast hl0
    rw [hll,hc,List.dropLast_eq_take] at h
    exact h.symm
   have hM2:M=l.take (l.length - 1) ++ List.replicate (j + 1) 48:=by
    conv => lhs; rw [hM,hsp]
    rw [List.append_assoc,List.replicate_succ]; rfl
   have hne:¬ l.take (l.length - 1)=[]:=by
    intro h
    rw [h,List.nil_append,List.replicate_succ] at hM2
    exact hmh 48 (by rw [hM2]; rfl) rfl
   have htk:(l.take (l.length - 1)).length=l.length - 1:=by rw [List.length_take]; omega
   simp only [e1,hg,c3,sxZ,z6,z7,z8,j4,j5,j6,j7,j8,j9,x4,x5,x6,x7,x8,x9,reduceCtorEq,↓reduceIte,List.getElem?_set,hlen,t4,t6,t7]
   exact ⟨by omega,by omega,by omega,by omega,by omega,(l.take (l.length - 1)).length,by omega,l.take (l.length - 1),j + 1,rfl,hne,hM2,iv (by omega),rfl⟩
  ·have hc:¬ l[l.length - 1]=48:=fun h => c3 ((zdt (by decide)).2 h)
   have hz:zR M=l:=by rw [hM,zR_rep,zR_last hl0 (by rw [hll]; exact hc)]
   simp only [e1,hg,c3,zbx,zaa,sxZ,z6,z7,z8,j4,j5,j6,j7,j8,j9,x4,x5,x6,x7,x8,x9,reduceCtorEq,↓reduceIte,List.getElem?_set,hlen,t4,t6,t7]
   rw [hz]
   exact ⟨by omega,by omega,iv (by omega),rfl⟩
 rintro _ tm ⟨rfl,hlen,t4,t6,t7⟩
 subst hY1
 have hzr:=ziu M
 generalize X + ((M.length:Int) - ((zR M).length:Int))=x at *
 generalize zR M=m at *
 by_cases d1:(40:Int) < m.length
 ·rw [if_pos (.inl (by omega))] at h2
  simp only [d1,sxZ,z6,z7,z8,j4,j5,j6,j7,j8,j9,x4,x5,x6,x7,x8,x9,reduceCtorEq,↓reduceIte,List.getElem?_set,hlen,t4,t6,t7]
  exact h2
 by_cases d3:400 < x
 ·rw [if_pos (.inr (.inr d3))] at h2
  simp only [d1,d3,sxZ,z6,z7,z8,j4,j5,j6,j7,j8,j9,x4,x5,x6,x7,x8,x9,reduceCtorEq,↓reduceIte,List.getElem?_set,hlen,t4,t6,t7]
  exact h2
 by_cases d2:x < -400
 ·rw [if_pos (.inr (.inl d2))] at h2
  simp only [d1,d2,d3,sxZ,z6,z7,z8,j4,j5,j6,j7,j8,j9,x4,x5,x6,x7,x8,x9,reduceCtorEq,↓reduceIte,List.getElem?_set,hlen,t4,t6,t7]
  exact h2
 rw [if_neg (by omega)] at h2
 have hsg:(sgT p.neg).length ≤ 1:=by unfold sgT; split <;> simp
 unfold expS at h2
 generalize sgT p.neg=sg at *
 have hdl:(Lib.decDigits x.natAbs).length ≤ 20:=by rw [Lib.decDigits_length]; exact Lib.nDigits_le20 _ (by omega)
 by_cases d4:x < 0
 ·rw [if_neg (show ¬ x=0 by omega)] at h2
  have hw:IntKind.u64.wrap (0 - x)=((x.natAbs:Nat):Int):=by rw [wrap_u64 _ (by omega) (by omega)]; omega
  have hit:=Lib.itoa_neg x.natAbs (by omega)
  rw [show -((x.natAbs:Nat):Int)=x by omega] at hit
  rw [hit] at h2
  simp only [d1,d2,d3,d4,hw,sxZ,z6,z7,z8,j4,j5,j6,j7,j8,j9,x4,x5,x6,x7,x8,x9,reduceCtorEq,↓reduceIte,List.getElem?_set,hlen,t4,t6,t7]
  (and_intros <;> try omega)
  refine zal (zfn _ (by omega) ?_)
  simp only [sxZ,z6,z7,z8,j4,j5,j6,j7,j8,j9,x4,x5,x6,x7,x8,x9,reduceCtorEq,↓reduceIte,List.getElem?_set,hlen,t4,t6,t7]
  (and_intros <;> try omega)
  simpa using h2
 by_cases d5:0 < x
 ·rw [if_neg (show ¬ x=0 by omega)] at h2
  have hw:IntKind.u64.wrap x=((x.natAbs:Nat):Int):=by rw [wrap_u64 _ (by omega) (by omega)]; omega
  have hit:=Lib.itoa_nonneg x.natAbs
  rw [show ((x.natAbs:Nat):Int)=x by omega] at hit
  rw [hit] at h2
  simp only [d1,d2,d3,d4,d5,hw,sxZ,z6,z7,z8,j4,j5,j6,j7,j8,j9,x4,x5,x6,x7,x8,x9,reduceCtorEq,↓reduceIte,List.getElem?_set,hlen,t4,t6,t7]
  (and_intros <;> try omega)
  refine zal (zfn _ (by omega) ?_)
  simp only [sxZ,z6,z7,z8,j4,j5,j6,j7,j8,j9,x4,x5,x6,x7,x8,x9,reduceCtorEq,↓reduceIte,List.getElem?_set,hlen,t4,t6,t7]
  (and_intros <;> try omega)
  simpa using h2
 ·rw [if_pos (show x=0 by omega)] at h2
  simp only [d1,d2,d3,d4,d5,sxZ,z6,z7,z8,j4,j5,j6,j7,j8,j9,x4,x5,x6,x7,x8,x9,reduceCtorEq,↓reduceIte,List.getElem?_set,hlen,t4,t6,t7]
  (and_intros <;> try omega)
  simpa using h2
end
theorem zka {n:Nat} (h:n ≤ 65535):IntKind.i64.wrap ((n:Nat):Int)=n:=by rw [IntKind.wrap_i64]; omega
section
variable [Tabs Tryz.prog] {objs:List OB} {K:List OB → AV → Prop}
theorem runit_k (s:List UInt8) (a:Nat) (ha:a ≤ 9000000000000000000) (hs:s.length ≤ 140737488351232) (hk:match zch (s.drop a) with | some n => K objs (.tup [.i .i64 (n:Nat),.b true]) | none => ∀ x,K objs (.tup [.i .i64 x,.b false])):zah Tryz.prog 130 [.s s,.i .i64 (a:Nat)] objs K:=by
 refine zbI is_ref13_unit rfl fun C _ => ?_
 have hb:=zi9 zbH 16 65535 (((s.drop a).drop 2).take 4)
 unfold zch at hk
 rw [List.length_drop,zcc,zcc,Nat.add_zero] at hk
 by_cases c0:(s.length:Int) < (a:Int) + 6
 ·rw [if_pos (.inl (by omega))] at hk
  simp only [c0,c_ref13_unit,sxZ,z6,z7,z8,j4,j5,j6,j7,j8,j9,x4,x5,x6,x7,x8,x9,reduceCtorEq,↓reduceIte]
  exact ⟨by omega,hk 0⟩
 have l0:a < s.length:=by omega
 have l1:a + 1 < s.length:=by omega
 have g0:=zaB l0
 have g1:=zaB l1
 have e2:((a:Int) + 1).toNat=a + 1:=by omega
 have e0:s[a]? = some 92 ↔ ((s[a].toNat:Nat):Int)=92:=zd3 l0 92 (by decide)
 have e1:s[a + 1]? = some 117 ↔ ((s[a + 1].toNat:Nat):Int)=117:=zd3 l1 117 (by decide)
 have e3:((a:Int) + 2).toNat=a + 2:=by omega
 have e4:((a:Int) + 6).toNat=a + 6:=by omega
 by_cases c1:((s[a].toNat:Nat):Int)=92
 ·by_cases c2:((s[a + 1].toNat:Nat):Int)=117
  ·rw [if_neg (by rintro (h | h | h); exact absurd h (by omega); exact h (e0.2 c1); exact h (e1.2 c2))] at hk
   simp only [c0,c1,c2,e2,e3,e4,g0,g1,c_ref13_unit,sxZ,z6,z7,z8,j4,j5,j6,j7,j8,j9,x4,x5,x6,x7,x8,x9,reduceCtorEq,↓reduceIte]
   refine ⟨by omega,by omega,by omega,by omega,by omega,by omega,by omega,?_⟩
   have hx:(s.take (a + 6)).drop (a + 2)=((s.drop a).drop 2).take 4:=by
    rw [List.drop_drop,show a + 6=(a + 2) + 4 by omega,zeB]
   rw [hx]
   refine zal (rnHex_k _ 65535 (by rw [List.length_take,List.length_drop,zco]; omega) (by decide) ?_)
   simp only [sxZ,z6,z7,z8,j4,j5,j6,j7,j8,j9,x4,x5,x6,x7,x8,x9,reduceCtorEq,↓reduceIte]
   generalize zbW zbH 16 65535 (((s.drop a).drop 2).take 4)=q at *
   obtain ⟨e,n⟩:=q
   simp only at hk hb ⊢
   rw [zka hb]
   by_cases c3:e=0
   ·rw [if_pos c3] at hk
    rw [decide_eq_true c3]
    exact hk
   ·rw [if_neg c3] at hk
    rw [decide_eq_false c3]
    exact hk _
  ·rw [if_pos (.inr (.inr (fun h => c2 (e1.1 h))))] at hk
   simp only [c0,c1,c2,e2,g0,g1,c_ref13_unit,sxZ,z6,z7,z8,j4,j5,j6,j7,j8,j9,x4,x5,x6,x7,x8,x9,reduceCtorEq,↓reduceIte]
   refine ⟨by omega,by omega,by omega,by omega,hk 0⟩
 ·rw [if_pos (.inr (.inl (fun h => c1 (e0.1 h))))] at hk
  simp only [c0,c1,g0,g1,c_ref13_unit,sxZ,z6,z7,z8,j4,j5,j6,j7,j8,j9,x4,x5,x6,x7,x8,x9,reduceCtorEq,↓reduceIte]
  refine ⟨by omega,by omega,hk 0⟩
end
end Go.Proofs.YtadhjoggdbhkgaaGreatDoor
namespace Go.Proofs.YtadhjoggdbhkgaaGreatDoor
open Go.RowKit Sx
theorem zhL {P:Program} [Tabs P] {f:FuncId} {args:List AV} {vs:List Value} {Q:Value → Prop} {w:World} (ha:vals args=some vs) (hT:Tabs.T (P:=P) w) (h:zah P f args [] (fun _ r => ∃ v,val r=some v ∧ Q v)) :
  Calls P f vs.toArray w fun e w' => ∃ v,e=.returned v ∧ Q v ∧ Qb w w':=by
 haveI:On P ⟨w,fun _ => False,fun g o v => w.cell? ⟨g,o,none⟩=some v,Gh.none⟩:=⟨hT,fun _ h => h⟩
 have hd:=(zbM Gh.none (fun g o v => w.cell? ⟨g,o,none⟩=some v) args vs ha vs).2 rfl
 have hc:=h ⟨w,fun _ => False,fun g o v => w.cell? ⟨g,o,none⟩=some v,Gh.none⟩ Gh.none (fun g o v => w.cell? ⟨g,o,none⟩=some v) w
  ⟨rfl,rfl,rfl,Nat.le_refl _,fun _ _ _ => rfl,fun _ _ _ h => h,fun _ _ _ h => .inl h,fun b g hb => by simp [Gh.own,Gh.none] at hb,Gh.le.refl _⟩
  ⟨fun _ _ _ h => h,by simp,by simp,by simp,fun b b' g hb => by simp [Gh.own,Gh.none] at hb,fun b g hb => by simp [Gh.own,Gh.none] at hb,fun b g o v hb => by simp [Gh.own,Gh.none] at hb,fun b _ => ⟨rfl,rfl⟩⟩ vs hd
 refine hc.mono ?_
 rintro e w' ⟨y,objs',r,G',I',rfl,⟨v,hv,hq⟩,_,_,hin,_,hy⟩
 rw [(zdd _ _ r v hv y).1 hy]
 exact ⟨v,rfl,hq,hin.os,hin.tape,hin.output,hin.size,fun k hk => hin.block k hk (fun h => h)⟩
def zkb (l:List UInt8) (v:Value):Prop:=match zch l with | some n => v=.tuple #[.int .i64 (n:Nat),.bool true] | none => ∃ x,v=.tuple #[.int .i64 x,.bool false]
theorem zll [Tabs Tryz.prog] (s:List UInt8) (a:Nat) (ha:a ≤ 9000000000000000000) (hs:s.length ≤ 140737488351232) (w:World) (hT:Tabs.T (P:=Tryz.prog) w) :
  Calls Tryz.prog 130 #[.string (S s),.int .i64 (a:Nat)] w fun e w' => ∃ v,e=.returned v ∧ zkb (s.drop a) v ∧ Qb w w' :=
 zhL (args:=[.s s,.i .i64 (a:Nat)]) rfl hT (runit_k s a ha hs (by
  unfold zkb
  cases zch (s.drop a) with
  | some n => exact ⟨_,rfl,rfl⟩
  | none => exact fun x => ⟨_,rfl,x,rfl⟩))
def zbi (s:List UInt8) (a:Nat):List UInt8 × Int × Int:=if (zcU (s.drop a)).1=0 then ((zcU (s.drop a)).2.1,((a + (zcU (s.drop a)).2.2:Nat):Int),0) else ([],0,(zcU (s.drop a)).1)
def tokEscV (r:List UInt8 × Int × Int):Value:=.tuple #[.string (S r.1),.int .i64 r.2.1,.int .i64 r.2.2]
def zaI:ByteArray:=⟨#[34,92,47,98,102,110,114,116]⟩
theorem zhR [Tabs Tryz.prog] (b:ByteArray) (a:Nat) (x:Int) (hx:x=(a:Nat)) (ha:a ≤ 9000000000000000000) (hs:b.size ≤ 140737488351232) (w:World) (hT:Tabs.T (P:=Tryz.prog) w) :
  Calls Tryz.prog 130 #[.string b,.int .i64 x] w fun e w' => ∃ v,e=.returned v ∧ zkb (b.data.toList.drop a) v ∧ Qb w w':=by
 subst hx
 have h:=zll b.data.toList a ha (by rw [zai]; exact hs) w hT
 rw [S_of b] at h
 exact h
def zfD:List UInt8:=[34,92,47,98,102,110,114,116]
def znL:List UInt8:=[34,92,47,8,12,10,13,9]
theorem codes_ok:∀ i:Fin 8,zcK (zfD.getD i.val 0)=some (znL.getD i.val 0):=by decide +kernel
theorem codes_no (c:UInt8) (h:∀ j,j < 8 → zfD.getD j 0 ≠ c):zcK c=none:=by
 have key:∀ n:Fin 256,zcK (UInt8.ofNat n.val)=none ∨ ∃ i:Fin 8,zfD.getD i.val 0=UInt8.ofNat n.val:=by decide +kernel
 have h2:=key ⟨c.toNat,c.toNat_lt⟩
 simp only [UInt8.ofNat_toNat] at h2
 rcases h2 with h2 | ⟨i,h2⟩
 ·exact h2
 ·exact absurd h2 (h i.val i.isLt)
theorem zcT (b:ByteArray) (a k:Nat) (hk:k < 8) (h:a + 1 < b.size) (hx:zfD.getD k 0=b[a + 1]):zbi b.data.toList a=([znL.getD k 0],((a + 2:Nat):Int),0):=by
 have he:zcU (b.data.toList.drop a)=(0,[znL.getD k 0],2):=by
  unfold zcU
  rw [zcc,List.getElem?_eq_getElem (by rw [zai]; exact h),Option.bind_some,show b.data.toList[a + 1]'(by rw [zai]; exact h)=zfD.getD k 0 from (zip b (a + 1) h).symm.trans hx.symm,codes_ok ⟨k,hk⟩]
 unfold zbi
 rw [he]; rfl
theorem zn6 [Tabs Tryz.prog] {w w':World} (hT:Tabs.T (P:=Tryz.prog) w) (hq:Qb w w'):Tabs.T (P:=Tryz.prog) w' :=
 Tabs.keep w w' hT (fun k hk => hq.block k hk) hq.size
set_option maxRecDepth 1000000 in
set_option maxHeartbeats 4000000 in
theorem zhS [Tabs Tryz.prog] (b:ByteArray) (a:Nat) (ha:a < b.size) (hs:b.size ≤ 140737488351232) (w:World) (hT:Tabs.T (P:=Tryz.prog) w) :
  Calls Tryz.prog 104 #[.string b,.int .i64 (a:Nat)] w fun e w' => e=.returned (tokEscV (zbi b.data.toList a)) ∧ Qb w w':=by
 by_cases c0:(a:Int) + 1 < b.size
 ·have c0':a + 1 < b.size:=by omega
  have HC:Hid (b[a + 1]=b.data.toList[a + 1]'(by rw [zai]; exact c0')):=Lib.hid (zip b (a + 1) c0')
  have HG:Hid (b.data.toList[a + 1]? = some b[a + 1]):=Lib.hid (by rw [List.getElem?_eq_getElem (by rw [zai]; exact c0'),zip b (a + 1) c0'])
  have q1:IntKind.i64.wrap ((a:Int) + 1)=(a:Int) + 1:=IntWalk.i64_in _ (by omega)
  have q2:(0:Int) ≤ (a:Int) + 1:=by omega
  have q3:((a:Int) + 1).toNat=a + 1:=by omega
  have q4:(a:Int) + 1 < b.size:=by omega
  go_enter Tryz.func104,Tryz.ntmps104
  go_wp2_with fail
  go_loopg [7] 8 (fun g _ wx => ∃ i:Nat,i + g=8 ∧ wx.heap[w.heap.size]? = some (.stringIter zaI i) ∧ Qb w wx ∧ Hid (∀ j,j < i → zfD.getD j 0 ≠ b[a + 1]))
  case atStart => exact ⟨0,rfl,World.iter_heap _ _ _,(Qb.refl w).alloc _,Lib.hid (fun j hj => absurd hj (by omega))⟩
  case round =>
   obtain ⟨i,hig,hk,hq,HN⟩:=hrel
   by_cases hi:i < 8
   ·obtain ⟨g,rfl⟩:∃ g,gk=g + 1:=⟨gk - 1,by omega⟩
    have hcases:i=0 ∨ i=1 ∨ i=2 ∨ i=3 ∨ i=4 ∨ i=5 ∨ i=6 ∨ i=7:=by omega
    rcases hcases with rfl | rfl | rfl | rfl | rfl | rfl | rfl | rfl
    ·have hnx:=fun ty => Lib.run_next_ascii_at (P:=Tryz.prog) wr w.heap.size zaI 0 ty hk (by decide) (by decide)
     have hk':=Lib.hid (Lib.iterAt_heap wr w.heap.size zaI 0 1 hk)
     have hq':Qb w (wr.iterAt w.heap.size zaI 1):=Lib.below_iterAt hq (Nat.le_refl _) zaI 1
     clear hk
     by_cases hx:(34:UInt8)=b[a + 1]
     ·have HE:=Lib.hid (zcT b a 0 (by decide) c0' hx)
      have hd:∀ x:Int,x=34 → (x == ((b[a + 1].toNat:Nat):Int))=true:=by
       rintro x rfl
       rw [← hx]; rfl
      clear hx
      go_wp2_with fail
      go_quiet (fail)
      rw [hd]
      rotate_left
      ·rfl
      go_wp2_with fail
      go_ret3
      exact ⟨by rw [HE.out]; rfl,hq'.drewN _⟩
     ·have HX:=Lib.hid hx
      have hd:∀ x:Int,x=34 → (x == ((b[a + 1].toNat:Nat):Int))=false:=by
       rintro x rfl
       rw [beq_eq_false_iff_ne]
       intro h
       have h2:(34:UInt8).toNat=b[a + 1].toNat:=by
        have:(34:UInt8).toNat=34:=rfl
        omega
       exact hx (UInt8.toNat_inj.1 h2)
      clear hx
      go_wp2_with fail
      go_quiet (fail)
      rw [hd]
      rotate_left
      ·rfl
      go_wp2_with fail
      go_roundg g
      case measure => omega
      case rel => exact ⟨1,by omega,hk'.out,hq'.drewN _,Lib.hid (fun j hj => by
       rcases Nat.lt_or_ge j 0 with h | h
       ·exact HN.out j h
       ·obtain rfl:j=0:=by omega
        exact HX.out)⟩
    ·have hnx:=fun ty => Lib.run_next_ascii_at (P:=Tryz.prog) wr w.heap.size zaI 1 ty hk (by decide) (by decide)
     have hk':=Lib.hid (Lib.iterAt_heap wr w.heap.size zaI 1 2 hk)
     have hq':Qb w (wr.iterAt w.heap.size zaI 2):=Lib.below_iterAt hq (Nat.le_refl _) zaI 2
     clear hk
     by_cases hx:(92:UInt8)=b[a + 1]
     ·have HE:=Lib.hid (zcT b a 1 (by decide) c0' hx)
      have hd:∀ x:Int,x=92 → (x == ((b[a + 1].toNat:Nat):Int))=true:=by
       rintro x rfl
       rw [← hx]; rfl
      clear hx
      go_wp2_with fail
      go_quiet (fail)
      rw [hd]
      rotate_left
      ·rfl
      go_wp2_with fail
      go_ret3
      exact ⟨by rw [HE.out]; rfl,hq'.drewN _⟩
     ·have HX:=Lib.hid hx
      have hd:∀ x:Int,x=92 → (x == ((b[a + 1].toNat:Nat):Int))=false:=by
       rintro x rfl
       rw [beq_eq_false_iff_ne]
       intro h
       have h2:(92:UInt8).toNat=b[a + 1].toNat:=by
        have:(92:UInt8).toNat=92:=rfl
        omega
       exact hx (UInt8.toNat_inj.1 h2)
      clear hx
      go_wp2_with fail
      go_quiet (fail)
      rw [hd]
      rotate_left
      ·rfl
      go_wp2_with fail
      go_roundg g
      case measure => omega
      case rel => exact ⟨2,by omega,hk'.out,hq'.drewN _,Lib.hid (fun j hj => by
       rcases Nat.lt_or_ge j 1 with h | h
       ·exact HN.out j h
       ·obtain rfl:j=1:=by omega
        exact HX.out)⟩
    ·have hnx:=fun ty => Lib.run_next_ascii_at (P:=Tryz.prog) wr w.heap.size zaI 2 ty hk (by decide) (by decide)
     have hk':=Lib.hid (Lib.iterAt_heap wr w.heap.size zaI 2 3 hk)
     have hq':Qb w (wr.iterAt w.heap.size zaI 3):=Lib.below_iterAt hq (Nat.le_refl _) zaI 3
     clear hk
     by_cases hx:(47:UInt8)=b[a + 1]
     ·have HE:=Lib.hid (zcT b a 2 (by decide) c0' hx)
      have hd:∀ x:Int,x=47 → (x == ((b[a + 1].toNat:Nat):Int))=true:=by
       rintro x rfl
       rw [← hx]; rfl
      clear hx
      go_wp2_with fail
      go_quiet (fail)
      rw [hd]
      rotate_left
      ·rfl
      go_wp2_with fail
      go_ret3
      exact ⟨by rw [HE.out]; rfl,hq'.drewN _⟩
     ·have HX:=Lib.hid hx
      have hd:∀ x:Int,x=47 → (x == ((b[a + 1].toNat:Nat):Int))=false:=by
       rintro x rfl
       rw [beq_eq_false_iff_ne]
       intro h
       have h2:(47:UInt8).toNat=b[a + 1].toNat:=by
        have:(47:UInt8).toNat=47:=rfl
        omega
       exact hx (UInt8.toNat_inj.1 h2)
      clear hx
      go_wp2_with fail
      go_quiet (fail)
      rw [hd]
      rotate_left
      ·rfl
      go_wp2_with fail
      go_roundg g
      case measure => omega
      case rel => exact ⟨3,by omega,hk'.out,hq'.drewN _,Lib.hid (fun j hj => by
       rcases Nat.lt_or_ge j 2 with h | h
       ·exact HN.out j h
       ·obtain rfl:j=2:=by omega
        exact HX.out)⟩
    ·have hnx:=fun ty => Lib.run_next_ascii_at (P:=Tryz.prog) wr w.heap.size zaI 3 ty hk (by decide) (by decide)
     have hk':=Lib.hid (Lib.iterAt_heap wr w.heap.size zaI 3 4 hk)
     have hq':Qb w (wr.iterAt w.heap.size zaI 4):=Lib.below_iterAt hq (Nat.le_refl _) zaI 4
     clear hk
     by_cases hx:(98:UInt8)=b[a + 1]
     ·have HE:=Lib.hid (zcT b a 3 (by decide) c0' hx)
      have hd:∀ x:Int,x=98 → (x == ((b[a + 1].toNat:Nat):Int))=true:=by
       rintro x rfl
       rw [← hx]; rfl
      clear hx
      go_wp2_with fail
      go_quiet (fail)
      rw [hd]
      rotate_left
      ·rfl
      go_wp2_with fail
      go_ret3
      exact ⟨by rw [HE.out]; rfl,hq'.drewN _⟩
     ·have HX:=Lib.hid hx
      have hd:∀ x:Int,x=98 → (x == ((b[a + 1].toNat:Nat):Int))=false:=by
       rintro x rfl
       rw [beq_eq_false_iff_ne]
       intro h
       have h2:(98:UInt8).toNat=b[a + 1].toNat:=by
        have:(98:UInt8).toNat=98:=rfl
        omega
       exact hx (UInt8.toNat_inj.1 h2)
      clear hx
      go_wp2_with fail
      go_quiet (fail)
      rw [hd]
      rotate_left
      ·rfl
      go_wp2_with fail
      go_roundg g
      case measure => omega
      case rel => exact ⟨4,by omega,hk'.out,hq'.drewN _,Lib.hid (fun j hj => by
       rcases Nat.lt_or_ge j 3 with h | h
       ·exact HN.out j h
       ·obtain rfl:j=3:=by omega
        exact HX.out)⟩
    ·have hnx:=fun ty => Lib.run_next_ascii_at (P:=Tryz.prog) wr w.heap.size zaI 4 ty hk (by decide) (by decide)
     have hk':=Lib.hid (Lib.iterAt_heap wr w.heap.size zaI 4 5 hk)
     have hq':Qb w (wr.iterAt w.heap.size zaI 5):=Lib.below_iterAt hq (Nat.le_refl _) zaI 5
     clear hk
     by_cases hx:(102:UInt8)=b[a + 1]
     ·have HE:=Lib.hid (zcT b a 4 (by decide) c0' hx)
      have hd:∀ x:Int,x=102 → (x == ((b[a + 1].toNat:Nat):Int))=true:=by
       rintro x rfl
       rw [← hx]; rfl
      clear hx
      go_wp2_with fail
      go_quiet (fail)
      rw [hd]
      rotate_left
      ·rfl
      go_wp2_with fail
      go_ret3
      exact ⟨by rw [HE.out]; rfl,hq'.drewN _⟩
     ·have HX:=Lib.hid hx
      have hd:∀ x:Int,x=102 → (x == ((b[a + 1].toNat:Nat):Int))=false:=by
       rintro x rfl
       rw [beq_eq_false_iff_ne]
       intro h
       have h2:(102:UInt8).toNat=b[a + 1].toNat:=by
        have:(102:UInt8).toNat=102:=rfl
        omega
       exact hx (UInt8.toNat_inj.1 h2)
      clear hx
      go_wp2_with fail
      go_quiet (fail)
      rw [hd]
      rotate_left
      ·rfl
      go_wp2_with fail
      go_roundg g
      case measure => omega
      case rel => exact ⟨5,by omega,hk'.out,hq'.drewN _,Lib.hid (fun j hj => by
       rcases Nat.lt_or_ge j 4 with h | h
       ·exact HN.out j h
       ·obtain rfl:j=4:=by omega
        exact HX.out)⟩
    ·have hnx:=fun ty => Lib.run_next_ascii_at (P:=Tryz.prog) wr w.heap.size zaI 5 ty hk (by decide) (by decide)
     have hk':=Lib.hid (Lib.iterAt_heap wr w.heap.size zaI 5 6 hk)
     have hq':Qb w (wr.iterAt w.heap.size zaI 6):=Lib.below_iterAt hq (Nat.le_refl _) zaI 6
     clear hk
     by_cases hx:(110:UInt8)=b[a + 1]
     ·have HE:=Lib.hid (zcT b a 5 (by decide) c0' hx)
      have hd:∀ x:Int,x=110 → (x == ((b[a + 1].toNat:Nat):Int))=true:=by
       rintro x rfl
       rw [← hx]; rfl
      clear hx
      go_wp2_with fail
      go_quiet (fail)
      rw [hd]
      rotate_left
      ·rfl
      go_wp2_with fail
      go_ret3
      exact ⟨by rw [HE.out]; rfl,hq'.drewN _⟩
     ·have HX:=Lib.hid hx
      have hd:∀ x:Int,x=110 → (x == ((b[a + 1].toNat:Nat):Int))=false:=by
       rintro x rfl
       rw [beq_eq_false_iff_ne]
       intro h
       have h2:(110:UInt8).toNat=b[a + 1].toNat:=by
        have:(110:UInt8).toNat=110:=rfl
        omega
       exact hx (UInt8.toNat_inj.1 h2)
      clear hx
      go_wp2_with fail
      go_quiet (fail)
      rw [hd]
      rotate_left
      ·rfl
      go_wp2_with fail
      go_roundg g
      case measure => omega
      case rel => exact ⟨6,by omega,hk'.out,hq'.drewN _,Lib.hid (fun j hj => by
       rcases Nat.lt_or_ge j 5 with h | h
       ·exact HN.out j h
       ·obtain rfl:j=5:=by omega
        exact HX.out)⟩
    ·have hnx:=fun ty => Lib.run_next_ascii_at (P:=Tryz.prog) wr w.heap.size zaI 6 ty hk (by decide) (by decide)
     have hk':=Lib.hid (Lib.iterAt_heap wr w.heap.size zaI 6 7 hk)
     have hq':Qb w (wr.iterAt w.heap.size zaI 7):=Lib.below_iterAt hq (Nat.le_refl _) zaI 7
     clear hk
     by_cases hx:(114:UInt8)=b[a + 1]
     ·have HE:=Lib.hid (zcT b a 6 (by decide) c0' hx)
      have hd:∀ x:Int,x=114 → (x == ((b[a + 1].toNat:Nat):Int))=true:=by
       rintro x rfl
       rw [← hx]; rfl
      clear hx
      go_wp2_with fail
      go_quiet (fail)
      rw [hd]
      rotate_left
      ·rfl
      go_wp2_with fail
      go_ret3
      exact ⟨by rw [HE.out]; rfl,hq'.drewN _⟩
     ·have HX:=Lib.hid hx
      have hd:∀ x:Int,x=114 → (x == ((b[a + 1].toNat:Nat):Int))=false:=by
       rintro x rfl
       rw [beq_eq_false_iff_ne]
       intro h
       have h2:(114:UInt8).toNat=b[a + 1].toNat:=by
        have:(114:UInt8).toNat=114:=rfl
        omega
       exact hx (UInt8.toNat_inj.1 h2)
      clear hx
      go_wp2_with fail
      go_quiet (fail)
      rw [hd]
      rotate_left
      ·rfl
      go_wp2_with fail
      go_roundg g
      case measure => omega
      case rel => exact ⟨7,by omega,hk'.out,hq'.drewN _,Lib.hid (fun j hj => by
       rcases Nat.lt_or_ge j 6 with h | h
       ·exact HN.out j h
       ·obtain rfl:j=6:=by omega
        exact HX.out)⟩
    ·have hnx:=fun ty => Lib.run_next_ascii_at (P:=Tryz.prog) wr w.heap.size zaI 7 ty hk (by decide) (by decide)
     have hk':=Lib.hid (Lib.iterAt_heap wr w.heap.size zaI 7 8 hk)
     have hq':Qb w (wr.iterAt w.heap.size zaI 8):=Lib.below_iterAt hq (Nat.le_refl _) zaI 8
     clear hk
     by_cases hx:(116:UInt8)=b[a + 1]
     ·have HE:=Lib.hid (zcT b a 7 (by decide) c0' hx)
      have hd:∀ x:Int,x=116 → (x == ((b[a + 1].toNat:Nat):Int))=true:=by
       rintro x rfl
       rw [← hx]; rfl
      clear hx
      go_wp2_with fail
      go_quiet (fail)
      rw [hd]
      rotate_left
      ·rfl
      go_wp2_with fail
      go_ret3
      exact ⟨by rw [HE.out]; rfl,hq'.drewN _⟩
     ·have HX:=Lib.hid hx
      have hd:∀ x:Int,x=116 → (x == ((b[a + 1].toNat:Nat):Int))=false:=by
       rintro x rfl
       rw [beq_eq_false_iff_ne]
       intro h
       have h2:(116:UInt8).toNat=b[a + 1].toNat:=by
        have:(116:UInt8).toNat=116:=rfl
        omega
       exact hx (UInt8.toNat_inj.1 h2)
      clear hx
      go_wp2_with fail
      go_quiet (fail)
      rw [hd]
      rotate_left
      ·rfl
      go_wp2_with fail
      go_roundg g
      case measure => omega
      case rel => exact ⟨8,by omega,hk'.out,hq'.drewN _,Lib.hid (fun j hj => by
       rcases Nat.lt_or_ge j 7 with h | h
       ·exact HN.out j h
       ·obtain rfl:j=7:=by omega
        exact HX.out)⟩
   ·have hnx:=fun ty => Lib.run_next_end_at (P:=Tryz.prog) wr w.heap.size zaI i ty hk (by show ¬ i < 8; exact hi)
    have HS:Hid ((b.data.toList.drop a)[1]?.bind zcK=none):=Lib.hid (by
     rw [zcc,HG.out,Option.bind_some]
     exact codes_no _ (fun j hj => HN.out j (by omega)))
    go_wp2_with fail
    refine (zhR b a a rfl (by omega) hs _ (zn6 hT hq)).mono ?_
    rintro e w1 ⟨v,rfl,hv,hq1⟩
    have hq2:=hq.trans hq1
    unfold zkb at hv
    cases hu:zch (b.data.toList.drop a) with
    | none =>
     rw [hu] at hv
     obtain ⟨x,rfl⟩:=hv
     have hE:zbi b.data.toList a=([],0,130):=by
      have:zcU (b.data.toList.drop a)=(130,[],0):=by unfold zcU; rw [HS.out,hu]
      unfold zbi
      rw [this]; rfl
     go_wp2_with fail
     go_ret3
     exact ⟨by rw [hE]; rfl,hq2⟩
    | some n =>
     rw [hu] at hv
     subst hv
     have hul:=zcg hu
     rw [List.length_drop,zai] at hul
     have HU:=Lib.hid hu
     clear hu
     have okE:∀ (U Z:Nat),zc9 n ((b.data.toList.drop a).drop 6)=(U,Z) → cpB (U:Int)=true → zbi b.data.toList a=(zdq U,((a + Z:Nat):Int),0):=by
      intro U Z h1 h2
      have:=zjD HS.out HU.out
      rw [h1] at this
      simp only at this
      rw [if_pos h2] at this
      unfold zbi
      rw [this]; rfl
     have noE:∀ (U Z:Nat),zc9 n ((b.data.toList.drop a).drop 6)=(U,Z) → cpB (U:Int)=false → zbi b.data.toList a=([],0,7):=by
      intro U Z h1 h2
      have:=zjD HS.out HU.out
      rw [h1] at this
      simp only at this
      rw [if_neg (by rw [h2]; simp)] at this
      unfold zbi
      rw [this]; rfl
     have HO:=Lib.hid okE
     have HNo:=Lib.hid noE
     clear okE noE
     have hq3:=zn6 hT hq2
     have HQ2:=Lib.hid hq2
     have b1:IntKind.i64.wrap ((a:Int) + 6)=(a:Int) + 6:=IntWalk.i64_in _ (by omega)
     have b2:IntKind.i64.wrap ((a:Int) + 12)=(a:Int) + 12:=IntWalk.i64_in _ (by omega)
     have encOk:∀ U:Nat,cpB (U:Int)=true → ∀ wz,Calls Tryz.prog 129 #[.int .i64 (U:Nat)] wz fun e w' => e=.returned (.tuple #[.string (S (zdq U)),.int .i64 0]) ∧ Qb wz w':=by
      intro U hU wz
      have:=zcO (U:Nat) wz
      unfold zgh at this
      rw [if_pos hU,Int.toNat_natCast] at this
      exact this
     by_cases c1:n < 55296 ∨ 57343 < n
     ·have hU:zc9 n ((b.data.toList.drop a).drop 6)=(n,6):=by unfold zc9; rw [if_neg (show ¬ (55296 ≤ n ∧ n < 56320) by omega)]
      have hcp:cpB (n:Int)=true:=decide_eq_true (by omega)
      have hE:=Lib.hid (HO.out n 6 hU hcp)
      have hEn:=Lib.hid (encOk n hcp)
      clear hU hcp encOk
      by_cases c2:n < 55296
      ·have d1:decide ((n:Int) < 55296)=true:=decide_eq_true (by omega)
       clear c1 c2 hul
       go_wp2_with fail
       refine (hEn.out _).mono ?_
       rintro e w2 ⟨rfl,hq4⟩
       have HE2:=hE.out
       clear hE hEn
       generalize zdq n=X at *
       have HE3:=Lib.hid HE2
       clear HE2
       go_wp2_with fail
       go_ret3
       exact ⟨by rw [HE3.out]; rfl,HQ2.out.trans hq4⟩
      ·have d1:decide ((n:Int) < 55296)=false:=decide_eq_false (by omega)
       have d2:decide ((57343:Int) < (n:Int))=true:=decide_eq_true (by omega)
       clear c1 c2 hul
       go_wp2_with fail
       refine (hEn.out _).mono ?_
       rintro e w2 ⟨rfl,hq4⟩
       have HE2:=hE.out
       clear hE hEn
       generalize zdq n=X at *
       have HE3:=Lib.hid HE2
       clear HE2
       go_wp2_with fail
       go_ret3
       exact ⟨by rw [HE3.out]; rfl,HQ2.out.trans hq4⟩
     ·have d1:decide ((n:Int) < 55296)=false:=decide_eq_false (by omega)
      have d2:decide ((57343:Int) < (n:Int))=false:=decide_eq_false (by omega)
      have C1:=Lib.hid c1
      have HL:=Lib.hid hul
      clear c1 hul
      go_wp2_with fail
      refine (zhR b (a + 6) _ (by omega) (by omega) hs _ hq3).mono ?_
      rintro e w2 ⟨v,rfl,hv,hq4⟩
      have HQ5:=Lib.hid (HQ2.out.trans hq4)
      unfold zkb at hv
      have hdd:(b.data.toList.drop a).drop 6=b.data.toList.drop (a + 6):=List.drop_drop
      have hcn:=C1.out
      have hln:=HL.out
      have hne:cpB (n:Int)=false:=decide_eq_false (by omega)
      cases hu2:zch (b.data.toList.drop (a + 6)) with
      | none =>
       rw [hu2] at hv
       obtain ⟨x,rfl⟩:=hv
       have hU:zc9 n ((b.data.toList.drop a).drop 6)=(n,6):=by unfold zc9; rw [hdd,hu2]; simp
       have hE:=Lib.hid (HNo.out n 6 hU hne)
       clear hU hcn hln hne hdd encOk
       by_cases c3:(56319:Int) < n
       ·have d3:decide ((56319:Int) < (n:Int))=true:=decide_eq_true c3
        clear c3
        go_wp2_with fail
        go_ret3
        exact ⟨by rw [hE.out]; rfl,HQ5.out⟩
       ·have d3:decide ((56319:Int) < (n:Int))=false:=decide_eq_false c3
        clear c3
        go_wp2_with fail
        go_ret3
        exact ⟨by rw [hE.out]; rfl,HQ5.out⟩
      | some m =>
       rw [hu2] at hv
       subst hv
       have hml:=(zcg hu2).2
       by_cases c3:(56319:Int) < n
       ·have hU:zc9 n ((b.data.toList.drop a).drop 6)=(n,6):=by unfold zc9; rw [if_neg (show ¬ (55296 ≤ n ∧ n < 56320) by omega)]
        have hE:=Lib.hid (HNo.out n 6 hU hne)
        have d3:decide ((56319:Int) < (n:Int))=true:=decide_eq_true c3
        clear hU hcn hln hne hdd encOk c3 hml hu2
        go_wp2_with fail
        go_ret3
        exact ⟨by rw [hE.out]; rfl,HQ5.out⟩
       have d3:decide ((56319:Int) < (n:Int))=false:=decide_eq_false c3
       by_cases c4:(m:Int) < 56320
       ·have hU:zc9 n ((b.data.toList.drop a).drop 6)=(n,6):=by
         unfold zc9; rw [hdd,hu2,if_pos (show 55296 ≤ n ∧ n < 56320 by omega)]
         simp only
         rw [if_neg (by omega)]
        have hE:=Lib.hid (HNo.out n 6 hU hne)
        have d4:decide ((m:Int) < 56320)=true:=decide_eq_true c4
        clear hU hcn hln hne hdd encOk c3 c4 hml hu2
        go_wp2_with fail
        go_ret3
        exact ⟨by rw [hE.out]; rfl,HQ5.out⟩
       have d4:decide ((m:Int) < 56320)=false:=decide_eq_false c4
       by_cases c5:(57343:Int) < m
       ·have hU:zc9 n ((b.data.toList.drop a).drop 6)=(n,6):=by
         unfold zc9; rw [hdd,hu2,if_pos (show 55296 ≤ n ∧ n < 56320 by omega)]
         simp only
         rw [if_neg (by omega)]
        have hE:=Lib.hid (HNo.out n 6 hU hne)
        have d5:decide ((57343:Int) < (m:Int))=true:=decide_eq_true c5
        clear hU hcn hln hne hdd encOk c3 c4 c5 hml hu2
        go_wp2_with fail
        go_ret3
        exact ⟨by rw [hE.out]; rfl,HQ5.out⟩
       have d5:decide ((57343:Int) < (m:Int))=false:=decide_eq_false c5
       have hU:zc9 n ((b.data.toList.drop a).drop 6)=(65536 + (n - 55296) * 1024 + (m - 56320),12):=by
        unfold zc9; rw [hdd,hu2,if_pos (show 55296 ≤ n ∧ n < 56320 by omega)]
        simp only
        rw [if_pos (by omega)]
       have hcp:cpB ((65536 + (n - 55296) * 1024 + (m - 56320):Nat):Int)=true:=decide_eq_true (by omega)
       have hE:=Lib.hid (HO.out _ 12 hU hcp)
       have hEn:=Lib.hid (encOk _ hcp)
       have e1:(n:Int) - 55296=((n - 55296:Nat):Int):=by omega
       have e2:((n - 55296:Nat):Int) * 1024=(((n - 55296) * 1024:Nat):Int):=by omega
       have e3:(65536:Int) + (((n - 55296) * 1024:Nat):Int)=((65536 + (n - 55296) * 1024:Nat):Int):=by omega
       have e4:((65536 + (n - 55296) * 1024:Nat):Int) + (m:Int)=((65536 + (n - 55296) * 1024 + m:Nat):Int):=by omega
       have e5:((65536 + (n - 55296) * 1024 + m:Nat):Int) - 56320=((65536 + (n - 55296) * 1024 + (m - 56320):Nat):Int):=by omega
       have hz:(65536:Int) + ((n:Int) - 55296) * 1024 + (m:Int) - 56320=((65536 + (n - 55296) * 1024 + (m - 56320):Nat):Int):=by omega
       have HZ:=Lib.hid hz
       clear hU hne hdd encOk c3 c4 c5 hu2 hcp e1 e2 e3 e4 e5 hz
       go_wp2_with fail
       rw [HZ.out]
       refine (hEn.out _).mono ?_
       rintro e w3 ⟨rfl,hq6⟩
       have HE2:=hE.out
       clear hE hEn HZ
       generalize zdq (65536 + (n - 55296) * 1024 + (m - 56320))=X at *
       have HE3:=Lib.hid HE2
       clear HE2 hcn hln hml
       go_wp2_with fail
       go_ret3
       exact ⟨by rw [HE3.out]; rfl,HQ5.out.trans hq6⟩
 ·go_enter Tryz.func104,Tryz.ntmps104
  have hu:zch (b.data.toList.drop a)=none:=by
   cases hu:zch (b.data.toList.drop a) with
   | none => rfl
   | some n => have:=(zcg hu).1; rw [List.length_drop,zai] at this; omega
  have hE:zbi b.data.toList a=([],0,130):=by
   have:zcU (b.data.toList.drop a)=(130,[],0):=by
    unfold zcU
    rw [zcc,List.getElem?_eq_none (by rw [zai]; omega),hu]; rfl
   unfold zbi
   rw [this]; rfl
  rw [hE]
  go_wp2_with fail
  refine (zhR b a a rfl (by omega) hs _ hT).mono ?_
  rintro e w1 ⟨v,rfl,hv,hq⟩
  unfold zkb at hv
  rw [hu] at hv
  obtain ⟨x,rfl⟩:=hv
  go_wp2_with fail
  go_ret3
  exact ⟨rfl,hq⟩
end Go.Proofs.YtadhjoggdbhkgaaGreatDoor
namespace Go.Proofs.YtadhjoggdbhkgaaGreatDoor
open Nat renaming reduceAdd → z6, reduceSub → z7, reduceLeDiff → z8, reduceLT → j4, reduceMul → j5, reduceEqDiff → j6
open Int renaming reduceToNat → j7, reduceAdd → j8, reduceSub → j9, reduceMul → x4, reduceNeg → x5, reduceLT → x6, reduceLE → x7, reduceEq → x8, reduceNe → x9
open Go.RowKit Sx
section
variable [Tabs Tryz.prog] {objs:List OB} {K:List OB → AV → Prop}
theorem zlo (s:List UInt8) (a:Nat) (ha:a < s.length) (hs:s.length ≤ 140737488351232) (hk:K objs (.tup [.s (zbi s a).1,.i .i64 (zbi s a).2.1,.i .i64 (zbi s a).2.2])):zah Tryz.prog 104 [.s s,.i .i64 (a:Nat)] objs K :=
 convT (vs:=[.string (S s),.int .i64 (a:Nat)]) rfl rfl (fun w hT => zhS (S s) a (by rw [zb1]; exact ha) (by rw [zb1]; exact hs) w hT) hk
set_option maxHeartbeats 4000000 in
theorem zkj (s:List UInt8) (a:Nat) (hs:s.length ≤ 140737488351232) (ha:a < s.length) (R:Int × List UInt8 × Nat) (hR:zc7 ((s.drop (a + 1)).length + 1) (s.drop (a + 1)) [] 0=R)
  (h1:R.1 ≠ 0 → K objs (.tup [.s [],.i .i64 0,.i .i64 R.1])) (h0:R.1=0 → K objs (.tup [.s R.2.1,.i .i64 ((a + 1 + R.2.2:Nat):Int),.i .i64 0])):zah Tryz.prog 73 [.s s,.i .i64 (a:Nat)] objs K:=by
 refine zbI is_ref13_text rfl fun C _ => ?_
 simp only [c_ref13_text,sxZ,z6,z7,z8,j4,j5,j6,j7,j8,j9,x4,x5,x6,x7,x8,x9,reduceCtorEq,↓reduceIte]
 refine ⟨by omega,?_⟩
 refine zaV (fun n o tm => ∃ (i:Nat) (out:List UInt8) (m:Nat),i ≤ s.length ∧ a + 1 ≤ i ∧ n=s.length - i ∧ o=[] ∧ out.length ≤ i ∧ s.length - i < m ∧ zc7 m (s.drop i) out (i - (a + 1))=R ∧ tm.length=70 ∧ tm[0]? = some (.s s) ∧ tm[7]? = some (.s out) ∧ tm[8]? = some (.i .i64 (i:Nat))) (s.length - (a + 1))
  ⟨a + 1,[],(s.drop (a + 1)).length + 1,ha,Nat.le_refl _,rfl,rfl,Nat.zero_le _,by rw [List.length_drop]; omega,by rw [Nat.sub_self]; exact hR,rfl,rfl,rfl,rfl⟩ ?_
 rintro n _ tm ⟨i,out,m,hi,hai,rfl,rfl,ho,hm,hT,hlen,t0,t7,t8⟩
 obtain ⟨m,rfl⟩:∃ m',m=m' + 1:=⟨m - 1,by omega⟩
 by_cases hlt:(i:Int) < s.length
 ·have hlt':i < s.length:=by omega
  have hg:=zaB hlt'
  have hdc:=List.drop_eq_getElem_cons hlt'
  by_cases c1:((s[i].toNat:Nat):Int)=34
  ·have hc:s[i]=34:=(zdt (by decide)).1 c1
   rw [hdc,zc7,if_pos hc] at hT
   subst hT
   have h0:=h0 rfl
   rw [show a + 1 + (i - (a + 1) + 1)=i + 1 by omega] at h0
   simp only [hlt,hg,c1,sxZ,z6,z7,z8,j4,j5,j6,j7,j8,j9,x4,x5,x6,x7,x8,x9,reduceCtorEq,↓reduceIte,List.getElem?_set,hlen,t0,t7,t8]
   exact ⟨by omega,by omega,h0⟩
  ·have hc:¬ s[i]=34:=fun h => c1 ((zdt (by decide)).2 h)
   by_cases c2:((s[i].toNat:Nat):Int)=92
   ·have hc2:s[i]=92:=(zdt (by decide)).1 c2
    rw [hdc,zc7,if_neg hc,if_pos hc2,← hdc] at hT
    simp only [hlt,hg,c1,c2,sxZ,z6,z7,z8,j4,j5,j6,j7,j8,j9,x4,x5,x6,x7,x8,x9,reduceCtorEq,↓reduceIte,List.getElem?_set,hlen,t0,t7,t8]
    refine ⟨by omega,by omega,?_⟩
    refine zal (zlo s i hlt' hs ?_)
    unfold zbi
    generalize hq:zcU (s.drop i)=q at *
    obtain ⟨e,x,m'⟩:=q
    simp only at hT
    by_cases c3:e=0
    ·subst c3
     rw [if_neg (by simp)] at hT
     have hl:=zgf hq
     rw [List.length_drop] at hl
     simp only [sxZ,z6,z7,z8,j4,j5,j6,j7,j8,j9,x4,x5,x6,x7,x8,x9,reduceCtorEq,↓reduceIte,List.getElem?_set,hlen,t0,t7,t8]
     exact ⟨by omega,s.length - (i + m'),by omega,i + m',out ++ x,m,by omega,by omega,rfl,by rw [List.length_append]; omega,by omega,by rw [← List.drop_drop,show i + m' - (a + 1)=i - (a + 1) + m' by omega]; exact hT,rfl,rfl⟩
    ·rw [if_pos c3] at hT
     subst hT
     simp only [c3,sxZ,z6,z7,z8,j4,j5,j6,j7,j8,j9,x4,x5,x6,x7,x8,x9,reduceCtorEq,↓reduceIte,List.getElem?_set,hlen,t0,t7,t8]
     exact h1 c3
   ·have hc2:¬ s[i]=92:=fun h => c2 ((zdt (by decide)).2 h)
    rw [hdc,zc7,if_neg hc,if_neg hc2,← hdc] at hT
    by_cases c4:((s[i].toNat:Nat):Int) < 32
    ·rw [if_pos (by omega)] at hT
     subst hT
     simp only [hlt,hg,c1,c2,c4,sxZ,z6,z7,z8,j4,j5,j6,j7,j8,j9,x4,x5,x6,x7,x8,x9,reduceCtorEq,↓reduceIte,List.getElem?_set,hlen,t0,t7,t8]
     exact ⟨by omega,by omega,by omega,h1 (by decide)⟩
    ·rw [if_neg (by omega)] at hT
     simp only [hlt,hg,c1,c2,c4,sxZ,z6,z7,z8,j4,j5,j6,j7,j8,j9,x4,x5,x6,x7,x8,x9,reduceCtorEq,↓reduceIte,List.getElem?_set,hlen,t0,t7,t8]
     refine ⟨by omega,by omega,by omega,?_⟩
     refine zal (zki s i hs ?_)
     rw [znF hlt']
     cases hd:zbK (s.drop i) with
     | none =>
      rw [hd] at hT
      simp only at hT
      subst hT
      simp only [sxZ,z6,z7,z8,j4,j5,j6,j7,j8,j9,x4,x5,x6,x7,x8,x9,reduceCtorEq,↓reduceIte,List.getElem?_set,hlen,t0,t7,t8]
      exact h1 (by decide)
     | some q =>
      obtain ⟨r,m'⟩:=q
      rw [hd] at hT
      simp only at hT
      have gg:m' ≤ (s.drop i).length ∧ 1 ≤ m':=⟨(za7 hd).2.2.1,(za7 hd).2.2.2.1⟩
      have hxl:((s.drop i).take m').length ≤ m':=by rw [List.length_take]; omega
      rw [List.length_drop] at gg
      simp only [sxZ,z6,z7,z8,j4,j5,j6,j7,j8,j9,x4,x5,x6,x7,x8,x9,reduceCtorEq,↓reduceIte,List.getElem?_set,hlen,t0,t7,t8]
      rw [zeB]
      exact ⟨by omega,by omega,s.length - (i + m'),by omega,i + m',out ++ (s.drop i).take m',m,by omega,by omega,rfl,by rw [List.length_append]; omega,by omega,by rw [← List.drop_drop,show i + m' - (a + 1)=i - (a + 1) + m' by omega]; exact hT,rfl,rfl⟩
 ·obtain rfl:i=s.length:=by omega
  rw [List.drop_length,zc7] at hT
  subst hT
  simp only [sxZ,z6,z7,z8,j4,j5,j6,j7,j8,j9,x4,x5,x6,x7,x8,x9,reduceCtorEq,↓reduceIte,List.getElem?_set,hlen,t0,t7,t8,hlt]
  exact h1 (by decide)
end
theorem zfZ {P:Program} [Tabs P] {C:Cx} {F:zaG} {k:List IT} {objs:List OB} {tm:List AV} {c:SV} {x y:SCode} (h:c.ev tm=.b true) (hr:run P C (.code x :: k) objs tm F):run P C (.code (.cond c x y) :: k) objs tm F:=by
 rw [zf1,h,kC_t]; exact hr
theorem zf0 {P:Program} [Tabs P] {C:Cx} {F:zaG} {k:List IT} {objs:List OB} {tm:List AV} {c:SV} {x y:SCode} (h:c.ev tm=.b false) (hr:run P C (.code y :: k) objs tm F):run P C (.code (.cond c x y) :: k) objs tm F:=by
 rw [zf1,h,kC_f]; exact hr
section
variable [Tabs Tryz.prog] {objs:List OB} {K:List OB → AV → Prop}
set_option maxHeartbeats 4000000 in
theorem zkk (s:List UInt8) (a:Int) (hs:s.length ≤ 140737488351232) (hk:K objs (zmp (zaQ s a))):zah Tryz.prog 52 [.s s,.i .i64 a] objs K:=by
 refine zbI is_ref13_Next rfl fun C _ => ?_
 unfold zaQ zmp at hk
 by_cases c0:a < 0
 ·rw [if_pos (.inl c0)] at hk
  simp only [c0,c_ref13_Next,sxZ,z6,z7,z8,j4,j5,j6,j7,j8,j9,x4,x5,x6,x7,x8,x9,reduceCtorEq,↓reduceIte]
  exact hk
 by_cases c1:(s.length:Int) < a
 ·rw [if_pos (.inr c1)] at hk
  simp only [c0,c1,c_ref13_Next,sxZ,z6,z7,z8,j4,j5,j6,j7,j8,j9,x4,x5,x6,x7,x8,x9,reduceCtorEq,↓reduceIte]
  exact hk
 rw [if_neg (by omega)] at hk
 obtain ⟨a,rfl⟩:∃ n:Nat,a=n:=⟨a.toNat,by omega⟩
 rw [Int.toNat_natCast] at hk
 rw [c_ref13_Next]
 refine zab fun Y1 hY1 => ?_
 simp only [sxZ,z6,z7,z8,j4,j5,j6,j7,j8,j9,x4,x5,x6,x7,x8,x9,reduceCtorEq,↓reduceIte]
 subst hY1
 refine zab fun Y1 hY1 => ?_
 simp only [c0,c1,sxZ,z6,z7,z8,j4,j5,j6,j7,j8,j9,x4,x5,x6,x7,x8,x9,reduceCtorEq,↓reduceIte]
 subst hY1
 refine zab fun Y1 hY1 => ?_
 have hwl:=zds (s.drop a)
 rw [List.length_drop] at hwl
 refine zaw (fun o t => o=[.box 54 [.i .i64 0,.s [],.i .i64 0]] ∧ t.length=139 ∧ t[0]? = some (.s s) ∧ t[1]? = some (.i .i64 ((a + za8 (s.drop a):Nat):Int)) ∧ t[4]? = some (.p 0 0)) ?_ ?_
 ·simp only [sxZ,z6,z7,z8,j4,j5,j6,j7,j8,j9,x4,x5,x6,x7,x8,x9,reduceCtorEq,↓reduceIte]
  refine zaV (fun n objs tm => ∃ i:Nat,i ≤ s.length ∧ n=s.length - i ∧ objs=[.box 54 [.i .i64 0,.s [],.i .i64 0]] ∧ a + za8 (s.drop a)=i + za8 (s.drop i) ∧ tm.length=139 ∧ tm[0]? = some (.s s) ∧ tm[1]? = some (.i .i64 i) ∧ tm[4]? = some (.p 0 0)) (s.length - a) ⟨a,by omega,rfl,rfl,rfl,rfl,rfl,rfl,rfl⟩ ?_
  rintro n _ tm ⟨i,hil,rfl,rfl,hr,hlen,t0,t1,t4⟩
  by_cases hlt2:(i:Int) < s.length
  ·have hlt':i < s.length:=by omega
   have hg2:=zaB hlt'
   have hrn:=white_at s i hlt'
   simp only [sxZ,z6,z7,z8,j4,j5,j6,j7,j8,j9,x4,x5,x6,x7,x8,x9,reduceCtorEq,↓reduceIte,List.getElem?_set,hlen,t0,t1,t4,hlt2]
   refine ⟨by omega,?_⟩
   rw [hg2]
   refine zal (rwhite_k s[i] ?_)
   by_cases hd:zcB s[i]=true
   ·rw [if_pos hd] at hrn
    simp only [hd,sxZ,z6,z7,z8,j4,j5,j6,j7,j8,j9,x4,x5,x6,x7,x8,x9,reduceCtorEq,↓reduceIte,List.getElem?_set,hlen,t0,t1,t4]
    exact ⟨⟨by omega,by omega⟩,s.length - (i + 1),by omega,i + 1,by omega,rfl,by omega,rfl⟩
   ·rw [if_neg hd] at hrn
    simp only [Bool.not_eq_true] at hd
    simp only [hd,zbx,zaa,sxZ,z6,z7,z8,j4,j5,j6,j7,j8,j9,x4,x5,x6,x7,x8,x9,reduceCtorEq,↓reduceIte,List.getElem?_set,hlen,t0,t1,t4]
    rw [hr,hrn]; rfl
  ·obtain rfl:i=s.length:=by omega
   have hw:za8 (s.drop s.length)=0:=by rw [List.drop_length]; rfl
   simp only [hlt2,zbx,zaa,sxZ,z6,z7,z8,j4,j5,j6,j7,j8,j9,x4,x5,x6,x7,x8,x9,reduceCtorEq,↓reduceIte,List.getElem?_set,hlen,t0,t1,t4]
   rw [hr,hw]; rfl
 rintro _ tm ⟨rfl,hlen,t0,t1,t4⟩
 subst hY1
 have ha:a + za8 (s.drop a) ≤ s.length:=by omega
 generalize a + za8 (s.drop a)=i at *
 have h1:∀ e x n k,zaU (s.drop i)=(e,k,x,n) → e ≠ 0 → K objs (.tup [.agg [.i .i64 0,.s [],.i .i64 0],.i .i64 0,.i .i64 e]):=by
  intro e x n k h he
  rw [h,if_pos he] at hk
  exact hk
 have h0:∀ x n k,zaU (s.drop i)=(0,k,x,n) → K objs (.tup [.agg [.i .i64 k,.s x,.i .i64 (i:Nat)],.i .i64 ((i + n:Nat):Int),.i .i64 0]):=by
  intro x n k h
  rw [h,if_neg (by simp)] at hk
  exact hk
 clear hk c0 c1
 refine zab fun Y1 hY1 => ?_
 by_cases c0:(i:Int)=s.length
 ·obtain rfl:i=s.length:=by omega
  have:=h0 [] 0 1 (by rw [List.drop_length]; rfl)
  simp only [c0,sxZ,z6,z7,z8,j4,j5,j6,j7,j8,j9,x4,x5,x6,x7,x8,x9,reduceCtorEq,↓reduceIte,List.getElem?_set,hlen,t0,t1,t4]
  exact this
 have hlt:i < s.length:=by omega
 have hg:=zaB hlt
 have hdc:=List.drop_eq_getElem_cons hlt
 simp only [c0,sxZ,z6,z7,z8,j4,j5,j6,j7,j8,j9,x4,x5,x6,x7,x8,x9,reduceCtorEq,↓reduceIte,List.getElem?_set,hlen,t0,t1,t4]
 subst hY1
 refine zab fun Y1 hY1 => ?_
 refine zab fun Y2 hY2 => ?_
 refine zaw (fun o t => o=[.box 54 [.i .i64 0,.s [],.i .i64 0]] ∧ t.length=139 ∧ t[0]? = some (.s s) ∧ t[1]? = some (.i .i64 (i:Nat)) ∧ t[4]? = some (.p 0 0) ∧ t[7]? = some (.i .u8 (s[i].toNat:Nat))) ?_ ?_
 ·simp only [hg,zaa,sxZ,z6,z7,z8,j4,j5,j6,j7,j8,j9,x4,x5,x6,x7,x8,x9,reduceCtorEq,↓reduceIte,List.getElem?_set,hlen,t0,t1,t4]
  and_intros <;> first | omega | exact iv (by omega) | rfl | assumption
 rintro _ tm ⟨rfl,hlen,t0,t1,t4,t7⟩
 subst hY2
 rw [zbc]
 refine zab fun Y2 hY2 => ?_
 refine zaw (fun o t => o=[.box 54 [.i .i64 0,.s [],.i .i64 0]] ∧ t.length=139 ∧ t[0]? = some (.s s) ∧ t[1]? = some (.i .i64 (i:Nat)) ∧ t[4]? = some (.p 0 0) ∧ t[7]? = some (.i .u8 (s[i].toNat:Nat)) ∧ t[45]? = some (.b (zcw s[i] [123,125,91,93,58,44]))) ?_ ?_
 ·simp only [sxZ,z6,z7,z8,j4,j5,j6,j7,j8,j9,x4,x5,x6,x7,x8,x9,reduceCtorEq,↓reduceIte,List.getElem?_set,hlen,t0,t1,t4,t7]
  refine zal (zgY s[i] _ (by decide) ?_)
  simp only [zaa,sxZ,z6,z7,z8,j4,j5,j6,j7,j8,j9,x4,x5,x6,x7,x8,x9,reduceCtorEq,↓reduceIte,List.getElem?_set,hlen,t0,t1,t4,t7]
 rintro _ tm ⟨rfl,hlen,t0,t1,t4,t7,t45⟩
 subst hY2
 by_cases c1:zcw s[i] [123,125,91,93,58,44]=true
 ·have hx:(s.take (i + 1)).drop i=[s[i]]:=by rw [zeB,hdc]; rfl
  have e1:((i:Int) + 1).toNat=i + 1:=by omega
  have:=h0 [s[i]] 1 2 (by rw [hdc,zaU,if_pos c1])
  refine zfZ (by simp only [SV.ev,t45,Option.getD_some,c1]) ?_
  simp only [e1,hx,sxZ,z6,z7,z8,j4,j5,j6,j7,j8,j9,x4,x5,x6,x7,x8,x9,reduceCtorEq,↓reduceIte,List.getElem?_set,hlen,t0,t1,t4,t7]
  (and_intros <;> try omega)
  exact this
 refine zf0 (by rw [Bool.not_eq_true] at c1; simp only [SV.ev,t45,Option.getD_some,c1]) ?_
 refine zab fun Y2 hY2 => ?_
 refine zaw (fun o t => o=[.box 54 [.i .i64 0,.s [],.i .i64 0]] ∧ t.length=139 ∧ t[0]? = some (.s s) ∧ t[1]? = some (.i .i64 (i:Nat)) ∧ t[4]? = some (.p 0 0) ∧ t[7]? = some (.i .u8 (s[i].toNat:Nat)) ∧ t[57]? = some (.b (decide (((s[i].toNat:Nat):Int)=34)))) ?_ ?_
 ·simp only [zaa,sxZ,z6,z7,z8,j4,j5,j6,j7,j8,j9,x4,x5,x6,x7,x8,x9,reduceCtorEq,↓reduceIte,List.getElem?_set,hlen,t0,t1,t4,t7]
 rintro _ tm ⟨rfl,hlen,t0,t1,t4,t7,t57⟩
 subst hY2
 by_cases c2:((s[i].toNat:Nat):Int)=34
 ·have hc:s[i]=34:=(zdt (by decide)).1 c2
  refine zfZ (by simp only [SV.ev,t57,Option.getD_some,c2,decide_true]) ?_
  have he:zaU (s.drop i)=if (zc7 ((s.drop (i + 1)).length + 1) (s.drop (i + 1)) [] 0).1 ≠ 0 then ((zc7 ((s.drop (i + 1)).length + 1) (s.drop (i + 1)) [] 0).1,0,[],0) else (0,3,(zc7 ((s.drop (i + 1)).length + 1) (s.drop (i + 1)) [] 0).2.1,(zc7 ((s.drop (i + 1)).length + 1) (s.drop (i + 1)) [] 0).2.2 + 1):=by
   rw [hdc,zaU,if_neg c1,if_pos hc]
  obtain ⟨TT,hTT⟩:∃ TT,zc7 ((s.drop (i + 1)).length + 1) (s.drop (i + 1)) [] 0=TT:=⟨_,rfl⟩
  rw [hTT] at he
  simp only [sxZ,z6,z7,z8,j4,j5,j6,j7,j8,j9,x4,x5,x6,x7,x8,x9,reduceCtorEq,↓reduceIte,List.getElem?_set,hlen,t0,t1,t4,t7]
  refine zal (zkj s i hs hlt TT hTT (fun hR => ?_) (fun hR => ?_))
  ·rw [if_pos hR] at he
   have:=h1 _ _ _ _ he hR
   simp only [hR,sxZ,z6,z7,z8,j4,j5,j6,j7,j8,j9,x4,x5,x6,x7,x8,x9,reduceCtorEq,↓reduceIte,List.getElem?_set,hlen,t0,t1,t4,t7]
   exact this
  ·rw [if_neg (by rw [hR]; simp)] at he
   have:=h0 _ _ _ he
   simp only [sxZ,z6,z7,z8,j4,j5,j6,j7,j8,j9,x4,x5,x6,x7,x8,x9,reduceCtorEq,↓reduceIte,List.getElem?_set,hlen,t0,t1,t4,t7]
   rw [show i + (TT.2.2 + 1)=i + 1 + TT.2.2 by omega] at this
   exact this
 have hc:¬ s[i]=34:=fun h => c2 ((zdt (by decide)).2 h)
 refine zf0 (by simp only [SV.ev,t57,Option.getD_some,c2,decide_false]) ?_
 refine zab fun Y2 hY2 => ?_
 refine zaw (fun o t => o=[.box 54 [.i .i64 0,.s [],.i .i64 0]] ∧ t.length=139 ∧ t[0]? = some (.s s) ∧ t[1]? = some (.i .i64 (i:Nat)) ∧ t[4]? = some (.p 0 0) ∧ t[7]? = some (.i .u8 (s[i].toNat:Nat)) ∧ t[75]? = some (.b (decide (s[i]=45 ∨ zaj s[i]=true)))) ?_ ?_
 ·by_cases c3:((s[i].toNat:Nat):Int)=45
  ·have hc3:s[i]=45 ∨ zaj s[i]=true:=.inl ((zdt (by decide)).1 c3)
   simp only [c3,hc3,zaa,sxZ,z6,z7,z8,j4,j5,j6,j7,j8,j9,x4,x5,x6,x7,x8,x9,reduceCtorEq,↓reduceIte,List.getElem?_set,hlen,t0,t1,t4,t7]
  ·have hc3:¬ s[i]=45:=fun h => c3 ((zdt (by decide)).2 h)
   simp only [c3,sxZ,z6,z7,z8,j4,j5,j6,j7,j8,j9,x4,x5,x6,x7,x8,x9,reduceCtorEq,↓reduceIte,List.getElem?_set,hlen,t0,t1,t4,t7]
   refine zal (zeK s[i] ?_)
   have e3:decide (s[i]=45 ∨ zaj s[i]=true)=zaj s[i]:=by
    cases zaj s[i] <;> simp [hc3]
   rw [e3]
   generalize zaj s[i]=dg
   simp only [zaa,sxZ,z6,z7,z8,j4,j5,j6,j7,j8,j9,x4,x5,x6,x7,x8,x9,reduceCtorEq,↓reduceIte,List.getElem?_set,hlen,t0,t1,t4,t7]
 rintro _ tm ⟨rfl,hlen,t0,t1,t4,t7,t75⟩
 subst hY2
 by_cases c3:s[i]=45 ∨ zaj s[i]=true
 ·refine zfZ (by simp only [SV.ev,t75,Option.getD_some,c3,decide_true]) ?_
  have he:zaU (s.drop i)=if zc8 (s.drop i)=0 then (130,0,[],0) else (0,4,(s.drop i).take (zc8 (s.drop i)),zc8 (s.drop i)):=by
   conv => lhs; rw [hdc]
   rw [zaU,if_neg c1,if_neg hc,if_pos c3,← hdc]
  have hnl:=zh6 (s.drop i)
  rw [List.length_drop] at hnl
  simp only [sxZ,z6,z7,z8,j4,j5,j6,j7,j8,j9,x4,x5,x6,x7,x8,x9,reduceCtorEq,↓reduceIte,List.getElem?_set,hlen,t0,t1,t4,t7]
  refine ⟨by omega,?_⟩
  refine zal (zfl _ (by rw [List.length_drop]; omega) ?_)
  generalize zc8 (s.drop i)=n at *
  by_cases c4:((n:Nat):Int)=0
  ·rw [if_pos (by omega)] at he
   have:=h1 _ _ _ _ he (by decide)
   simp only [c4,sxZ,z6,z7,z8,j4,j5,j6,j7,j8,j9,x4,x5,x6,x7,x8,x9,reduceCtorEq,↓reduceIte,List.getElem?_set,hlen,t0,t1,t4,t7]
   exact this
  ·rw [if_neg (by omega)] at he
   have:=h0 _ _ _ he
   have e2:((i:Int) + (n:Int)).toNat=i + n:=by omega
   simp only [c4,e2,sxZ,z6,z7,z8,j4,j5,j6,j7,j8,j9,x4,x5,x6,x7,x8,x9,reduceCtorEq,↓reduceIte,List.getElem?_set,hlen,t0,t1,t4,t7]
   rw [zeB]
   (and_intros <;> try omega)
   exact this
 refine zf0 (by simp only [SV.ev,t75,Option.getD_some,c3,decide_false]) ?_
 have he:zaU (s.drop i)=if (s.drop i).take (zbF (s.drop i))=[116,114,117,101] ∨ (s.drop i).take (zbF (s.drop i))=[102,97,108,115,101] ∨ (s.drop i).take (zbF (s.drop i))=[110,117,108,108] then (0,5,(s.drop i).take (zbF (s.drop i)),zbF (s.drop i)) else (130,0,[],0):=by
  conv => lhs; rw [hdc]
  rw [zaU,if_neg c1,if_neg hc,if_neg c3,← hdc]
 have hwl2:=zei (s.drop i)
 rw [List.length_drop] at hwl2
 simp only [sxZ,z6,z7,z8,j4,j5,j6,j7,j8,j9,x4,x5,x6,x7,x8,x9,reduceCtorEq,↓reduceIte]
 subst hY1
 refine zab fun Y1 hY1 => ?_
 simp only [sxZ,z6,z7,z8,j4,j5,j6,j7,j8,j9,x4,x5,x6,x7,x8,x9,reduceCtorEq,↓reduceIte]
 subst hY1
 refine zab fun Y1 hY1 => ?_
 refine zaw (fun o t => o=[.box 54 [.i .i64 0,.s [],.i .i64 0]] ∧ t.length=139 ∧ t[0]? = some (.s s) ∧ t[1]? = some (.i .i64 (i:Nat)) ∧ t[4]? = some (.p 0 0) ∧ t[12]? = some (.i .i64 (zbF (s.drop i):Nat))) ?_ ?_
 ·simp only [sxZ,z6,z7,z8,j4,j5,j6,j7,j8,j9,x4,x5,x6,x7,x8,x9,reduceCtorEq,↓reduceIte]
  refine zaV (fun n o t => ∃ k:Nat,i + k ≤ s.length ∧ n=s.length - (i + k) ∧ zbF (s.drop i)=k + zbF (s.drop (i + k)) ∧ o=[.box 54 [.i .i64 0,.s [],.i .i64 0]] ∧ t.length=139 ∧ t[0]? = some (.s s) ∧ t[1]? = some (.i .i64 (i:Nat)) ∧ t[4]? = some (.p 0 0) ∧ t[12]? = some (.i .i64 (k:Nat))) (s.length - i) ⟨0,by omega,rfl,by simp,rfl,by simp [hlen],by simp [t0],by simp [t1],by simp [t4],by simp [hlen]⟩ ?_
  rintro n _ tm ⟨k,hk,rfl,hr,rfl,hlen,t0,t1,t4,t12⟩
  have e1:((i:Int) + (k:Int)).toNat=i + k:=by omega
  by_cases hlt2:(i:Int) + (k:Int) < s.length
  ·have hlt':i + k < s.length:=by omega
   have hg2:=zaB hlt'
   have hrn:=word_at s (i + k) hlt'
   simp only [e1,hg2,hlt2,sxZ,z6,z7,z8,j4,j5,j6,j7,j8,j9,x4,x5,x6,x7,x8,x9,reduceCtorEq,↓reduceIte,List.getElem?_set,hlen,t0,t1,t4,t12]
   refine ⟨by omega,by omega,by omega,?_⟩
   refine zal (zlW s[i + k] ?_)
   by_cases hd:zdZ s[i + k]=true
   ·rw [if_pos hd] at hrn
    simp only [hd,sxZ,z6,z7,z8,j4,j5,j6,j7,j8,j9,x4,x5,x6,x7,x8,x9,reduceCtorEq,↓reduceIte,List.getElem?_set,hlen,t0,t1,t4,t12]
    exact ⟨by omega,s.length - (i + (k + 1)),by omega,k + 1,by omega,rfl,by rw [← Nat.add_assoc]; omega,rfl⟩
   ·rw [if_neg hd] at hrn
    simp only [Bool.not_eq_true] at hd
    simp only [hd,zbx,zaa,sxZ,z6,z7,z8,j4,j5,j6,j7,j8,j9,x4,x5,x6,x7,x8,x9,reduceCtorEq,↓reduceIte,List.getElem?_set,hlen,t0,t1,t4,t12]
    rw [hr,hrn]; rfl
  ·have hie:i + k=s.length:=by omega
   have hw:zbF (s.drop (i + k))=0:=by rw [hie,List.drop_length]; rfl
   simp only [hlt2,zbx,zaa,sxZ,z6,z7,z8,j4,j5,j6,j7,j8,j9,x4,x5,x6,x7,x8,x9,reduceCtorEq,↓reduceIte,List.getElem?_set,hlen,t0,t1,t4,t12]
   refine ⟨by omega,?_⟩
   rw [hr,hw]; rfl
 rintro _ tm ⟨rfl,hlen,t0,t1,t4,t12⟩
 subst hY1
 have hx:=zeB s i (zbF (s.drop i))
 generalize zbF (s.drop i)=n at *
 rw [← hx] at he
 have e2:((i:Int) + (n:Int)).toNat=i + n:=by omega
 have n1:¬ ([102,97,108,115,101]:List UInt8)=[116,114,117,101]:=by decide
 have n2:¬ ([110,117,108,108]:List UInt8)=[116,114,117,101]:=by decide
 have n3:¬ ([110,117,108,108]:List UInt8)=[102,97,108,115,101]:=by decide
 refine zab fun Y1 hY1 => ?_
 refine zab fun Y2 hY2 => ?_
 refine zaw (fun o t => o=[.box 54 [.i .i64 0,.s [],.i .i64 0]] ∧ t.length=139 ∧ t[1]? = some (.i .i64 (i:Nat)) ∧ t[4]? = some (.p 0 0) ∧ t[12]? = some (.i .i64 (n:Nat)) ∧ t[13]? = some (.s ((s.take (i + n)).drop i))) ?_ ?_
 ·simp only [e2,zaa,sxZ,z6,z7,z8,j4,j5,j6,j7,j8,j9,x4,x5,x6,x7,x8,x9,reduceCtorEq,↓reduceIte,List.getElem?_set,hlen,t0,t1,t4,t12]
  and_intros <;> first | omega | exact iv (by omega) | rfl | assumption
 rintro _ tm ⟨rfl,hlen,t1,t4,t12,t13⟩
 subst hY2
 generalize (s.take (i + n)).drop i=x at *
 by_cases hw:x=[116,114,117,101] ∨ x=[102,97,108,115,101] ∨ x=[110,117,108,108]
 ·rw [if_pos hw] at he
  have:=h0 _ _ _ he
  rcases hw with rfl | rfl | rfl
  ·simp only [sxZ,z6,z7,z8,j4,j5,j6,j7,j8,j9,x4,x5,x6,x7,x8,x9,reduceCtorEq,↓reduceIte,List.getElem?_set,hlen,t1,t4,t12,t13]
   (and_intros <;> try omega)
   exact this
  ·simp only [n1,sxZ,z6,z7,z8,j4,j5,j6,j7,j8,j9,x4,x5,x6,x7,x8,x9,reduceCtorEq,↓reduceIte,List.getElem?_set,hlen,t1,t4,t12,t13]
   (and_intros <;> try omega)
   exact this
  ·simp only [n2,n3,sxZ,z6,z7,z8,j4,j5,j6,j7,j8,j9,x4,x5,x6,x7,x8,x9,reduceCtorEq,↓reduceIte,List.getElem?_set,hlen,t1,t4,t12,t13]
   (and_intros <;> try omega)
   exact this
 ·rw [if_neg hw] at he
  have:=h1 _ _ _ _ he (by decide)
  have d1:¬ x=[116,114,117,101]:=fun h => hw (.inl h)
  have d2:¬ x=[102,97,108,115,101]:=fun h => hw (.inr (.inl h))
  have d3:¬ x=[110,117,108,108]:=fun h => hw (.inr (.inr h))
  simp only [d1,d2,d3,sxZ,z6,z7,z8,j4,j5,j6,j7,j8,j9,x4,x5,x6,x7,x8,x9,reduceCtorEq,↓reduceIte,List.getElem?_set,hlen,t1,t4,t12,t13]
  subst hY1
  simp only [sxZ,z6,z7,z8,j4,j5,j6,j7,j8,j9,x4,x5,x6,x7,x8,x9,reduceCtorEq,↓reduceIte,List.getElem?_set,hlen,t1,t4,t12,t13]
  exact this
end
end Go.Proofs.YtadhjoggdbhkgaaGreatDoor
namespace Go.Proofs.YtadhjoggdbhkgaaGreatDoor
open Go.RowKit Sx
section
attribute [local irreducible] run
def intN (l:List UInt8):List UInt8:=if l[zba l]? = some 48 then [48] else (l.drop (zba l)).take (zaT (l.drop (zba l)))
def frN (l:List UInt8) (t:Nat):List UInt8:=if l[t]? = some 46 ∧ 0 < zaT (l.drop (t + 1)) then (l.drop (t + 1)).take (zaT (l.drop (t + 1))) else []
def sgnX (l:List UInt8) (f:Nat):List UInt8:=if l[f + 1]? = some 43 then [43] else if l[f + 1]? = some 45 then [45] else []
def exN (l:List UInt8) (f:Nat):Option (UInt8 × List UInt8 × List UInt8) :=
 if (l[f]? = some 101 ∨ l[f]? = some 69) ∧ 0 < zaT (l.drop (zaZ l f)) then some (if l[f]? = some 101 then 101 else 69,sgnX l f,l.drop (zaZ l f)) else none
def zi4 (l:List UInt8):NumS:=⟨decide (l[0]? = some 45),intN l,frN l (zaF l),exN l (zbY l (zaF l))⟩
theorem zl7 {l:List UInt8} (h0:l ≠ []) (h:zc8 l=l.length):(zi4 l).Good ∧ l=(zi4 l).txt:=by
 have hl:0 < l.length:=List.length_pos_iff.2 h0
 unfold zc8 at h
 by_cases hr:zaT (l.drop (zba l))=0
 ·rw [if_pos hr] at h; omega
 rw [if_neg hr] at h
 have hsg:l=sgT (decide (l[0]? = some 45)) ++ l.drop (zba l):=by
  unfold zba sgT
  by_cases hc:l[0]? = some 45
  ·rw [if_pos hc,if_pos (by rw [hc]; rfl)]
   conv => lhs; rw [← List.drop_zero (l:=l),zbh hc]
   rfl
  ·rw [if_neg hc,if_neg (by rw [decide_eq_false hc]; exact Bool.false_ne_true)]; simp
 have hrl:=zaP l (zba l) (by omega)
 obtain ⟨I,hIe,hI0,hI1,hI2,hIl,hI⟩:∃ I:List UInt8,I=intN l ∧ I ≠ [] ∧ I.all zaj=true ∧ (I[0]? = some 48 → I=[48]) ∧ zaF l ≤ l.length ∧ l.drop (zba l)=I ++ l.drop (zaF l):=by
  have hd:=zdU (l.drop (zba l)) 0 (by omega)
  obtain ⟨c,hc1,hc2⟩:=hd
  rw [List.getElem?_drop,Nat.add_zero] at hc1
  have hdc:=zbh hc1
  unfold zaF
  by_cases hz:l[zba l]? = some 48
  ·rw [if_pos hz]
   refine ⟨[48],by unfold intN; rw [if_pos hz],by simp,rfl,fun _ => rfl,?_,?_⟩
   ·have:=(List.getElem?_eq_some_iff.1 hz).1; omega
   ·exact zbh hz
  ·rw [if_neg hz]
   refine ⟨(l.drop (zba l)).take (zaT (l.drop (zba l))),by unfold intN; rw [if_neg hz],zfS (by omega) (zdT _),zbU _,?_,hrl,?_⟩
   ·intro h1
    exfalso
    rw [List.getElem?_take,if_pos (by omega),List.getElem?_drop,Nat.add_zero] at h1
    exact hz h1
   ·have:=zer l (show zba l ≤ zba l + zaT (l.drop (zba l)) by omega)
    rw [show zba l + zaT (l.drop (zba l)) - zba l=zaT (l.drop (zba l)) by omega] at this
    exact this
 unfold zi4
 rw [← hIe]
 clear hIe
 generalize zaF l=t at *
 obtain ⟨F,hFe,hF1,hFl,hF⟩:∃ F:List UInt8,F=frN l t ∧ F.all zaj=true ∧ zbY l t ≤ l.length ∧ l.drop t=frT F ++ l.drop (zbY l t):=by
  unfold zbY
  by_cases hc:l[t]? = some 46 ∧ 0 < zaT (l.drop (t + 1))
  ·rw [if_pos hc]
   have hb:=zaP l (t + 1) hc.2
   refine ⟨(l.drop (t + 1)).take (zaT (l.drop (t + 1))),by unfold frN; rw [if_pos hc],zbU _,hb,?_⟩
   have h1:=zer l (show t + 1 ≤ t + 1 + zaT (l.drop (t + 1)) by omega)
   rw [show t + 1 + zaT (l.drop (t + 1)) - (t + 1)=zaT (l.drop (t + 1)) by omega] at h1
   have hne:=zfS hc.2 (zdT (l.drop (t + 1)))
   rw [zbh hc.1]
   generalize (l.drop (t + 1)).take (zaT (l.drop (t + 1)))=F at *
   cases F with
   | nil => exact absurd rfl hne
   | cons a F =>
    show 46 :: l.drop (t + 1)=46 :: (a :: F ++ _)
    rw [← h1]
  ·rw [if_neg hc]
   exact ⟨[],by unfold frN; rw [if_neg hc],rfl,hIl,rfl⟩
 rw [← hFe]
 clear hFe
 generalize zbY l t=f at *
 obtain ⟨E,hEe,hE1,hE⟩:∃ E:Option (UInt8 × List UInt8 × List UInt8),E=exN l f ∧ (∀ c s d,E=some (c,s,d) → (c=101 ∨ c=69) ∧ (s=[] ∨ s=[43] ∨ s=[45]) ∧ d ≠ [] ∧ d.all zaj=true) ∧ l.drop f=exT E:=by
  unfold zkP at h
  by_cases hc:(l[f]? = some 101 ∨ l[f]? = some 69) ∧ 0 < zaT (l.drop (zaZ l f))
  ·rw [if_pos hc] at h
   have hex:exN l f=some (if l[f]? = some 101 then 101 else 69,sgnX l f,l.drop (zaZ l f)):=by unfold exN; rw [if_pos hc]
   obtain ⟨c,hc1,hc2,hc3⟩:∃ c,l[f]? = some c ∧ (c=101 ∨ c=69) ∧ (if l[f]? = some 101 then 101 else 69)=c:=by
    rcases hc.1 with h1 | h1
    ·exact ⟨_,h1,.inl rfl,by rw [if_pos h1]⟩
    ·exact ⟨_,h1,.inr rfl,by rw [h1]; rfl⟩
   rw [hc3] at hex
   have hdig:l.drop (zaZ l f) ≠ [] ∧ (l.drop (zaZ l f)).all zaj=true:=by
    have h1:=zbU (l.drop (zaZ l f))
    have h2:zaT (l.drop (zaZ l f))=(l.drop (zaZ l f)).length:=by rw [List.length_drop]; omega
    rw [h2,List.take_length] at h1
    refine ⟨fun e => ?_,h1⟩
    rw [e] at hc
    exact absurd hc.2 (by simp [zaT])
   rw [zbh hc1]
   unfold zaZ at hdig hc hex
   by_cases hs:l[f + 1]? = some 43 ∨ l[f + 1]? = some 45
   ·rw [if_pos hs] at hdig hex
    obtain ⟨s,hs1,hs2,hs3⟩:∃ s,l[f + 1]? = some s ∧ (s=43 ∨ s=45) ∧ sgnX l f=[s]:=by
     unfold sgnX
     rcases hs with h1 | h1
     ·exact ⟨_,h1,.inl rfl,by rw [if_pos h1]⟩
     ·exact ⟨_,h1,.inr rfl,by rw [h1]; rfl⟩
    refine ⟨some (c,[s],l.drop (f + 2)),by rw [hex,hs3],?_,?_⟩
    ·intro c' s' d' e
     injection e with e; injection e with e1 e2; injection e2 with e2 e3
     subst e1 e2 e3
     exact ⟨hc2,by rcases hs2 with rfl | rfl <;> simp,hdig.1,hdig.2⟩
    ·rw [zbh hs1]; rfl
   ·rw [if_neg hs] at hdig hex
    have hs3:sgnX l f=[]:=by
     unfold sgnX
     rw [if_neg (fun h => hs (.inl h)),if_neg (fun h => hs (.inr h))]
    refine ⟨some (c,[],l.drop (f + 1)),by rw [hex,hs3],?_,rfl⟩
    intro c' s' d' e
    injection e with e; injection e with e1 e2; injection e2 with e2 e3
    subst e1 e2 e3
    exact ⟨hc2,.inl rfl,hdig.1,hdig.2⟩
  ·rw [if_neg hc] at h
   subst h
   exact ⟨none,by unfold exN; rw [if_neg hc],fun _ _ _ e => (by cases e),by simp [exT]⟩
 rw [← hEe]
 refine ⟨⟨hI0,hI1,hI2,hF1,hE1⟩,?_⟩
 show l=sgT _ ++ (I ++ (frT F ++ exT E))
 rw [← hE,← hF,← hI,← hsg]
def zbb (l:List UInt8):Int × List UInt8:=if l=[] ∨ ¬ zc8 l=l.length then (130,[]) else zfH 1099511627776 (zi4 l)
theorem zf8 {p:NumS} (hp:p.Good):zbb p.txt=zfH 1099511627776 p:=by
 obtain ⟨h1,h2⟩:=num_txt hp
 unfold zbb
 rw [if_neg (fun h => h.elim h2 (fun h => h h1))]
 obtain ⟨q1,q2⟩:=zl7 h2 h1
 exact congrArg _ (num_uniq hp q1 q2).symm
theorem can_cut2 (p:NumS) (h:p.txt.length ≤ 1048576):zfH 1099511627776 p=zfH 1073741824 p:=by
 have h1:=zhJ p
 have h2:=zen p
 have h3:=ziu (zbs p)
 unfold zfH
 by_cases hm:zbs p=[]
 ·rw [if_pos hm,if_pos hm]
 rw [if_neg hm,if_neg hm]
 by_cases he:zdM 1099511627776 p.ex=zdM 1073741824 p.ex
 ·have:zfy 1099511627776 p=zfy 1073741824 p:=by unfold zfy; rw [he]
  rw [this]
 ·have key:(zdM 1099511627776 p.ex < -100000000 ∧ zdM 1073741824 p.ex < -100000000) ∨ (100000000 < zdM 1099511627776 p.ex ∧ 100000000 < zdM 1073741824 p.ex):=by
   cases hx:p.ex with
   | none => rw [hx] at he; exact absurd rfl he
   | some e =>
    obtain ⟨c,s,d⟩:=e
    rw [hx] at he
    simp only [zdM] at he ⊢
    by_cases hs:s=[45]
    ·rw [if_pos hs,if_pos hs] at he ⊢; left; omega
    ·rw [if_neg hs,if_neg hs] at he ⊢; right; omega
  rw [if_pos,if_pos]
  ·unfold zfy; omega
  ·unfold zfy; omega
theorem zej:∀ (n:Nat) (l out x:List UInt8) (k m:Nat),zc7 n l out k=(0,x,m) → k < m ∧ m ≤ k + l.length ∧ x.length ≤ out.length + (m - k)
 | 0,l,out,x,k,m,h => by rw [zc7] at h; cases h
 | n + 1,[],out,x,k,m,h => by rw [zc7] at h; cases h
 | n + 1,c :: t,out,x,k,m,h => by
  rw [zc7] at h
  have hl:(c :: t).length=t.length + 1:=rfl
  split at h
  ·cases h; exact ⟨by omega,by omega,by omega⟩
  ·split at h
   ·split at h
    ·rename_i g; injection h with h _; exact absurd h g
    ·rename_i g
     have g:(zcU (c :: t)).1=0:=by simpa using g
     obtain ⟨⟨e,y,j⟩,hE⟩:∃ r,zcU (c :: t)=r:=⟨_,rfl⟩
     rw [hE] at h g
     simp only at g h
     subst g
     have hl2:=zgf hE
     have:=zej n _ _ _ _ _ h
     rw [List.length_drop,List.length_append] at this
     omega
   ·split at h
    ·cases h
    ·split at h
     ·cases h
     ·rename_i r j hd
      have hd':=za7 hd
      have:=zej n _ _ _ _ _ h
      rw [List.length_drop,List.length_append,List.length_take] at this
      omega
theorem zlS {l:List UInt8} (h:(zaU l).1=0):(zaU l).2.2.2 ≤ l.length ∧ (¬ (zaU l).2.1=1 → 1 ≤ (zaU l).2.2.2) ∧ ((zaU l).2.1=1 → l=[]) ∧ (zaU l).2.2.1.length ≤ l.length ∧ 1 ≤ (zaU l).2.1 ∧ (zaU l).2.1 ≤ 5:=by
 cases l with
 | nil => exact ⟨by simp [zaU],fun h => absurd rfl h,fun _ => rfl,by simp [zaU],by decide,by decide⟩
 | cons c t =>
  have hl:(c :: t).length=t.length + 1:=rfl
  rw [zaU] at h ⊢
  by_cases c1:zcw c [123,125,91,93,58,44]=true
  ·simp only [if_pos c1]
   exact ⟨by simp,fun _ => by simp,fun h => by simp at h,by simp,by decide,by decide⟩
  simp only [if_neg c1] at h ⊢
  by_cases c2:c=34
  ·simp only [if_pos c2] at h ⊢
   by_cases c3:(zc7 (t.length + 1) t [] 0).1 ≠ 0
   ·simp only [if_pos c3] at h; exact absurd h c3
   ·simp only [if_neg c3] at h ⊢
    obtain ⟨⟨e,x,m⟩,hE⟩:∃ r,zc7 (t.length + 1) t [] 0=r:=⟨_,rfl⟩
    have c3:e=0:=by rw [hE] at c3; simpa using c3
    subst c3
    have:=zej _ _ _ _ _ _ hE
    rw [List.length_nil] at this
    rw [hE]
    exact ⟨by show m + 1 ≤ _; omega,fun _ => by show 1 ≤ m + 1; omega,fun h => by simp at h,by show x.length ≤ _; omega,by decide,by decide⟩
  simp only [if_neg c2] at h ⊢
  by_cases c3:c=45 ∨ zaj c=true
  ·simp only [if_pos c3] at h ⊢
   by_cases c4:zc8 (c :: t)=0
   ·simp only [if_pos c4] at h; cases h
   ·simp only [if_neg c4] at h ⊢
    have:=zh6 (c :: t)
    exact ⟨by show zc8 (c :: t) ≤ _; omega,fun _ => by show 1 ≤ zc8 (c :: t); omega,fun h => by simp at h,by show (List.take _ _).length ≤ _; rw [List.length_take]; omega,by decide,by decide⟩
  simp only [if_neg c3] at h ⊢
  split at h
  ·rename_i c4
   rw [if_pos c4]
   have hw:=zei (c :: t)
   refine ⟨hw,fun _ => ?_,fun h => by simp at h,by show (List.take _ _).length ≤ _; rw [List.length_take]; omega,by show (1:Int) ≤ 5; decide,by show (5:Int) ≤ 5; decide⟩
   show 1 ≤ zbF (c :: t)
   rcases Nat.eq_zero_or_pos (zbF (c :: t)) with h0 | h0
   ·rw [h0] at c4; simp at c4
   ·exact h0
  ·cases h
theorem zja {s:List UInt8} {a:Int} (h0:0 ≤ a) (h:(zaQ s a).2.2=0) :
  (a ≤ (zaQ s a).2.1 ∧ (zaQ s a).2.1 ≤ s.length ∧ ((zaQ s a).1.1 ≠ 1 → a < (zaQ s a).2.1) ∧ ((zaQ s a).1.1=1 → (zaQ s a).2.1=s.length)) ∧ (zaQ s a).1.2.1.length ≤ s.length ∧ 1 ≤ (zaQ s a).1.1 ∧ (zaQ s a).1.1 ≤ 5 ∧ 0 ≤ (zaQ s a).1.2.2 ∧ (zaQ s a).1.2.2 ≤ s.length:=by
 unfold zaQ at h ⊢
 by_cases c1:a < 0 ∨ (s.length:Int) < a
 ·simp only [if_pos c1] at h; cases h
 simp only [if_neg c1] at h ⊢
 obtain ⟨x,hx⟩:=Int.eq_ofNat_of_zero_le h0
 subst hx
 simp only [Int.toNat_natCast] at h ⊢
 have hw:=zds (s.drop x)
 rw [List.length_drop] at hw
 generalize hA:x + za8 (s.drop x)=A at *
 by_cases c2:(zaU (s.drop A)).1 ≠ 0
 ·simp only [if_pos c2] at h; exact absurd h c2
 simp only [if_neg c2]
 have c2:(zaU (s.drop A)).1=0:=by simpa using c2
 obtain ⟨r1,r2,r3,r4,r5,r6⟩:=zlS c2
 rw [List.length_drop] at r1 r4
 refine ⟨⟨?_,?_,?_,?_⟩,?_,r5,r6,?_,?_⟩
 ·show (x:Int) ≤ ((A + _:Nat):Int); omega
 ·show ((A + _:Nat):Int) ≤ _; omega
 ·intro h; have:=r2 h; show (x:Int) < ((A + _:Nat):Int); omega
 ·intro h
  have h1:=r3 h
  have h2:=congrArg List.length h1
  rw [List.length_drop,List.length_nil] at h2
  show ((A + _:Nat):Int)=_; omega
 ·show (zaU (s.drop A)).2.2.1.length ≤ _; omega
 ·show (0:Int) ≤ ((A:Nat):Int); omega
 ·show ((A:Nat):Int) ≤ _; omega
theorem next_lt {s:List UInt8} {a:Int} (h0:0 ≤ a) (h:(zaQ s a).2.2=0):a ≤ (zaQ s a).2.1 ∧ (zaQ s a).2.1 ≤ s.length ∧ ((zaQ s a).1.1 ≠ 1 → a < (zaQ s a).2.1) ∧ ((zaQ s a).1.1=1 → (zaQ s a).2.1=s.length):=(zja h0 h).1
section
variable [Tabs Tryz.prog] [Pow Tryz.prog] {objs:List OB} {K:List OB → AV → Prop}
theorem number_e (s:List UInt8) (hs:s.length ≤ 140737488351232) (hk:K objs (.tup [.s (zbb s).2,.i .i64 (zbb s).1])):zah Tryz.prog 41 [.s s] objs K :=
 number_k s hs (fun h => by unfold zbb at hk; rw [if_pos (by simpa using h)] at hk; exact hk) (fun p hp e => by subst e; rw [zf8 hp] at hk; exact hk)
omit [Pow Tryz.prog] in
theorem zlu (s:List UInt8) (hs:s.length ≤ 1048576) (hk:K objs (.tup [.s (zbb s).2,.i .i64 (zbb s).1])):zah Tryz.prog 45 [.s s] objs K :=
 zlt s (by omega) (fun h => by unfold zbb at hk; rw [if_pos (by simpa using h)] at hk; exact hk) (fun p hp e => by subst e; rw [zf8 hp,can_cut2 p hs] at hk; exact hk)
end
end
end Go.Proofs.YtadhjoggdbhkgaaGreatDoor
namespace Go.Proofs.YtadhjoggdbhkgaaGreatDoor
open Go.RowKit Sx
section
attribute [local irreducible] run
inductive JV where
 | mk (k:Int) (t:List UInt8) (ks:List (List UInt8)) (its:List JV)
def jvZ:JV:=.mk 0 [] [] []
abbrev Tk:=Int × List UInt8 × Int
def tkZ:Tk:=(0,[],0)
def isP (t:Tk) (c:UInt8):Bool:=decide (t.1=2) && decide (t.2.1=[c])
def zhK:List UInt8:=[116,114,117,101]
def zeU:List UInt8:=[102,97,108,115,101]
def zdr (l:List UInt8):Int:=if l=zhK then 3 else if l=zeU then 2 else 1
def vkE (t:Tk):Int :=
 if t.1=3 then 5 else if t.1=4 then 4 else if isP t 91=true then 6 else if isP t 123=true then 7 else if ¬ t.1=5 then 0 else zdr t.2.1
structure Fr where
 obj:Bool
 ks:List (List UInt8)
 its:List JV
structure Ms where
 st:Int
 stk:List Fr
 nodes:Nat
 root:JV
def Fr.val (f:Fr):JV:=.mk (if f.obj=true then 7 else 6) [] f.ks f.its
structure Rs where
 pos:Int
 nodes:Nat
 fail:Int
 wh:Int
def zaH (ρ:Rs) (a e:Int):Rs:=if ρ.fail=0 then ⟨ρ.pos,ρ.nodes,e,a⟩ else ρ
def zad (s:List UInt8) (ρ:Rs):Tk × Rs :=
 if ¬ ρ.fail=0 then (tkZ,ρ)
 else if ¬ (zaQ s ρ.pos).2.2=0 then (tkZ,zaH ρ ρ.pos (zaQ s ρ.pos).2.2)
 else ((zaQ s ρ.pos).1,⟨(zaQ s ρ.pos).2.1,ρ.nodes,ρ.fail,ρ.wh⟩)
def zaK (ρ:Rs) (t:Tk) (c:UInt8):Rs:=if ρ.fail=0 ∧ isP t c=false then zaH ρ t.2.2 140 else ρ
def zbm (s:List UInt8) (val:Rs → Tk → JV × Rs):Nat → Rs → Tk → List JV → List JV × Rs
 | 0,ρ,_,acc => (acc,ρ)
 | n + 1,ρ,t,acc =>
  if ¬ ρ.fail=0 then (acc,ρ) else
  let a:=val ρ t
  let b:=zad s a.2
  if isP b.1 93=true then (acc ++ [a.1],b.2) else
  let c:=zad s (zaK b.2 b.1 44)
  zbm s val n c.2 c.1 (acc ++ [a.1])
def zd9 (ρ:Rs) (t:Tk) (ks:List (List UInt8)):Rs :=
 let ρ:=if ¬ t.1=3 then zaH ρ t.2.2 140 else ρ
 if t.2.1 ∈ ks then zaH ρ t.2.2 143 else ρ
def zaY (s:List UInt8) (val:Rs → Tk → JV × Rs):Nat → Rs → Tk → List (List UInt8) → List JV → (List (List UInt8) × List JV) × Rs
 | 0,ρ,_,ks,its => ((ks,its),ρ)
 | n + 1,ρ,t,ks,its =>
  if ¬ ρ.fail=0 then ((ks,its),ρ) else
  let a:=zad s (zd9 ρ t ks)
  let b:=zad s (zaK a.2 a.1 58)
  let v:=val b.2 b.1
  let c:=zad s v.2
  if isP c.1 125=true then ((ks ++ [t.2.1],its ++ [v.1]),c.2) else
  let d:=zad s (zaK c.2 c.1 44)
  zaY s val n d.2 d.1 (ks ++ [t.2.1]) (its ++ [v.1])
def zfo (s:List UInt8) (val:Rs → Tk → JV × Rs) (ρ:Rs):JV × Rs :=
 let a:=zad s ρ
 if isP a.1 93=true then (.mk 6 [] [] [],a.2) else
 let b:=zbm s val (s.length + 2) a.2 a.1 []
 (.mk 6 [] [] b.1,b.2)
def zfY (s:List UInt8) (val:Rs → Tk → JV × Rs) (ρ:Rs):JV × Rs :=
 let a:=zad s ρ
 if isP a.1 125=true then (.mk 7 [] [] [],a.2) else
 let b:=zaY s val (s.length + 2) a.2 a.1 [] []
 (.mk 7 [] b.1.1 b.1.2,b.2)
def zaS (ρ:Rs) (t:Tk):Rs :=
 let ρ:=if t.1=4 ∧ ¬ (zbb t.2.1).1=0 then zaH ρ t.2.2 (zbb t.2.1).1 else ρ
 if 20000 < ρ.nodes + 1 then zaH ⟨ρ.pos,ρ.nodes + 1,ρ.fail,ρ.wh⟩ t.2.2 142 else ⟨ρ.pos,ρ.nodes + 1,ρ.fail,ρ.wh⟩
def zav (s:List UInt8):Nat → Rs → Tk → Nat → JV × Rs
 | 0,ρ,_,_ => (jvZ,ρ)
 | f + 1,ρ,t,d =>
  if ¬ ρ.fail=0 then (jvZ,ρ)
  else if vkE t=0 then (jvZ,zaH ρ t.2.2 140)
  else if t.1=2 ∧ d=64 then (jvZ,zaH ρ t.2.2 141)
  else if t.1=5 then (.mk (zdr t.2.1) [] [] [],zaS ρ t)
  else if isP t 91=true then zfo s (fun ρ t => zav s f ρ t (d + 1)) (zaS ρ t)
  else if isP t 123=true then zfY s (fun ρ t => zav s f ρ t (d + 1)) (zaS ρ t)
  else if t.1=4 then (.mk 4 (zbb t.2.1).2 [] [],zaS ρ t)
  else (.mk 5 t.2.1 [] [],zaS ρ t)
def rs0:Rs:=⟨0,0,0,0⟩
def zdb (s:List UInt8):JV × Int × Int :=
 if 1048576 < s.length then (jvZ,0,142) else
 let a:=zad s rs0
 let v:=zav s 65 a.2 a.1 0
 let b:=zad s v.2
 let ρ:=if b.2.fail=0 ∧ ¬ b.1.1=1 then zaH b.2 b.1.2.2 140 else b.2
 if ¬ ρ.fail=0 then (jvZ,ρ.wh,ρ.fail) else (v.1,s.length,0)
def zhB (ρ ρ':Rs):Prop:=¬ ρ.fail=0 → ρ'.fail=ρ.fail ∧ ρ'.wh=ρ.wh
theorem zhB.refl (ρ:Rs):zhB ρ ρ:=fun _ => ⟨rfl,rfl⟩
theorem zhB.trans {a b c:Rs} (h:zhB a b) (k:zhB b c):zhB a c:=fun ha => by
 obtain ⟨h1,h2⟩:=h ha
 obtain ⟨k1,k2⟩:=k (by rw [h1]; exact ha)
 exact ⟨k1.trans h1,k2.trans h2⟩
theorem zkl (ρ:Rs) (a e:Int):zhB ρ (zaH ρ a e):=fun h => by unfold zaH; rw [if_neg h]; exact ⟨rfl,rfl⟩
theorem zay (s:List UInt8) (ρ:Rs):zhB ρ (zad s ρ).2:=fun h => by unfold zad; rw [if_pos h]; exact ⟨rfl,rfl⟩
theorem zc1 (ρ:Rs) (t:Tk) (c:UInt8):zhB ρ (zaK ρ t c):=by
 unfold zaK; split
 ·exact zkl _ _ _
 ·exact zhB.refl _
theorem zdh (s:List UInt8) (f:Nat) (ρ:Rs) (t:Tk) (d:Nat):zhB ρ (zav s f ρ t d).2:=fun h => by
 cases f with
 | zero => exact ⟨rfl,rfl⟩
 | succ f => rw [zav,if_pos h]; exact ⟨rfl,rfl⟩
theorem vk_val (t:Tk):vkE t=0 ∨ vkE t=1 ∨ vkE t=2 ∨ vkE t=3 ∨ vkE t=4 ∨ vkE t=5 ∨ vkE t=6 ∨ vkE t=7:=by
 unfold vkE zdr
 repeat' split
 all_goals simp
theorem vk_kind {t:Tk}:(vkE t=5 ↔ t.1=3) ∧ (vkE t=4 ↔ t.1=4) ∧ ((vkE t=1 ∨ vkE t=2 ∨ vkE t=3) ↔ t.1=5) ∧ (vkE t=6 ↔ isP t 91=true) ∧ (vkE t=7 ↔ isP t 123=true) ∧ (t.1=5 → vkE t=zdr t.2.1):=by
 have e1:∀ c,isP t c=true ↔ t.1=2 ∧ t.2.1=[c]:=fun c => by simp [isP]
 have hw:zdr t.2.1=1 ∨ zdr t.2.1=2 ∨ zdr t.2.1=3:=by
  unfold zdr
  by_cases a1:t.2.1=zhK
  ·rw [if_pos a1]; exact .inr (.inr rfl)
  ·rw [if_neg a1]
   by_cases a2:t.2.1=zeU
   ·rw [if_pos a2]; exact .inr (.inl rfl)
   ·rw [if_neg a2]; exact .inl rfl
 unfold vkE
 simp only [e1]
 by_cases h3:t.1=3
 ·simp [h3]
 by_cases h4:t.1=4
 ·simp [h4]
 by_cases h6:t.1=2 ∧ t.2.1=[91]
 ·simp [h6]
 by_cases h7:t.1=2 ∧ t.2.1=[123]
 ·simp [h7]
 by_cases h5:t.1=5
 ·simp only [h5]
  rcases hw with h | h | h <;> simp [h]
 ·simp only [h3,h4,h6,h7,h5]
  simp
def ValFroz (val:Rs → Tk → JV × Rs):Prop:=∀ ρ t,zhB ρ (val ρ t).2
theorem zjx {t:Tk} {c:UInt8} (h:isP t c=true):t.1=2 ∧ t.2.1=[c]:=by
 simpa [isP] using h
end
end Go.Proofs.YtadhjoggdbhkgaaGreatDoor
namespace Go.Proofs.YtadhjoggdbhkgaaGreatDoor.Sx
open Go.RowKit
def zcz (b gen n:Nat) (xs:List AV):AV → AV
 | .orow b' g' => if b'=b ∧ g'=gen then .row n xs else .orow b' g'
 | x => x
def zla (b gen n:Nat) (xs:List AV):OB → OB
 | .box T cs => .box T (cs.map (zcz b gen n xs))
 | x => x
def pubO (objs:List OB) (b gen n:Nat) (xs:List AV):List OB:=(objs.map (zla b gen n xs)).set b .dead
def zhD (G:Gh) (b gen:Nat):Gh:=⟨G.blk,fun x => if x=b then some (gen + 1,.slice none 0 0) else G.cur x⟩
theorem zhZ {G:Gh} {b gen:Nat} {v:Value} (h:G.cur b=some (gen,v)):G.le (zhD G b gen) where
 blk:=fun _ _ h => h
 cur:=fun x n w hx => by
  by_cases hb:x=b
  ·subst hb
   rw [h] at hx; injection hx with hx; injection hx with h1 h2
   exact ⟨gen + 1,.slice none 0 0,by simp [zhD],.inr (by omega)⟩
  ·exact ⟨n,w,by simp [zhD,hb,hx],.inl ⟨rfl,rfl⟩⟩
theorem zdA {G:Gh} {b gen:Nat} (hb:G.blk b=none) {x g:Nat} (h:(zhD G b gen).own x=some g):x ≠ b ∧ G.own x=some g:=by
 by_cases hx:x=b
 ·subst hx
  exfalso
  unfold Gh.own zhD at h
  simp only [hb] at h
  simp [Value.ownBlock] at h
 ·refine ⟨hx,?_⟩
  unfold Gh.own zhD at h
  simp only [if_neg hx] at h
  exact h
def pubI (I:Imm) (G:Gh) (b:Nat) (w:World):Imm:=fun g o v => I g o v ∨ (w.cell? ⟨g,o,none⟩=some v ∧ G.own b=some g)
theorem znB {G:Gh} {I:Imm} {objs:List OB} {w:World} (hm:MemOk G I objs w) {b E sz gen n:Nat} {xs:List AV} (hb:objs[b]? = some (.orow E sz gen n xs)) (x:AV) (y:Value) (h:Den G I x y):Den (zhD G b gen) (pubI I G b w) (zcz b gen n xs x) y:=by
 obtain ⟨v',vs,m1,m2,m3,m4,m5⟩:=hm.row b E sz gen n xs hb
 have hG:=zhZ m1
 have hI:Imm.le I (pubI I G b w):=fun _ _ _ h => .inl h
 have other:zcz b gen n xs x=x → Den (zhD G b gen) (pubI I G b w) (zcz b gen n xs x) y:=fun e => by rw [e]; exact Den.mono hG hI x y h
 cases x with
 | orow b' g' =>
  by_cases hh:b'=b ∧ g'=gen
  ·obtain ⟨rfl,rfl⟩:=hh
   have e:zcz b' g' n xs (.orow b' g')=.row n xs:=by simp [zcz]
   rw [e]
   simp only [Den] at h ⊢
   obtain ⟨g0,v,k1,k2,k3,_⟩:=h
   rw [k1] at m1; injection m1 with m1; injection m1 with m1 m6
   have hv:=k3 m1.symm
   subst m1 m6 hv
   have hown:=za6 m5 k1
   have q1:=zae.mono hG hI xs vs m3
   rcases m2.2 with ⟨rfl,rfl⟩ | ⟨g,cap,cur,rfl,hx1,hx2,hx3,hx4⟩
   ·have hvs:vs=[]:=List.eq_nil_of_length_eq_zero (by simpa using m2.1)
    subst hvs
    exact ⟨none,0,[],rfl,⟨Nat.le_refl _,by intro _ e; cases e⟩,q1,by simp,by simp⟩
   ·refine ⟨some ⟨g,0,none⟩,cap,vs,rfl,⟨hx3,by rintro _ ⟨⟩ _; rfl⟩,q1,m4,fun j u hj => ⟨g,0,rfl,.inr ⟨?_,hown⟩⟩⟩
    have:=m2.cells (g:=g) rfl j u hj
    rwa [zaz] at this
  ·exact other (by simp only [zcz,if_neg hh])
 | _ => exact other rfl
theorem zgk {G:Gh} {I:Imm} {objs:List OB} {w:World} (hm:MemOk G I objs w) {b E sz gen n:Nat} {xs:List AV} (hb:objs[b]? = some (.orow E sz gen n xs)):∀ (l:List AV) (ys:List Value),zae G I l ys → zae (zhD G b gen) (pubI I G b w) (l.map (zcz b gen n xs)) ys
 | [],ys,h => by simpa [zae] using h
 | x :: l,ys,h => by
  simp only [zae] at h
  obtain ⟨y,ys',rfl,h1,h2⟩:=h
  exact zae.cons (znB hm hb x y h1) (zgk hm hb l ys' h2)
theorem mem_pub {P:Program} [Tabs P] {C:Cx} {G:Gh} {I:Imm} {w:World} {objs:List OB} {b E sz gen n:Nat} {xs:List AV} (hb:objs[b]? = some (.orow E sz gen n xs)) (hin:In C G I w) (hm:MemOk G I objs w) :
  In C (zhD G b gen) (pubI I G b w) w ∧ MemOk (zhD G b gen) (pubI I G b w) (pubO objs b gen n xs) w:=by
 obtain ⟨v',vs,m1,m2,m3,m4,m5⟩:=hm.row b E sz gen n xs hb
 have hlt:b < objs.length:=by
  by_cases h:b < objs.length
  ·exact h
  ·rw [List.getElem?_eq_none (by omega)] at hb; cases hb
 have hG:=zhZ m1
 have hI:Imm.le I (pubI I G b w):=fun _ _ _ h => .inl h
 have hin':In C (zhD G b gen) (pubI I G b w) w:={
  os:=hin.os,tape:=hin.tape,output:=hin.output,size:=hin.size,block:=hin.block
  imm:=fun g o v h => .inl (hin.imm g o v h)
  news:=fun g o v h => by
   rcases h with h | ⟨_,h⟩
   ·exact hin.news g o v h
   ·exact .inr (hin.blk b g h)
  blk:=fun x g h => hin.blk x g (zdA m5 h).2
  gh:=hin.gh.trans hG }
 have hat:∀ x o,(pubO objs b gen n xs)[x]? = some o → o=.dead ∨ (x ≠ b ∧ ∃ o',objs[x]? = some o' ∧ zla b gen n xs o'=o):=by
  intro x o h
  unfold pubO at h
  by_cases hx:x=b
  ·subst hx
   rw [List.getElem?_set_self (by simpa using hlt)] at h
   injection h with h; exact .inl h.symm
  ·rw [List.getElem?_set_ne (Ne.symm hx),List.getElem?_map] at h
   obtain ⟨o',h1,h2⟩:=Option.map_eq_some_iff.1 h
   exact .inr ⟨hx,o',h1,h2⟩
 have hm':MemOk (zhD G b gen) (pubI I G b w) (pubO objs b gen n xs) w:={
  imm:=fun g o v h => by
   rcases h with h | ⟨h,_⟩
   ·exact hm.imm g o v h
   ·exact h
  box:=fun x T cs h => by
   rcases hat x _ h with h | ⟨hx,o',h1,h2⟩
   ·cases h
   ·cases o' with
    | box T' cs' =>
     injection h2 with e1 e2
     subst e1 e2
     obtain ⟨g,ys,k1,k2,k3,k4⟩:=hm.box x _ _ h1
     exact ⟨g,ys,k1,k2,zgk hm hb _ _ k3,k4⟩
    | orow => cases h2
    | mp => cases h2
    | dead => cases h2
  row:=fun x E' sz' gen' n' xs' h => by
   rcases hat x _ h with h | ⟨hx,o',h1,h2⟩
   ·cases h
   ·cases o' with
    | box T' cs' => cases h2
    | orow =>
     injection h2 with e1 e2 e3 e4 e5
     subst e1 e2 e3 e4 e5
     obtain ⟨v,ys,k1,k2,k3,k4,k5⟩:=hm.row x _ _ _ _ _ h1
     exact ⟨v,ys,by simp [zhD,hx,k1],k2,zae.mono hG hI _ _ k3,k4,k5⟩
    | mp => cases h2
    | dead => cases h2
  map:=fun x es h => by
   rcases hat x _ h with h | ⟨hx,o',h1,h2⟩
   ·cases h
   ·cases o' with
    | box T' cs' => cases h2
    | orow => cases h2
    | mp =>
     injection h2 with e1
     subst e1
     obtain ⟨g,en,ck,k1,k2,k3⟩:=hm.map x _ h1
     exact ⟨g,en,ck,k1,k2,k3.mono hG hI⟩
    | dead => cases h2
  inj:=fun x x' g h h' => hm.inj x x' g (zdA m5 h).2 (zdA m5 h').2
  lt:=fun x g h => hm.lt x g (zdA m5 h).2
  apart:=fun x g o v h h' => by
   obtain ⟨hx,h1⟩:=zdA m5 h
   rcases h' with h' | ⟨_,h'⟩
   ·exact hm.apart x g o v h1 h'
   ·exact hx (hm.inj x b g h1 h')
  fresh:=fun x hx => by
   have hx':objs.length ≤ x:=by simpa [pubO] using hx
   obtain ⟨k1,k2⟩:=hm.fresh x hx'
   exact ⟨k1,by simp [zhD,k2]; omega⟩ }
 exact ⟨hin',hm'⟩
end Go.Proofs.YtadhjoggdbhkgaaGreatDoor.Sx
namespace Go.Proofs.YtadhjoggdbhkgaaGreatDoor.Sx
open Go.RowKit
section
variable {P:Program} [Tabs P] {C:Cx} [On P C] {F:zaG} {objs:List OB} {tm:List AV}
end
section
variable {P:Program} [Tabs P]
end
end Go.Proofs.YtadhjoggdbhkgaaGreatDoor.Sx
namespace Go.Proofs.YtadhjoggdbhkgaaGreatDoor
open Go.RowKit Sx
section
variable [Tabs Tryz.prog] {objs:List OB} {K:List OB → AV → Prop}
end
end Go.Proofs.YtadhjoggdbhkgaaGreatDoor
namespace Go.Proofs.YtadhjoggdbhkgaaGreatDoor
open Go.RowKit Sx
section
attribute [local irreducible] run
mutual
/-- a JSON value, cell for cell -/
def zao:JV → List AV
 | .mk k t ks its => [.i .i64 k,.s t,.row ks.length (ks.map .s),.row its.length (zac its)]
def zac:List JV → List AV
 | [] => []
 | v :: l => zao v ++ zac l
end
def JV.kind:JV → Int | .mk k _ _ _ => k
def JV.text:JV → List UInt8 | .mk _ t _ _ => t
def JV.keys:JV → List (List UInt8) | .mk _ _ ks _ => ks
def JV.items:JV → List JV | .mk _ _ _ its => its
theorem zaq (v:JV):zao v=[.i .i64 v.kind,.s v.text,.row v.keys.length (v.keys.map .s),.row v.items.length (zac v.items)]:=by cases v; rw [zao]; rfl
theorem zat:zac []=[]:=by rw [zac]
theorem zax (v:JV) (l:List JV):zac (v :: l)=zao v ++ zac l:=by rw [zac]
theorem zbB (v:JV):(zao v).length=4:=by rw [zaq]; rfl
theorem zaR (l:List JV):(zac l).length=l.length * 4:=by
 induction l with
 | nil => rw [zat]; rfl
 | cons v l ih => rw [zax,List.length_append,zbB,ih,List.length_cons]; omega
theorem zcA (a b:List JV):zac (a ++ b)=zac a ++ zac b:=by
 induction a with
 | nil => rw [zat]; rfl
 | cons v l ih => rw [List.cons_append,zax,zax,ih,List.append_assoc]
theorem zkx:∀ {l:List JV} {i:Nat} (hi:i < l.length),((zac l).drop (i * 4)).take 4=zao l[i]
 | a :: l,0,hi => by
  rw [zax,Nat.zero_mul,List.drop_zero]
  exact List.take_left' (zbB a)
 | a :: l,i + 1,hi => by
  rw [zax,show (i + 1) * 4=4 + i * 4 by omega,← List.drop_drop,List.drop_left' (zbB a)]
  simpa using zkx (l:=l) (i:=i) (by simpa using hi)
theorem zdk (l:List (List UInt8)):zas (l.map AV.s)=true:=by
 induction l with
 | nil => rfl
 | cons a l ih => simp [zas,AV.plain,ih]
theorem zie (a b:List AV):zas (a ++ b)=(zas a && zas b):=by
 induction a with
 | nil => simp [zas]
 | cons x a ih => simp [zas,ih,Bool.and_assoc]
mutual
theorem zbO:∀ v:JV,zas (zao v)=true
 | .mk k t ks its => by
  rw [zao]
  simp only [zas,AV.plain,zdk,zcQ its,Bool.and_self]
theorem zcQ:∀ l:List JV,zas (zac l)=true
 | [] => by rw [zac]; rfl
 | v :: l => by rw [zac,zie,zbO v,zcQ l]; rfl
end
mutual
/-- how many values there are in a value -/
def JV.size:JV → Nat
 | .mk _ _ _ its => JV.sizes its + 1
def JV.sizes:List JV → Nat
 | [] => 0
 | v :: l => JV.size v + JV.sizes l
end
theorem zlf:∀ {l:List JV} {i:Nat} (hi:i < l.length),JV.size l[i] ≤ JV.sizes l
 | a :: l,0,hi => by rw [JV.sizes]; simp
 | a :: l,i + 1,hi => by
  rw [JV.sizes]
  have:=zlf (l:=l) (i:=i) (by simpa using hi)
  simp only [List.getElem_cons_succ]
  omega
theorem zcj {v:JV} {i:Nat} (hi:i < v.items.length):JV.size v.items[i] < JV.size v:=by
 cases v with
 | mk k t ks its =>
  have:=zlf (l:=its) (i:=i) hi
  rw [JV.size.eq_def (.mk k t ks its)]
  show JV.size its[i] < _
  simp only
  omega
def zau {α:Type} (L:List (Nat × α)) (o:List α):Prop:=(L.map (·.1)).Nodup ∧ ∀ x ∈ L,o[x.1]? = some x.2
theorem zau.get {α:Type} {L:List (Nat × α)} {o:List α} (h:zau L o) {i:Nat} {x:α} (hx:(i,x) ∈ L):o[i]? = some x:=h.2 _ hx
theorem zau.perm {α:Type} {L L':List (Nat × α)} {o:List α} (h:zau L o) (p:L.Perm L'):zau L' o :=
 ⟨(p.map _).nodup_iff.1 h.1,fun x hx => h.2 x (p.mem_iff.2 hx)⟩
theorem zau.sub {α:Type} {L L':List (Nat × α)} {o:List α} (h:zau L o) (p:L'.Sublist L):zau L' o :=
 ⟨(p.map _).nodup h.1,fun x hx => h.2 x (p.subset hx)⟩
theorem zau.set {α:Type} {A B:List (Nat × α)} {o:List α} {i:Nat} {x:α} (y:α) (h:zau (A ++ (i,x) :: B) o):zau (A ++ (i,y) :: B) (o.set i y):=by
 obtain ⟨h1,h2⟩:=h
 simp only [List.map_append,List.map_cons] at h1
 have hi:o[i]? = some x:=h2 (i,x) (by simp)
 have hlt:=(List.getElem?_eq_some_iff.1 hi).1
 have hne:∀ z ∈ A ++ B,z.1 ≠ i:=by
  intro z hz e
  rw [List.nodup_append] at h1
  obtain ⟨n1,n2,n3⟩:=h1
  rcases List.mem_append.1 hz with hz | hz
  ·exact n3 z.1 (List.mem_map_of_mem hz) i (by simp) e
  ·rw [List.nodup_cons] at n2
   exact n2.1 (e ▸ List.mem_map_of_mem hz)
 refine ⟨by simpa only [List.map_append,List.map_cons] using h1,fun z hz => ?_⟩
 rcases List.mem_append.1 hz with hz | hz
 ·rw [List.getElem?_set_ne (hne z (List.mem_append_left _ hz)).symm]
  exact h2 z (List.mem_append_left _ hz)
 ·rcases List.mem_cons.1 hz with rfl | hz
  ·exact List.getElem?_set_self hlt
  ·rw [List.getElem?_set_ne (hne z (List.mem_append_right _ hz)).symm]
   exact h2 z (List.mem_append_right _ (List.mem_cons_of_mem _ hz))
theorem zau.lt {α:Type} {L:List (Nat × α)} {o:List α} (h:zau L o) {i:Nat} {x:α} (hx:(i,x) ∈ L):i < o.length:=(List.getElem?_eq_some_iff.1 (h.get hx)).1
theorem zau.app {α:Type} {L:List (Nat × α)} {o:List α} (h:zau L o) (more:List α):zau L (o ++ more) :=
 ⟨h.1,fun x hx => by rw [List.getElem?_append_left (h.lt (i:=x.1) (x:=x.2) hx)]; exact h.2 x hx⟩
theorem zau.new {α:Type} {L:List (Nat × α)} {o:List α} (h:zau L o) (x:α):zau ((o.length,x) :: L) (o ++ [x]):=by
 refine ⟨?_,fun z hz => ?_⟩
 ·rw [List.map_cons,List.nodup_cons]
  refine ⟨fun hm => ?_,h.1⟩
  obtain ⟨z,hz,e⟩:=List.mem_map.1 hm
  have:=h.lt (i:=z.1) (x:=z.2) hz
  simp only at e
  omega
 ·rcases List.mem_cons.1 hz with rfl | hz
  ·simp
  ·exact (h.app [x]).2 z hz
theorem zau.mapset {α:Type} {L:List (Nat × α)} {o:List α} {b:Nat} {x d:α} (f:α → α) (h:zau ((b,x) :: L) o) (hf:∀ z ∈ L,f z.2=z.2):zau L ((o.map f).set b d):=by
 obtain ⟨h1,h2⟩:=h
 rw [List.map_cons,List.nodup_cons] at h1
 refine ⟨h1.2,fun z hz => ?_⟩
 have hne:¬ b=z.1:=fun e => h1.1 (by show b ∈ _; rw [e]; exact List.mem_map_of_mem hz)
 rw [List.getElem?_set_ne hne,List.getElem?_map,h2 z (List.mem_cons_of_mem _ hz),Option.map_some,hf z hz]
theorem zf9 {G:Gh} {I:Imm} {y:Value} (h:Den G I .nil y):Den G I (.row 0 []) y:=by
 simp only [Den] at h ⊢
 exact ⟨none,0,[],h,⟨Nat.le_refl _,fun ad h => by cases h⟩,zae.nil,by simp,by simp⟩
def subD (b gen n:Nat) (xs:List AV):AV → AV
 | .agg cs => .agg (cs.map (zcz b gen n xs))
 | x => zcz b gen n xs x
theorem den_subD {G:Gh} {I:Imm} {objs:List OB} {w:World} (hm:MemOk G I objs w) {b E sz gen n:Nat} {xs:List AV} (hb:objs[b]? = some (.orow E sz gen n xs)) (x:AV) (y:Value) (h:Den G I x y):Den (zhD G b gen) (pubI I G b w) (subD b gen n xs x) y:=by
 cases x with
 | agg cs =>
  simp only [Den,subD] at h ⊢
  obtain ⟨ys,h1,h2,h3⟩:=h
  exact ⟨ys,h1,zgk hm hb _ _ h2,h3⟩
 | _ => exact znB hm hb _ _ h
theorem zk9 {b gen n:Nat} {xs:List AV} {x:AV} (h:x.plain=true):zcz b gen n xs x=x:=by
 cases x <;> first | rfl | (simp [AV.plain] at h)
end
end Go.Proofs.YtadhjoggdbhkgaaGreatDoor
namespace Go.Proofs.YtadhjoggdbhkgaaGreatDoor.Sx
open Go.RowKit Go.WideShapes Go.ChangeShapes Go.ChangeAt
inductive TT where
 | s
 | b
 | i (k:IntKind)
 | st (ts:List TT)
 | sl (t:TT)
 | rv
inductive RV where
 | mk (k:Int) (t:List UInt8) (ks:List (List UInt8)) (its:List RV)
mutual
def zdy:RV → List AV
 | .mk k t ks its => [.i .i64 k,.s t,.row ks.length (ks.map .s),.row its.length (zcN its)]
def zcN:List RV → List AV
 | [] => []
 | v :: l => zdy v ++ zcN l
end
mutual
def RVok:RV → Prop
 | .mk k t ks its => (Lit.int .i64 k).wf=true ∧ t.length ≤ 140737488351232 ∧ ks.length ≤ 140737488351232 ∧ (∀ k ∈ ks,k.length ≤ 140737488351232) ∧ its.length ≤ 140737488351232 ∧ zir its
def zir:List RV → Prop
 | [] => True
 | v :: l => RVok v ∧ zir l
end
mutual
def ShT:TT → List AV → Prop
 | .s,xs => ∃ l:List UInt8,xs=[.s l] ∧ l.length ≤ 140737488351232
 | .b,xs => ∃ b,xs=[.b b]
 | .i k,xs => ∃ n,xs=[.i k n] ∧ (Lit.int k n).wf=true
 | .st ts,xs => ShTs ts xs
 | .sl t,xs => ∃ gs:List (List AV),xs=[.row gs.length gs.flatten] ∧ gs.length ≤ 140737488351232 ∧ ∀ g ∈ gs,ShT t g
 | .rv,xs => ∃ r:RV,xs=zdy r ∧ RVok r
def ShTs:List TT → List AV → Prop
 | [],xs => xs=[]
 | t :: ts,xs => ∃ a b,xs=a ++ b ∧ ShT t a ∧ ShTs ts b
end
def ShA:TT → AV → Prop
 | .st ts,x => ∃ cs,x=.agg cs ∧ ShTs ts cs
 | .rv,x => ∃ r:RV,x=.agg (zdy r) ∧ RVok r
 | t,x => ShT t [x]
def ShAs:List TT → List AV → Prop
 | [],xs => xs=[]
 | t :: ts,xs => ∃ x ys,xs=x :: ys ∧ ShA t x ∧ ShAs ts ys
def trTs (P:Program) (rc:TypeId → Option TT):Nat → List Field → Option (List TT)
 | o,[] => some []
 | o,f :: fs => match rc f.type,trTs P rc (o + P.cellsOf f.type) fs with
  | some t,some ts => if f.offset=o then some (t :: ts) else none
  | _,_ => none
def ze3 (P:Program):List Field → Nat
 | [] => 0
 | f :: fs => P.cellsOf f.type + ze3 P fs
def isRV (P:Program) (t:TypeId):List Field → Bool
 | [a,b,c,d] => (a.offset == 0 && b.offset == 1 && c.offset == 2 && d.offset == 3) && (P.cellsOf t == 4 && P.cellsOf a.type == 1 && P.cellsOf b.type == 1 && P.cellsOf c.type == 1 && P.cellsOf d.type == 1) && decide (0 < P.bytesOf t) && (match P.underlying a.type,P.underlying b.type,P.underlying c.type,P.underlying d.type with
  | some (.int .i64),some .string,some (.slice e),some (.slice f) => f == t && P.cellsOf e == 1 && decide (0 < P.bytesOf e) && (match P.underlying e with | some .string => true | _ => false)
  | _,_,_,_ => false)
 | _ => false
def trT (P:Program):Nat → TypeId → Option TT
 | 0,_ => none
 | d + 1,t => match P.underlying t with
  | some .string => some .s
  | some .bool => some .b
  | some (.int k) => some (.i k)
  | some (.struct fs) => if isRV P t fs.toList=true then some .rv else if P.cellsOf t=ze3 P fs.toList then (trTs P (trT P d) 0 fs.toList).map .st else none
  | some (.slice e) => if 0 < P.cellsOf e ∧ 0 < P.bytesOf e then (trT P d e).map .sl else none
  | _ => none
theorem zcH {H:Type} {P:Program} {e:TypeId}:∀ {ds:List (DataW H)} {d:DataW H},d ∈ ds → ∀ n ∈ d.weights P e,n ∈ DataW.weightsAll P e ds
 | [],d,hd,n,hn => by cases hd
 | d0 :: ds,d,hd,n,hn => by
  simp only [DataW.weightsAll,List.mem_append]
  rcases List.mem_cons.1 hd with rfl | hd
  ·exact .inl hn
  ·exact .inr (zcH hd n hn)
theorem ziJ {w:World} {G:Gh} {I:Imm} {t:TT} (a:Addr) (c:Nat) (hI:∀ g o v,w.cell? ⟨g,o,none⟩=some v → I g o v):∀ k:Nat,
  (∀ i,i < k → ∃ (g:List AV) (ys:List Value),ys.length=c ∧ (∀ j,j < c → w.cell? ((a.add (i * c)).add j)=ys[j]?) ∧ zae G I g ys ∧ ShT t g ∧ ∀ u ∈ ys,u.oneCell'=true) →
  ∃ (gs:List (List AV)) (ys:List Value),gs.length=k ∧ ys.length=k * c ∧ zae G I gs.flatten ys ∧ (∀ g ∈ gs,ShT t g) ∧ (∀ u ∈ ys,u.oneCell'=true) ∧ ∀ j,j < k * c → w.cell? (a.add j)=ys[j]?
 | 0,_ => ⟨[],[],rfl,by simp,zae.nil,by simp,by simp,fun j hj => by simp at hj⟩
 | k + 1,h => by
  obtain ⟨gs,ys,h1,h2,h3,h4,h5,h6⟩:=ziJ a c hI k (fun i hi => h i (by omega))
  obtain ⟨g,zs,k1,k2,k3,k4,k5⟩:=h k (by omega)
  have hm:(k + 1) * c=k * c + c:=Nat.succ_mul k c
  refine ⟨gs ++ [g],ys ++ zs,by simp [h1],by rw [List.length_append,h2,k1,hm],?_,?_,?_,?_⟩
  ·rw [List.flatten_append,List.flatten_cons,List.flatten_nil,List.append_nil]
   exact zae.append h3 k3
  ·intro x hx
   rcases List.mem_append.1 hx with hx | hx
   ·exact h4 x hx
   ·rw [List.mem_singleton] at hx; subst hx; exact k4
  ·intro u hu
   rcases List.mem_append.1 hu with hu | hu
   ·exact h5 u hu
   ·exact k5 u hu
  ·intro j hj
   by_cases hjk:j < k * c
   ·rw [h6 j hjk,List.getElem?_append_left (by omega)]
   ·have:=k2 (j - k * c) (by omega)
    rw [Addr.add_add,show k * c + (j - k * c)=j by omega] at this
    rw [this,List.getElem?_append_right (by omega),h2]
theorem add_flat {a:Addr} {j:Nat} (ha:a.spot=none):a.add j=⟨a.block,a.off + j,none⟩:=by
 cases a
 simp only at ha
 subst ha
 unfold Addr.add
 split
 ·rename_i h; subst h; rfl
 ·rfl
section
variable {H:Type} {enc:TypeId × Value → H} {P:Program} {w:World} {base:Nat} {spare:Nat → Bool} {held:Bool} {G:Gh} {I:Imm}
theorem zfr (d:Nat) (ih:∀ (t:TypeId) (tt:TT) (fuel:Nat) (cs:List Value) (x:DataW H × List MemPlace),trT P d t=some tt → DataW.trod enc P w base spare held fuel t cs=some x → (∀ n ∈ x.1.weights P t,n ≤ reachBytes) → ∃ xs,zae G I xs cs ∧ ShT tt xs ∧ ∀ u ∈ cs,u.oneCell'=true) (n:Nat) :
  ∀ (fs:List Field) (ts:List TT) (o:Nat) (cs:List Value),trTs P (trT P d) o fs=some ts → cs.length=o + ze3 P fs → (∀ f ∈ fs,∃ x,DataW.trod enc P w base spare held n f.type ((cs.drop f.offset).take (P.cellsOf f.type))=some x ∧ ∀ m ∈ x.1.weights P f.type,m ≤ reachBytes) →
   ∃ xs,zae G I xs (cs.drop o) ∧ ShTs ts xs ∧ ∀ u ∈ cs.drop o,u.oneCell'=true
 | [],ts,o,cs,ht,hl,hf => by
  simp only [trTs,Option.some.injEq] at ht; subst ht
  have:cs.drop o=[]:=List.drop_eq_nil_of_le (by simp [ze3] at hl; omega)
  rw [this]
  exact ⟨[],zae.nil,rfl,by simp⟩
 | f :: fs,ts,o,cs,ht,hl,hf => by
  simp only [trTs] at ht
  split at ht
  ·rename_i t ts' h1 h2
   split at ht
   ·rename_i ho
    injection ht with ht; subst ht
    obtain ⟨x,hx,hxw⟩:=hf f (List.mem_cons_self ..)
    rw [ho] at hx
    obtain ⟨xs,k1,k2,k3⟩:=ih _ _ _ _ _ h1 hx hxw
    simp only [ze3] at hl
    obtain ⟨ys,m1,m2,m3⟩:=zfr d ih n fs ts' (o + P.cellsOf f.type) cs h2 (by omega) (fun f' hf' => hf f' (List.mem_cons_of_mem _ hf'))
    have e:cs.drop o=(cs.drop o).take (P.cellsOf f.type) ++ cs.drop (o + P.cellsOf f.type):=by
     rw [← List.drop_drop,List.take_append_drop]
    refine ⟨xs ++ ys,?_,?_,?_⟩
    ·rw [e]; exact zae.append k1 m1
    ·exact ⟨xs,ys,rfl,k2,m2⟩
    ·rw [e]; intro u hu
     rcases List.mem_append.1 hu with hu | hu
     ·exact k3 u hu
     ·exact m3 u hu
   ·cases ht
  ·cases ht
theorem zdW (hI:∀ g o v,w.cell? ⟨g,o,none⟩=some v → I g o v) (hspa:∀ b,spare b=true) {t e:TypeId} {te:TT} {fuel:Nat} {cs:List Value} {x:DataW H × List MemPlace} (hu:P.underlying t=some (.slice e)) (hc:0 < P.cellsOf e ∧ 0 < P.bytesOf e)
  (ih:∀ (n:Nat) (ys:List Value) (x:DataW H × List MemPlace),n < fuel → DataW.trod enc P w base spare held n e ys=some x → (∀ n ∈ x.1.weights P e,n ≤ reachBytes) → ∃ g,zae G I g ys ∧ ShT te g ∧ ∀ u ∈ ys,u.oneCell'=true)
  (h:DataW.trod enc P w base spare held fuel t cs=some x) (hwt:∀ n ∈ x.1.weights P t,n ≤ reachBytes):∃ xs,zae G I xs cs ∧ ShT (.sl te) xs ∧ ∀ u ∈ cs,u.oneCell'=true:=by
 rcases DataW.trod_slice hu h with ⟨rfl,rfl⟩ | ⟨a,len,cap,elems,rest,n,hfu,rfl,rfl,hb,hl,hm,hlen,hel,hsr,_⟩
 ·exact ⟨[.row 0 []],zae.cons (by simp only [Den]; exact ⟨none,0,[],rfl,⟨Nat.le_refl _,fun ad h => by cases h⟩,zae.nil,by simp,by simp⟩) zae.nil,⟨[],rfl,by simp,by simp⟩,by simp; rfl⟩
 ·have hw2:(elems.length + rest.length) * P.bytesOf e ≤ reachBytes:=by
   have:=hwt ((elems.map (·.1)).length + (rest.map (·.1)).length |> (· * P.bytesOf e)) (by simp [DataW.weights,hu])
   simpa using this
  have hel2:elems.length ≤ 140737488351232:=by
   have h1:elems.length * 1 ≤ (elems.length + rest.length) * P.bytesOf e:=Nat.mul_le_mul (by omega) hc.2
   have:reachBytes=140737488351232:=rfl
   omega
  have hel3:∀ i,i < len → ∃ (g:List AV) (ys:List Value),ys.length=P.cellsOf e ∧ (∀ j,j < P.cellsOf e → w.cell? ((a.add (i * P.cellsOf e)).add j)=ys[j]?) ∧ zae G I g ys ∧ ShT te g ∧ ∀ u ∈ ys,u.oneCell'=true:=by
   intro i hi
   have h1:=hel i hi
   have hil:i < elems.length:=by omega
   rw [List.getElem?_eq_getElem hil,Option.bind_eq_some_iff] at h1
   obtain ⟨ys,y1,y2⟩:=h1
   obtain ⟨_,z1,z2⟩:=World.cells?_some y1
   obtain ⟨g,g1,g2,g3⟩:=ih n ys _ (by omega) y2 (fun m hm => hwt m (by
    simp only [DataW.weights,hu,List.mem_cons,List.mem_append]
    exact .inr (.inl (zcH (List.mem_map.2 ⟨_,List.getElem_mem hil,rfl⟩) m hm))))
   exact ⟨g,ys,z1,z2,g1,g2,g3⟩
  obtain ⟨gs,ys,k1,k2,k3,k4,k5,k6⟩:=ziJ (G:=G) a (P.cellsOf e) hI len hel3
  have hsp0:cap ≠ 0 → a.spot=none:=by
   intro hcap
   by_cases hl0:0 < len
   ·have hp:0 < len * P.cellsOf e:=Nat.mul_pos hl0 hc.1
    have h2:=k6 0 hp
    rw [List.getElem?_eq_getElem (by omega)] at h2
    have:=World.cell?_spot h2
    simpa [Addr.add] using this
   ·have hr:=(hsr (hspa _)).2 0 (by omega)
    have hrl:=(hsr (hspa _)).1
    rw [List.getElem?_eq_getElem (by omega),Option.bind_eq_some_iff] at hr
    obtain ⟨zs,y1,_⟩:=hr
    obtain ⟨_,z1,z2⟩:=World.cells?_some y1
    have h2:=z2 0 hc.1
    rw [List.getElem?_eq_getElem (by omega)] at h2
    have:=World.cell?_spot h2
    have hl1:len=0:=by omega
    subst hl1
    simpa [Addr.add] using this
  refine ⟨[.row gs.length gs.flatten],zae.cons ?_ zae.nil,⟨gs,rfl,by omega,k4⟩,by simp; rfl⟩
  simp only [Den]
  refine ⟨some a,cap,ys,by rw [k1],⟨by omega,fun ad h hc0 => by injection h with h; subst h; exact hsp0 hc0⟩,k3,k5,fun j u hj => ?_⟩
  have hjl:=(List.getElem?_eq_some_iff.1 hj).1
  have hlp:len ≠ 0:=by rintro rfl; rw [k2,Nat.zero_mul] at hjl; omega
  have hs:=hsp0 (by omega)
  refine ⟨a.block,a.off,by cases a; simp only at hs; subst hs; rfl,hI _ _ _ ?_⟩
  have h2:=k6 j (k2 ▸ hjl)
  rw [add_flat hs] at h2
  rw [h2,hj]
theorem isRV_of {t:TypeId} {fs:List Field} (h:isRV P t fs=true):∃ a b c d e,fs=[a,b,c,d] ∧ (a.offset=0 ∧ b.offset=1 ∧ c.offset=2 ∧ d.offset=3) ∧ (P.cellsOf t=4 ∧ P.cellsOf a.type=1 ∧ P.cellsOf b.type=1 ∧ P.cellsOf c.type=1 ∧ P.cellsOf d.type=1) ∧ 0 < P.bytesOf t ∧
  P.underlying a.type=some (.int .i64) ∧ P.underlying b.type=some .string ∧ P.underlying c.type=some (.slice e) ∧ P.underlying d.type=some (.slice t) ∧ P.cellsOf e=1 ∧ 0 < P.bytesOf e ∧ P.underlying e=some .string:=by
 unfold isRV at h
 split at h
 ·rename_i a b c d
  simp only [Bool.and_eq_true,beq_iff_eq,decide_eq_true_eq] at h
  obtain ⟨⟨⟨h1,h2⟩,h3⟩,h4⟩:=h
  split at h4
  ·rename_i e f u1 u2 u3 u4
   simp only [Bool.and_eq_true,beq_iff_eq,decide_eq_true_eq] at h4
   obtain ⟨⟨⟨k1,k2⟩,k3⟩,k4⟩:=h4
   subst k1
   split at k4
   ·rename_i u5
    exact ⟨a,b,c,d,e,rfl,⟨h1.1.1.1,h1.1.1.2,h1.1.2,h1.2⟩,⟨h2.1.1.1.1,h2.1.1.1.2,h2.1.1.2,h2.1.2,h2.2⟩,h3,u1,u2,u3,u4,k2,k3,u5⟩
   ·cases k4
  ·cases h4
 ·cases h
theorem zlj:∀ gs:List (List AV),(∀ g ∈ gs,ShT .s g) → ∃ ks:List (List UInt8),gs.flatten=ks.map .s ∧ ks.length=gs.length ∧ ∀ k ∈ ks,k.length ≤ 140737488351232
 | [],_ => ⟨[],rfl,rfl,by simp⟩
 | g :: gs,h => by
  obtain ⟨ks,h1,h2,h3⟩:=zlj gs (fun g hg => h g (List.mem_cons_of_mem _ hg))
  obtain ⟨l,hl,hl2⟩:=h g (List.mem_cons_self ..)
  refine ⟨l :: ks,by rw [List.flatten_cons,hl,h1]; rfl,by simp [h2],fun k hk => ?_⟩
  rcases List.mem_cons.1 hk with rfl | hk
  ·exact hl2
  ·exact h3 k hk
theorem ziI:∀ gs:List (List AV),(∀ g ∈ gs,ShT .rv g) → ∃ rs:List RV,gs.flatten=zcN rs ∧ rs.length=gs.length ∧ zir rs
 | [],_ => ⟨[],by rw [zcN]; rfl,rfl,by rw [zir]; trivial⟩
 | g :: gs,h => by
  obtain ⟨rs,h1,h2,h3⟩:=ziI gs (fun g hg => h g (List.mem_cons_of_mem _ hg))
  obtain ⟨r,hr,hr2⟩:=h g (List.mem_cons_self ..)
  exact ⟨r :: rs,by rw [List.flatten_cons,hr,h1,zcN],by simp [h2],by rw [zir]; exact ⟨hr2,h3⟩⟩
theorem open_rv (hI:∀ g o v,w.cell? ⟨g,o,none⟩=some v → I g o v) (hspa:∀ b,spare b=true) {t:TypeId} {fs:Array Field} (hu:P.underlying t=some (.struct fs)) (hrv:isRV P t fs.toList=true):∀ (m fuel:Nat) (cs:List Value) (x:DataW H × List MemPlace),fuel < m → DataW.trod enc P w base spare held fuel t cs=some x → (∀ n ∈ x.1.weights P t,n ≤ reachBytes) → ∃ xs,zae G I xs cs ∧ ShT .rv xs ∧ ∀ u ∈ cs,u.oneCell'=true:=by
 intro m
 induction m with
 | zero => intro fuel cs x hm; omega
 | succ m ih =>
  intro fuel cs x hm h hwt
  obtain ⟨a,b,c,d,e,hfs,⟨o1,o2,o3,o4⟩,⟨c0,c1,c2,c3,c4⟩,hb,u1,u2,u3,u4,e1,e2,e3⟩:=isRV_of hrv
  obtain ⟨xs,n,hfu,rfl,hlen,hxl,hf⟩:=DataW.trod_struct hu h
  have hsz:fs.size=4:=by rw [← Array.length_toList,hfs]; rfl
  have gf:∀ j,fs[j]? = [a,b,c,d][j]?:=fun j => by rw [← hfs,Array.getElem?_toList]
  have hall:∀ (j:Nat) (f:Field),[a,b,c,d][j]? = some f → ∃ x,DataW.trod enc P w base spare held n f.type ((cs.drop f.offset).take (P.cellsOf f.type))=some x ∧ ∀ m ∈ x.1.weights P f.type,m ≤ reachBytes:=by
   intro j f hj
   have h1:=hf j f (by rw [gf]; exact hj)
   have hjl:j < xs.length:=by
    rw [hxl,hsz]
    exact (List.getElem?_eq_some_iff.1 hj).1
   rw [List.getElem?_eq_getElem hjl] at h1
   refine ⟨_,h1,fun m hm => hwt m ?_⟩
   have hj2:(fs.toList.map (·.type))[j]? = some f.type:=by rw [List.getElem?_map,hfs,hj]; rfl
   have:=DataW.weights_mem_each hj2 (show (xs.map (·.1))[j]? = some xs[j].1 by rw [List.getElem?_map,List.getElem?_eq_getElem hjl]; rfl) m hm
   simpa [DataW.weights,hu] using this
  obtain ⟨xa,ha,wa⟩:=hall 0 a rfl
  obtain ⟨xb,hb',wb⟩:=hall 1 b rfl
  obtain ⟨xc,hc',wc⟩:=hall 2 c rfl
  obtain ⟨xd,hd',wd⟩:=hall 3 d rfl
  rw [o1,c1] at ha
  rw [o2,c2] at hb'
  rw [o3,c3] at hc'
  rw [o4,c4] at hd'
  rw [c0] at hlen
  obtain ⟨v0,v1,v2,v3,rfl⟩:∃ v0 v1 v2 v3,cs=[v0,v1,v2,v3]:=by
   match cs,hlen with
   | [v0,v1,v2,v3],_ => exact ⟨v0,v1,v2,v3,rfl⟩
  simp only [List.drop_zero,List.drop_succ_cons,List.take_succ_cons,List.take_zero] at ha hb' hc' hd'
  obtain ⟨i0,r0,_,w0⟩:=DataW.trod_int u1 ha
  injection r0 with r0 _
  obtain ⟨s0,r1,rx1,_⟩:=DataW.trod_string u2 hb'
  injection r1 with r1 _
  subst r0 r1
  obtain ⟨ys2,d2,⟨g2,q2,l2,m2⟩,oc2⟩:=zdW (te:=.s) (G:=G) (I:=I) hI hspa u3 ⟨by omega,e2⟩ (fun n' ys y hn' hy hyw => by
   obtain ⟨s,rfl,rfl,hs⟩:=DataW.trod_string e3 hy
   exact ⟨[.s s.data.toList],zae.cons (by simp [Den]) zae.nil,⟨_,rfl,hyw _ (by simp [DataW.weights])⟩,by simp; rfl⟩) hc' wc
  obtain ⟨ys3,d3,⟨g3,q3,l3,m3⟩,oc3⟩:=zdW (te:=.rv) (G:=G) (I:=I) hI hspa u4 ⟨by omega,hb⟩ (fun n' ys y hn' hy hyw => ih n' ys y (by omega) hy hyw) hd' wd
  subst q2 q3
  obtain ⟨ks,k1,k2,k3⟩:=zlj g2 m2
  obtain ⟨rs,j1,j2,j3⟩:=ziI g3 m3
  refine ⟨zdy (.mk i0 s0.data.toList ks rs),?_,⟨_,rfl,?_⟩,?_⟩
  ·rw [zdy,k2,j2,← k1,← j1]
   exact zae.cons (by simp [Den]) (zae.cons (by simp [Den]) (zae.append d2 d3))
  ·rw [RVok]
   refine ⟨w0,?_,by omega,k3,by omega,j3⟩
   subst rx1
   exact wb _ (by simp [DataW.weights])
  ·intro u hu'
   simp only [List.mem_cons,List.not_mem_nil,or_false] at hu'
   rcases hu' with rfl | rfl | rfl | rfl
   ·rfl
   ·rfl
   ·exact oc2 _ (by simp)
   ·exact oc3 _ (by simp)
theorem zmf (hI:∀ g o v,w.cell? ⟨g,o,none⟩=some v → I g o v) (hspa:∀ b,spare b=true):∀ (d:Nat) (t:TypeId) (tt:TT) (fuel:Nat) (cs:List Value) (x:DataW H × List MemPlace),trT P d t=some tt → DataW.trod enc P w base spare held fuel t cs=some x → (∀ n ∈ x.1.weights P t,n ≤ reachBytes) → ∃ xs,zae G I xs cs ∧ ShT tt xs ∧ ∀ u ∈ cs,u.oneCell'=true:=by
 intro d
 induction d with
 | zero => intro t tt fuel cs x ht; simp [trT] at ht
 | succ d ih =>
  intro t tt fuel cs x ht h hwt
  simp only [trT] at ht
  split at ht
  ·rename_i hu
   injection ht with ht; subst ht
   obtain ⟨s,rfl,rfl,hs⟩:=DataW.trod_string hu h
   refine ⟨[.s s.data.toList],zae.cons (by simp [Den]) zae.nil,⟨_,rfl,?_⟩,by simp; rfl⟩
   exact hwt _ (by simp [DataW.weights])
  ·rename_i hu
   injection ht with ht; subst ht
   obtain ⟨b,rfl,_⟩:=DataW.trod_bool hu h
   exact ⟨[.b b],zae.cons (by simp [Den]) zae.nil,⟨_,rfl⟩,by simp; rfl⟩
  ·rename_i k hu
   injection ht with ht; subst ht
   obtain ⟨n,rfl,_,hw⟩:=DataW.trod_int hu h
   exact ⟨[.i k n],zae.cons (by simp [Den]) zae.nil,⟨_,rfl,hw⟩,by simp; rfl⟩
  ·rename_i fs hu
   split at ht
   ·rename_i hrv
    injection ht with ht; subst ht
    exact open_rv hI hspa hu hrv (fuel + 1) fuel cs x (by omega) h hwt
   split at ht
   ·rename_i hc
    cases hts:trTs P (trT P d) 0 fs.toList with
    | none => rw [hts] at ht; cases ht
    | some ts =>
     rw [hts] at ht; injection ht with ht; subst ht
     obtain ⟨xs,n,_,rfl,hlen,hxl,hf⟩:=DataW.trod_struct hu h
     have hall:∀ f ∈ fs.toList,∃ x,DataW.trod enc P w base spare held n f.type ((cs.drop f.offset).take (P.cellsOf f.type))=some x ∧ ∀ m ∈ x.1.weights P f.type,m ≤ reachBytes:=by
      intro f hfm
      obtain ⟨j,hj⟩:=List.mem_iff_getElem?.1 hfm
      have h1:=hf j f (by simpa using hj)
      have hjl:j < xs.length:=by
       rw [hxl]
       have:=(List.getElem?_eq_some_iff.1 hj).1
       simpa using this
      rw [List.getElem?_eq_getElem hjl] at h1
      refine ⟨_,h1,fun m hm => hwt m ?_⟩
      have hj2:(fs.toList.map (·.type))[j]? = some f.type:=by rw [List.getElem?_map,hj]; rfl
      have:=DataW.weights_mem_each hj2 (show (xs.map (·.1))[j]? = some xs[j].1 by rw [List.getElem?_map,List.getElem?_eq_getElem hjl]; rfl) m hm
      simpa [DataW.weights,hu] using this
     obtain ⟨ys,k1,k2,k3⟩:=zfr d ih n fs.toList ts 0 cs hts (by rw [hlen,hc]; omega) hall
     exact ⟨ys,by simpa using k1,k2,by simpa using k3⟩
   ·cases ht
  ·rename_i e hu
   split at ht
   ·rename_i hc
    cases hte:trT P d e with
    | none => rw [hte] at ht; cases ht
    | some te =>
     rw [hte] at ht; injection ht with ht; subst ht
     exact zdW hI hspa hu hc (fun n ys y _ hy hyw => ih e te n ys y hte hy hyw) h hwt
   ·cases ht
  ·cases ht
theorem open_arg (hI:∀ g o v,w.cell? ⟨g,o,none⟩=some v → I g o v) (hspa:∀ b,spare b=true) {r:Reach} {b0:Nat} {t:TypeId} {tt:TT} {v:Value} {dd:DataW H} {ps:List MemPlace} (ht:trT P 20 t=some tt) (hv:Value.okWide P w r b0 t v) (h:DataW.Trod enc P w base spare held t v dd ps) (hwt:∀ n ∈ dd.weights P t,n ≤ reachBytes):∃ x,Den G I x v ∧ ShA tt x:=by
 obtain ⟨fuel,hf⟩:=h
 obtain ⟨xs,h1,h2,h3⟩:=zmf hI hspa 20 t tt fuel _ _ ht hf hwt
 have ht':=ht
 unfold trT at ht
 cases tt with
 | st ts =>
  split at ht <;> first | (injection ht with ht; cases ht; done) | skip
  ·rename_i fs hu
   obtain ⟨cs,rfl,_⟩:=okWide_struct hu hv
   refine ⟨.agg xs,?_,⟨xs,rfl,h2⟩⟩
   simp only [Den]
   exact ⟨cs.toList,by simp,h1,h3⟩
  ·split at ht
   ·cases hq:trT P 19 _ with
    | none => rw [hq] at ht; cases ht
    | some q => rw [hq] at ht; injection ht with ht; cases ht
   ·cases ht
  ·cases ht
 | rv =>
  split at ht <;> first | (injection ht with ht; cases ht; done) | skip
  ·rename_i fs hu
   obtain ⟨cs,rfl,_⟩:=okWide_struct hu hv
   obtain ⟨r,rfl,hr⟩:=h2
   refine ⟨.agg (zdy r),?_,⟨r,rfl,hr⟩⟩
   simp only [Den]
   exact ⟨cs.toList,by simp,h1,h3⟩
  ·split at ht
   ·cases hq:trT P 19 _ with
    | none => rw [hq] at ht; cases ht
    | some q => rw [hq] at ht; injection ht with ht; cases ht
   ·cases ht
  ·cases ht
 | sl t =>
  split at ht <;> first | (injection ht with ht; cases ht; done) | skip
  ·split at ht
   ·injection ht with ht; cases ht
   split at ht
   ·cases hq:trTs P (trT P 19) 0 _ with
    | none => rw [hq] at ht; cases ht
    | some q => rw [hq] at ht; injection ht with ht; cases ht
   ·cases ht
  ·rename_i e hu
   obtain ⟨a,len,cap,rfl⟩:=okWide_slice hu hv
   obtain ⟨gs,rfl,hl,hg⟩:=h2
   simp only [zae] at h1
   obtain ⟨y,ys,e1,k1,k2⟩:=h1
   subst k2
   have e2:[Value.slice a len cap]=[y]:=e1
   injection e2 with e2 _
   subst e2
   exact ⟨.row gs.length gs.flatten,k1,⟨gs,rfl,hl,hg⟩⟩
  ·cases ht
 | s =>
  split at ht <;> first | (injection ht with ht; cases ht; done) | skip
  ·rename_i hu
   obtain ⟨s,rfl⟩:=okWide_string hu hv
   obtain ⟨l,rfl,hl⟩:=h2
   simp only [zae] at h1
   obtain ⟨y,ys,e,k1,k2⟩:=h1
   subst k2
   have e2:[Value.string s]=[y]:=e
   injection e2 with e2 _
   subst e2
   exact ⟨.s l,k1,⟨l,rfl,hl⟩⟩
  ·split at ht
   ·injection ht with ht; cases ht
   split at ht
   ·cases hq:trTs P (trT P 19) 0 _ with
    | none => rw [hq] at ht; cases ht
    | some q => rw [hq] at ht; injection ht with ht; cases ht
   ·cases ht
  ·split at ht
   ·cases hq:trT P 19 _ with
    | none => rw [hq] at ht; cases ht
    | some q => rw [hq] at ht; injection ht with ht; cases ht
   ·cases ht
  ·cases ht
 | b =>
  split at ht <;> first | (injection ht with ht; cases ht; done) | skip
  ·rename_i hu
   obtain ⟨s,rfl⟩:=okWide_bool hu hv
   obtain ⟨l,rfl⟩:=h2
   simp only [zae] at h1
   obtain ⟨y,ys,e,k1,k2⟩:=h1
   subst k2
   have e2:[Value.bool s]=[y]:=e
   injection e2 with e2 _
   subst e2
   exact ⟨.b l,k1,⟨l,rfl⟩⟩
  ·split at ht
   ·injection ht with ht; cases ht
   split at ht
   ·cases hq:trTs P (trT P 19) 0 _ with
    | none => rw [hq] at ht; cases ht
    | some q => rw [hq] at ht; injection ht with ht; cases ht
   ·cases ht
  ·split at ht
   ·cases hq:trT P 19 _ with
    | none => rw [hq] at ht; cases ht
    | some q => rw [hq] at ht; injection ht with ht; cases ht
   ·cases ht
  ·cases ht
 | i k =>
  split at ht <;> first | (injection ht with ht; cases ht; done) | skip
  ·rename_i k' hu
   injection ht with ht; injection ht with ht; subst ht
   obtain ⟨s,rfl⟩:=okWide_int hu hv
   obtain ⟨l,rfl,hl⟩:=h2
   simp only [zae] at h1
   obtain ⟨y,ys,e,k1,k2⟩:=h1
   subst k2
   have e2:[Value.int _ s]=[y]:=e
   injection e2 with e2 _
   subst e2
   exact ⟨.i _ l,k1,⟨l,rfl,hl⟩⟩
  ·split at ht
   ·injection ht with ht; cases ht
   split at ht
   ·cases hq:trTs P (trT P 19) 0 _ with
    | none => rw [hq] at ht; cases ht
    | some q => rw [hq] at ht; injection ht with ht; cases ht
   ·cases ht
  ·split at ht
   ·cases hq:trT P 19 _ with
    | none => rw [hq] at ht; cases ht
    | some q => rw [hq] at ht; injection ht with ht; cases ht
   ·cases ht
  ·cases ht
theorem open_args (hI:∀ g o v,w.cell? ⟨g,o,none⟩=some v → I g o v) (hspa:∀ b,spare b=true) {r:Reach} {b0:Nat}:∀ (ts:List TypeId) (tts:List TT) (vs:List Value) (ds:List (DataW H)) (ps:List MemPlace),ts.mapM (trT P 20)=some tts → (∀ (j:Nat) t v,ts[j]? = some t → vs[j]? = some v → Value.okWide P w r b0 t v) → DataW.TrodAll enc P w base spare held ts vs ds ps → (∀ n ∈ DataW.weightsEach P ts ds,n ≤ reachBytes) → ∃ xs,zae G I xs vs ∧ ShAs tts xs
 | [],tts,vs,ds,ps,ht,hv,h,hwt => by
  simp at ht; subst ht
  obtain ⟨rfl,_,_⟩:=trodAll_nil h
  exact ⟨[],zae.nil,rfl⟩
 | t :: ts,tts,vs,ds,ps,ht,hv,h,hwt => by
  simp only [List.mapM_cons,Option.bind_eq_bind,Option.pure_def] at ht
  cases h1:trT P 20 t with
  | none => simp [h1] at ht
  | some tt =>
   cases h2:ts.mapM (trT P 20) with
   | none => simp [h1,h2] at ht
   | some tts' =>
    simp [h1,h2] at ht
    subst ht
    obtain ⟨v,vs',d,ds',p,q,rfl,rfl,rfl,k1,k2⟩:=trodAll_cons h
    obtain ⟨x,x1,x2⟩:=open_arg (G:=G) (I:=I) hI hspa h1 (hv 0 t v rfl rfl) k1 (fun n hn => hwt n (by simp only [DataW.weightsEach,List.mem_append]; exact .inl hn))
    obtain ⟨xs,y1,y2⟩:=open_args hI hspa ts tts' vs' ds' q h2 (fun j t v hj hv' => hv (j + 1) t v (by simpa using hj) (by simpa using hv')) k2 (fun n hn => hwt n (by simp only [DataW.weightsEach,List.mem_append]; exact .inr hn))
    exact ⟨x :: xs,zae.cons x1 y1,⟨x,xs,rfl,x2,y2⟩⟩
theorem zdu (hl:laidOutB P=true) {W W':World} {sp':Nat → Bool}:∀ (ts:List TypeId) (vs:List Value) (ds:List (DataW H)) (ps:List MemPlace),(∀ t ∈ ts,P.readableRec t=true ∧ t < P.types.size) → DataW.TrodAll enc P W 0 (fun _ => true) true ts vs ds ps → Below W.heap.size W W' → (∀ p ∈ ps,p.block < W.heap.size) → (∀ p ∈ ps,sp' p.block=true) → DataW.TrodAll enc P W' 0 sp' true ts vs ds ps
 | [],vs,ds,ps,hr,h,hb,hlt,hs => by
  obtain ⟨rfl,rfl,rfl⟩:=trodAll_nil h
  exact trodAll_mk0
 | t :: ts,vs,ds,ps,hr,h,hb,hlt,hs => by
  obtain ⟨v,vs',d,ds',p,q,rfl,rfl,rfl,k1,k2⟩:=trodAll_cons h
  have h1:=hr t (List.mem_cons_self ..)
  exact trodAll_cons_mk (WideElems.Trod_stays hl h1.1 h1.2 k1 (fun x hx => hb.same (hlt x (List.mem_append_left _ hx))) (fun x hx => hs x (List.mem_append_left _ hx)))
   (zdu hl ts vs' ds' q (fun t ht => hr t (List.mem_cons_of_mem _ ht)) k2 hb (fun x hx => hlt x (List.mem_append_right _ hx)) (fun x hx => hs x (List.mem_append_right _ hx)))
end
theorem post_true {H:Type} {enc:TypeId × Value → H} {P:Program} {f:Func} {s:ChangeSpec} {apart fresh handsOn again:Bool} {W W':World} {args:Array Value} {ds gs:List (DataW H)} {before:List MemPlace}
  (hl:laidOutB P=true) (hts:∀ t ∈ f.params.toList,P.readableRec t=true ∧ t < P.types.size) {tb:TypeId} (hrt:f.resultTypes=#[tb]) (hub:P.underlying tb=some .bool) (hsv:s.vars=[])
  (hW:DataW.Whole enc P f.params.toList s.vars apart W args.toList ds gs before) (hfn:s.fn H (ds ++ gs)={ results:=[.lit (.bool true)],args:=ds }) (hb:Below W.heap.size W W'):s.post enc P f apart fresh handsOn again W args (.bool true) W':=by
 have hlt:∀ p ∈ before,p.block < W.heap.size:=fun p hp => hW.lt p hp
 have hold:∀ p ∈ before,(fun b => decide (b < W.heap.size)) p.block=true:=fun p hp => by simpa using hlt p hp
 have hW':=hW
 obtain ⟨p,q,hA,hV,rfl,hz,hn⟩:=hW'
 rw [hsv] at hV
 have hvars:gs=[] ∧ q=[]:=by
  cases gs with
  | nil => exact ⟨rfl,hV⟩
  | cons g gs => exact hV.elim
 obtain ⟨rfl,rfl⟩:=hvars
 simp only [List.append_nil] at *
 have hres:∀ (b:Nat) (sp:Nat → Bool) (hd:Bool),DataW.TrodAll enc P W' b sp hd f.resultTypes.toList ((Value.bool true).resultList f.resultTypes.size) (s.fn H ds).results []:=by
  intro b sp hd
  rw [hfn,hrt]
  exact trodAll_cons_mk (shut_bool hub _) trodAll_mk0
 have hargs:∀ sp:Nat → Bool,(∀ x ∈ p,sp x.block=true) → DataW.TrodAll enc P W' 0 sp true f.params.toList args.toList (s.fn H ds).args p:=by
  intro sp hsp
  rw [hfn]
  exact zdu hl _ _ _ _ hts hA hb hlt hsp
 have hvs:∀ sp:Nat → Bool,DataW.TrodVars enc P W' sp s.vars (s.fn H ds).vars []:=by
  intro sp
  rw [hsv,hfn]; rfl
 refine ⟨ds,[],p,[],p,[],hW,by simpa using hres _ _ _,by simpa using hargs _ hold,by simpa using hvs _,World.keptBut_mono (fun x hx => ⟨hx,?_⟩) (hb.frame (· ∈ p)),fun _ => ?_⟩
 ·exact Or.inr (Or.inl hx)
 ·refine ⟨?_,_,_,([] ++ p) ++ [],⟨[] ++ p,[],trodAll_append (by simpa using hargs _ (fun _ _ => rfl)) (by simpa using hres _ _ _),by simpa using hvs _,rfl,?_,?_⟩,?_⟩
  ·intro j t r hj hr
   rw [hrt] at hj hr
   cases j with
   | zero =>
    simp at hj; subst hj
    have:r=.bool true:=by simpa [Value.resultList] using hr.symm
    subst this
    exact okWide_bool_mk hub _
   | succ j => simp at hj
  ·intro b off hp
   have hin:MemPlace.cell b off ∈ p:=by simpa using hp
   rw [hb.frozen (hlt _ hin)]
   exact hz b off hin
  ·intro ha
   simpa using hn ha
  ·intro x hx _
   simpa using hx
section
variable {H:Type} {enc:TypeId × Value → H}
end
end Go.Proofs.YtadhjoggdbhkgaaGreatDoor.Sx
namespace Go.Proofs.YtadhjoggdbhkgaaGreatDoor
open Nat renaming reduceAdd → z6, reduceSub → z7, reduceLeDiff → z8, reduceLT → j4, reduceMul → j5, reduceEqDiff → j6
open Int renaming reduceToNat → j7, reduceAdd → j8, reduceSub → j9, reduceMul → x4, reduceNeg → x5, reduceLT → x6, reduceLE → x7, reduceEq → x8, reduceNe → x9
open Go.RowKit Sx
section
attribute [local irreducible] run
mutual
def rvJ:RV → JV
 | .mk k t ks its => .mk k t ks (zlk its)
def zlk:List RV → List JV
 | [] => []
 | v :: l => rvJ v :: zlk l
end
theorem zfW:∀ l:List RV,(zlk l).length=l.length
 | [] => by rw [zlk]; rfl
 | v :: l => by rw [zlk,List.length_cons,zfW l,List.length_cons]
mutual
theorem ziY:∀ r:RV,zdy r=zao (rvJ r)
 | .mk k t ks its => by rw [zdy,rvJ,zao,zgX its,zfW]
theorem zgX:∀ l:List RV,zcN l=zac (zlk l)
 | [] => by rw [zcN,zlk,zac]
 | v :: l => by rw [zcN,zlk,zac,ziY v,zgX l]
end
mutual
def JOk:JV → Prop
 | .mk k t ks its => (Lit.int .i64 k).wf=true ∧ t.length ≤ 140737488351232 ∧ ks.length ≤ 140737488351232 ∧ (∀ k ∈ ks,k.length ≤ 140737488351232) ∧ its.length ≤ 140737488351232 ∧ zhA its
def zhA:List JV → Prop
 | [] => True
 | v :: l => JOk v ∧ zhA l
end
mutual
theorem rv_ok:∀ r:RV,RVok r → JOk (rvJ r)
 | .mk k t ks its,h => by
  rw [RVok] at h
  rw [rvJ,JOk]
  exact ⟨h.1,h.2.1,h.2.2.1,h.2.2.2.1,by rw [zfW]; exact h.2.2.2.2.1,rvs_ok its h.2.2.2.2.2⟩
theorem rvs_ok:∀ l:List RV,zir l → zhA (zlk l)
 | [],_ => by rw [zlk,zhA]; trivial
 | v :: l,h => by
  rw [zir] at h
  rw [zlk,zhA]
  exact ⟨rv_ok v h.1,rvs_ok l h.2⟩
end
theorem zmV:∀ {l:List JV} (h:zhA l) {i:Nat} (hi:i < l.length),JOk l[i]
 | a :: l,h,0,hi => by rw [zhA] at h; exact h.1
 | a :: l,h,i + 1,hi => by rw [zhA] at h; exact zmV h.2 (by simpa using hi)
theorem JOk.its {v:JV} (h:JOk v) {i:Nat} (hi:i < v.items.length):JOk v.items[i]:=by
 cases v with
 | mk k t ks its => rw [JOk] at h; exact zmV h.2.2.2.2.2 hi
theorem JOk.lens {v:JV} (h:JOk v):v.keys.length ≤ 140737488351232 ∧ v.items.length ≤ 140737488351232 ∧ v.text.length ≤ 140737488351232 ∧ ∀ k ∈ v.keys,k.length ≤ 140737488351232:=by
 cases v with
 | mk k t ks its => rw [JOk] at h; exact ⟨h.2.2.1,h.2.2.2.2.1,h.2.1,h.2.2.2.1⟩
mutual
/-- not too many keys and items, wherever -/
def JBd:JV → Prop
 | .mk k t ks its => ks.length ≤ 1099511627780 ∧ its.length ≤ 1099511627776 ∧ zgw its
def zgw:List JV → Prop
 | [] => True
 | v :: l => JBd v ∧ zgw l
end
theorem zm0:∀ {l:List JV},(∀ (i:Nat) (h:i < l.length),JBd l[i]) → zgw l
 | [],_ => by rw [zgw]; trivial
 | v :: l,h => by
  rw [zgw]
  exact ⟨h 0 (by simp),zm0 fun i hi => by have:=h (i + 1) (by simpa using hi); simpa only [List.getElem_cons_succ] using this⟩
theorem zm1:∀ {l:List JV} (h:zgw l) {i:Nat} (hi:i < l.length),JBd l[i]
 | a :: l,h,0,hi => by rw [zgw] at h; exact h.1
 | a :: l,h,i + 1,hi => by rw [zgw] at h; exact zm1 h.2 (by simpa using hi)
theorem JBd.lens {v:JV} (h:JBd v):v.keys.length ≤ 1099511627780 ∧ v.items.length ≤ 1099511627776:=by
 cases v; rw [JBd] at h; exact ⟨h.1,h.2.1⟩
theorem JBd.its {v:JV} (h:JBd v) {i:Nat} (hi:i < v.items.length):JBd v.items[i]:=by
 cases v with
 | mk k t ks its => rw [JBd] at h; exact zm1 h.2.2 hi
theorem JBd.of {v:JV} (h1:v.keys.length ≤ 1099511627780) (h2:v.items.length ≤ 1099511627776) (h3:∀ (i:Nat) (h:i < v.items.length),JBd v.items[i]):JBd v:=by
 cases v; rw [JBd]; exact ⟨h1,h2,zm0 h3⟩
theorem size_eq (v:JV):v.size=JV.sizes v.items + 1:=by cases v; rw [JV.size]; rfl
theorem zfj:∀ {l:List JV} {i:Nat} (hi:i < l.length),JV.sizes (l.take (i + 1))=JV.sizes (l.take i) + l[i].size
 | a :: l,0,hi => by rw [List.take_succ_cons,List.take_zero,List.take_zero,JV.sizes,JV.sizes,JV.sizes]; simp
 | a :: l,i + 1,hi => by
  rw [List.take_succ_cons,List.take_succ_cons,JV.sizes,JV.sizes,zfj (l:=l) (i:=i) (by simpa using hi)]
  simp only [List.getElem_cons_succ]
  omega
mutual
/-- short texts, not too many keys and items, wherever -/
def JKp:JV → Prop
 | .mk k t ks its => ks.length ≤ 1099511627780 ∧ its.length ≤ 1099511627776 ∧ t.length ≤ 300 ∧ (∀ k ∈ ks,k.length ≤ 300) ∧ zfe its
def zfe:List JV → Prop
 | [] => True
 | v :: l => JKp v ∧ zfe l
end
theorem zmX:∀ {l:List JV},(∀ (i:Nat) (h:i < l.length),JKp l[i]) → zfe l
 | [],_ => by rw [zfe]; trivial
 | v :: l,h => by
  rw [zfe]
  exact ⟨h 0 (by simp),zmX fun i hi => by have:=h (i + 1) (by simpa using hi); simpa only [List.getElem_cons_succ] using this⟩
theorem zmY:∀ {l:List JV} (h:zfe l) {i:Nat} (hi:i < l.length),JKp l[i]
 | a :: l,h,0,hi => by rw [zfe] at h; exact h.1
 | a :: l,h,i + 1,hi => by rw [zfe] at h; exact zmY h.2 (by simpa using hi)
theorem JKp.lens {v:JV} (h:JKp v):v.keys.length ≤ 1099511627780 ∧ v.items.length ≤ 1099511627776 ∧ v.text.length ≤ 300 ∧ ∀ k ∈ v.keys,k.length ≤ 300:=by
 cases v; rw [JKp] at h; exact ⟨h.1,h.2.1,h.2.2.1,h.2.2.2.1⟩
theorem JKp.its {v:JV} (h:JKp v) {i:Nat} (hi:i < v.items.length):JKp v.items[i]:=by
 cases v with
 | mk k t ks its => rw [JKp] at h; exact zmY h.2.2.2.2 hi
theorem JKp.of {v:JV} (h1:v.keys.length ≤ 1099511627780) (h2:v.items.length ≤ 1099511627776) (h3:v.text.length ≤ 300) (h4:∀ k ∈ v.keys,k.length ≤ 300) (h5:∀ (i:Nat) (h:i < v.items.length),JKp v.items[i]):JKp v:=by
 cases v; rw [JKp]; exact ⟨h1,h2,h3,h4,zmX h5⟩
mutual
theorem JKp.bd:∀ {v:JV},JKp v → JBd v
 | .mk k t ks its,h => by rw [JKp] at h; rw [JBd]; exact ⟨h.1,h.2.1,zfe.bd h.2.2.2.2⟩
theorem zfe.bd:∀ {l:List JV},zfe l → zgw l
 | [],_ => by rw [zgw]; trivial
 | v :: l,h => by rw [zfe] at h; rw [zgw]; exact ⟨JKp.bd h.1,zfe.bd h.2⟩
end
mutual
/-- no slice too long, wherever -/
def JLn:JV → Prop
 | .mk k t ks its => ks.length ≤ 140737488351232 ∧ its.length ≤ 140737488351232 ∧ zn8 its
def zn8:List JV → Prop
 | [] => True
 | v :: l => JLn v ∧ zn8 l
end
mutual
theorem JOk.ln:∀ {v:JV},JOk v → JLn v
 | .mk k t ks its,h => by rw [JOk] at h; rw [JLn]; exact ⟨h.2.2.1,h.2.2.2.2.1,zhA.ln h.2.2.2.2.2⟩
theorem zhA.ln:∀ {l:List JV},zhA l → zn8 l
 | [],_ => by rw [zn8]; trivial
 | v :: l,h => by rw [zhA] at h; rw [zn8]; exact ⟨JOk.ln h.1,zhA.ln h.2⟩
end
mutual
theorem JBd.ln:∀ {v:JV},JBd v → JLn v
 | .mk k t ks its,h => by rw [JBd] at h; rw [JLn]; exact ⟨by omega,by omega,zgw.ln h.2.2⟩
theorem zgw.ln:∀ {l:List JV},zgw l → zn8 l
 | [],_ => by rw [zn8]; trivial
 | v :: l,h => by rw [zgw] at h; rw [zn8]; exact ⟨JBd.ln h.1,zgw.ln h.2⟩
end
theorem zmW:∀ {l:List JV} (h:zn8 l) {i:Nat} (hi:i < l.length),JLn l[i]
 | a :: l,h,0,hi => by rw [zn8] at h; exact h.1
 | a :: l,h,i + 1,hi => by rw [zn8] at h; exact zmW h.2 (by simpa using hi)
theorem JLn.its {v:JV} (h:JLn v) {i:Nat} (hi:i < v.items.length):JLn v.items[i]:=by
 cases v with
 | mk k t ks its => rw [JLn] at h; exact zmW h.2.2 hi
theorem JLn.lens {v:JV} (h:JLn v):v.keys.length ≤ 140737488351232 ∧ v.items.length ≤ 140737488351232:=by
 cases v with
 | mk k t ks its => rw [JLn] at h; exact ⟨h.1,h.2.1⟩
section
variable [Tabs Tryz.prog]
theorem zh9:∀ (m:Nat) (v:JV) (a d:Int),v.size < m → JOk v → 0 ≤ a → a ≤ 1099511627776 → 0 ≤ d → d ≤ 1099511627776 → ∀ {objs:List OB} {K:List OB → AV → Prop},(∀ n:Int,-1 ≤ n → n ≤ 1099511627776 → (0 ≤ n → JKp v ∧ n + (v.size:Int)=a) → K objs (.i .i64 n)) → zah Tryz.prog 19 [.agg (zao v),.i .i64 a,.i .i64 d] objs K:=by
 intro m
 induction m with
 | zero => intro v a d h; omega
 | succ m ih =>
  intro v a d hm hv ha ha2 hd hd2 objs K hk
  obtain ⟨l1,l2,l3,l4⟩:=hv.lens
  refine zbI is_keep_size (by simp only [zas,AV.plain,zbO,Bool.and_self]) fun C _ => ?_
  rw [c_keep_size]
  refine zab fun Y hY => ?_
  simp only [sxZ,z6,z7,z8,j4,j5,j6,j7,j8,j9,x4,x5,x6,x7,x8,x9,reduceCtorEq,↓reduceIte]
  have e0:OB.box 25 (zao v)=OB.box 25 [.i .i64 v.kind,.s v.text,.row v.keys.length (v.keys.map .s),.row v.items.length (zac v.items)]:=by rw [zaq]
  rw [e0]
  subst hY
  refine zab fun Y hY => ?_
  have bad:∀ (o:List OB) (tm:List AV),True:=fun _ _ => trivial
  by_cases c1:a ≤ 0
  ·simp only [sxZ,z6,z7,z8,j4,j5,j6,j7,j8,j9,x4,x5,x6,x7,x8,x9,reduceCtorEq,↓reduceIte,c1,decide_true]
   exact hk _ (by decide) (by decide) (fun h => absurd h (by decide))
  by_cases c2:d ≤ 0
  ·simp only [sxZ,z6,z7,z8,j4,j5,j6,j7,j8,j9,x4,x5,x6,x7,x8,x9,reduceCtorEq,↓reduceIte,c1,c2,decide_true]
   exact hk _ (by decide) (by decide) (fun h => absurd h (by decide))
  by_cases c3:(300:Int) < v.text.length
  ·simp only [sxZ,z6,z7,z8,j4,j5,j6,j7,j8,j9,x4,x5,x6,x7,x8,x9,reduceCtorEq,↓reduceIte,c1,c2,c3,decide_true]
   exact hk _ (by decide) (by decide) (fun h => absurd h (by decide))
  by_cases c4:(v.items.length:Int) + 4 < v.keys.length
  ·simp only [sxZ,z6,z7,z8,j4,j5,j6,j7,j8,j9,x4,x5,x6,x7,x8,x9,reduceCtorEq,↓reduceIte,c1,c2,c3,c4,decide_true]
   refine ⟨by omega,?_⟩
   exact hk _ (by decide) (by decide) (fun h => absurd h (by decide))
  by_cases c5:a < (v.items.length:Int)
  ·simp only [sxZ,z6,z7,z8,j4,j5,j6,j7,j8,j9,x4,x5,x6,x7,x8,x9,reduceCtorEq,↓reduceIte,c1,c2,c3,c4,c5,decide_true]
   refine ⟨by omega,?_⟩
   exact hk _ (by decide) (by decide) (fun h => absurd h (by decide))
  simp only [sxZ,z6,z7,z8,j4,j5,j6,j7,j8,j9,x4,x5,x6,x7,x8,x9,reduceCtorEq,↓reduceIte,c1,c2,c3,c4,c5,decide_true]
  refine ⟨by omega,?_⟩
  rw [← e0]
  generalize hB:OB.box 25 (zao v)=B
  subst hY
  refine zab fun Y hY => ?_
  simp only [sxZ,z6,z7,z8,j4,j5,j6,j7,j8,j9,x4,x5,x6,x7,x8,x9,reduceCtorEq,↓reduceIte]
  refine ⟨by omega,?_⟩
  subst hY
  refine zab fun Y hY => ?_
  rw [← hB,e0]
  simp only [sxZ,z6,z7,z8,j4,j5,j6,j7,j8,j9,x4,x5,x6,x7,x8,x9,reduceCtorEq,↓reduceIte]
  refine zaV (fun n o tm => ∃ i:Nat,i ≤ v.keys.length ∧ n=v.keys.length - i ∧ o=[OB.box 25 (zao v)] ∧ (∀ j x,j < i → v.keys[j]? = some x → x.length ≤ 300) ∧ tm.length=69 ∧ tm[1]? = some (.i .i64 (a - 1)) ∧ tm[2]? = some (.i .i64 d) ∧ tm[3]? = some (.p 0 0) ∧ tm[43]? = some (.row v.keys.length (v.keys.map .s)) ∧ tm[44]? = some (.i .i64 (v.keys.length:Int)) ∧ tm[45]? = some (.i .i64 (i:Int))) v.keys.length ⟨0,Nat.zero_le _,rfl,by rw [e0],(fun j x h => by omega),rfl,rfl,rfl,rfl,rfl,rfl,rfl⟩ ?_
  rintro n _ tm ⟨i,hi,rfl,rfl,hks,hlen,t1,t2,t3,t43,t44,t45⟩
  refine zab fun Z hZ => ?_
  by_cases hlt:(i:Int) < (v.keys.length:Int)
  ·have hi':i < v.keys.length:=by omega
   have hkk:(v.keys.map AV.s)[i * 1]? = some (.s v.keys[i]):=by rw [Nat.mul_one,List.getElem?_map,List.getElem?_eq_getElem hi']; rfl
   have hk4:=l4 _ (List.getElem_mem hi')
   have hk5:v.keys[i]? = some v.keys[i]:=List.getElem?_eq_getElem hi'
   generalize v.keys[i]=key at hkk hk4 hk5
   simp only [sxZ,z6,z7,z8,j4,j5,j6,j7,j8,j9,x4,x5,x6,x7,x8,x9,reduceCtorEq,↓reduceIte,List.getElem?_set,hlen,t1,t2,t3,t43,t44,t45,hlt]
   subst hZ
   simp only [sxZ,z6,z7,z8,j4,j5,j6,j7,j8,j9,x4,x5,x6,x7,x8,x9,reduceCtorEq,↓reduceIte,List.getElem?_set,hlen,t1,t2,t3,t43,t44,t45,hlt,List.length_map,hkk]
   refine ⟨by omega,?_⟩
   by_cases c6:(300:Int) < key.length
   ·simp only [sxZ,z6,z7,z8,j4,j5,j6,j7,j8,j9,x4,x5,x6,x7,x8,x9,reduceCtorEq,↓reduceIte,List.getElem?_set,hlen,t1,t2,t3,t43,t44,t45,c6]
    exact hk _ (by decide) (by decide) (fun h => absurd h (by decide))
   simp only [sxZ,z6,z7,z8,j4,j5,j6,j7,j8,j9,x4,x5,x6,x7,x8,x9,reduceCtorEq,↓reduceIte,List.getElem?_set,hlen,t1,t2,t3,t43,t44,t45,c6]
   refine ⟨by omega,v.keys.length - (i + 1),by omega,i + 1,by omega,rfl,fun j x hj hx => ?_,rfl⟩
   by_cases e:j=i
   ·subst e
    rw [hk5] at hx; injection hx with hx; rw [← hx]; omega
   ·exact hks j x (by omega) hx
  have hn:i=v.keys.length:=by omega
  have hks2:∀ k ∈ v.keys,k.length ≤ 300:=fun k hk => by
   obtain ⟨j,hj⟩:=List.mem_iff_getElem?.1 hk
   exact hks j k (by have:=(List.getElem?_eq_some_iff.1 hj).1; omega) hj
  simp only [sxZ,z6,z7,z8,j4,j5,j6,j7,j8,j9,x4,x5,x6,x7,x8,x9,reduceCtorEq,↓reduceIte,List.getElem?_set,hlen,t1,t2,t3,t43,t44,t45,hlt]
  subst hZ
  simp only [sxZ,z6,z7,z8,j4,j5,j6,j7,j8,j9,x4,x5,x6,x7,x8,x9,reduceCtorEq,↓reduceIte,List.getElem?_set,hlen,t1,t2,t3,t43,t44,t45,hlt]
  refine zbN (fun t => t.length=69 ∧ t[1]? = some (.i .i64 (a - 1)) ∧ t[2]? = some (.i .i64 d) ∧ t[3]? = some (.p 0 0)) ?_ ?_
  ·simp only [sxZ,z6,z7,z8,j4,j5,j6,j7,j8,j9,x4,x5,x6,x7,x8,x9,reduceCtorEq,↓reduceIte,List.length_set,List.getElem?_set,hlen,t1,t2,t3,and_self]
  clear hlen t1 t2 t3 t43 t44 t45 hlt
  rintro tm ⟨hlen,t1,t2,t3⟩
  subst hY
  refine zab fun Y hY => ?_
  rw [e0]
  simp only [sxZ,z6,z7,z8,j4,j5,j6,j7,j8,j9,x4,x5,x6,x7,x8,x9,reduceCtorEq,↓reduceIte,List.getElem?_set,hlen,t1,t2,t3]
  rw [← e0]
  refine zaV (fun n o tm => ∃ (i:Nat) (b:Int),i ≤ v.items.length ∧ n=v.items.length - i ∧ o[0]? = some (OB.box 25 (zao v)) ∧ 0 ≤ b ∧ b ≤ 1099511627776 ∧ (∀ (j:Nat) (h:j < v.items.length),j < i → JKp v.items[j]) ∧ b + (JV.sizes (v.items.take i):Int)=a - 1 ∧ tm.length=69 ∧ tm[1]? = some (.i .i64 b) ∧ tm[2]? = some (.i .i64 d) ∧ tm[3]? = some (.p 0 0) ∧ tm[54]? = some (.row v.items.length (zac v.items)) ∧ tm[55]? = some (.i .i64 (v.items.length:Int)) ∧ tm[56]? = some (.i .i64 (i:Int))) v.items.length ⟨0,a - 1,Nat.zero_le _,rfl,rfl,by omega,by omega,(fun j _ h => by omega),by rw [List.take_zero,JV.sizes]; omega,?_⟩ ?_
  ·simp only [sxZ,z6,z7,z8,j4,j5,j6,j7,j8,j9,x4,x5,x6,x7,x8,x9,reduceCtorEq,↓reduceIte,List.length_set,List.getElem?_set,hlen,t1,t2,t3,Int.cast_ofNat_Int,and_self]
  clear hlen t1 t2 t3
  rintro n o tm ⟨i,b,hi,rfl,ho,hb,hb2,hall,hsum,hlen,t1,t2,t3,t54,t55,t56⟩
  refine zab fun Z hZ => ?_
  by_cases hlt:(i:Int) < (v.items.length:Int)
  ·have hi':i < v.items.length:=by omega
   have hjc:=zkx hi'
   have hjl:=zaR v.items
   have hit:=hv.its hi'
   have hsz:=zcj hi'
   have hsum2:=zfj hi'
   have hall2:JKp v.items[i] → ∀ (j:Nat) (h:j < v.items.length),j < i + 1 → JKp v.items[j]:=by
    intro hs j h1 hj
    by_cases e:j=i
    ·subst e; exact hs
    ·exact hall j h1 (by omega)
   generalize v.items[i]=x at hjc hit hsz hall2 hsum2
   have hcall:=fun {objs:List OB} {K:List OB → AV → Prop} (h) => ih x b (d - 1) (by omega) hit hb hb2 (by omega) (by omega) (objs:=objs) (K:=K) h
   obtain ⟨q0,q1,q2,q3,hq⟩:∃ q0 q1 q2 q3,zao x=[q0,q1,q2,q3]:=⟨_,_,_,_,zaq x⟩
   have hcp:zas [q0,q1,q2,q3]=true:=by rw [← hq]; exact zbO x
   rw [hq] at hjc hcall
   have h0:∀ z,(o ++ [z])[0]? = some (OB.box 25 (zao v)):=fun z => by rw [List.getElem?_append_left (List.getElem?_eq_some_iff.1 ho).1]; exact ho
   simp only [sxZ,z6,z7,z8,j4,j5,j6,j7,j8,j9,x4,x5,x6,x7,x8,x9,reduceCtorEq,↓reduceIte,List.getElem?_set,hlen,t1,t2,t3,t54,t55,t56,hlt]
   subst hZ
   refine zab fun Z hZ => ?_
   simp only [sxZ,z6,z7,z8,j4,j5,j6,j7,j8,j9,x4,x5,x6,x7,x8,x9,reduceCtorEq,↓reduceIte,List.getElem?_set,hlen]
   subst hZ
   refine zab fun W hW => ?_
   rw [zbc]
   refine zab fun Z hZ => ?_
   simp only [sxZ,z6,z7,z8,j4,j5,j6,j7,j8,j9,x4,x5,x6,x7,x8,x9,reduceCtorEq,↓reduceIte,List.getElem?_set,hlen,t1,t2,t3,t54,t55,t56,hlt,hjc]
   refine ⟨by omega,by omega,?_⟩
   simp only [sxZ,z6,z7,z8,j4,j5,j6,j7,j8,j9,x4,x5,x6,x7,x8,x9,reduceCtorEq,↓reduceIte,List.getElem?_set,hlen,gn1,sn1]
   have h1:=h0 (OB.box 25 [q0,q1,q2,q3])
   have h2:(o ++ [OB.box 25 [q0,q1,q2,q3]])[o.length]? = some (OB.box 25 [q0,q1,q2,q3]):=gn1 _ _
   generalize o ++ [OB.box 25 [q0,q1,q2,q3]]=o1 at h1 h2 ⊢
   subst hZ
   refine zab fun Z hZ => ?_
   simp only [sxZ,z6,z7,z8,j4,j5,j6,j7,j8,j9,x4,x5,x6,x7,x8,x9,reduceCtorEq,↓reduceIte,List.getElem?_set,hlen,t1,t2,h2]
   refine ⟨by omega,?_⟩
   refine zal (hcall fun n hn1 hn2 hn3 => ?_)
   simp only [sxZ,z6,z7,z8,j4,j5,j6,j7,j8,j9,x4,x5,x6,x7,x8,x9,reduceCtorEq,↓reduceIte,List.getElem?_set,hlen]
   subst hZ
   by_cases c7:n < 0
   ·simp only [sxZ,z6,z7,z8,j4,j5,j6,j7,j8,j9,x4,x5,x6,x7,x8,x9,reduceCtorEq,↓reduceIte,List.getElem?_set,hlen,c7]
    exact hk _ (by decide) (by decide) (fun h => absurd h (by decide))
   simp only [sxZ,z6,z7,z8,j4,j5,j6,j7,j8,j9,x4,x5,x6,x7,x8,x9,reduceCtorEq,↓reduceIte,List.getElem?_set,hlen,c7]
   subst hW
   simp only [sxZ,z6,z7,z8,j4,j5,j6,j7,j8,j9,x4,x5,x6,x7,x8,x9,reduceCtorEq,↓reduceIte,List.getElem?_set,hlen,t1,t2,t3,t54,t55,t56]
   exact ⟨by omega,v.items.length - (i + 1),by omega,i + 1,n,by omega,rfl,h1,by omega,hn2,hall2 (hn3 (by omega)).1,(by have:=(hn3 (by omega)).2; omega),rfl,rfl⟩
  simp only [sxZ,z6,z7,z8,j4,j5,j6,j7,j8,j9,x4,x5,x6,x7,x8,x9,reduceCtorEq,↓reduceIte,List.getElem?_set,hlen,t1,t2,t3,t54,t55,t56,hlt]
  subst hZ
  subst hY
  simp only [sxZ,z6,z7,z8,j4,j5,j6,j7,j8,j9,x4,x5,x6,x7,x8,x9,reduceCtorEq,↓reduceIte,List.getElem?_set,hlen,t1,t2,t3,t54,t55,t56,hlt]
  exact hk _ (by omega) hb2 (fun _ => ⟨JKp.of (by omega) (by omega) (by omega) hks2 fun j h => hall j h (by omega),by rw [size_eq]; rw [List.take_of_length_le (by omega)] at hsum; omega⟩)
end
end
end Go.Proofs.YtadhjoggdbhkgaaGreatDoor
namespace Go.Proofs.YtadhjoggdbhkgaaGreatDoor
open Go.RowKit Sx
section
attribute [local irreducible] run
def zjz (key:List UInt8):List (List UInt8) → Nat
 | [] => 0
 | k :: l => if k=key then 0 else zjz key l + 1
section
variable [Tabs Tryz.prog] {objs:List OB} {K:List OB → AV → Prop}
end
end
end Go.Proofs.YtadhjoggdbhkgaaGreatDoor
namespace Go.Proofs.YtadhjoggdbhkgaaGreatDoor
open Go.RowKit Sx
section
attribute [local irreducible] run
theorem zeN:∀ (ks:List (List UInt8)) (o:List OB) (d:Nat),zfq o (d + 1) (ks.map AV.s)=some (ks.map AV.s)
 | [],o,d => by simp only [List.map_nil,zfq]
 | k :: ks,o,d => by simp only [List.map_cons,zfq,pub,AV.plain,if_true,zeN ks o d]
theorem zhX:∀ (l:List JV) (o:List OB) (d:Nat),zfq o (d + 1) (zac l)=some (zac l)
 | [],o,d => by rw [zat]; simp only [zfq]
 | v :: l,o,d => by
  rw [zax,zaq]
  simp only [List.cons_append,List.nil_append,zfq,pub,AV.plain,zdk,zcQ,if_true,zhX l o d]
section
variable [Tabs Tryz.prog] {objs:List OB} {K:List OB → AV → Prop}
end
end
end Go.Proofs.YtadhjoggdbhkgaaGreatDoor
namespace Go.Proofs.YtadhjoggdbhkgaaGreatDoor
open Go.RowKit Sx
section
attribute [local irreducible] run
structure WfM (σ:Ms) (a:Nat):Prop where
 top:(σ.st=1 ∨ σ.st=2 ∨ σ.st=3 ∨ σ.st=4 ∨ σ.st=5) → σ.stk ≠ []
 obj:(σ.st=2 ∨ σ.st=3 ∨ σ.st=4) → ∀ f r,σ.stk=f :: r → f.obj=true
 len:∀ f ∈ σ.stk,f.ks.length ≤ a ∧ f.its.length ≤ a
 deep:σ.stk.length ≤ 64
 few:σ.nodes ≤ 20000
end
end Go.Proofs.YtadhjoggdbhkgaaGreatDoor
namespace Go.Proofs.YtadhjoggdbhkgaaGreatDoor
open Go.RowKit Sx
section
attribute [local irreducible] run
def tkC (t:Tk):List AV:=[.i .i64 t.1,.s t.2.1,.i .i64 t.2.2]
def zgE (t:Tk):AV:=.agg (tkC t)
def SlO (E sz n:Nat) (xs:List AV) (X:AV) (L:List (Nat × OB)):Prop :=
 (n=0 ∧ xs=[] ∧ X=.nil ∧ L=[]) ∨ ∃ b g,X=.orow b g ∧ L=[(b,.orow E sz g n xs)]
section
variable [Tabs Tryz.prog] {objs:List OB} {K:List OB → AV → Prop}
end
end
end Go.Proofs.YtadhjoggdbhkgaaGreatDoor
namespace Go.Proofs.YtadhjoggdbhkgaaGreatDoor
open Go.RowKit Sx
section
attribute [local irreducible] run
def leS (a b:List UInt8):Bool:=zbj a b || a == b
theorem zbA:∀ (a b c:List UInt8),zbj a b=true → zbj b c=true → zbj a c=true
 | _,[],_,h,_ => by simp [zbj,Op.bytesLess] at h
 | [],_ :: _,[],_,h => by simp [zbj,Op.bytesLess] at h
 | _ :: _,_ :: _,[],_,h => by simp [zbj,Op.bytesLess] at h
 | [],_ :: _,_ :: _,_,_ => by simp [zbj,Op.bytesLess]
 | a :: x,b :: y,c :: z,h,k => by
  simp only [zbj,Op.bytesLess,Bool.or_eq_true,Bool.and_eq_true,decide_eq_true_eq,beq_iff_eq] at h k ⊢
  rcases h with h | ⟨rfl,h⟩
  ·rcases k with k | ⟨rfl,k⟩
   ·exact .inl (UInt8.lt_trans h k)
   ·exact .inl h
  ·rcases k with k | ⟨rfl,k⟩
   ·exact .inl k
   ·exact .inr ⟨rfl,zbA x y z h k⟩
theorem zdf:∀ (a b:List UInt8),zbj a b=true ∨ a=b ∨ zbj b a=true
 | [],[] => .inr (.inl rfl)
 | [],_ :: _ => .inl rfl
 | _ :: _,[] => .inr (.inr rfl)
 | a :: x,b :: y => by
  simp only [zbj,Op.bytesLess,Bool.or_eq_true,Bool.and_eq_true,decide_eq_true_eq,beq_iff_eq]
  by_cases h1:a < b
  ·exact .inl (.inl h1)
  by_cases h2:b < a
  ·exact .inr (.inr (.inl h2))
  have e:a=b:=UInt8.le_antisymm (UInt8.not_lt.1 h2) (UInt8.not_lt.1 h1)
  subst e
  rcases zdf x y with h | h | h
  ·exact .inl (.inr ⟨rfl,h⟩)
  ·exact .inr (.inl (by rw [h]))
  ·exact .inr (.inr (.inr ⟨rfl,h⟩))
theorem za2:∀ a:List UInt8,zbj a a=false
 | [] => rfl
 | a :: x => by
  have h0:¬ a < a:=UInt8.lt_irrefl a
  have h:=za2 x
  unfold zbj at h
  simp [zbj,Op.bytesLess,h0,h]
theorem zg9 (a b c:List UInt8) (h:leS a b=true) (k:leS b c=true):leS a c=true:=by
 unfold leS at *
 rw [Bool.or_eq_true,beq_iff_eq] at *
 rcases h with h | rfl
 ·rcases k with k | rfl
  ·exact .inl (zbA _ _ _ h k)
  ·exact .inl h
 ·exact k
theorem zms (a b:List UInt8):(leS a b || leS b a)=true:=by
 unfold leS
 rcases zdf a b with h | rfl | h
 ·rw [h]; rfl
 ·simp
 ·rw [h]; simp
theorem zjd (a b:List UInt8) (h:leS a b=true) (k:leS b a=true):a=b:=by
 unfold leS at *
 rw [Bool.or_eq_true,beq_iff_eq] at *
 rcases h with h | h
 ·rcases k with k | k
  ·have:=zbA _ _ _ h k
   rw [za2] at this; cases this
  ·exact k.symm
 ·exact h
def zcJ:Nat → List (List UInt8) → List (List UInt8)
 | 0,l => l
 | f + 1,l => if l.length < 2 then l else List.merge (zcJ f (l.take (l.length / 2))) (zcJ f (l.drop (l.length / 2))) leS
theorem zbt:∀ (f:Nat) (l:List (List UInt8)),(zcJ f l).Perm l
 | 0,l => List.Perm.refl _
 | f + 1,l => by
  rw [zcJ]
  split
  ·exact List.Perm.refl _
  ·refine (List.merge_perm_append _).trans ?_
   refine ((zbt f _).append (zbt f _)).trans ?_
   rw [List.take_append_drop]
theorem zbT:∀ (f:Nat) (l:List (List UInt8)),l.length ≤ f → (zcJ f l).Pairwise (fun a b => leS a b=true)
 | 0,l,h => by
  have:l=[]:=List.eq_nil_of_length_eq_zero (by omega)
  subst this
  exact List.Pairwise.nil
 | f + 1,l,h => by
  rw [zcJ]
  split
  ·rename_i h2
   match l,h2 with
   | [],_ => exact List.Pairwise.nil
   | [a],_ => exact List.pairwise_singleton _ _
   | a :: b :: l,h2 => simp at h2; omega
  ·exact List.pairwise_merge zg9 zms _ _ (zbT f _ (by rw [List.length_take]; omega)) (zbT f _ (by rw [List.length_drop]; omega))
section
variable [Tabs Tryz.prog]
end
end
end Go.Proofs.YtadhjoggdbhkgaaGreatDoor
namespace Go.Proofs.YtadhjoggdbhkgaaGreatDoor
open Go.RowKit Sx
section
attribute [local irreducible] run
def zcs (ks:List (List UInt8)):Bool:=decide ks.Nodup && ks.all zaA
section
variable [Tabs Tryz.prog] {objs:List OB} {K:List OB → AV → Prop}
end
end
end Go.Proofs.YtadhjoggdbhkgaaGreatDoor
namespace Go.Proofs.YtadhjoggdbhkgaaGreatDoor
open Go.RowKit Sx
section
attribute [local irreducible] run
mutual
/-- how many values there are within depth d; 0 if too deep -/
def zbJ:JV → Int → Int
 | .mk k t ks its,d => if 64 < (if k=6 ∨ k=7 then d + 1 else d) then 0 else zb3 its (if k=6 ∨ k=7 then d + 1 else d) 1
def zb3:List JV → Int → Int → Int
 | [],_,n => n
 | v :: l,d,n => if zbJ v d=0 then 0 else if 20000 < n + zbJ v d then 20001 else zb3 l d (n + zbJ v d)
end
mutual
theorem zjv:∀ (v:JV) (d:Int),0 ≤ zbJ v d ∧ zbJ v d ≤ 20001
 | .mk k t ks its,d => by
  rw [zbJ]
  generalize (if k=6 ∨ k=7 then d + 1 else d)=e
  by_cases h:64 < e
  ·rw [if_pos h]; omega
  ·rw [if_neg h]; exact zju its e 1 (by decide) (by decide)
theorem zju:∀ (l:List JV) (d n:Int),0 ≤ n → n ≤ 20000 → 0 ≤ zb3 l d n ∧ zb3 l d n ≤ 20001
 | [],d,n,h1,h2 => by rw [zb3]; omega
 | v :: l,d,n,h1,h2 => by
  rw [zb3]
  have h:=zjv v d
  split
  ·omega
  split
  ·omega
  ·exact zju l d _ (by omega) (by omega)
end
section
variable [Tabs Tryz.prog]
end
end
end Go.Proofs.YtadhjoggdbhkgaaGreatDoor
namespace Go.Proofs.YtadhjoggdbhkgaaGreatDoor
open Go.RowKit Sx
section
attribute [local irreducible] run
mutual
/-- does it have the right fields? -/
def zhO:JV → Bool
 | .mk k t ks its =>
  if k=1 ∨ k=3 ∨ k=2 then decide (t=[]) && (decide (ks.length=0) && decide (its.length=0))
  else if k=4 then decide ((zbb t).1=0) && (decide ((zbb t).2=t) && (decide (ks.length=0) && decide (its.length=0)))
  else if k=5 then zaA t && (decide (ks.length=0) && decide (its.length=0))
  else if k=6 then decide (t=[]) && (decide (ks.length=0) && ze9 its)
  else if k=7 then decide (t=[]) && (decide (ks.length=its.length) && (zcs ks && ze9 its))
  else false
def ze9:List JV → Bool
 | [] => true
 | v :: l => zhO v && ze9 l
end
theorem shpJ_eq (v:JV):zhO v =
  if v.kind=1 ∨ v.kind=3 ∨ v.kind=2 then decide (v.text=[]) && (decide (v.keys.length=0) && decide (v.items.length=0))
  else if v.kind=4 then decide ((zbb v.text).1=0) && (decide ((zbb v.text).2=v.text) && (decide (v.keys.length=0) && decide (v.items.length=0)))
  else if v.kind=5 then zaA v.text && (decide (v.keys.length=0) && decide (v.items.length=0))
  else if v.kind=6 then decide (v.text=[]) && (decide (v.keys.length=0) && ze9 v.items)
  else if v.kind=7 then decide (v.text=[]) && (decide (v.keys.length=v.items.length) && (zcs v.keys && ze9 v.items))
  else false:=by cases v; rw [zhO]; rfl
def zfg (v:JV):Bool:=decide (0 < zbJ v 0 ∧ zbJ v 0 ≤ 20000) && zhO v
section
variable [Tabs Tryz.prog]
end
end
end Go.Proofs.YtadhjoggdbhkgaaGreatDoor
namespace Go.Proofs.YtadhjoggdbhkgaaGreatDoor
open Go.RowKit Sx
section
attribute [local irreducible] run
theorem zlh:∀ {l:List JV} (h:ze9 l=true) {i:Nat} (hi:i < l.length),zhO l[i]=true
 | a :: l,h,0,hi => by rw [ze9,Bool.and_eq_true] at h; exact h.1
 | a :: l,h,i + 1,hi => by rw [ze9,Bool.and_eq_true] at h; exact zlh h.2 (by simpa using hi)
theorem ziH {v:JV} (h:zhO v=true):((v.kind=1 ∨ v.kind=2 ∨ v.kind=3 ∨ v.kind=4 ∨ v.kind=5) ∧ v.keys.length=0 ∧ v.items.length=0) ∨ (v.kind=6 ∧ v.keys.length=0 ∧ ze9 v.items=true) ∨ (v.kind=7 ∧ v.keys.length=v.items.length ∧ v.keys.Nodup ∧ ze9 v.items=true):=by
 rw [shpJ_eq] at h
 by_cases a1:v.kind=1 ∨ v.kind=3 ∨ v.kind=2
 ·rw [if_pos a1] at h
  simp only [Bool.and_eq_true,decide_eq_true_eq] at h
  exact .inl ⟨by omega,h.2.1,h.2.2⟩
 rw [if_neg a1] at h
 by_cases a4:v.kind=4
 ·rw [if_pos a4] at h
  simp only [Bool.and_eq_true,decide_eq_true_eq] at h
  exact .inl ⟨by omega,h.2.2.1,h.2.2.2⟩
 rw [if_neg a4] at h
 by_cases a5:v.kind=5
 ·rw [if_pos a5] at h
  simp only [Bool.and_eq_true,decide_eq_true_eq] at h
  exact .inl ⟨by omega,h.2.1,h.2.2⟩
 rw [if_neg a5] at h
 by_cases a6:v.kind=6
 ·rw [if_pos a6] at h
  simp only [Bool.and_eq_true,decide_eq_true_eq] at h
  exact .inr (.inl ⟨a6,h.2.1,h.2.2⟩)
 rw [if_neg a6] at h
 by_cases a7:v.kind=7
 ·rw [if_pos a7] at h
  unfold zcs at h
  simp only [Bool.and_eq_true,decide_eq_true_eq] at h
  exact .inr (.inr ⟨a7,h.2.1,h.2.2.1.1,h.2.2.2⟩)
 rw [if_neg a7] at h
 cases h
theorem zbX:∀ {l:List (List UInt8)} (h:l.Nodup) {i:Nat} (hi:i < l.length),zjz l[i] l=i
 | a :: l,h,0,hi => by
  simp only [List.getElem_cons_zero]
  unfold zjz; rw [if_pos rfl]
 | a :: l,h,i + 1,hi => by
  rw [List.nodup_cons] at h
  have hi':i < l.length:=by simpa using hi
  have hne:¬ a=l[i]:=fun e => h.1 (by rw [e]; exact List.getElem_mem _)
  unfold zjz
  simp only [List.getElem_cons_succ]
  rw [if_neg hne,zbX h.2 hi']
theorem zg5 (k k':List UInt8) (v:AV):∀ es:List (List UInt8 × AV),zgy k' (zgx k v es)=if k=k' then some v else zgy k' es
 | [] => by simp only [zgx,zgy]
 | e :: r => by
  have ih:=zg5 k k' v r
  simp only [zgx]
  split
  ·rename_i h
   simp only [zgy]
   by_cases c:k=k'
   ·rw [if_pos c,if_pos c]
   ·rw [if_neg c,if_neg c,if_neg (fun h2 => c (h ▸ h2))]
  ·rename_i h
   simp only [zgy]
   by_cases c:e.1=k'
   ·rw [if_pos c,if_pos c,if_neg (fun h2 => h (c.trans h2.symm))]
   ·rw [if_neg c,if_neg c,ih]
section
variable [Tabs Tryz.prog] {objs:List OB} {K:List OB → AV → Prop} {L:List (Nat × OB)}
end
end
end Go.Proofs.YtadhjoggdbhkgaaGreatDoor
namespace Go.Proofs.YtadhjoggdbhkgaaGreatDoor
open Go.RowKit Sx
section
attribute [local irreducible] run
structure GB (s:List UInt8) (ρ:Rs):Prop where
 p0:0 ≤ ρ.pos
 p1:ρ.pos ≤ s.length
 n0:ρ.fail=0 → (ρ.nodes:Int) ≤ ρ.pos
 n1:(ρ.nodes:Int) ≤ s.length + 1
def GT (ρ:Rs) (t:Tk):Prop:=ρ.fail=0 → t.1=1 ∨ (ρ.nodes:Int) + 1 ≤ ρ.pos
theorem zdl {s:List UInt8} {ρ:Rs} (h:GB s ρ) (a e:Int) (he:¬ e=0):GB s (zaH ρ a e):=by
 unfold zaH
 split
 ·exact ⟨h.p0,h.p1,fun h' => absurd h' he,h.n1⟩
 ·exact h
theorem za5 {s:List UInt8} {ρ:Rs} (h:GB s ρ):GB s (zad s ρ).2 ∧ GT (zad s ρ).2 (zad s ρ).1:=by
 unfold zad
 by_cases c1:ρ.fail=0
 ·rw [if_neg (fun h => h c1)]
  by_cases c2:(zaQ s ρ.pos).2.2=0
  ·rw [if_neg (fun h => h c2)]
   obtain ⟨n1,n2,n3,n4⟩:=next_lt h.p0 c2
   have hn:=h.n0 c1
   refine ⟨⟨by have:=h.p0; show 0 ≤ (zaQ s ρ.pos).2.1; omega,n2,fun _ => by show (ρ.nodes:Int) ≤ (zaQ s ρ.pos).2.1; omega,h.n1⟩,fun _ => ?_⟩
   by_cases c3:(zaQ s ρ.pos).1.1=1
   ·exact .inl c3
   ·have:=n3 c3
    exact .inr (by show (ρ.nodes:Int) + 1 ≤ (zaQ s ρ.pos).2.1; omega)
  ·rw [if_pos c2]
   refine ⟨zdl h _ _ c2,fun hf => ?_⟩
   exfalso
   unfold zaH at hf
   rw [if_pos c1] at hf
   exact c2 hf
 ·rw [if_pos c1]
  exact ⟨h,fun hf => absurd hf c1⟩
theorem zd0 {s:List UInt8} {ρ:Rs} (h:GB s ρ) (t:Tk) (c:UInt8):GB s (zaK ρ t c):=by
 unfold zaK
 split
 ·exact zdl h _ _ (by decide)
 ·exact h
theorem gb_key {s:List UInt8} {ρ:Rs} (h:GB s ρ) (t:Tk) (ks:List (List UInt8)):GB s (zd9 ρ t ks):=by
 unfold zd9
 have h1:GB s (if ¬ t.1=3 then zaH ρ t.2.2 140 else ρ):=by
  split
  ·exact zdl h _ _ (by decide)
  ·exact h
 dsimp only
 split
 ·exact zdl h1 _ _ (by decide)
 ·exact h1
def GV (s:List UInt8) (val:Rs → Tk → JV × Rs):Prop:=∀ ρ t,GB s ρ → GT ρ t → GB s (val ρ t).2
theorem zna {s:List UInt8} {val:Rs → Tk → JV × Rs} (hv:GV s val):∀ (n:Nat) (ρ:Rs) (t:Tk) (acc:List JV),GB s ρ → GT ρ t → GB s (zbm s val n ρ t acc).2
 | 0,ρ,t,acc,h,_ => h
 | n + 1,ρ,t,acc,h,ht => by
  rw [zbm]
  split
  ·exact h
  dsimp only
  have h1:=hv ρ t h ht
  generalize val ρ t=a at h1 ⊢
  have h2:=(za5 h1).1
  generalize zad s a.2=b at h2 ⊢
  split
  ·exact h2
  ·obtain ⟨h3,h4⟩:=za5 (zd0 h2 b.1 44)
   exact zna hv n _ _ _ h3 h4
theorem zm9 {s:List UInt8} {val:Rs → Tk → JV × Rs} (hv:GV s val):∀ (n:Nat) (ρ:Rs) (t:Tk) (ks:List (List UInt8)) (its:List JV),GB s ρ → GB s (zaY s val n ρ t ks its).2
 | 0,ρ,t,ks,its,h => h
 | n + 1,ρ,t,ks,its,h => by
  rw [zaY]
  split
  ·exact h
  dsimp only
  have h1:=(za5 (gb_key h t ks)).1
  generalize zad s (zd9 ρ t ks)=a at h1 ⊢
  obtain ⟨h2,h2'⟩:=za5 (zd0 h1 a.1 58)
  generalize zad s (zaK a.2 a.1 58)=b at h2 h2' ⊢
  have h3:=hv _ _ h2 h2'
  generalize val b.2 b.1=v at h3 ⊢
  have h4:=(za5 h3).1
  generalize zad s v.2=c at h4 ⊢
  split
  ·exact h4
  ·have h5:=(za5 (zd0 h4 c.1 44)).1
   exact zm9 hv n _ _ _ _ h5
theorem zjA {s:List UInt8} {ρ:Rs} {t:Tk} (h:GB s ρ) (ht:GT ρ t) (h1:¬ t.1=1) (hf:ρ.fail=0):GB s (zaS ρ t):=by
 have hn:=(ht hf).resolve_left h1
 have hp1:=h.p1
 unfold zaS
 dsimp only
 have h2:∃ fa wa,(if t.1=4 ∧ ¬ (zbb t.2.1).1=0 then zaH ρ t.2.2 (zbb t.2.1).1 else ρ)=⟨ρ.pos,ρ.nodes,fa,wa⟩:=by
  split
  ·unfold zaH; rw [if_pos hf]; exact ⟨_,_,rfl⟩
  ·exact ⟨_,_,rfl⟩
 obtain ⟨fa,wa,h2⟩:=h2
 rw [h2]
 have h3:∀ f w,GB s ⟨ρ.pos,ρ.nodes + 1,f,w⟩:=fun f w => ⟨h.p0,h.p1,fun _ => by show ((ρ.nodes + 1:Nat):Int) ≤ ρ.pos; omega,by show ((ρ.nodes + 1:Nat):Int) ≤ _; omega⟩
 split
 ·exact zdl (h3 _ _) _ _ (by decide)
 ·exact h3 _ _
theorem gb_arr {s:List UInt8} {val:Rs → Tk → JV × Rs} (hv:GV s val) {ρ:Rs} (h:GB s ρ):GB s (zfo s val ρ).2:=by
 unfold zfo
 dsimp only
 obtain ⟨h1,h2⟩:=za5 h
 split
 ·exact h1
 ·exact zna hv _ _ _ _ h1 h2
theorem gb_obj {s:List UInt8} {val:Rs → Tk → JV × Rs} (hv:GV s val) {ρ:Rs} (h:GB s ρ):GB s (zfY s val ρ).2:=by
 unfold zfY
 dsimp only
 have h1:=(za5 h).1
 split
 ·exact h1
 ·exact zm9 hv _ _ _ _ _ h1
theorem vk_end {t:Tk} (h:¬ vkE t=0):¬ t.1=1:=by
 intro h1
 apply h
 have e1:∀ c,isP t c=false:=fun c => by simp [isP,h1]
 simp [vkE,h1,e1]
theorem zeq (s:List UInt8):∀ (f:Nat) (d:Nat),GV s (fun ρ t => zav s f ρ t d)
 | 0,d => fun ρ t h _ => h
 | f + 1,d => fun ρ t h ht => by
  dsimp only
  rw [zav]
  by_cases c0:ρ.fail=0
  ·rw [if_neg (fun h => h c0)]
   split
   ·exact zdl h _ _ (by decide)
   rename_i c1
   have hc:=zjA h ht (vk_end c1) c0
   split
   ·exact zdl h _ _ (by decide)
   split
   ·exact hc
   split
   ·exact gb_arr (zeq s f (d + 1)) hc
   split
   ·exact gb_obj (zeq s f (d + 1)) hc
   split
   ·exact hc
   ·exact hc
  ·rw [if_pos c0]; exact h
end
end Go.Proofs.YtadhjoggdbhkgaaGreatDoor
namespace Go.Proofs.YtadhjoggdbhkgaaGreatDoor
open Go.RowKit Sx
section
attribute [local irreducible] run
theorem zdi (ρ:Rs) (a e:Int):(zaH ρ a e).nodes=ρ.nodes:=by unfold zaH; split <;> rfl
theorem za0 (s:List UInt8) (ρ:Rs):(zad s ρ).2.nodes=ρ.nodes:=by
 unfold zad
 split
 ·rfl
 split
 ·exact zdi _ _ _
 ·rfl
theorem zdQ (ρ:Rs) (t:Tk) (c:UInt8):(zaK ρ t c).nodes=ρ.nodes:=by
 unfold zaK
 split
 ·exact zdi _ _ _
 ·rfl
theorem rkey_n (ρ:Rs) (t:Tk) (ks:List (List UInt8)):(zd9 ρ t ks).nodes=ρ.nodes:=by
 unfold zd9
 dsimp only
 split <;> split <;> simp only [zdi]
theorem rcount_n (ρ:Rs) (t:Tk):(zaS ρ t).nodes=ρ.nodes + 1:=by
 unfold zaS
 dsimp only
 generalize hx:(if t.1=4 ∧ ¬ (zbb t.2.1).1=0 then zaH ρ t.2.2 (zbb t.2.1).1 else ρ)=x
 have h:x.nodes=ρ.nodes:=by
  rw [← hx]
  split
  ·exact zdi _ _ _
  ·rfl
 by_cases c:20000 < x.nodes + 1
 ·rw [if_pos c,zdi]; show x.nodes + 1=_; omega
 ·rw [if_neg c]; show x.nodes + 1=_; omega
def MonV (val:Rs → Tk → JV × Rs):Prop:=∀ ρ t,ρ.nodes ≤ (val ρ t).2.nodes
theorem zlV {s:List UInt8} {val:Rs → Tk → JV × Rs} (hv:MonV val):∀ (n:Nat) (ρ:Rs) (t:Tk) (acc:List JV),ρ.nodes ≤ (zbm s val n ρ t acc).2.nodes
 | 0,ρ,t,acc => Nat.le_refl _
 | n + 1,ρ,t,acc => by
  rw [zbm]
  split
  ·exact Nat.le_refl _
  dsimp only
  have h1:=hv ρ t
  generalize val ρ t=a at h1 ⊢
  split
  ·rw [za0]; exact h1
  ·have h2:=zlV (s:=s) hv n (zad s (zaK (zad s a.2).2 (zad s a.2).1 44)).2 (zad s (zaK (zad s a.2).2 (zad s a.2).1 44)).1 (acc ++ [a.1])
   rw [za0,zdQ,za0] at h2
   omega
theorem zls {s:List UInt8} {val:Rs → Tk → JV × Rs} (hv:MonV val):∀ (n:Nat) (ρ:Rs) (t:Tk) (ks:List (List UInt8)) (its:List JV),ρ.nodes ≤ (zaY s val n ρ t ks its).2.nodes
 | 0,ρ,t,ks,its => Nat.le_refl _
 | n + 1,ρ,t,ks,its => by
  rw [zaY]
  split
  ·exact Nat.le_refl _
  dsimp only
  have e1:=za0 s (zd9 ρ t ks)
  rw [rkey_n] at e1
  generalize zad s (zd9 ρ t ks)=a at e1 ⊢
  have e2:=za0 s (zaK a.2 a.1 58)
  rw [zdQ] at e2
  generalize zad s (zaK a.2 a.1 58)=b at e2 ⊢
  have h1:=hv b.2 b.1
  generalize val b.2 b.1=v at h1 ⊢
  have e3:=za0 s v.2
  generalize zad s v.2=c at e3 ⊢
  split
  ·show _ ≤ c.2.nodes; omega
  ·have e4:=za0 s (zaK c.2 c.1 44)
   rw [zdQ] at e4
   generalize zad s (zaK c.2 c.1 44)=d at e4 ⊢
   have h2:=zls (s:=s) hv n d.2 d.1 (ks ++ [t.2.1]) (its ++ [v.1])
   omega
theorem zfV (s:List UInt8):∀ (f d:Nat),MonV (fun ρ t => zav s f ρ t d) ∧ ∀ ρ t,0 < f → (zav s f ρ t d).2.fail=0 → ρ.nodes + 1 ≤ (zav s f ρ t d).2.nodes
 | 0,d => ⟨fun ρ t => Nat.le_refl _,fun ρ t h => absurd h (Nat.lt_irrefl 0)⟩
 | f + 1,d => by
  have hm:=(zfV s f (d + 1)).1
  have key:∀ ρ t,((zav s (f + 1) ρ t d).2.nodes=ρ.nodes ∧ ¬ (zav s (f + 1) ρ t d).2.fail=0) ∨ ρ.nodes + 1 ≤ (zav s (f + 1) ρ t d).2.nodes:=by
   intro ρ t
   rw [zav]
   by_cases c0:ρ.fail=0
   rotate_left
   ·rw [if_pos c0]; exact .inl ⟨rfl,c0⟩
   rw [if_neg (fun h => h c0)]
   have hst:∀ a e:Int,¬ e=0 → (zaH ρ a e).nodes=ρ.nodes ∧ ¬ (zaH ρ a e).fail=0:=fun a e he => ⟨zdi _ _ _,by unfold zaH; rw [if_pos c0]; exact he⟩
   split
   ·exact .inl (hst _ _ (by decide))
   split
   ·exact .inl (hst _ _ (by decide))
   have hc:=rcount_n ρ t
   split
   ·right; show _ ≤ (zaS ρ t).nodes; omega
   split
   ·right
    unfold zfo
    dsimp only
    split
    ·rw [za0]; omega
    ·have h:=zlV (s:=s) hm (s.length + 2) (zad s (zaS ρ t)).2 (zad s (zaS ρ t)).1 []
     rw [za0] at h
     show _ ≤ (zbm s _ _ _ _ []).2.nodes
     omega
   split
   ·right
    unfold zfY
    dsimp only
    split
    ·rw [za0]; omega
    ·have h:=zls (s:=s) hm (s.length + 2) (zad s (zaS ρ t)).2 (zad s (zaS ρ t)).1 [] []
     rw [za0] at h
     show _ ≤ (zaY s _ _ _ _ [] []).2.nodes
     omega
   split
   ·right; show _ ≤ (zaS ρ t).nodes; omega
   ·right; show _ ≤ (zaS ρ t).nodes; omega
  refine ⟨fun ρ t => ?_,fun ρ t _ hf => ?_⟩
  ·rcases key ρ t with h | h
   ·exact Nat.le_of_eq h.1.symm
   ·show ρ.nodes ≤ (zav s (f + 1) ρ t d).2.nodes; omega
  ·rcases key ρ t with h | h
   ·exact absurd hf h.2
   ·exact h
end
end Go.Proofs.YtadhjoggdbhkgaaGreatDoor
namespace Go.Proofs.YtadhjoggdbhkgaaGreatDoor
open Go.RowKit Sx
section
attribute [local irreducible] run
section
variable [Tabs Tryz.prog] {objs:List OB} {K:List OB → AV → Prop}
end
end
end Go.Proofs.YtadhjoggdbhkgaaGreatDoor
namespace Go.Proofs.YtadhjoggdbhkgaaGreatDoor
open Go.RowKit Sx
section
attribute [local irreducible] run
theorem zau.set0 {α:Type} {B:List (Nat × α)} {o:List α} {i:Nat} {x:α} (y:α) (h:zau ((i,x) :: B) o):zau ((i,y) :: B) (o.set i y):=zau.set (A:=[]) y h
theorem zau.set1 {α:Type} {a:Nat × α} {B:List (Nat × α)} {o:List α} {i:Nat} {x:α} (y:α) (h:zau (a :: (i,x) :: B) o):zau (a :: (i,y) :: B) (o.set i y):=zau.set (A:=[a]) y h
theorem zau.set2 {α:Type} {a b:Nat × α} {B:List (Nat × α)} {o:List α} {i:Nat} {x:α} (y:α) (h:zau (a :: b :: (i,x) :: B) o):zau (a :: b :: (i,y) :: B) (o.set i y):=zau.set (A:=[a,b]) y h
theorem zau.ne {α:Type} {a b:Nat × α} {A B C:List (Nat × α)} {o:List α} (h:zau (A ++ a :: (B ++ b :: C)) o):a.1 ≠ b.1:=by
 have:=h.1
 simp only [List.map_append,List.map_cons] at this
 rw [List.nodup_append] at this
 obtain ⟨_,h2,_⟩:=this
 rw [List.nodup_cons] at h2
 intro e
 exact h2.1 (by rw [e]; simp)
theorem sub_self {b g n:Nat} {xs:List AV}:zcz b g n xs (.orow b g)=.row n xs:=by simp [zcz]
section
variable {P:Program} [Tabs P] {f:FuncId} {o:List OB} {K:List OB → AV → Prop} {p rr g st' nodes E sz n E' g' n' sz':Nat} {st k:Int} {txt:List UInt8} {xs cs ys:List AV} {X Y r0 r1 r2 r3:AV} {Lx L:List (Nat × OB)}
end
section
variable [Tabs Tryz.prog] {objs:List OB} {K:List OB → AV → Prop}
end
end
end Go.Proofs.YtadhjoggdbhkgaaGreatDoor
namespace Go.Proofs.YtadhjoggdbhkgaaGreatDoor
open Go.RowKit Sx
section
attribute [local irreducible] run
def zaN (t:Tk):OB:=.box 54 (tkC t)
section
variable [Tabs Tryz.prog] [Pow Tryz.prog] {objs:List OB} {K:List OB → AV → Prop} {M:List (Nat × OB)}
omit [Pow Tryz.prog] in
end
end
end Go.Proofs.YtadhjoggdbhkgaaGreatDoor
namespace Go.Proofs.YtadhjoggdbhkgaaGreatDoor
open Go.RowKit Sx
section
attribute [local irreducible] run
theorem WfM.mono {σ:Ms} {a b:Nat} (h:WfM σ a) (hab:a ≤ b):WfM σ b:=⟨h.top,h.obj,fun f hf => by have:=h.len f hf; omega,h.deep,h.few⟩
theorem jres {P:Program} [Tabs P] {f:FuncId} {args:List AV} {objs:List OB} {K:List OB → AV → Prop} (r':AV) (hc:zah P f args objs (fun o r => (∀ G I y,Den G I r y → Den G I r' y) ∧ K o r')):zah P f args objs K:=by
 intro C _ G I w hin hm ys hd
 refine (hc C G I w hin hm ys hd).mono ?_
 rintro e w' ⟨y,objs',r,G',I',he,⟨hr,hk⟩,h1,h2,h3,h4,hy⟩
 exact ⟨y,objs',r',G',I',he,hk,h1,h2,h3,h4,hr _ _ _ hy⟩
def zvC:List AV:=[.i .i64 0,.s [],.nil,.nil]
def zg2 (R:JV × Int × Int):AV:=.tup [.agg (zao R.1),.i .i64 R.2.1,.i .i64 R.2.2]
theorem den_zv {a e:Int} {G:Gh} {I:Imm} {y:Value} (h:Den G I (.tup [.agg zvC,.i .i64 a,.i .i64 e]) y):Den G I (zg2 (jvZ,a,e)) y:=by
 unfold zg2 jvZ
 rw [zao,zat]
 unfold zvC at h
 simp only [zae,Den] at h ⊢
 obtain ⟨ys,h1,y0,l0,rfl,⟨zs,rfl,⟨z0,m0,rfl,q0,z1,m1,rfl,q1,z2,m2,rfl,q2,z3,m3,rfl,q3,q4⟩,hz⟩,h2⟩:=h
 refine ⟨_,h1,_,_,rfl,⟨_,rfl,⟨_,_,rfl,q0,_,_,rfl,q1,_,_,rfl,?_,_,_,rfl,?_,q4⟩,hz⟩,h2⟩
 ·exact ⟨none,0,[],q2,⟨Nat.le_refl _,fun ad h => by cases h⟩,rfl,by simp,by simp⟩
 ·exact ⟨none,0,[],q3,⟨Nat.le_refl _,fun ad h => by cases h⟩,rfl,by simp,by simp⟩
section
variable [Tabs Tryz.prog] [Pow Tryz.prog] [Utf Tryz.prog] {objs:List OB} {K:List OB → AV → Prop}
end
end
end Go.Proofs.YtadhjoggdbhkgaaGreatDoor
namespace Go.Proofs.YtadhjoggdbhkgaaGreatDoor
open Nat renaming reduceAdd → z6, reduceSub → z7, reduceLeDiff → z8, reduceLT → j4, reduceMul → j5, reduceEqDiff → j6
open Int renaming reduceToNat → j7, reduceAdd → j8, reduceSub → j9, reduceMul → x4, reduceNeg → x5, reduceLT → x6, reduceLE → x7, reduceEq → x8, reduceNe → x9
open Go.RowKit Sx
section
attribute [local irreducible] run
def zaC (s:List UInt8) (ρ:Rs):OB:=.box 51 [.s s,.i .i64 ρ.pos,.i .i64 (ρ.nodes:Int),.i .i64 ρ.fail,.i .i64 ρ.wh]
section
variable [Tabs Tryz.prog] {objs:List OB} {K:List OB → AV → Prop} {L:List (Nat × OB)} {p:Nat} {s:List UInt8} {ρ:Rs}
theorem zeG (t:Tk) (c:UInt8) (hk:K objs (.b (isP t c))):zah Tryz.prog 48 [zgE t,.s [c]] objs K:=by
 refine zbI is_ref14_is rfl fun C _ => ?_
 unfold isP at hk
 by_cases c1:t.1=2
 ·by_cases c2:t.2.1=[c]
  ·simp only [c1,c2,decide_true,Bool.and_self] at hk
   simp only [c_ref14_is,zgE,tkC,sxZ,z6,z7,z8,j4,j5,j6,j7,j8,j9,x4,x5,x6,x7,x8,x9,reduceCtorEq,↓reduceIte,c1,c2]
   exact hk
  ·simp only [c1,c2,decide_true,decide_false,Bool.and_false] at hk
   simp only [c_ref14_is,zgE,tkC,sxZ,z6,z7,z8,j4,j5,j6,j7,j8,j9,x4,x5,x6,x7,x8,x9,reduceCtorEq,↓reduceIte,c1,c2]
   exact hk
 ·simp only [c1,decide_false,Bool.false_and] at hk
  simp only [c_ref14_is,zgE,tkC,sxZ,z6,z7,z8,j4,j5,j6,j7,j8,j9,x4,x5,x6,x7,x8,x9,reduceCtorEq,↓reduceIte,c1]
  exact hk
theorem rword_k (l:List UInt8) (hk:K objs (.i .i64 (zdr l))):zah Tryz.prog 49 [.s l] objs K:=by
 refine zbI is_ref14_word rfl fun C _ => ?_
 unfold zdr zhK zeU at hk
 by_cases c1:l=[116,114,117,101]
 ·rw [if_pos c1] at hk
  simp only [c_ref14_word,sxZ,z6,z7,z8,j4,j5,j6,j7,j8,j9,x4,x5,x6,x7,x8,x9,reduceCtorEq,↓reduceIte,c1]
  exact hk
 rw [if_neg c1] at hk
 by_cases c2:l=[102,97,108,115,101]
 ·rw [if_pos c2] at hk
  have n1:¬ ([102,97,108,115,101]:List UInt8)=[116,114,117,101]:=by decide
  simp only [c_ref14_word,sxZ,z6,z7,z8,j4,j5,j6,j7,j8,j9,x4,x5,x6,x7,x8,x9,reduceCtorEq,↓reduceIte,c2,n1]
  exact hk
 ·rw [if_neg c2] at hk
  simp only [c_ref14_word,sxZ,z6,z7,z8,j4,j5,j6,j7,j8,j9,x4,x5,x6,x7,x8,x9,reduceCtorEq,↓reduceIte,c1,c2]
  exact hk
theorem zbV (hO:zau ((p,zaC s ρ) :: L) objs) (a e:Int) (hk:∀ o,zau ((p,zaC s (zaH ρ a e)) :: L) o → K o (.tup [])):zah Tryz.prog 30 [.p p 0,.i .i64 a,.i .i64 e] objs K:=by
 refine zcq is_ref14_parser_stop fun C _ => ?_
 have e1:=hO.get (i:=p) (x:=zaC s ρ) (by simp)
 have hlt:=hO.lt (i:=p) (x:=zaC s ρ) (by simp)
 have gs:∀ x,(objs.set p x)[p]? = some x:=fun x => List.getElem?_set_self hlt
 unfold zaC at e1
 unfold zaH at hk
 by_cases c1:ρ.fail=0
 ·rw [if_pos c1] at hk
  simp only [c_ref14_parser_stop,sxZ,z6,z7,z8,j4,j5,j6,j7,j8,j9,x4,x5,x6,x7,x8,x9,reduceCtorEq,↓reduceIte,e1,c1,gs,List.set_set]
  exact hk _ (hO.set0 _)
 ·rw [if_neg c1] at hk
  simp only [c_ref14_parser_stop,sxZ,z6,z7,z8,j4,j5,j6,j7,j8,j9,x4,x5,x6,x7,x8,x9,reduceCtorEq,↓reduceIte,e1,c1]
  exact hk _ hO
theorem zcb [Utf Tryz.prog] (hs:s.length ≤ 140737488351232) (hO:zau ((p,zaC s ρ) :: L) objs) (hk:∀ o,zau ((p,zaC s (zad s ρ).2) :: L) o → K o (zgE (zad s ρ).1)):zah Tryz.prog 29 [.p p 0] objs K:=by
 refine zcq is_ref14_parser_next fun C _ => ?_
 have hO1:=hO.new (.box 54 [.i .i64 0,.s [],.i .i64 0])
 have e1:=hO1.get (i:=p) (x:=zaC s ρ) (by simp)
 unfold zaC at e1
 unfold zad at hk
 rw [c_ref14_parser_next]
 refine zab fun Y hY => ?_
 simp only [sxZ,z6,z7,z8,j4,j5,j6,j7,j8,j9,x4,x5,x6,x7,x8,x9,reduceCtorEq,↓reduceIte]
 have hlen:objs.length < (objs ++ [OB.box 54 [.i .i64 0,.s [],.i .i64 0]]).length:=by simp
 generalize hq:objs.length=q at hO1 hlen ⊢
 generalize objs ++ [OB.box 54 [.i .i64 0,.s [],.i .i64 0]]=o1 at hO1 e1 hlen ⊢
 have e0:=hO1.get (i:=q) (x:=.box 54 [.i .i64 0,.s [],.i .i64 0]) (by simp)
 have gs:∀ x,(o1.set q x)[q]? = some x:=fun x => List.getElem?_set_self hlen
 subst hY
 refine zab fun Y hY => ?_
 by_cases c1:ρ.fail=0
 rotate_left
 ·rw [if_pos c1] at hk
  simp only [sxZ,z6,z7,z8,j4,j5,j6,j7,j8,j9,x4,x5,x6,x7,x8,x9,reduceCtorEq,↓reduceIte,e1,c1,e0,gs]
  exact hk _ ((hO1.set0 (.box 54 [.i .i64 0,.s [],.i .i64 0])).sub (List.sublist_cons_self _ _))
 rw [if_neg (fun h => h c1)] at hk
 simp only [sxZ,z6,z7,z8,j4,j5,j6,j7,j8,j9,x4,x5,x6,x7,x8,x9,reduceCtorEq,↓reduceIte,e1,c1]
 subst hY
 refine zab fun Y hY => ?_
 have hne:¬ p=o1.length:=fun h => by
  have:=hO1.lt (i:=p) (x:=zaC s ρ) (by simp)
  omega
 simp only [sxZ,z6,z7,z8,j4,j5,j6,j7,j8,j9,x4,x5,x6,x7,x8,x9,reduceCtorEq,↓reduceIte,e1]
 refine kpcall (zkk s ρ.pos hs rfl) rfl rfl ?_
 generalize zaQ s ρ.pos=N at hk ⊢
 obtain ⟨T,to,e⟩:=N
 simp only at hk
 unfold zmp
 simp only [sxZ,z6,z7,z8,j4,j5,j6,j7,j8,j9,x4,x5,x6,x7,x8,x9,reduceCtorEq,↓reduceIte,gn1,sn1,hne]
 have f1:∀ x y z,OB.box 54 [.i .i64 x,.s y,.i .i64 z]=zaN (x,y,z):=fun _ _ _ => rfl
 rw [f1]
 have hO2:=hO1.new (zaN T)
 have g0:=hO2.get (i:=o1.length) (x:=zaN T) (by simp)
 have g1:=hO2.get (i:=p) (x:=zaC s ρ) (by simp)
 have g2:=hO2.get (i:=q) (x:=.box 54 [.i .i64 0,.s [],.i .i64 0]) (by simp)
 have hq2:=hO2.lt (i:=q) (x:=.box 54 [.i .i64 0,.s [],.i .i64 0]) (by simp)
 generalize o1 ++ [zaN T]=o2 at hO2 g0 g1 g2 hq2 ⊢
 unfold zaN tkC at g0
 unfold zaC at g1
 have gs2:∀ x,(o2.set q x)[q]? = some x:=fun x => List.getElem?_set_self hq2
 subst hY
 refine zab fun Y hY => ?_
 by_cases c2:e=0
 rotate_left
 ·rw [if_pos c2] at hk
  simp only [sxZ,z6,z7,z8,j4,j5,j6,j7,j8,j9,x4,x5,x6,x7,x8,x9,reduceCtorEq,↓reduceIte,c2,g1]
  refine zal (zbV (L:=(o1.length,zaN T) :: (q,.box 54 [.i .i64 0,.s [],.i .i64 0]) :: L) (hO2.perm (List.Perm.trans (List.Perm.cons _ (List.Perm.swap _ _ _)) (List.Perm.swap _ _ _))) ρ.pos e fun o ho => ?_)
  have k2:=ho.get (i:=q) (x:=.box 54 [.i .i64 0,.s [],.i .i64 0]) (by simp)
  have kq:=ho.lt (i:=q) (x:=.box 54 [.i .i64 0,.s [],.i .i64 0]) (by simp)
  have gs3:∀ x,(o.set q x)[q]? = some x:=fun x => List.getElem?_set_self kq
  simp only [sxZ,z6,z7,z8,j4,j5,j6,j7,j8,j9,x4,x5,x6,x7,x8,x9,reduceCtorEq,↓reduceIte,k2,gs3]
  exact hk _ ((zau.set2 (.box 54 [.i .i64 0,.s [],.i .i64 0]) ho).sub (((List.sublist_cons_self _ _).trans (List.sublist_cons_self _ _)).cons_cons _))
 subst c2
 rw [if_neg (fun h => h rfl)] at hk
 have hne2:¬ p=q:=fun h => hO2.ne (A:=[_]) (B:=[]) h.symm
 have hne3:¬ p=o1.length:=fun h => hO2.ne (A:=[]) (B:=[_]) h.symm
 have gx0:∀ x,(o2.set p x)[o1.length]? = some (.box 54 [.i .i64 T.1,.s T.2.1,.i .i64 T.2.2]):=fun x => by rw [List.getElem?_set_ne hne3]; exact g0
 have gx2:∀ x,(o2.set p x)[q]? = some (.box 54 [.i .i64 0,.s [],.i .i64 0]):=fun x => by rw [List.getElem?_set_ne hne2]; exact g2
 have gx3:∀ x y,((o2.set p x).set q y)[q]? = some y:=fun x y => List.getElem?_set_self (by rw [List.length_set]; exact hq2)
 simp only [sxZ,z6,z7,z8,j4,j5,j6,j7,j8,j9,x4,x5,x6,x7,x8,x9,reduceCtorEq,↓reduceIte]
 subst hY
 simp only [sxZ,z6,z7,z8,j4,j5,j6,j7,j8,j9,x4,x5,x6,x7,x8,x9,reduceCtorEq,↓reduceIte,g1,gx0,gx2,gx3]
 have hF:=(zau.set1 (zaN T) (zau.set2 (zaC s ⟨to,ρ.nodes,ρ.fail,ρ.wh⟩) hO2)).sub (L':=(p,zaC s ⟨to,ρ.nodes,ρ.fail,ρ.wh⟩) :: L) ((List.sublist_cons_self _ _).trans (List.sublist_cons_self _ _))
 exact hk _ hF
end
end
end Go.Proofs.YtadhjoggdbhkgaaGreatDoor
namespace Go.Proofs.YtadhjoggdbhkgaaGreatDoor
open Go.RowKit Sx
section
attribute [local irreducible] run
def zvB:OB:=.box 25 [.i .i64 0,.s [],.nil,.nil]
def jvB (k:Int) (X Y:AV):OB:=.box 25 [.i .i64 k,.s [],X,Y]
def zaD (L:List (Nat × OB)):Prop:=∀ z ∈ L,∀ b g n xs,(∀ y ∈ L,y.1 ≠ b) → zla b g n xs z.2=z.2
theorem zdN {b g n:Nat} {xs:List AV}:∀ {l:List AV},zas l=true → l.map (zcz b g n xs)=l
 | [],_ => rfl
 | x :: l,h => by
  simp only [zas,Bool.and_eq_true] at h
  rw [List.map_cons,zk9 h.1,zdN h.2]
theorem zim {z:Nat × OB} {L:List (Nat × OB)} (h:zaD L) (hz:∀ b g n xs,(∀ y ∈ z :: L,y.1 ≠ b) → zla b g n xs z.2=z.2):zaD (z :: L):=by
 intro y hy b g n xs hb
 rcases List.mem_cons.1 hy with rfl | hy
 ·exact hz b g n xs hb
 ·exact h y hy b g n xs fun y hy => hb y (List.mem_cons_of_mem _ hy)
theorem zcW {i:Nat} {T:Nat} {cs:List AV} {L:List (Nat × OB)} (h:zaD L) (hp:zas cs=true):zaD ((i,.box T cs) :: L) :=
 zim h fun b g n xs _ => by show OB.box T _=_; rw [zdN hp]
theorem zkF {E sz n:Nat} {xs:List AV} {X:AV} {R A B:List (Nat × OB)} (hs:SlO E sz n xs X R) (h:zaD (A ++ B)):zaD (A ++ (R ++ B)):=by
 intro y hy b g m ys hb
 have hAB:∀ y ∈ A ++ B,y.1 ≠ b:=fun y hy => hb y (by
  rcases List.mem_append.1 hy with h | h
  ·exact List.mem_append_left _ h
  ·exact List.mem_append_right _ (List.mem_append_right _ h))
 rcases List.mem_append.1 hy with hy | hy
 ·exact h y (List.mem_append_left _ hy) b g m ys hAB
 rcases List.mem_append.1 hy with hy | hy
 ·rcases hs with ⟨_,_,_,rfl⟩ | ⟨b',g',_,rfl⟩
  ·cases hy
  ·simp only [List.mem_cons,List.not_mem_nil,or_false] at hy
   subst hy; rfl
 ·exact h y (List.mem_append_right _ hy) b g m ys hAB
theorem zhN {E sz n:Nat} {xs:List AV} {X:AV} {R:List (Nat × OB)} (hs:SlO E sz n xs X R) {b g m:Nat} {ys:List AV} (hb:∀ y ∈ R,y.1 ≠ b):zcz b g m ys X=X:=by
 rcases hs with ⟨_,_,rfl,_⟩ | ⟨b',g',rfl,rfl⟩
 ·rfl
 ·exact if_neg (fun h => hb (b',.orow E sz g' n xs) (by simp) h.1)
def giv (n:Nat) (xs:List AV) (X:AV):Prop:=(n=0 ∧ xs=[] ∧ X=.nil) ∨ X=.row n xs
theorem zgm {n:Nat} {xs:List AV} {X:AV} (h:giv n xs X) {G:Gh} {I:Imm} {y:Value} (hd:Den G I X y):Den G I (.row n xs) y:=by
 rcases h with ⟨rfl,rfl,rfl⟩ | rfl
 ·exact zf9 hd
 ·exact hd
section
variable {P:Program} [Tabs P] {f:FuncId} {args:List AV} {objs:List OB} {K:List OB → AV → Prop}
theorem ze4 (hc:zah P f args objs (fun o r => K o r ∨ ∃ b E sz gen n xs,o[b]? = some (.orow E sz gen n xs) ∧ K (pubO o b gen n xs) (subD b gen n xs r))):zah P f args objs K:=by
 intro C _ G I w hin hm ys hd
 refine (hc C G I w hin hm ys hd).mono ?_
 rintro e w' ⟨y,objs',r,G',I',he,hk,h1,h2,h3,h4,hy⟩
 rcases hk with hk | ⟨b,E,sz,gen,n,xs,hb,hk⟩
 ·exact ⟨y,objs',r,G',I',he,hk,h1,h2,h3,h4,hy⟩
 ·obtain ⟨v',vs,m1,m2,m3,m4,m5⟩:=h4.row b E sz gen n xs hb
  obtain ⟨hin',hm'⟩:=mem_pub (P:=P) hb h3 h4
  exact ⟨y,_,_,_,_,he,hk,h1.trans (zhZ m1),fun g o v h => .inl (h2 g o v h),hin',hm',den_subD h4 hb r y hy⟩
end
theorem zl8 {E sz n:Nat} {xs:List AV} {X:AV} {R A B:List (Nat × OB)} {o:List OB} (hs:SlO E sz n xs X R) (hO:zau (A ++ (R ++ B)) o) (hA:zaD (A ++ B)) :
  (R=[] ∧ giv n xs X) ∨ ∃ b g,X=.orow b g ∧ o[b]? = some (.orow E sz g n xs) ∧ zau (A ++ B) (pubO o b g n xs) ∧ ∀ y ∈ A ++ B,y.1 ≠ b:=by
 rcases hs with ⟨h1,h2,h3,rfl⟩ | ⟨b,g,rfl,rfl⟩
 ·exact .inl ⟨rfl,.inl ⟨h1,h2,h3⟩⟩
 ·right
  have hP:zau ((b,.orow E sz g n xs) :: (A ++ B)) o:=hO.perm (by simp)
  have hne:∀ y ∈ A ++ B,y.1 ≠ b:=by
   have:=hP.1
   rw [List.map_cons,List.nodup_cons] at this
   exact fun y hy e => this.1 (by show b ∈ _; rw [← e]; exact List.mem_map_of_mem hy)
  exact ⟨b,g,rfl,hP.get (by simp),hP.mapset (zla b g n xs) (fun z hz => hA z hz b g n xs hne),hne⟩
theorem zlP {P:Program} [Tabs P] {f:FuncId} {args:List AV} {objs:List OB} {K:List OB → AV → Prop} {E1 s1 E2 s2:Nat} (v:JV) {z:Nat × OB} {L:List (Nat × OB)} (hC:zaD (z :: L)) (hk:∀ o,zau (z :: L) o → K o (.agg (zao v)))
  (hc:zah P f args objs (fun o r => ∃ X R1 Y R2,SlO E1 s1 v.keys.length (v.keys.map .s) X R1 ∧ SlO E2 s2 v.items.length (zac v.items) Y R2 ∧ zau (z :: (R1 ++ (R2 ++ L))) o ∧ r=.agg [.i .i64 v.kind,.s v.text,X,Y])):zah P f args objs K:=by
 refine jres (.agg (zao v)) ?_
 refine ze4 ?_
 refine ze4 ?_
 refine hc.mono ?_
 rintro o r ⟨X,R1,Y,R2,hX,hY,hO,rfl⟩
 have fin:∀ {X' Y':AV},giv v.keys.length (v.keys.map .s) X' → giv v.items.length (zac v.items) Y' → ∀ G I y,Den G I (.agg [.i .i64 v.kind,.s v.text,X',Y']) y → Den G I (.agg (zao v)) y:=by
  intro X' Y' h1 h2 G I y hy
  rw [zaq]
  simp only [zae,Den] at hy ⊢
  obtain ⟨zs,rfl,⟨z0,m0,rfl,q0,z1,m1,rfl,q1,z2,m2,rfl,q2,z3,m3,rfl,q3,q4⟩,hz⟩:=hy
  exact ⟨_,rfl,⟨_,_,rfl,q0,_,_,rfl,q1,_,_,rfl,zgm h1 q2,_,_,rfl,zgm h2 q3,q4⟩,hz⟩
 have hC2:zaD ([z] ++ (R2 ++ L)):=zkF (A:=[z]) hY hC
 have step2:∀ (o:List OB) (X':AV),giv v.keys.length (v.keys.map .s) X' → zau ([z] ++ (R2 ++ L)) o →
   (((∀ G I y,Den G I (.agg [.i .i64 v.kind,.s v.text,X',Y]) y → Den G I (.agg (zao v)) y) ∧ K o (.agg (zao v))) ∨ ∃ b E sz gen n xs,o[b]? = some (.orow E sz gen n xs) ∧ (∀ G I y,Den G I (subD b gen n xs (.agg [.i .i64 v.kind,.s v.text,X',Y])) y → Den G I (.agg (zao v)) y) ∧ K (pubO o b gen n xs) (.agg (zao v))):=by
  intro o X' h1 hO
  rcases zl8 hY hO hC with ⟨rfl,h2⟩ | ⟨b,g,rfl,hb,hO2,hne⟩
  ·exact .inl ⟨fin h1 h2,hk _ hO⟩
  ·refine .inr ⟨b,_,_,g,_,_,hb,fun G I y hy => ?_,hk _ hO2⟩
   refine fin h1 (.inr rfl) G I y ?_
   have e1:zcz b g v.items.length (zac v.items) (.orow b g)=.row v.items.length (zac v.items):=if_pos ⟨rfl,rfl⟩
   have e2:zcz b g v.items.length (zac v.items) X'=X':=by
    rcases h1 with ⟨_,_,rfl⟩ | rfl <;> rfl
   simp only [subD,List.map_cons,List.map_nil,e1,e2] at hy
   exact hy
 rcases zl8 (A:=[z]) hX hO hC2 with ⟨rfl,h1⟩ | ⟨b,g,rfl,hb,hO2,hne⟩
 ·exact .inl (step2 o X h1 hO)
 ·refine .inr ⟨b,_,_,g,_,_,hb,?_⟩
  have h1:giv v.keys.length (v.keys.map .s) (.row v.keys.length (v.keys.map AV.s)):=.inr rfl
  have e1:zcz b g v.keys.length (v.keys.map .s) (.orow b g)=.row v.keys.length (v.keys.map .s):=if_pos ⟨rfl,rfl⟩
  have e2:zcz b g v.keys.length (v.keys.map .s) Y=Y:=zhN hY fun y hy => hne y (by simp [hy])
  have e3:subD b g v.keys.length (v.keys.map .s) (.agg [.i .i64 v.kind,.s v.text,.orow b g,Y])=.agg [.i .i64 v.kind,.s v.text,.row v.keys.length (v.keys.map .s),Y]:=by
   simp only [subD,List.map_cons,List.map_nil,e1,e2]; rfl
  rw [e3]
  exact step2 _ _ h1 hO2
end
end Go.Proofs.YtadhjoggdbhkgaaGreatDoor
namespace Go.Proofs.YtadhjoggdbhkgaaGreatDoor
open Nat renaming reduceAdd → z6, reduceSub → z7, reduceLeDiff → z8, reduceLT → j4, reduceMul → j5, reduceEqDiff → j6
open Int renaming reduceToNat → j7, reduceAdd → j8, reduceSub → j9, reduceMul → x4, reduceNeg → x5, reduceLT → x6, reduceLE → x7, reduceEq → x8, reduceNe → x9
open Go.RowKit Sx
section
attribute [local irreducible] run
theorem zdC:∀ l:List JV,l.length ≤ JV.sizes l
 | [] => Nat.zero_le _
 | v :: l => by
  rw [JV.sizes,List.length_cons]
  have h1:=zdC l
  have h2:=size_eq v
  omega
section
variable [Tabs Tryz.prog]
theorem zhb (v:JV) (a:Int) (hv:JOk v) (ha:0 ≤ a) (ha2:a ≤ 1099511627776) {objs:List OB} {K:List OB → AV → Prop} (hk:∀ b,(b=true → JKp v ∧ (v.size:Int) ≤ a) → K objs (.b b)):zah Tryz.prog 9 [.agg (zao v),.i .i64 a] objs K:=by
 refine zbI is_keep_Value (by simp only [zas,AV.plain,zbO,Bool.and_self]) fun C _ => ?_
 rw [c_keep_Value]
 refine zab fun Y hY => ?_
 obtain ⟨q0,q1,q2,q3,hq⟩:∃ q0 q1 q2 q3,zao v=[q0,q1,q2,q3]:=⟨_,_,_,_,zaq v⟩
 have hs:=fun {objs:List OB} {K:List OB → AV → Prop} (h:∀ n:Int,-1 ≤ n → n ≤ 1099511627776 → (0 ≤ n → JKp v ∧ n + (v.size:Int)=a) → K objs (.i .i64 n)) => zh9 (v.size + 1) v a 70 (Nat.lt_succ_self _) hv ha ha2 (by decide) (by decide) (objs:=objs) (K:=K) h
 rw [hq] at hs ⊢
 simp only [sxZ,z6,z7,z8,j4,j5,j6,j7,j8,j9,x4,x5,x6,x7,x8,x9,reduceCtorEq,↓reduceIte]
 subst hY
 refine zab fun Y hY => ?_
 simp only [sxZ,z6,z7,z8,j4,j5,j6,j7,j8,j9,x4,x5,x6,x7,x8,x9,reduceCtorEq,↓reduceIte]
 refine zal (hs fun n h1 h2 h3 => ?_)
 simp only [sxZ,z6,z7,z8,j4,j5,j6,j7,j8,j9,x4,x5,x6,x7,x8,x9,reduceCtorEq,↓reduceIte]
 subst hY
 simp only [sxZ,z6,z7,z8,j4,j5,j6,j7,j8,j9,x4,x5,x6,x7,x8,x9,reduceCtorEq,↓reduceIte]
 exact hk _ fun h => by
  have h0:=of_decide_eq_true h
  have:=h3 h0
  exact ⟨this.1,by omega⟩
end
end
end Go.Proofs.YtadhjoggdbhkgaaGreatDoor
