/- The texts that the proofs of these statements reach, in their order, as few files. -/
import Derived.Test.YtljbdpihiboeaaaGreatDoorProg
import Derived.Lib.Builder
import Derived.Lib.UnsafeStr
import Derived.Shelf.RegionOpenPlain
import Derived.Laws.Externs
import Derived.Lib.Split
import Derived.Test.YtljbdpihiboeaaaGreatDoorFu4
set_option linter.unusedVariables false
set_option linter.unusedSimpArgs false
set_option maxRecDepth 100000
namespace Go.Proofs.YtljbdpihiboeaaaGreatDoor
open Nat renaming reduceAdd → z6, reduceSub → z7, reduceLeDiff → z8, reduceLT → j3, reduceMul → j6, reduceEqDiff → j7
open Int renaming reduceToNat → j8, reduceAdd → j9, reduceSub → x0, reduceMul → x5, reduceNeg → x6, reduceLT → x7, reduceLE → x8, reduceEq → x9, reduceNe → y3
open Go.RowKit Sx
theorem zo6 (c:UInt8) (hd:zak c=false):meB c=(decide (97 ≤ c.toNat) && decide (c.toNat ≤ 122)):=by unfold meB; rw [hd]; rfl
theorem ib256:∀ n:Fin 256,ibB (UInt8.ofNat n.val)=(UInt8.ofNat n.val == 37 || (za0 (UInt8.ofNat n.val) || zak (UInt8.ofNat n.val) || zbb (UInt8.ofNat n.val) [46,45,95,58])):=by decide +kernel
theorem ib_form (c:UInt8):ibB c=(c == 37 || (za0 c || zak c || zbb c [46,45,95,58])):=by
 have:=ib256 ⟨c.toNat,UInt8.toNat_lt c⟩
 simpa using this
theorem trim_did {s:List UInt8} (h:Lib.hasPrefix s zbD=true):Lib.trimPrefix s zbD=s.drop 4:=by unfold Lib.trimPrefix; rw [if_pos h]; rfl
theorem fmtD_len (m i:List UInt8):(zbk m i).length=m.length + i.length + 5:=by simp [zbk,zbD]; omega
section
variable [Tabs Tryz.prog] {objs:List OB} {K:List OB → AV → Prop}
theorem zgG [Shp Tryz.prog] (s new:List UInt8) (c:UInt8) (hs:s.length ≤ 100000) (hn:new.length ≤ 100) (hne:new ≠ [c]) (hk:K objs (.s (zkq c new s))):zad Tryz.prog 218 [.s s,.s [c],.s new] objs K:=by
 have hc:Lib.countB (S s) (S [c]) ≤ s.length + 1:=zkh c s
 have hl:(S s).size + Lib.countB (S s) (S [c]) * (S new).size ≤ 140737488355328:=by
  have h1:Lib.countB (S s) (S [c]) * (S new).size ≤ 100001 * 100:=Nat.mul_le_mul (by omega) (by rw [zac]; omega)
  rw [zac]; omega
 have e:Lib.replaceAll s [c] new=zkq c new s:=zhs c new s hne
 rw [← e] at hk
 exact convT (vs:=[.string (S s),.string (S [c]),.string (S new)]) rfl rfl (fun w hT => Tryz.strings_ReplaceAll_shaped (S s) (S [c]) (S new) w (Shp.sh w hT) (by rw [zac]; omega) (by rw [zac]; simp) hl) hk
theorem zqp (s:List UInt8) (hs:s.length ≤ 1000000) (hk:K objs (.b (zbM s))):zad Tryz.prog 191 [.s s] objs K:=by
 refine za1 is_did_isMethod rfl fun C _ => ?_
 unfold zbM at hk
 simp only [c_did_isMethod,sxZ,z6,z7,z8,j3,j6,j7,j8,j9,x0,x5,x6,x7,x8,x9,y3,reduceCtorEq,↓reduceIte]
 refine zcq (fun n objs tm => ∃ i:Nat,i ≤ s.length ∧ n=s.length - i ∧ objs=[] ∧ (∀ j (h:j < s.length),j < i → meB s[j]=true) ∧ tm.length=29 ∧ tm[0]? = some (.s s) ∧ tm[5]? = some (.i .i64 s.length) ∧ tm[6]? = some (.i .i64 i)) s.length ⟨0,Nat.zero_le _,rfl,rfl,fun j h h0 => absurd h0 (by omega),rfl,rfl,rfl,rfl⟩ ?_
 rintro n _ tm ⟨i,hi,rfl,rfl,hall,hlen,t0,t5,t6⟩
 by_cases hlt:(i:Int) < s.length
 ·have hlt':i < s.length:=by omega
  have hg:=zdw hlt'
  have hfin:meB s[i]=false → K objs (.b false):=fun h => by
   rw [ziY hlt' h] at hk; exact hk
  have hnext:meB s[i]=true → ∀ j (h:j < s.length),j < i + 1 → meB s[j]=true:=by
   intro h j hj hji
   rcases Nat.lt_or_ge j i with h1 | h1
   ·exact hall j hj h1
   ·have:j=i:=by omega
    subst this; exact h
  simp only [sxZ,z6,z7,z8,j3,j6,j7,j8,j9,x0,x5,x6,x7,x8,x9,y3,reduceCtorEq,↓reduceIte,List.getElem?_set,hlen,t0,t5,t6,hlt]
  refine ⟨by omega,?_⟩
  rw [hg]
  generalize s[i]=c at *
  refine zae (zmX c ?_)
  by_cases hd:zak c=true
  ·have hm:meB c=true:=by unfold meB; rw [hd]; rfl
   simp only [hd,sxZ,z6,z7,z8,j3,j6,j7,j8,j9,x0,x5,x6,x7,x8,x9,y3,reduceCtorEq,↓reduceIte,List.getElem?_set,hlen,t0,t5,t6]
   exact ⟨⟨by omega,by omega⟩,s.length - (i + 1),by omega,i + 1,by omega,rfl,hnext hm,rfl⟩
  ·simp only [Bool.not_eq_true] at hd
   have hm:=zo6 c hd
   by_cases h97:((c.toNat:Nat):Int) < 97
   ·have hm2:meB c=false:=by rw [hm,decide_eq_false (by omega)]; rfl
    simp only [hd,hg,h97,sxZ,z6,z7,z8,j3,j6,j7,j8,j9,x0,x5,x6,x7,x8,x9,y3,reduceCtorEq,↓reduceIte,List.getElem?_set,hlen,t0,t5,t6]
    exact ⟨⟨by omega,by omega⟩,hfin hm2⟩
   ·by_cases h122:(122:Int) < ((c.toNat:Nat):Int)
    ·have hm2:meB c=false:=by rw [hm,decide_eq_false (p:=c.toNat ≤ 122) (by omega),Bool.and_false]
     simp only [hd,hg,h97,h122,sxZ,z6,z7,z8,j3,j6,j7,j8,j9,x0,x5,x6,x7,x8,x9,y3,reduceCtorEq,↓reduceIte,List.getElem?_set,hlen,t0,t5,t6]
     exact ⟨⟨by omega,by omega⟩,⟨by omega,by omega⟩,hfin hm2⟩
    ·have hm2:meB c=true:=by rw [hm,decide_eq_true (by omega),decide_eq_true (by omega)]; rfl
     simp only [hd,hg,h97,h122,sxZ,z6,z7,z8,j3,j6,j7,j8,j9,x0,x5,x6,x7,x8,x9,y3,reduceCtorEq,↓reduceIte,List.getElem?_set,hlen,t0,t5,t6]
     exact ⟨⟨by omega,by omega⟩,⟨by omega,by omega⟩,⟨by omega,by omega⟩,s.length - (i + 1),by omega,i + 1,by omega,rfl,hnext hm2,rfl⟩
 ·have hie:i=s.length:=by omega
  subst hie
  have ha:s.all meB=true:=zmS fun j h => hall j h h
  rw [ha] at hk
  simp only [sxZ,z6,z7,z8,j3,j6,j7,j8,j9,x0,x5,x6,x7,x8,x9,y3,reduceCtorEq,↓reduceIte,List.getElem?_set,hlen,t0,t5,t6,hlt]
  have e:decide (¬ s=[])=(true && !s.isEmpty):=by cases s <;> simp
  rw [e]
  exact hk
theorem zqq (c:UInt8) (hk:K objs (.b (za0 c || zak c || zbb c [46,45,95,58]))):zad Tryz.prog 217 [.i .u8 c.toNat] objs K:=by
 refine za1 is_did_isIDByte rfl fun C _ => ?_
 simp only [c_did_isIDByte,sxZ,z6,z7,z8,j3,j6,j7,j8,j9,x0,x5,x6,x7,x8,x9,y3,reduceCtorEq,↓reduceIte]
 refine zae (aAlpha_k c ?_)
 by_cases h1:za0 c=true
 ·simp only [h1,Bool.true_or] at hk
  simp only [h1,sxZ,z6,z7,z8,j3,j6,j7,j8,j9,x0,x5,x6,x7,x8,x9,y3,reduceCtorEq,↓reduceIte]
  exact hk
 ·simp only [h1,sxZ,z6,z7,z8,j3,j6,j7,j8,j9,x0,x5,x6,x7,x8,x9,y3,reduceCtorEq,↓reduceIte]
  refine zae (zmX c ?_)
  by_cases h2:zak c=true
  ·simp only [h1,h2,Bool.true_or,Bool.or_true,Bool.false_or] at hk
   simp only [h2,sxZ,z6,z7,z8,j3,j6,j7,j8,j9,x0,x5,x6,x7,x8,x9,y3,reduceCtorEq,↓reduceIte]
   exact hk
  ·simp only [h1,h2,Bool.false_or] at hk
   simp only [h2,sxZ,z6,z7,z8,j3,j6,j7,j8,j9,x0,x5,x6,x7,x8,x9,y3,reduceCtorEq,↓reduceIte]
   refine zae (zjg _ c ?_)
   simp only [sxZ,z6,z7,z8,j3,j6,j7,j8,j9,x0,x5,x6,x7,x8,x9,y3,reduceCtorEq,↓reduceIte]
   rw [idx_has]
   exact hk
set_option maxHeartbeats 4000000 in
theorem znw [Shp Tryz.prog] (s:List UInt8) (hs:s.length ≤ 16384) (hk:K objs (.tup [.s (idE s).2,.i .i64 (idE s).1])):zad Tryz.prog 192 [.s s] objs K:=by
 refine za1 is_did_parseID rfl fun C _ => ?_
 have hid:idE s=if (zaO s).1 ≠ 0 then ((zaO s).1,[]) else if s.all ibB=false then (1,[]) else if s=[] ∨ s.getLast? = some 58 then (3,[]) else if (zai s zbr).1 ≠ 0 then ((zai s zbr).1,[]) else (0,zcN (zai s zbr).2):=rfl
 simp only [c_did_parseID,sxZ,z6,z7,z8,j3,j6,j7,j8,j9,x0,x5,x6,x7,x8,x9,y3,reduceCtorEq,↓reduceIte]
 refine zae (zgU s ?_)
 by_cases h1:(zaO s).1=0
 ·simp only [h1,sxZ,z6,z7,z8,j3,j6,j7,j8,j9,x0,x5,x6,x7,x8,x9,y3,reduceCtorEq,↓reduceIte] at hid ⊢
  refine zcq (fun n objs tm => ∃ i:Nat,i ≤ s.length ∧ n=s.length - i ∧ objs=[] ∧ (∀ j (h:j < s.length),j < i → ibB s[j]=true) ∧ tm.length=54 ∧ tm[0]? = some (.s s) ∧ tm[18]? = some (.i .i64 s.length) ∧ tm[19]? = some (.i .i64 i)) s.length ⟨0,Nat.zero_le _,rfl,rfl,fun j h h0 => absurd h0 (by omega),rfl,rfl,rfl,rfl⟩ ?_
  rintro n _ tm ⟨i,hi,rfl,rfl,hall,hlen,t0,t5,t6⟩
  by_cases hlt:(i:Int) < s.length
  ·have hlt':i < s.length:=by omega
   have hg:=zdw hlt'
   have hfin:ibB s[i]=false → K objs (.tup [.s [],.i .i64 1]):=fun h => by
    rw [ziY hlt' h] at hid
    simp only [sxZ,z6,z7,z8,j3,j6,j7,j8,j9,x0,x5,x6,x7,x8,x9,y3,reduceCtorEq,↓reduceIte] at hid
    rw [hid] at hk; exact hk
   have hnext:ibB s[i]=true → ∀ j (h:j < s.length),j < i + 1 → ibB s[j]=true:=by
    intro h j hj hji
    rcases Nat.lt_or_ge j i with h1 | h1
    ·exact hall j hj h1
    ·have:j=i:=by omega
     subst this; exact h
   clear hk hid
   generalize s[i]=c at *
   have hib:=ib_form c
   by_cases h37:c=37
   ·have e37:((c.toNat:Nat):Int)=37:=by rw [h37]; rfl
    have hb:ibB c=true:=by rw [hib,h37]; rfl
    simp only [sxZ,z6,z7,z8,j3,j6,j7,j8,j9,x0,x5,x6,x7,x8,x9,y3,reduceCtorEq,↓reduceIte,List.getElem?_set,hlen,t0,t5,t6,hlt,hg,e37]
    exact ⟨by omega,⟨by omega,by omega⟩,s.length - (i + 1),by omega,i + 1,by omega,rfl,hnext hb,rfl⟩
   ·have e37:¬ ((c.toNat:Nat):Int)=37:=fun e => h37 (UInt8.toNat_inj.1 (by have:(37:UInt8).toNat=37:=rfl; omega))
    have hne:(c == 37)=false:=by simpa using h37
    simp only [sxZ,z6,z7,z8,j3,j6,j7,j8,j9,x0,x5,x6,x7,x8,x9,y3,reduceCtorEq,↓reduceIte,List.getElem?_set,hlen,t0,t5,t6,hlt,hg,e37]
    refine ⟨by omega,by omega,?_⟩
    refine zae (zqq c ?_)
    rw [hne,Bool.false_or] at hib
    rw [← hib]
    by_cases hb:ibB c=true
    ·simp only [hb,sxZ,z6,z7,z8,j3,j6,j7,j8,j9,x0,x5,x6,x7,x8,x9,y3,reduceCtorEq,↓reduceIte,List.getElem?_set,hlen,t0,t5,t6]
     exact ⟨⟨by omega,by omega⟩,s.length - (i + 1),by omega,i + 1,by omega,rfl,hnext hb,rfl⟩
    ·simp only [Bool.not_eq_true] at hb
     simp only [hb,sxZ,z6,z7,z8,j3,j6,j7,j8,j9,x0,x5,x6,x7,x8,x9,y3,reduceCtorEq,↓reduceIte,List.getElem?_set,hlen,t0,t5,t6]
     exact hfin hb
  ·have hie:i=s.length:=by omega
   subst hie
   have ha:s.all ibB=true:=zmS fun j h => hall j h h
   simp only [ha,sxZ,z6,z7,z8,j3,j6,j7,j8,j9,x0,x5,x6,x7,x8,x9,y3,reduceCtorEq,↓reduceIte] at hid
   simp only [sxZ,z6,z7,z8,j3,j6,j7,j8,j9,x0,x5,x6,x7,x8,x9,y3,reduceCtorEq,↓reduceIte,List.getElem?_set,hlen,t0,t5,t6,hlt]
   by_cases hs0:s=[]
   ·have ho:s=[] ∨ s.getLast? = some 58:=.inl hs0
    rw [if_pos ho] at hid
    rw [hid] at hk
    simp only [sxZ,z6,z7,z8,j3,j6,j7,j8,j9,x0,x5,x6,x7,x8,x9,y3,reduceCtorEq,↓reduceIte,List.getElem?_set,hlen,t0,t5,t6,hs0]
    exact hk
   ·have hpos:0 < s.length:=by
     rcases Nat.eq_zero_or_pos s.length with h | h
     ·exact absurd (List.eq_nil_of_length_eq_zero h) hs0
     ·exact h
    have hgl:s.getLast? = some s[s.length - 1]:=by rw [List.getLast?_eq_getElem?,List.getElem?_eq_getElem (by omega)]
    have hg2:s.getD ((s.length:Int) - 1).toNat 0=s[s.length - 1]:=by
     rw [show ((s.length:Int) - 1).toNat=s.length - 1 by omega]; exact zdw (by omega)
    by_cases h58:s[s.length - 1]=58
    ·have ho:s=[] ∨ s.getLast? = some 58:=.inr (by rw [hgl,h58])
     have e58:((s[s.length - 1].toNat:Nat):Int)=58:=by rw [h58]; rfl
     rw [if_pos ho] at hid
     rw [hid] at hk
     simp only [sxZ,z6,z7,z8,j3,j6,j7,j8,j9,x0,x5,x6,x7,x8,x9,y3,reduceCtorEq,↓reduceIte,List.getElem?_set,hlen,t0,t5,t6,hs0]
     refine ⟨⟨by omega,by omega⟩,⟨by omega,by omega⟩,?_⟩
     rw [hg2]
     simp only [sxZ,z6,z7,z8,j3,j6,j7,j8,j9,x0,x5,x6,x7,x8,x9,y3,reduceCtorEq,↓reduceIte,List.getElem?_set,hlen,t0,t5,t6,e58]
     exact hk
    ·have ho:¬ (s=[] ∨ s.getLast? = some 58):=by
      rw [hgl]
      rintro (h | h)
      ·exact hs0 h
      ·injection h with h; exact h58 h
     have e58:¬ ((s[s.length - 1].toNat:Nat):Int)=58:=fun e => h58 (UInt8.toNat_inj.1 (by have:(58:UInt8).toNat=58:=rfl; omega))
     rw [if_neg ho] at hid
     simp only [sxZ,z6,z7,z8,j3,j6,j7,j8,j9,x0,x5,x6,x7,x8,x9,y3,reduceCtorEq,↓reduceIte,List.getElem?_set,hlen,t0,t5,t6,hs0]
     refine ⟨⟨by omega,by omega⟩,⟨by omega,by omega⟩,?_⟩
     rw [hg2]
     simp only [sxZ,z6,z7,z8,j3,j6,j7,j8,j9,x0,x5,x6,x7,x8,x9,y3,reduceCtorEq,↓reduceIte,List.getElem?_set,hlen,t0,t5,t6,e58]
     refine zae (zgS s zbr ?_)
     by_cases h3:(zai s zbr).1=0
     ·have nl:=zdA s zbr
      simp only [h3,sxZ,z6,z7,z8,j3,j6,j7,j8,j9,x0,x5,x6,x7,x8,x9,y3,reduceCtorEq,↓reduceIte] at hid
      simp only [h3,sxZ,z6,z7,z8,j3,j6,j7,j8,j9,x0,x5,x6,x7,x8,x9,y3,reduceCtorEq,↓reduceIte,List.getElem?_set,hlen]
      refine zae (zgG _ _ 126 (by omega) (by decide) (by decide) ?_)
      rw [hid] at hk
      simp only [sxZ,z6,z7,z8,j3,j6,j7,j8,j9,x0,x5,x6,x7,x8,x9,y3,reduceCtorEq,↓reduceIte,List.getElem?_set,hlen]
      exact hk
     ·simp only [h3,sxZ,z6,z7,z8,j3,j6,j7,j8,j9,x0,x5,x6,x7,x8,x9,y3,reduceCtorEq,↓reduceIte] at hid
      simp only [h3,sxZ,z6,z7,z8,j3,j6,j7,j8,j9,x0,x5,x6,x7,x8,x9,y3,reduceCtorEq,↓reduceIte,List.getElem?_set,hlen]
      rw [hid] at hk
      exact hk
 ·simp only [h1,sxZ,z6,z7,z8,j3,j6,j7,j8,j9,x0,x5,x6,x7,x8,x9,y3,reduceCtorEq,↓reduceIte] at hid ⊢
  rw [hid] at hk
  exact hk
theorem zha [Shp Tryz.prog] (s:List UInt8) (hs:s.length ≤ maxLen) (hk:K objs (.tup [.agg [.s (zb7 s).2.1,.s (zb7 s).2.2],.i .i64 (zb7 s).1])):zad Tryz.prog 160 [.s s] objs K:=by
 have hm:maxLen=2 ^ 63 - 1:=rfl
 refine za1 is_did_ParseDID rfl fun C _ => ?_
 unfold zb7 at hk
 by_cases c0:(4096:Int) < ↑s.length
 ·have c0':4096 < s.length:=by omega
  simp only [c0',if_true] at hk
  simp only [c0,c_did_ParseDID,sxZ,z6,z7,z8,j3,j6,j7,j8,j9,x0,x5,x6,x7,x8,x9,y3,reduceCtorEq,↓reduceIte]
  exact hk
 ·have c0':¬ 4096 < s.length:=by omega
  simp only [c0',if_false] at hk
  simp only [c0,c_did_ParseDID,sxZ,z6,z7,z8,j3,j6,j7,j8,j9,x0,x5,x6,x7,x8,x9,y3,reduceCtorEq,↓reduceIte]
  refine zae (zjh s zbD ?_)
  by_cases c1:Lib.hasPrefix s zbD=true
  ·have ct:=za2 58 (s.drop 4)
   have hdl:(s.drop 4).length ≤ s.length:=by rw [List.length_drop]; omega
   rw [trim_did c1]
   simp only [c1,sxZ,z6,z7,z8,j3,j6,j7,j8,j9,x0,x5,x6,x7,x8,x9,y3,reduceCtorEq,↓reduceIte] at hk ⊢
   generalize s.drop 4=r at *
   refine zae (sCut_k r 58 (by omega) ?_)
   by_cases c2:(zaq 58 r).2.2=true
   ·simp only [c2,sxZ,z6,z7,z8,j3,j6,j7,j8,j9,x0,x5,x6,x7,x8,x9,y3,reduceCtorEq,↓reduceIte] at hk ⊢
    refine zae (zqp _ (by omega) ?_)
    by_cases c3:zbM (zaq 58 r).1=true
    ·simp only [c3,sxZ,z6,z7,z8,j3,j6,j7,j8,j9,x0,x5,x6,x7,x8,x9,y3,reduceCtorEq,↓reduceIte] at hk ⊢
     refine zae (znw _ (by omega) ?_)
     by_cases c4:(idE (zaq 58 r).2.1).1=0
     ·simp only [c4,sxZ,z6,z7,z8,j3,j6,j7,j8,j9,x0,x5,x6,x7,x8,x9,y3,reduceCtorEq,↓reduceIte] at hk ⊢
      exact hk
     ·simp only [c4,sxZ,z6,z7,z8,j3,j6,j7,j8,j9,x0,x5,x6,x7,x8,x9,y3,reduceCtorEq,↓reduceIte] at hk ⊢
      exact hk
    ·simp only [c3,sxZ,z6,z7,z8,j3,j6,j7,j8,j9,x0,x5,x6,x7,x8,x9,y3,reduceCtorEq,↓reduceIte] at hk ⊢
     exact hk
   ·simp only [c2,sxZ,z6,z7,z8,j3,j6,j7,j8,j9,x0,x5,x6,x7,x8,x9,y3,reduceCtorEq,↓reduceIte] at hk ⊢
    exact hk
  ·simp only [c1,sxZ,z6,z7,z8,j3,j6,j7,j8,j9,x0,x5,x6,x7,x8,x9,y3,reduceCtorEq,↓reduceIte] at hk ⊢
   exact hk
theorem zdy (m i:List UInt8) (h1:m.length ≤ 200000000000000) (h2:i.length ≤ 200000000000000) (hk:K objs (.s (zbk m i))):zad Tryz.prog 163 [.agg [.s m,.s i]] objs K:=by
 refine za1 is_did_FormatDID rfl fun C _ => ?_
 simp only [c_did_FormatDID,sxZ,z6,z7,z8,j3,j6,j7,j8,j9,x0,x5,x6,x7,x8,x9,y3,reduceCtorEq,↓reduceIte]
 exact ⟨by omega,by omega,by omega,by simpa [zbk,zbD] using hk⟩
theorem zcY (m i:List UInt8) (h1:m.length ≤ 200000000000000) (h2:i.length ≤ 200000000000000) (hk:K objs (.s (zbk m i))):zad Tryz.prog 119 [.agg [.s m,.s i]] objs K:=by
 refine za1 is_ref10_FormatDID rfl fun C _ => ?_
 simp only [c_ref10_FormatDID,sxZ,z6,z7,z8,j3,j6,j7,j8,j9,x0,x5,x6,x7,x8,x9,y3,reduceCtorEq,↓reduceIte]
 exact ⟨by omega,by omega,by omega,by simpa [zbk,zbD] using hk⟩
end
end Go.Proofs.YtljbdpihiboeaaaGreatDoor
namespace Go.Proofs.YtljbdpihiboeaaaGreatDoor
open Go.RowKit Sx
instance tabs:Tabs Tryz.prog:=⟨fun w => w.ShapedOpen Tryz.prog,fun _ _ h hk _ => zgB h hk⟩
instance tabs_shp:Shp Tryz.prog:=⟨fun _ h => h⟩
end Go.Proofs.YtljbdpihiboeaaaGreatDoor
namespace Go.Proofs.YtljbdpihiboeaaaGreatDoor
def ppB (c:UInt8):Bool:=c == 37 || idB c
theorem zn5 {a b:UInt8} (r:List UInt8) (ha:a ≠ 58) (hb:b ≠ 58) {p:List UInt8} {ps:List (List UInt8)} (h:zag 58 r=p :: ps):zag 58 (37 :: a :: b :: r)=(37 :: a :: b :: p) :: ps:=by
 rw [zaE,if_neg (by decide),zaE,if_neg ha,zaE,if_neg hb,h]
theorem addN_out (c:UInt8) (out:List UInt8) (h:zaQ c zbr=true):zb8 zbr out c false=(0,out ++ [c]):=zaY rfl h
theorem zoc {c:UInt8} (t out:List UInt8) (hc:c ≠ 37) (h:zaQ c zbr=true):rwS (zb8 zbr) 0 (c :: t) out=rwS (zb8 zbr) 0 t (out ++ [c]):=by
 rw [rwS,if_neg hc,addN_out c out h,if_pos rfl]
theorem rwN_esc (a b:UInt8) (r out:List UInt8) (he:zbp (37 :: a :: b :: r)=true):rwS (zb8 zbr) 0 (37 :: a :: b :: r) out=rwS (zb8 zbr) 0 r (out ++ (if zau (zcl (37 :: a :: b :: r))=true then [zcl (37 :: a :: b :: r)] else zc3 (zcl (37 :: a :: b :: r)))):=by
 rw [rwS,if_pos rfl,if_pos he]
 rcases hu:zau (zcl (37 :: a :: b :: r)) with _ | _
 ·rw [zcL hu,if_pos rfl,zbF,if_neg Bool.false_ne_true]; rfl
 ·rw [zaY (by rw [hu]; rfl) (za5 hu),if_pos rfl,zbF,if_pos rfl]; rfl
theorem zh2 (v:UInt8):zcN (if zau v=true then [v] else zc3 v)=if idB v=true then [v] else zc3 v:=by
 have hf:=zd0 v
 rcases hu:zau v with _ | _
 ·rw [if_neg Bool.false_ne_true,hf.2.2.1 hu,if_neg Bool.false_ne_true,zm1]
 ·rw [if_pos rfl]
  by_cases h:v=126
  ·subst h; decide
  ·rw [hf.2.1 hu h,if_pos rfl,zfB h]
theorem znj:∀ (n:Nat) (l p:List UInt8) (ps:List (List UInt8)),l.length ≤ n → zag 58 l=p :: ps → ((dcL l).1=0 ↔ ∀ q ∈ p :: ps,(dcL q).1=0) ∧
  (l.all ibB=true → (dcL l).1=0 → ∀ out,∃ y,rwS (zb8 zbr) 0 l out=(0,out ++ y) ∧ zcN y=zbc (dcL p).2 ++ ps.flatMap fun q => 58 :: zbc (dcL q).2):=by
 intro n
 induction n with
 | zero =>
  intro l p ps hl hs
  obtain rfl:l=[]:=List.eq_nil_of_length_eq_zero (by omega)
  obtain ⟨rfl,rfl⟩:p=[] ∧ ps=[]:=by
   have:zag 58 []=[[]]:=rfl
   rw [this] at hs; injection hs with h1 h2; exact ⟨h1.symm,h2.symm⟩
  exact ⟨by simp,fun _ _ out => ⟨[],by rw [rwS,List.append_nil],rfl⟩⟩
 | succ n ih =>
  intro l p ps hl hs
  cases l with
  | nil =>
   obtain ⟨rfl,rfl⟩:p=[] ∧ ps=[]:=by
    have:zag 58 []=[[]]:=rfl
    rw [this] at hs; injection hs with h1 h2; exact ⟨h1.symm,h2.symm⟩
   exact ⟨by simp,fun _ _ out => ⟨[],by rw [rwS,List.append_nil],rfl⟩⟩
  | cons c t =>
   simp only [List.length_cons] at hl
   by_cases hc:c=37
   ·subst hc
    rcases he:zbp (37 :: t) with _ | _
    ·obtain ⟨p',ps',e'⟩:=zaG 58 t
     rw [zaE,if_neg (by decide),e'] at hs
     injection hs with h1 h2
     have hb:=zfV he
     have hp:zbp p=false:=by
      rw [← h1]
      rcases hq:zbp (37 :: p') with _ | _
      ·rfl
      ·obtain ⟨a,b,r,rfl⟩:=zbI hq
       have hx:(zbj a && zbj b)=true:=hq
       have ht:t=a :: b :: t.drop 2:=by
        have h3:zag 58 t=(a :: b :: r) :: ps':=e'
        rw [zaU] at h3
        rcases zbo 58 t with ⟨_,h4,_⟩ | ⟨k,_,hk,h4,_⟩
        ·rw [h4] at h3
         simp only [Bool.false_eq_true,if_false,List.cons.injEq] at h3
         rw [h3.1]; rfl
        ·rw [h4] at h3
         simp only [if_true,List.cons.injEq] at h3
         have h5:=h3.1
         match t,k,h5 with
         | [],k,h5 => simp at h5
         | [x],0,h5 => simp at h5
         | [x],k + 1,h5 => simp at h5
         | x :: y :: t,0,h5 => simp at h5
         | x :: y :: t,1,h5 => simp at h5
         | x :: y :: t,k + 2,h5 => simp at h5; rw [h5.1,h5.2.1]; rfl
       rw [ht] at he
       have:zbp (37 :: a :: b :: t.drop 2)=(zbj a && zbj b):=rfl
       rw [this,hx] at he; cases he
     have hpb:(dcL p).1=2:=by rw [← h1] at hp ⊢; exact zfV hp
     exact ⟨⟨(fun h => by rw [hb] at h; cases h),(fun h => by have:=h p (by simp); rw [hpb] at this; cases this)⟩,(fun _ h => by rw [hb] at h; cases h)⟩
    ·obtain ⟨a,b,r,rfl⟩:=zbI he
     have hx:zbj a=true ∧ zbj b=true:=by
      have:(zbj a && zbj b)=true:=he
      simpa using this
     have ha:=((zd0 a).2.2.2.2 hx.1).1
     have hb:=((zd0 b).2.2.2.2 hx.2).1
     obtain ⟨p',ps',e'⟩:=zaG 58 r
     rw [zn5 r ha hb e'] at hs
     injection hs with h1 h2
     subst h1 h2
     have hep:zbp (37 :: a :: b :: p')=true:=he
     have hv:zcl (37 :: a :: b :: p')=zcl (37 :: a :: b :: r):=rfl
     obtain ⟨i1,i2⟩:=ih r p' ps' (by simp at hl; omega) e'
     have d1:=zd4 he
     have d2:=zd4 hep
     refine ⟨?_,fun hall h0 out => ?_⟩
     ·rw [d1.1,i1]
      simp only [List.mem_cons,forall_eq_or_imp,d2.1]
     ·rw [d1.1] at h0
      have hall':r.all ibB=true:=by
       simp only [List.all_cons,Bool.and_eq_true] at hall
       exact hall.2.2.2
      obtain ⟨y,y1,y2⟩:=i2 hall' h0 (out ++ (if zau (zcl (37 :: a :: b :: r))=true then [zcl (37 :: a :: b :: r)] else zc3 (zcl (37 :: a :: b :: r))))
      have hp0:=(i1.1 h0) p' (by simp)
      refine ⟨(if zau (zcl (37 :: a :: b :: r))=true then [zcl (37 :: a :: b :: r)] else zc3 (zcl (37 :: a :: b :: r))) ++ y,?_,?_⟩
      ·rw [rwN_esc a b r out he,y1,List.append_assoc]
      ·rw [zcV,zh2,y2,d2.2 hp0,hv,zcu,List.append_assoc]
   ·by_cases h58:c=58
    ·subst h58
     obtain ⟨p',ps',e'⟩:=zaG 58 t
     rw [zaE,if_pos rfl,e'] at hs
     injection hs with h1 h2
     subst h1 h2
     obtain ⟨i1,i2⟩:=ih t p' ps' (by omega) e'
     have d1:=zdB (c:=58) (t:=t) (by decide)
     refine ⟨?_,fun hall h0 out => ?_⟩
     ·rw [d1.1,i1]
      simp only [List.mem_cons,forall_eq_or_imp]
      exact ⟨fun h => ⟨rfl,h⟩,fun h => h.2⟩
     ·rw [d1.1] at h0
      have hall':t.all ibB=true:=by
       simp only [List.all_cons,Bool.and_eq_true] at hall
       exact hall.2
      obtain ⟨y,y1,y2⟩:=i2 hall' h0 (out ++ [58])
      refine ⟨58 :: y,?_,?_⟩
      ·rw [zoc t out (by decide) (by decide),y1,List.append_assoc]; rfl
      ·show zcN ([58] ++ y)=_
       rw [zcV,zfB (by decide),y2]; simp [zbc,dcL,rwS]
    ·obtain ⟨p',ps',e'⟩:=zaG 58 t
     rw [zaE,if_neg h58,e'] at hs
     injection hs with h1 h2
     subst h1 h2
     obtain ⟨i1,i2⟩:=ih t p' ps' (by omega) e'
     have d1:=zdB (c:=c) (t:=t) hc
     have d2:=zdB (c:=c) (t:=p') hc
     refine ⟨?_,fun hall h0 out => ?_⟩
     ·rw [d1.1,i1]
      simp only [List.mem_cons,forall_eq_or_imp,d2.1]
     ·rw [d1.1] at h0
      simp only [List.all_cons,Bool.and_eq_true] at hall
      have hid:idB c=true:=by
       have:=hall.1
       unfold ibB at this
       simp only [Bool.or_eq_true,beq_iff_eq] at this
       rcases this with (h | h) | h
       ·exact absurd h hc
       ·exact h
       ·exact absurd h h58
      have hf:=(zd0 c).1 hid
      obtain ⟨y,y1,y2⟩:=i2 hall.2 h0 (out ++ [c])
      have hp0:=(i1.1 h0) p' (by simp)
      refine ⟨c :: y,?_,?_⟩
      ·rw [zoc t out hc hf.1,y1,List.append_assoc]; rfl
      ·show zcN ([c] ++ y)=_
       rw [zcV,zfB hf.2.1,y2,d2.2 hp0,zcu,if_pos hid,List.append_assoc]
theorem zfv:∀ l:List UInt8,l.all ibB=(zag 58 l).all fun q => q.all ppB
 | [] => rfl
 | c :: t => by
  have ih:=zfv t
  obtain ⟨p',ps',e'⟩:=zaG 58 t
  rw [zaE]
  by_cases h:c=58
  ·subst h
   rw [if_pos rfl,List.all_cons,ih,List.all_cons]; rfl
  ·rw [if_neg h,e',List.all_cons,ih,e',List.all_cons,List.all_cons,List.all_cons,← Bool.and_assoc]
   congr 2
   unfold ibB ppB
   have:(c == 58)=false:=by simpa using h
   rw [this,Bool.or_false]
theorem zjK:∀ l:List UInt8,(zag 58 l).getLastD []=[] ↔ (l=[] ∨ l.getLast? = some 58)
 | [] => by simp [zag]
 | [c] => by
  by_cases h:c=58
  ·subst h; simp [zag]
  ·rw [zaE,if_neg h]; simp [zag,h]
 | c :: d :: t => by
  have ih:=zjK (d :: t)
  obtain ⟨p',ps',e'⟩:=zaG 58 (d :: t)
  rw [zaE]
  simp only [reduceCtorEq,false_or,List.getLast?_cons_cons] at ih ⊢
  rw [← ih]
  by_cases h:c=58
  ·subst h
   rw [if_pos rfl,e']; simp
  ·rw [if_neg h,e']
   cases ps' with
   | nil =>
    simp only [List.getLastD_cons,List.getLastD_nil]
    rw [e'] at ih
    simp only [List.getLastD_cons,List.getLastD_nil] at ih
    constructor
    ·intro h2; cases h2
    ·intro h2
     subst h2
     exfalso
     have hsp:=zaU 58 (d :: t)
     rw [e'] at hsp
     split at hsp
     ·rename_i h3
      injection hsp with _ h4
      have:=zbs 58 (zaq 58 (d :: t)).2.1
      rw [← h4] at this; simp at this
     ·injection hsp with h4 _; cases h4
   | cons q qs => simp
theorem zem (l p:List UInt8) (ps:List (List UInt8)) (hl:l.length ≤ 16384) (hs:zag 58 l=p :: ps) :
  idE l=if ¬ (∀ q ∈ p :: ps,(zaO q).1=0) then (2,[]) else if (p :: ps).all (fun q => q.all ppB)=false then (1,[]) else if (p :: ps).getLastD []=[] then (3,[]) else (0,zbE p ++ jnc ps):=by
 obtain ⟨m1,m2⟩:=znj l.length l p ps (Nat.le_refl _) hs
 have hq:∀ q ∈ p :: ps,zaO q=dcL q:=fun q hq => zbT (by
  rw [← hs] at hq
  have:=zc0 58 l q hq
  omega)
 have e1:(∀ q ∈ p :: ps,(zaO q).1=0) ↔ (dcL l).1=0:=by
  rw [m1]
  exact forall_congr' fun q => forall_congr' fun h => by rw [hq q h]
 unfold idE
 rw [zbT hl,← hs,zfv,hs]
 have e2:=zjK l
 rw [hs] at e2
 by_cases h0:(dcL l).1=0
 ·rw [if_neg (show ¬ (dcL l).1 ≠ 0 from fun h => h h0),if_neg (show ¬ ¬ (∀ q ∈ p :: ps,(zaO q).1=0) from fun h => h (e1.2 h0))]
  by_cases h1:((p :: ps).all fun q => q.all ppB)=false
  ·rw [if_pos h1,if_pos h1]
  ·rw [if_neg h1,if_neg h1]
   by_cases h2:(p :: ps).getLastD []=[]
   ·rw [if_pos h2,if_pos (e2.1 h2)]
   ·rw [if_neg h2,if_neg (fun h => h2 (e2.2 h))]
    obtain ⟨y,y1,y2⟩:=m2 (by rw [zfv,hs]; simpa using h1) h0 []
    have hn:zai l zbr=(0,y):=by
     unfold zai ze6
     rw [if_neg (by omega),y1]; rfl
    rw [hn,if_neg (by simp)]
    simp only
    rw [y2]
    have e3:zbE p=zbc (dcL p).2:=by unfold zbE; rw [hq p (by simp)]
    have e4:jnc ps=ps.flatMap fun q => 58 :: zbc (dcL q).2:=by
     unfold jnc
     have:∀ qs:List (List UInt8),(∀ q ∈ qs,zaO q=dcL q) → qs.flatMap (fun q => 58 :: zbE q)=qs.flatMap fun q => 58 :: zbc (dcL q).2:=by
      intro qs
      induction qs with
      | nil => intro _; rfl
      | cons q qs ih =>
       intro h
       rw [List.flatMap_cons,List.flatMap_cons,ih (fun q' h' => h q' (by simp [h']))]
       unfold zbE
       rw [h q (by simp)]
     exact this ps (fun q h => hq q (by simp [h]))
    rw [e3,e4]
 ·have h2:(dcL l).1=2:=(dcL_err l.length l (Nat.le_refl _)).resolve_left h0
  rw [if_pos h0,if_pos (by rw [e1]; exact h0),h2]
theorem zeG:∀ d:List UInt8,dcL (zbc d)=(0,d)
 | [] => rfl
 | c :: d => by
  have ih:=zeG d
  rw [zcu]
  by_cases h:idB c=true
  ·rw [if_pos h]
   have h37:=((zd0 c).1 h).2.2.2
   have d1:=zdB (c:=c) (t:=zbc d) h37
   show dcL (c :: zbc d)=_
   rw [ih] at d1
   have e2:=d1.2 rfl
   have:dcL (c :: zbc d)=((dcL (c :: zbc d)).1,(dcL (c :: zbc d)).2):=rfl
   rw [this,d1.1,e2]
  ·rw [if_neg h]
   have he:=zkY c (zbc d)
   have d1:=zd4 (a:=zdn (c.toNat / 16)) (b:=zdn (c.toNat % 16)) (r:=zbc d) he.1
   have e:zc3 c ++ zbc d=37 :: zdn (c.toNat / 16) :: zdn (c.toNat % 16) :: zbc d:=rfl
   rw [e]
   rw [ih] at d1
   have e2:=d1.2 rfl
   have hv:zcl (37 :: zdn (c.toNat / 16) :: zdn (c.toNat % 16) :: zbc d)=c:=he.2
   rw [hv] at e2
   have:dcL (37 :: zdn (c.toNat / 16) :: zdn (c.toNat % 16) :: zbc d)=((dcL (37 :: zdn (c.toNat / 16) :: zdn (c.toNat % 16) :: zbc d)).1,(dcL (37 :: zdn (c.toNat / 16) :: zdn (c.toNat % 16) :: zbc d)).2):=rfl
   rw [this,d1.1,e2]
theorem zpV:∀ n:Fin 256,(zc3 (UInt8.ofNat n.val)).all (fun c => ppB c && c != 58)=true:=by decide +kernel
theorem zkX:∀ d:List UInt8,(zbc d).all (fun c => ppB c && c != 58)=true
 | [] => rfl
 | c :: d => by
  rw [zcu,List.all_append,zkX d,Bool.and_true]
  by_cases h:idB c=true
  ·rw [if_pos h]
   have hf:=(zd0 c).1 h
   simp [ppB,h,hf.2.2.1]
  ·rw [if_neg h]
   have:=zpV ⟨c.toNat,UInt8.toNat_lt c⟩
   simpa using this
theorem zdP (d:List UInt8):(58:UInt8) ∉ zbc d:=by
 intro hm
 have:=List.all_eq_true.1 (zkX d) 58 hm
 simp at this
theorem zmm (d:List UInt8):(zbc d).all ppB=true:=by
 rw [List.all_eq_true]
 intro x hx
 have:=List.all_eq_true.1 (zkX d) x hx
 simp only [Bool.and_eq_true] at this
 exact this.1
theorem zmn (d:List UInt8):zbc d=[] ↔ d=[]:=by
 cases d with
 | nil => exact ⟨fun _ => rfl,fun _ => rfl⟩
 | cons c d =>
  rw [zcu]
  constructor
  ·intro h
   exfalso
   have:=congrArg List.length h
   rw [List.length_append] at this
   split at this <;> simp [zc3] at this
  ·intro h; cases h
def js (ps:List (List UInt8)):List UInt8:=ps.flatMap fun q => 58 :: q
theorem zge:∀ (s:List UInt8) (l:List (List UInt8)),58 ∉ s → (∀ x ∈ l,(58:UInt8) ∉ x) → zag 58 (s ++ js l)=s :: l
 | s,[],hs,_ => by
  show zag 58 (s ++ [])=_
  rw [List.append_nil,zaU,zbZ 58 s hs]; simp
 | s,x :: l,hs,h => by
  have:s ++ js (x :: l)=s ++ 58 :: (x ++ js l):=by simp [js]
  rw [this,zaU,zaP 58 s _ hs,if_pos rfl,zge x l (h x (by simp)) (fun y hy => h y (by simp [hy]))]
theorem zjQ (ps:List (List UInt8)):jnc ps=js (ps.map zbE):=by
 unfold jnc js
 rw [List.flatMap_map]
theorem zeY {q:List UInt8} (h1:(zbE q).length ≤ 16384):(zaO (zbE q)).1=0 ∧ zbE (zbE q)=zbE q:=by
 have e:zaO (zbE q)=(0,(zaO q).2):=by
  unfold zbE at h1 ⊢
  rw [zbT h1,zeG]
 refine ⟨by rw [e],?_⟩
 show zbc (zaO (zbE q)).2=zbE q
 rw [e]; rfl
theorem zfP:∀ (ps:List (List UInt8)) (q:List UInt8),q ∈ ps → q.length ≤ (js ps).length
 | [],q,h => by cases h
 | p :: ps,q,h => by
  have:js (p :: ps)=58 :: (p ++ js ps):=by simp [js]
  rw [this,List.length_cons,List.length_append]
  rcases List.mem_cons.1 h with rfl | h
  ·omega
  ·have:=zfP ps q h; omega
theorem zen (f:List UInt8 → List UInt8):∀ (p:List UInt8) (ps:List (List UInt8)),((p :: ps).map f).getLastD []=f ((p :: ps).getLastD [])
 | p,[] => by simp
 | p,q :: ps => by
  have:=zen f q ps
  simpa using this
theorem zpJ {l i:List UInt8} (hl:l.length ≤ 16384) (hi:i.length ≤ 16384) (h:idE l=(0,i)):idE i=(0,i) ∧ i.all ibB=true:=by
 obtain ⟨p,ps,hs⟩:=zaG 58 l
 have hp:=zem l p ps hl hs
 rw [h] at hp
 split at hp
 ·cases hp
 ·rename_i g1
  split at hp
  ·cases hp
  ·rename_i g2
   split at hp
   ·cases hp
   ·rename_i g3
    injection hp with _ hp
    simp only [Decidable.not_not] at g1
    have hsi:zag 58 i=zbE p :: ps.map zbE:=by
     rw [hp,zjQ]
     exact zge _ _ (zdP _) (fun x hx => by
      obtain ⟨q,_,rfl⟩:=List.mem_map.1 hx
      exact zdP _)
    have hlen:∀ q ∈ p :: ps,(zbE q).length ≤ 16384:=by
     intro q hq
     have hi2:=hi
     rw [hp,zjQ,List.length_append] at hi2
     rcases List.mem_cons.1 hq with rfl | hq
     ·omega
     ·have:=zfP (ps.map zbE) (zbE q) (List.mem_map_of_mem hq)
      omega
    have hq:=zem i (zbE p) (ps.map zbE) hi hsi
    have c1:∀ q ∈ zbE p :: ps.map zbE,(zaO q).1=0:=by
     intro q hq
     have:q ∈ (p :: ps).map zbE:=hq
     obtain ⟨q',h1,rfl⟩:=List.mem_map.1 this
     exact (zeY (hlen q' h1)).1
    have c2:(zbE p :: ps.map zbE).all (fun q => q.all ppB)=true:=by
     rw [List.all_eq_true]
     intro q hq
     have:q ∈ (p :: ps).map zbE:=hq
     obtain ⟨q',h1,rfl⟩:=List.mem_map.1 this
     exact zmm _
    have c3:¬ (zbE p :: ps.map zbE).getLastD []=[]:=by
     have e:=zen zbE p ps
     show ¬ ((p :: ps).map zbE).getLastD []=[]
     rw [e]
     intro e2
     unfold zbE at e2
     rw [zmn] at e2
     apply g3
     have hm:(p :: ps).getLastD [] ∈ p :: ps:=by
      rw [List.getLastD_eq_getLast?,List.getLast?_eq_some_getLast (by simp)]
      exact List.getLast_mem _
     generalize (p :: ps).getLastD []=q at *
     have hql:q.length ≤ l.length:=zc0 58 l q (by rw [hs]; exact hm)
     have h0:=g1 q hm
     cases q with
     | nil => rfl
     | cons c t =>
      exfalso
      rw [zbT (by omega)] at h0 e2
      by_cases hc:c=37
      ·subst hc
       rcases he:zbp (37 :: t) with _ | _
       ·rw [zfV he] at h0; cases h0
       ·obtain ⟨a,b,r,rfl⟩:=zbI he
        have d1:=zd4 he
        rw [d1.1] at h0
        rw [d1.2 h0] at e2; cases e2
      ·have d1:=zdB (c:=c) (t:=t) hc
       rw [d1.1] at h0
       rw [d1.2 h0] at e2; cases e2
    rw [if_neg (fun h => h c1),if_neg (by rw [c2]; simp),if_neg c3] at hq
    refine ⟨?_,?_⟩
    ·rw [hq,(zeY (hlen p (by simp))).2,hp]
     congr 2
     rw [zjQ,zjQ,List.map_map]
     congr 1
     refine List.map_congr_left fun q hq => ?_
     exact (zeY (hlen q (by simp [hq]))).2
    ·rw [zfv,hsi]; exact c2
structure CanD (u:DidU):Prop where
 meth:zbM u.meth=true
 id:idE u.id=(0,u.id)
 idb:u.id.all ibB=true
 path:zai u.path zan=(0,u.path)
 slash:u.path=[] ∨ ∃ r,u.path=47 :: r
 query:zai u.query zaf=(0,u.query)
 frag:zai u.frag zaf=(0,u.frag)
 noq:u.hq=false → u.query=[]
 nof:u.hf=false → u.frag=[]
 len:(ziL u).length ≤ 4096
theorem me256:∀ n:Fin 256,(meB (UInt8.ofNat n.val)=true → zbb (UInt8.ofNat n.val) [58,47,63,35]=false) ∧ (ibB (UInt8.ofNat n.val)=true → zbb (UInt8.ofNat n.val) [47,63,35]=false) ∧ (okB zan (UInt8.ofNat n.val)=true → zbb (UInt8.ofNat n.val) [63,35]=false) ∧ (okB zaf (UInt8.ofNat n.val)=true → UInt8.ofNat n.val ≠ 35):=by decide +kernel
theorem zdZ (c:UInt8):(meB c=true → zbb c [58,47,63,35]=false) ∧ (ibB c=true → zbb c [47,63,35]=false) ∧ (okB zan c=true → zbb c [63,35]=false) ∧ (okB zaf c=true → c ≠ 35):=by
 have:=me256 ⟨c.toNat,UInt8.toNat_lt c⟩
 simpa using this
theorem zf2 {l cs:List UInt8} {c:UInt8} (h:∀ x ∈ l,zbb x cs=false) (hc:zbb c cs=true):c ∉ l:=fun hm => by
 have:=h c hm
 rw [hc] at this; cases this
theorem fmtD_no {m i:List UInt8} (hm:zbM m=true) (hi:i.all ibB=true):∀ x ∈ zbk m i,zbb x [47,63,35]=false:=by
 intro x hx
 unfold zbk at hx
 simp only [List.mem_append,List.mem_cons,List.not_mem_nil,or_false] at hx
 rcases hx with ((hx | hx) | hx) | hx
 ·have:∀ x ∈ zbD,zbb x [47,63,35]=false:=by decide
  exact this x hx
 ·unfold zbM at hm
  simp only [Bool.and_eq_true] at hm
  have:=(zdZ x).1 (List.all_eq_true.1 hm.1 x hx)
  unfold zbb at this ⊢
  simp only [List.contains_cons,List.contains_nil,Bool.or_false,Bool.or_eq_false_iff] at this ⊢
  exact this.2
 ·subst hx; decide
 ·exact (zdZ x).2.1 (List.all_eq_true.1 hi x hx)
theorem zk1 {m i:List UInt8} (hm:zbM m=true) (hi:idE i=(0,i)) (hl:(zbk m i).length ≤ 4096):zb7 (zbk m i)=(0,m,i):=by
 have h58:(58:UInt8) ∉ m:=by
  unfold zbM at hm
  simp only [Bool.and_eq_true] at hm
  exact zf2 (fun x hx => (zdZ x).1 (List.all_eq_true.1 hm.1 x hx)) (by decide)
 have hp:Lib.hasPrefix (zbk m i) zbD=true:=by
  unfold zbk
  rw [List.append_assoc,List.append_assoc]
  exact List.isPrefixOf_iff_prefix.2 (List.prefix_append _ _)
 have hd:(zbk m i).drop 4=m ++ 58 :: i:=by simp [zbk,zbD]
 unfold zb7
 rw [if_neg (by omega),if_neg (by rw [hp]; simp),hd,zaP 58 m i h58]
 simp only
 rw [hm,hi]
 simp
theorem CanD.back {u:DidU} (h:CanD u):didUE (ziL u)=(0,u):=by
 obtain ⟨m,i,pa,qu,fr,hq,hf⟩:=u
 have hl:=h.len
 have hno:=fmtD_no h.meth h.idb
 have npa:∀ x ∈ pa,zbb x [63,35]=false:=fun x hx => (zdZ x).2.2.1 (List.all_eq_true.1 (zcI h.path) x hx)
 have nqu:(35:UInt8) ∉ qu:=fun hx => (zdZ 35).2.2.2 (List.all_eq_true.1 (zcI h.query) 35 hx) rfl
 have hs:=h.slash
 have hqn:=h.noq
 have hfn:=h.nof
 simp only at hno hs hqn hfn hl
 have f35:(35:UInt8) ∉ zbk m i:=zf2 hno (by decide)
 have f63:(63:UInt8) ∉ zbk m i:=zf2 hno (by decide)
 have f47:(47:UInt8) ∉ zbk m i:=zf2 hno (by decide)
 have p35:(35:UInt8) ∉ pa:=zf2 npa (by decide)
 have p63:(63:UInt8) ∉ pa:=zf2 npa (by decide)
 have q35:(35:UInt8) ∉ (if hq=true then [63] ++ qu else []):=by
  split
  ·simp [nqu]
  ·simp
 have e35:zaq 35 (ziL ⟨m,i,pa,qu,fr,hq,hf⟩)=(zbk m i ++ pa ++ (if hq=true then [63] ++ qu else []),fr,hf):=by
  unfold ziL
  cases hf
  ·have:=hfn rfl; subst this
   simp only [Bool.false_eq_true,if_false,List.append_nil]
   exact zbZ 35 _ (by simp only [List.mem_append,not_or]; exact ⟨⟨f35,p35⟩,q35⟩)
  ·simp only [if_true]
   have:zbk m i ++ pa ++ (if hq=true then [63] ++ qu else []) ++ ([35] ++ fr)=(zbk m i ++ pa ++ (if hq=true then [63] ++ qu else [])) ++ 35 :: fr:=by simp
   rw [this]
   exact zaP 35 _ fr (by simp only [List.mem_append,not_or]; exact ⟨⟨f35,p35⟩,q35⟩)
 have e63:zaq 63 (zbk m i ++ pa ++ (if hq=true then [63] ++ qu else []))=(zbk m i ++ pa,qu,hq):=by
  cases hq
  ·have:=hqn rfl; subst this
   simp only [Bool.false_eq_true,if_false,List.append_nil]
   exact zbZ 63 _ (by simp only [List.mem_append,not_or]; exact ⟨f63,p63⟩)
  ·simp only [if_true]
   have:zbk m i ++ pa ++ ([63] ++ qu)=(zbk m i ++ pa) ++ 63 :: qu:=by simp
   rw [this]
   exact zaP 63 _ qu (by simp only [List.mem_append,not_or]; exact ⟨f63,p63⟩)
 have eb:zcA (ziL ⟨m,i,pa,qu,fr,hq,hf⟩)=zbk m i ++ pa:=by
  unfold zcA; rw [e35]; simp only; rw [e63]
 have en:zf7 (ziL ⟨m,i,pa,qu,fr,hq,hf⟩)=zbk m i:=by
  unfold zf7 zat
  rw [eb]
  rcases hs with rfl | ⟨r,rfl⟩
  ·rw [List.append_nil,zbZ 47 _ f47]
  ·rw [zaP 47 _ r f47]
 have hdl:(zbk m i).length ≤ 4096:=by
  unfold ziL at hl
  simp only [List.length_append] at hl
  omega
 unfold didUE
 rw [if_neg (by omega),en,zk1 h.meth h.id hdl,eb,e35]
 simp only
 rw [e63]
 simp only
 have ed:(zbk m i ++ pa).drop (zbk m i).length=pa:=by simp
 rw [ed,h.path,h.query,h.frag]
 simp
theorem zmH {s m i:List UInt8} (h:zb7 s=(0,m,i)):zbM m=true ∧ ∃ l,s=zbk m l ∧ idE l=(0,i) ∧ s.length ≤ 4096:=by
 unfold zb7 at h
 split at h
 ·cases h
 ·rename_i g0
  split at h
  ·cases h
  ·rename_i g1
   split at h
   ·cases h
   ·rename_i g2
    split at h
    ·cases h
    ·rename_i g3
     split at h
     ·rename_i g4; injection h with h1 _; exact absurd h1 g4
     ·rename_i g4
      simp only [Decidable.not_not] at g4
      injection h with _ h
      injection h with h1 h2
      subst h1 h2
      simp only [Bool.not_eq_false] at g1 g2 g3
      refine ⟨g3,(zaq 58 (s.drop 4)).2.1,?_,by rw [← g4],by omega⟩
      obtain ⟨t,ht⟩:=List.isPrefixOf_iff_prefix.1 (show List.isPrefixOf zbD s=true from g1)
      have hj:=zd5 58 (s.drop 4)
      rw [g2,if_pos rfl] at hj
      unfold zbk
      have hd:s.drop 4=t:=by rw [← ht]; simp [zbD]
      rw [List.append_assoc,List.append_assoc,← List.append_assoc _ [58],List.append_assoc _ [58],← hj,hd,ht]
theorem idE_le {l i:List UInt8} (h:idE l=(0,i)):i.length ≤ 3 * l.length:=by
 unfold idE at h
 split at h
 ·rename_i g; injection h with h1 _; exact absurd h1 g
 ·split at h
  ·cases h
  ·split at h
   ·cases h
   ·split at h
    ·rename_i g; injection h with h1 _; exact absurd h1 g
    ·injection h with _ h
     have h1:=zdA l zbr
     have h2:=zfC (zai l zbr).2
     rw [← h]; omega
theorem CanD.of {s:List UInt8} {u:DidU} (hs:s.length ≤ 1000) (h:didUE s=(0,u)):CanD u:=by
 unfold didUE at h
 split at h
 ·cases h
 ·split at h
  ·rename_i g; injection h with h1 _; exact absurd h1 g
  ·rename_i g1
   split at h
   ·rename_i g; injection h with h1 _; exact absurd h1 g
   ·rename_i g2
    split at h
    ·rename_i g; injection h with h1 _; exact absurd h1 g
    ·rename_i g3
     split at h
     ·rename_i g; injection h with h1 _; exact absurd h1 g
     ·rename_i g4
      simp only [Decidable.not_not] at g1 g2 g3 g4
      injection h with _ h
      have hd:zb7 (zf7 s)=(0,(zb7 (zf7 s)).2.1,(zb7 (zf7 s)).2.2):=by rw [← g1]
      obtain ⟨k1,l,k2,k3,k4⟩:=zmH hd
      have e2:zai ((zcA s).drop (zf7 s).length) zan=(0,(zai ((zcA s).drop (zf7 s).length) zan).2):=by rw [← g2]
      have e3:zai (zaq 63 (zaq 35 s).1).2.1 zaf=(0,(zai (zaq 63 (zaq 35 s).1).2.1 zaf).2):=by rw [← g3]
      have e4:zai (zaq 35 s).2.1 zaf=(0,(zai (zaq 35 s).2.1 zaf).2):=by rw [← g4]
      have j1:=congrArg List.length (zd5 35 s)
      have j2:=congrArg List.length (zd5 63 (zaq 35 s).1)
      have c1:=zca 35 s
      have c2:=zca 63 (zaq 35 s).1
      have hnb:=(zaI (zcA s)).2
      have hnl:(zf7 s).length ≤ (zcA s).length:=hnb
      have hbl:(zcA s).length ≤ (zaq 35 s).1.length:=zqr 63 _
      have h35l:=zqr 35 s
      have kl:(zf7 s).length=(zb7 (zf7 s)).2.1.length + l.length + 5:=by
       have hk2:=congrArg List.length k2
       simp only [zbk,zbD,List.length_append,List.length_cons,List.length_nil] at hk2
       omega
      have il:=idE_le k3
      have pl:=(zbH _ _ _ e2).2.2
      have ql:=(zbH _ _ _ e3).2.2
      have fl:=(zbH _ _ _ e4).2.2
      rw [List.length_drop] at pl
      have ia:=zpJ (l:=l) (by omega) (by omega) k3
      have q0:(zaq 63 (zaq 35 s).1).2.1.length ≤ (zaq 35 s).1.length:=(za2 63 _).2
      have f0:(zaq 35 s).2.1.length ≤ s.length:=(za2 35 _).2
      have qs:(zcA s).length + (zaq 63 (zaq 35 s).1).2.1.length ≤ (zaq 35 s).1.length:=by
       show (zaq 63 (zaq 35 s).1).1.length + _ ≤ _
       rcases hb:(zaq 63 (zaq 35 s).1).2.2 with _ | _
       ·rw [(c2.2.2 hb).1,(c2.2.2 hb).2]; simp
       ·have:=c2.2.1 hb; omega
      have fs:(zaq 35 s).1.length + (zaq 35 s).2.1.length ≤ s.length:=by
       rcases hb:(zaq 35 s).2.2 with _ | _
       ·rw [(c1.2.2 hb).1,(c1.2.2 hb).2]; simp
       ·have:=c1.2.1 hb; omega
      have hslash:(zai ((zcA s).drop (zf7 s).length) zan).2=[] ∨ ∃ r,(zai ((zcA s).drop (zf7 s).length) zan).2=47 :: r:=by
       have hx:(zcA s).drop (zf7 s).length=[] ∨ ∃ r,(zcA s).drop (zf7 s).length=47 :: r:=by
        unfold zf7 zat
        rcases zbo 47 (zcA s) with ⟨_,h3,_⟩ | ⟨k,_,hk,h3,h4⟩
        ·rw [h3]; left; simp
        ·rw [h3]; right
         have e:((zcA s).take k).length=k:=by rw [List.length_take]; omega
         simp only [e]
         rw [List.drop_eq_getElem_cons hk]
         rw [List.getElem?_eq_getElem hk] at h4
         injection h4 with h4
         exact ⟨_,by rw [h4]⟩
       rcases hx with hx | ⟨r,hx⟩
       ·left; rw [hx]; decide
       ·right
        rw [hx] at e2 ⊢
        have hlen:=zeA e2
        have hr:rwS (zb8 zan) 0 (47 :: r) []=(0,(zai (47 :: r) zan).2):=by
         have e5:=e2
         unfold zai ze6 at e5
         rw [if_neg (by omega)] at e5
         rw [e5]
         unfold zai ze6
         rw [if_neg (by omega)]
        have hp1:rwS (zb8 zan) 0 (47 :: r) []=rwS (zb8 zan) 0 r [47]:=by
         rw [rwS,if_neg (by decide),zaY rfl (by decide),if_pos rfl]; rfl
        rw [hp1] at hr
        obtain ⟨y,a,k5,_⟩:=zjC zan r.length r [47] _ (Nat.le_refl _) hr
        exact ⟨y,k5⟩
      rw [← h]
      refine ⟨k1,ia.1,ia.2,(zbH _ _ _ e2).1,hslash,(zbH _ _ _ e3).1,(zbH _ _ _ e4).1,?_,?_,?_⟩
      ·intro hq
       show (zai (zaq 63 (zaq 35 s).1).2.1 zaf).2=[]
       rw [(c2.2.2 hq).2]; rfl
      ·intro hf
       show (zai (zaq 35 s).2.1 zaf).2=[]
       rw [(c1.2.2 hf).2]; rfl
      ·unfold ziL
       simp only [List.length_append]
       have z1:((if (zaq 63 (zaq 35 s).1).2.2=true then [63] ++ (zai (zaq 63 (zaq 35 s).1).2.1 zaf).2 else []):List UInt8).length ≤ (zai (zaq 63 (zaq 35 s).1).2.1 zaf).2.length + 1:=by
        split <;> simp
       have z2:((if (zaq 35 s).2.2=true then [35] ++ (zai (zaq 35 s).2.1 zaf).2 else []):List UInt8).length ≤ (zai (zaq 35 s).2.1 zaf).2.length + 1:=by
        split <;> simp
       have z3:(zbk (zb7 (zf7 s)).2.1 (zb7 (zf7 s)).2.2).length=(zb7 (zf7 s)).2.1.length + (zb7 (zf7 s)).2.2.length + 5:=by simp [zbk,zbD]; omega
       omega
section
open Go.RowKit Sx
section
variable {objs:List OB} {K:List OB → AV → Prop}
end
theorem CanD.lens {u:DidU} (h:CanD u):u.meth.length ≤ 4096 ∧ u.id.length ≤ 4096 ∧ u.path.length ≤ 4096 ∧ u.query.length ≤ 16384 ∧ u.frag.length ≤ 16384:=by
 have hl:=h.len
 have h1:=zeA h.query
 have h2:=zeA h.frag
 have h3:=fmtD_len u.meth u.id
 unfold ziL at hl
 simp only [List.length_append] at hl
 omega
end
end Go.Proofs.YtljbdpihiboeaaaGreatDoor
namespace Go.Proofs.YtljbdpihiboeaaaGreatDoor
open Nat renaming reduceAdd → z6, reduceSub → z7, reduceLeDiff → z8, reduceLT → j3, reduceMul → j6, reduceEqDiff → j7
open Int renaming reduceToNat → j8, reduceAdd → j9, reduceSub → x0, reduceMul → x5, reduceNeg → x6, reduceLT → x7, reduceLE → x8, reduceEq → x9, reduceNe → y3
open Go.RowKit Sx
section
variable [Tabs Tryz.prog] {objs:List OB} {K:List OB → AV → Prop}
set_option maxHeartbeats 4000000 in
theorem zji (s:List UInt8) (hs:s.length ≤ 140737488351232) (hk:K objs (.tup [zaA (ze5 s).2,.i .i64 (ze5 s).1])):zad Tryz.prog 115 [.s s] objs K:=by
 have hm:maxLen=2 ^ 63 - 1:=rfl
 refine za1 is_ref07_Parse rfl fun C _ => ?_
 unfold ze5 webO at hk
 by_cases c0:(4096:Int) < ↑s.length
 ·have c0':4096 < s.length:=by omega
  simp only [c0',if_true,znU] at hk
  simp only [c0,c_ref07_Parse,sxZ,z6,z7,z8,j3,j6,j7,j8,j9,x0,x5,x6,x7,x8,x9,y3,reduceCtorEq,↓reduceIte]
  exact hk
 ·have c0':¬ 4096 < s.length:=by omega
  simp only [c0',if_false] at hk
  simp only [c0,c_ref07_Parse,sxZ,z6,z7,z8,j3,j6,j7,j8,j9,x0,x5,x6,x7,x8,x9,y3,reduceCtorEq,↓reduceIte]
  refine zae (zof _ hs ?_)
  have sl:=zhB s
  have op:=zeZ (zav s).2
  have ol:=zfL (zav s).2
  have rl:=zgM (zav s).2
  generalize hp:(zav s).2=p at *
  by_cases c1:(zav s).1=0
  ·simp only [c1,zbu,sxZ,z6,z7,z8,j3,j6,j7,j8,j9,x0,x5,x6,x7,x8,x9,y3,reduceCtorEq,↓reduceIte] at hk ⊢
   have ho:zay p=if p.hs=false then (60,[],0) else if eqL p.scheme zct=false then (60,[],0) else if p.ha=false then (71,[],0) else if (zaq 64 p.auth).2.2=true then (70,[],0) else hpE p.auth:=rfl
   by_cases d1:p.hs=true
   ·simp only [d1,sxZ,z6,z7,z8,j3,j6,j7,j8,j9,x0,x5,x6,x7,x8,x9,y3,reduceCtorEq,↓reduceIte] at ho ⊢
    refine zae (zoD p.scheme zct (by omega) (by decide) ?_)
    by_cases d2:eqL p.scheme zct=true
    ·simp only [d2,sxZ,z6,z7,z8,j3,j6,j7,j8,j9,x0,x5,x6,x7,x8,x9,y3,reduceCtorEq,↓reduceIte] at ho ⊢
     by_cases d3:p.ha=true
     ·simp only [d3,sxZ,z6,z7,z8,j3,j6,j7,j8,j9,x0,x5,x6,x7,x8,x9,y3,reduceCtorEq,↓reduceIte] at ho ⊢
      refine zb6 (zaZ p.auth [64] (by omega) (by decide) ⟨rfl,rfl⟩) ?_
      simp only [sxZ,z6,z7,z8,j3,j6,j7,j8,j9,x0,x5,x6,x7,x8,x9,y3,reduceCtorEq,↓reduceIte]
      have hix:=hasB_idx p.auth 64
      by_cases d4:(zaq 64 p.auth).2.2=true
      ·have d4':=hix.2 d4
       simp only [d4,sxZ,z6,z7,z8,j3,j6,j7,j8,j9,x0,x5,x6,x7,x8,x9,y3,reduceCtorEq,↓reduceIte] at ho
       simp only [d4',sxZ,z6,z7,z8,j3,j6,j7,j8,j9,x0,x5,x6,x7,x8,x9,y3,reduceCtorEq,↓reduceIte]
       rw [ho] at hk
       simp only [zaA,zdc,sxZ,z6,z7,z8,j3,j6,j7,j8,j9,x0,x5,x6,x7,x8,x9,y3,reduceCtorEq,↓reduceIte] at hk
       exact hk
      ·have d4':¬ ((zaz p.auth [64]:Nat):Int) < ((p.auth.length:Nat):Int):=fun h => d4 (hix.1 h)
       simp only [d4,sxZ,z6,z7,z8,j3,j6,j7,j8,j9,x0,x5,x6,x7,x8,x9,y3,reduceCtorEq,↓reduceIte] at ho
       simp only [d4',sxZ,z6,z7,z8,j3,j6,j7,j8,j9,x0,x5,x6,x7,x8,x9,y3,reduceCtorEq,↓reduceIte]
       refine zae (zjo p.auth (by omega) ?_)
       rw [← ho]
       by_cases c2:(zay p).1=0
       ·simp only [c2,zdS,sxZ,z6,z7,z8,j3,j6,j7,j8,j9,x0,x5,x6,x7,x8,x9,y3,reduceCtorEq,↓reduceIte] at hk ⊢
        refine zae (zir p.path zan (by decide) ?_)
        have hr:zb5 p=if (zai p.path zan).1 ≠ 0 then ((zai p.path zan).1,zdc) else if (zai p.query zaf).1 ≠ 0 then ((zai p.query zaf).1,zdc) else if (zai p.frag zaf).1 ≠ 0 then ((zai p.frag zaf).1,zdc) else (0,⟨[],0,zcC (zai p.path zan).2,(zai p.query zaf).2,(zai p.frag zaf).2,p.hq,p.hf⟩):=rfl
        by_cases c3:(zai p.path zan).1=0
        ·simp only [c3,sxZ,z6,z7,z8,j3,j6,j7,j8,j9,x0,x5,x6,x7,x8,x9,y3,reduceCtorEq,↓reduceIte] at hr ⊢
         refine zae (zir p.query zaf (by decide) ?_)
         by_cases c4:(zai p.query zaf).1=0
         ·simp only [c4,sxZ,z6,z7,z8,j3,j6,j7,j8,j9,x0,x5,x6,x7,x8,x9,y3,reduceCtorEq,↓reduceIte] at hr ⊢
          refine zae (zir p.frag zaf (by decide) ?_)
          by_cases c5:(zai p.frag zaf).1=0
          ·simp only [c5,sxZ,z6,z7,z8,j3,j6,j7,j8,j9,x0,x5,x6,x7,x8,x9,y3,reduceCtorEq,↓reduceIte] at hr ⊢
           have n1:=zdA p.path zan
           refine zae (ruDots_k _ (by omega) ?_)
           have hsh:zb9 (zhq (zay p).2.1 (zay p).2.2 (zb5 p).2):=⟨by show (zay p).2.1.length ≤ _; omega,by show _ ≤ (((zay p).2.2:Nat):Int); omega,by show (((zay p).2.2:Nat):Int) ≤ _; omega,by show (zb5 p).2.path.length ≤ _; omega,by show (zb5 p).2.query.length ≤ _; omega,by show (zb5 p).2.frag.length ≤ _; omega⟩
           have hsl:zcC (zai p.path zan).2=if zaS (zai p.path zan).2=[] then [47] else zaS (zai p.path zan).2:=rfl
           have hr1:(zb5 p).1=0:=by rw [hr]
           simp only [hr1,sxZ,z6,z7,z8,j3,j6,j7,j8,j9,x0,x5,x6,x7,x8,x9,y3,reduceCtorEq,↓reduceIte] at hk
           rw [hr] at hk hsh
           have fin:∀ pa:List UInt8,zcC (zai p.path zan).2=pa → zb9 ⟨(zay p).2.1,(zay p).2.2,pa,(zai p.query zaf).2,(zai p.frag zaf).2,p.hq,p.hf⟩ ∧
             ((((4096:Int) < ((zcm ⟨(zay p).2.1,(zay p).2.2,pa,(zai p.query zaf).2,(zai p.frag zaf).2,p.hq,p.hf⟩).length:Nat)) ∧ K objs (.tup [zaA zdc,.i .i64 5])) ∨
             (¬ ((4096:Int) < ((zcm ⟨(zay p).2.1,(zay p).2.2,pa,(zai p.query zaf).2,(zai p.frag zaf).2,p.hq,p.hf⟩).length:Nat)) ∧ K objs (.tup [zaA ⟨(zay p).2.1,(zay p).2.2,pa,(zai p.query zaf).2,(zai p.frag zaf).2,p.hq,p.hf⟩,.i .i64 0]))):=by
            intro pa hpa
            rw [hpa] at hk hsh
            simp only [zhq] at hk hsh
            refine ⟨hsh,?_⟩
            by_cases c7:4096 < (zcm ⟨(zay p).2.1,(zay p).2.2,pa,(zai p.query zaf).2,(zai p.frag zaf).2,p.hq,p.hf⟩).length
            ·rw [webF,if_pos c7] at hk
             exact .inl ⟨by omega,hk⟩
            ·rw [webF,if_neg c7] at hk
             exact .inr ⟨by omega,hk⟩
           clear hk hsh
           by_cases c6:zaS (zai p.path zan).2=[]
           ·rw [if_pos c6] at hsl
            obtain ⟨f1,f2⟩:=fin _ hsl
            simp only [c6,sxZ,z6,z7,z8,j3,j6,j7,j8,j9,x0,x5,x6,x7,x8,x9,y3,reduceCtorEq,↓reduceIte]
            refine zae (zch _ f1 ?_)
            rcases f2 with ⟨f2,f3⟩ | ⟨f2,f3⟩
            ·simp only [f2,sxZ,z6,z7,z8,j3,j6,j7,j8,j9,x0,x5,x6,x7,x8,x9,y3,reduceCtorEq,↓reduceIte]
             exact f3
            ·simp only [f2,sxZ,z6,z7,z8,j3,j6,j7,j8,j9,x0,x5,x6,x7,x8,x9,y3,reduceCtorEq,↓reduceIte]
             exact f3
           ·rw [if_neg c6] at hsl
            obtain ⟨f1,f2⟩:=fin _ hsl
            simp only [c6,sxZ,z6,z7,z8,j3,j6,j7,j8,j9,x0,x5,x6,x7,x8,x9,y3,reduceCtorEq,↓reduceIte]
            refine zae (zch _ f1 ?_)
            rcases f2 with ⟨f2,f3⟩ | ⟨f2,f3⟩
            ·simp only [f2,sxZ,z6,z7,z8,j3,j6,j7,j8,j9,x0,x5,x6,x7,x8,x9,y3,reduceCtorEq,↓reduceIte]
             exact f3
            ·simp only [f2,sxZ,z6,z7,z8,j3,j6,j7,j8,j9,x0,x5,x6,x7,x8,x9,y3,reduceCtorEq,↓reduceIte]
             exact f3
          ·simp only [c5,sxZ,z6,z7,z8,j3,j6,j7,j8,j9,x0,x5,x6,x7,x8,x9,y3,reduceCtorEq,↓reduceIte] at hr ⊢
           rw [hr] at hk
           simp only [c5,zaA,zdc,sxZ,z6,z7,z8,j3,j6,j7,j8,j9,x0,x5,x6,x7,x8,x9,y3,reduceCtorEq,↓reduceIte] at hk
           exact hk
         ·simp only [c4,sxZ,z6,z7,z8,j3,j6,j7,j8,j9,x0,x5,x6,x7,x8,x9,y3,reduceCtorEq,↓reduceIte] at hr ⊢
          rw [hr] at hk
          simp only [c4,zaA,zdc,sxZ,z6,z7,z8,j3,j6,j7,j8,j9,x0,x5,x6,x7,x8,x9,y3,reduceCtorEq,↓reduceIte] at hk
          exact hk
        ·simp only [c3,sxZ,z6,z7,z8,j3,j6,j7,j8,j9,x0,x5,x6,x7,x8,x9,y3,reduceCtorEq,↓reduceIte] at hr ⊢
         rw [hr] at hk
         simp only [c3,zaA,zdc,sxZ,z6,z7,z8,j3,j6,j7,j8,j9,x0,x5,x6,x7,x8,x9,y3,reduceCtorEq,↓reduceIte] at hk
         exact hk
       ·simp only [c2,zdS,zaA,zdc,sxZ,z6,z7,z8,j3,j6,j7,j8,j9,x0,x5,x6,x7,x8,x9,y3,reduceCtorEq,↓reduceIte] at hk ⊢
        exact hk
     ·simp only [d3,sxZ,z6,z7,z8,j3,j6,j7,j8,j9,x0,x5,x6,x7,x8,x9,y3,reduceCtorEq,↓reduceIte] at ho ⊢
      rw [ho] at hk
      simp only [zaA,zdc,sxZ,z6,z7,z8,j3,j6,j7,j8,j9,x0,x5,x6,x7,x8,x9,y3,reduceCtorEq,↓reduceIte] at hk
      exact hk
    ·simp only [d2,sxZ,z6,z7,z8,j3,j6,j7,j8,j9,x0,x5,x6,x7,x8,x9,y3,reduceCtorEq,↓reduceIte] at ho ⊢
     rw [ho] at hk
     simp only [zaA,zdc,sxZ,z6,z7,z8,j3,j6,j7,j8,j9,x0,x5,x6,x7,x8,x9,y3,reduceCtorEq,↓reduceIte] at hk
     exact hk
   ·simp only [d1,sxZ,z6,z7,z8,j3,j6,j7,j8,j9,x0,x5,x6,x7,x8,x9,y3,reduceCtorEq,↓reduceIte] at ho ⊢
    rw [ho] at hk
    simp only [zaA,zdc,sxZ,z6,z7,z8,j3,j6,j7,j8,j9,x0,x5,x6,x7,x8,x9,y3,reduceCtorEq,↓reduceIte] at hk
    exact hk
  ·simp only [c1,zbu,zaA,zdc,sxZ,z6,z7,z8,j3,j6,j7,j8,j9,x0,x5,x6,x7,x8,x9,y3,reduceCtorEq,↓reduceIte] at hk ⊢
   exact hk
end
theorem znR (p:UriP):zb9 (webO p).2:=by
 have op:=zeZ p
 have ol:=zfL p
 have rl:=zgM p
 have hz:zb9 zdc:=⟨by decide,by decide,by decide,by decide,by decide,by decide⟩
 unfold webO webF
 repeat' split
 all_goals first
  | exact hz
  | exact ⟨by show (zay p).2.1.length ≤ _; omega,by show _ ≤ (((zay p).2.2:Nat):Int); omega,by show (((zay p).2.2:Nat):Int) ≤ _; omega,by show (zb5 p).2.path.length ≤ _; omega,by show (zb5 p).2.query.length ≤ _; omega,by show (zb5 p).2.frag.length ≤ _; omega⟩
theorem zlf (s:List UInt8):zb9 (ze5 s).2:=by
 have hz:zb9 zdc:=⟨by decide,by decide,by decide,by decide,by decide,by decide⟩
 unfold ze5
 repeat' split
 ·exact hz
 ·exact hz
 ·exact znR _
theorem zh0 {u:UrlP} (h:zb9 u):(zcm u).length ≤ 5000000:=by
 obtain ⟨h1,h2,h3,h4,h5,h6⟩:=h
 have:=fmtW_len u h2 h3
 omega
theorem zi5 {b:UrlP} (h:zcS b=true):(zcm b).length ≤ 4096:=by
 unfold zcS at h
 simp only [Bool.and_eq_true,decide_eq_true_eq] at h
 have h1:=h.1
 unfold ze5 at h1
 split at h1
 ·cases h1
 ·omega
def eqW (a b:UrlP):Bool:=decide (a.host=b.host) && (decide (a.port=b.port) && (decide (a.path=b.path) && (decide (a.query=b.query) && (decide (a.frag=b.frag) && (a.hq == b.hq && a.hf == b.hf)))))
theorem eqW_is (a b:UrlP):eqW a b=decide (a=b):=by
 obtain ⟨a1,a2,a3,a4,a5,a6,a7⟩:=a
 obtain ⟨b1,b2,b3,b4,b5,b6,b7⟩:=b
 rw [Bool.eq_iff_iff]
 simp [eqW]
theorem eqW_comm (a b:UrlP):eqW a b=decide (b=a):=by
 rw [eqW_is]
 exact decide_eq_decide.2 ⟨fun h => h.symm,fun h => h.symm⟩
section
variable [Tabs Tryz.prog] {objs:List OB} {K:List OB → AV → Prop}
theorem wValid_k [Pow Tryz.prog] (u:UrlP) (hu:zb9 u) (hk:K objs (.b (zcS u))):zad Tryz.prog 223 [zaA u] objs K:=by
 have hm:maxLen=2 ^ 63 - 1:=rfl
 have hl:=zh0 hu
 refine za1 is_weburl_Valid rfl fun C _ => ?_
 simp only [c_weburl_Valid,zaA,sxZ,z6,z7,z8,j3,j6,j7,j8,j9,x0,x5,x6,x7,x8,x9,y3,reduceCtorEq,↓reduceIte]
 refine zae (zdE u hu ?_)
 simp only [sxZ,z6,z7,z8,j3,j6,j7,j8,j9,x0,x5,x6,x7,x8,x9,y3,reduceCtorEq,↓reduceIte]
 refine zae (zlg _ (by omega) ?_)
 unfold zcS at hk
 generalize (ze5 (zcm u)).2=v at hk ⊢
 by_cases h:(ze5 (zcm u)).1=0
 ·simp only [h,zaA,sxZ,z6,z7,z8,j3,j6,j7,j8,j9,x0,x5,x6,x7,x8,x9,y3,reduceCtorEq,↓reduceIte] at hk ⊢
  rw [← eqW_is] at hk
  exact hk
 ·simp only [h,zaA,sxZ,z6,z7,z8,j3,j6,j7,j8,j9,x0,x5,x6,x7,x8,x9,y3,reduceCtorEq,↓reduceIte] at hk ⊢
  exact hk
theorem zoa (u:UrlP) (hu:zb9 u) (hk:K objs (.b (zcS u))):zad Tryz.prog 175 [zaA u] objs K:=by
 have hm:maxLen=2 ^ 63 - 1:=rfl
 have hl:=zh0 hu
 refine za1 is_ref07_Valid rfl fun C _ => ?_
 simp only [c_ref07_Valid,zaA,sxZ,z6,z7,z8,j3,j6,j7,j8,j9,x0,x5,x6,x7,x8,x9,y3,reduceCtorEq,↓reduceIte]
 refine zae (zch u hu ?_)
 simp only [sxZ,z6,z7,z8,j3,j6,j7,j8,j9,x0,x5,x6,x7,x8,x9,y3,reduceCtorEq,↓reduceIte]
 refine zae (zji _ (by omega) ?_)
 unfold zcS at hk
 generalize (ze5 (zcm u)).2=v at hk ⊢
 by_cases h:(ze5 (zcm u)).1=0
 ·simp only [h,zaA,sxZ,z6,z7,z8,j3,j6,j7,j8,j9,x0,x5,x6,x7,x8,x9,y3,reduceCtorEq,↓reduceIte] at hk ⊢
  rw [← eqW_comm] at hk
  exact hk
 ·simp only [h,zaA,sxZ,z6,z7,z8,j3,j6,j7,j8,j9,x0,x5,x6,x7,x8,x9,y3,reduceCtorEq,↓reduceIte] at hk ⊢
  exact hk
end
end Go.Proofs.YtljbdpihiboeaaaGreatDoor
namespace Go.Proofs.YtljbdpihiboeaaaGreatDoor
open Go.RowKit Sx
section
variable [Tabs Tryz.prog] {objs:List OB} {K:List OB → AV → Prop}
end
end Go.Proofs.YtljbdpihiboeaaaGreatDoor
namespace Go.Proofs.YtljbdpihiboeaaaGreatDoor
def jn (l:List (List UInt8)):List UInt8:=l.flatMap fun s => 47 :: s
def zgc (s:List UInt8):Prop:=47 ∉ s ∧ s ≠ [46] ∧ s ≠ [46,46]
theorem zjR:jn []=[]:=rfl
theorem zb4 (s:List UInt8) (l:List (List UInt8)):jn (s :: l)=47 :: (s ++ jn l):=by simp [jn]
theorem zkM (s:List UInt8) (l:List (List UInt8)):jn (l ++ [s])=jn l ++ 47 :: s:=by simp [jn]
theorem zpC (l:List (List UInt8)):jn l=[] ∨ ∃ r,jn l=47 :: r:=by
 cases l with
 | nil => exact .inl rfl
 | cons s l => exact .inr ⟨_,zb4 s l⟩
theorem zhE:∀ a b:List UInt8,47 ∉ a → zfY (a ++ 47 :: b)=b
 | [],b,_ => by rw [List.nil_append,zfY,if_pos rfl]
 | x :: a,b,h => by
  simp only [List.mem_cons,not_or] at h
  rw [List.cons_append,zfY,if_neg (fun e => h.1 e.symm)]
  exact zhE a b h.2
theorem zm4 (l s:List UInt8) (h:47 ∉ s):za6 (l ++ 47 :: s)=l:=by
 unfold za6
 have:(l ++ 47 :: s).reverse=s.reverse ++ 47 :: l.reverse:=by simp
 rw [this,zhE _ _ (by simpa using h),List.reverse_reverse]
theorem zn8 (l:List (List UInt8)) (h:∀ s ∈ l,zgc s):za6 (jn l)=jn l.dropLast:=by
 rcases List.eq_nil_or_concat l with rfl | ⟨l',s,rfl⟩
 ·rfl
 ·rw [List.concat_eq_append,zkM,zm4 _ _ (h s (by simp)).1]; simp
theorem zg5 (s rest:List UInt8) (hs:47 ∉ s) (hr:rest=[] ∨ ∃ r,rest=47 :: r):zat (s ++ rest)=s:=by
 unfold zat
 rcases hr with rfl | ⟨r,rfl⟩
 ·rw [List.append_nil,zbZ 47 s hs]
 ·rw [zaP 47 s r hs]
theorem step_one (rest o:List UInt8) (hr:rest=[] ∨ ∃ r,rest=47 :: r):zax (47 :: ([46] ++ rest)) o=(if rest=[] then [47] else rest,o):=by
 rcases hr with rfl | ⟨r,rfl⟩
 ·simp [zax,Lib.hasPrefix]
 ·simp [zax,Lib.hasPrefix]
theorem step_two (rest o:List UInt8) (hr:rest=[] ∨ ∃ r,rest=47 :: r):zax (47 :: ([46,46] ++ rest)) o=(if rest=[] then [47] else rest,za6 o):=by
 rcases hr with rfl | ⟨r,rfl⟩
 ·simp [zax,Lib.hasPrefix]
 ·simp [zax,Lib.hasPrefix]
theorem zgj {l p:List UInt8} (h:∀ u,p ++ u=l → False):Lib.hasPrefix l p=false:=by
 rw [Bool.eq_false_iff]
 intro e
 obtain ⟨u,hu⟩:=List.isPrefixOf_iff_prefix.1 (show List.isPrefixOf p l=true from e)
 exact h u hu
theorem zii (s rest o:List UInt8) (hs:zgc s) (hr:rest=[] ∨ ∃ r,rest=47 :: r):zax (47 :: (s ++ rest)) o=(rest,o ++ 47 :: s):=by
 obtain ⟨h1,h2,h3⟩:=hs
 have hf:=zg5 s rest h1 hr
 have hseg:zfd (47 :: (s ++ rest))=1 + s.length:=by
  unfold zfd
  rw [List.drop_succ_cons,List.drop_zero,hf]
 have e1:(47 :: (s ++ rest)).drop (1 + s.length)=rest:=by
  rw [Nat.add_comm,List.drop_succ_cons]; simp
 have e2:(47 :: (s ++ rest)).take (1 + s.length)=47 :: s:=by
  rw [Nat.add_comm,List.take_succ_cons]; simp
 have key:zax (47 :: (s ++ rest)) o=((47 :: (s ++ rest)).drop (zfd (47 :: (s ++ rest))),o ++ (47 :: (s ++ rest)).take (zfd (47 :: (s ++ rest)))):=by
  unfold zax
  have p1:Lib.hasPrefix (47 :: (s ++ rest)) [46,46,47]=false:=zgj fun u hu => by simp at hu
  have p2:Lib.hasPrefix (47 :: (s ++ rest)) [46,47]=false:=zgj fun u hu => by simp at hu
  have p7:¬ (47 :: (s ++ rest)=[46] ∨ 47 :: (s ++ rest)=[46,46]):=by simp
  have p3:Lib.hasPrefix (47 :: (s ++ rest)) [47,46,47]=false:=zgj fun u hu => by
   rcases s with _ | ⟨a,_ | ⟨b,s⟩⟩
   ·rcases hr with rfl | ⟨r,rfl⟩ <;> simp at hu
   ·simp only [List.cons_append,List.nil_append,List.cons.injEq,true_and] at hu
    exact h2 (by rw [← hu.1])
   ·simp only [List.cons_append,List.nil_append,List.cons.injEq,true_and] at hu
    exact h1 (by rw [hu.2.1]; simp)
  have p4:¬ 47 :: (s ++ rest)=[47,46]:=by
   rcases s with _ | ⟨a,s⟩
   ·rcases hr with rfl | ⟨r,rfl⟩ <;> simp
   ·intro e
    simp only [List.cons_append,List.cons.injEq,true_and,List.append_eq_nil_iff] at e
    exact h2 (by rw [e.1,e.2.1])
  have p5:Lib.hasPrefix (47 :: (s ++ rest)) [47,46,46,47]=false:=zgj fun u hu => by
   rcases s with _ | ⟨a,_ | ⟨b,_ | ⟨c,s⟩⟩⟩
   ·rcases hr with rfl | ⟨r,rfl⟩ <;> simp at hu
   ·rcases hr with rfl | ⟨r,rfl⟩ <;> simp at hu
   ·simp only [List.cons_append,List.nil_append,List.cons.injEq,true_and] at hu
    exact h3 (by rw [← hu.1,← hu.2.1])
   ·simp only [List.cons_append,List.nil_append,List.cons.injEq,true_and] at hu
    exact h1 (by rw [hu.2.2.1]; simp)
  have p6:¬ 47 :: (s ++ rest)=[47,46,46]:=by
   rcases s with _ | ⟨a,_ | ⟨b,s⟩⟩
   ·rcases hr with rfl | ⟨r,rfl⟩ <;> simp
   ·rcases hr with rfl | ⟨r,rfl⟩ <;> simp
   ·intro e
    simp only [List.cons_append,List.cons.injEq,true_and,List.append_eq_nil_iff] at e
    exact h3 (by rw [e.1,e.2.1,e.2.2.1])
  rw [p1,p2,p3,p5,if_neg Bool.false_ne_true,if_neg Bool.false_ne_true,if_neg Bool.false_ne_true,if_neg p4,if_neg Bool.false_ne_true,if_neg p6,if_neg p7]
 rw [key,hseg,e1,e2]
theorem zkd:∀ (l:List (List UInt8)) (o:List UInt8),(∀ s ∈ l,zgc s) → zcv (jn l) o=o ++ jn l
 | [],o,_ => by rw [zjR,zep,List.append_nil]
 | s :: l,o,h => by
  rw [zb4,zaL (by simp),zii s (jn l) o (h s (by simp)) (zpC l)]
  simp only
  rw [zkd l _ (fun s hs => h s (by simp [hs]))]; simp
end Go.Proofs.YtljbdpihiboeaaaGreatDoor
namespace Go.Proofs.YtljbdpihiboeaaaGreatDoor
theorem zij (p:UriP) (h1:p.hs=true) (h2:zbQ p.scheme=true) (h3:∀ c ∈ p.scheme,zbb c [58,47,63,35]=false) (h4:p.ha=true) (h5:∀ c ∈ p.auth,zbb c [47,63,35]=false)
  (h6:p.path=[] ∨ ∃ r,p.path=47 :: r) (h7:∀ c ∈ p.path,zbb c [63,35]=false) (h8:(35:UInt8) ∉ p.query) (h9:p.hq=false → p.query=[]) (h10:p.hf=false → p.frag=[]) (h11:(zfo p).length ≤ 16384):zav (zfo p)=(0,p):=by
 obtain ⟨sc,au,pa,qu,fr,hs,ha,hq,hf⟩:=p
 simp only at h1 h2 h3 h4 h5 h6 h7 h8 h9 h10
 subst h1 h4
 have n1:∀ c:UInt8,zbb c [58,47,63,35]=true → c ∉ sc:=fun c hc hm => by have:=h3 c hm; rw [hc] at this; cases this
 have n2:∀ c:UInt8,zbb c [47,63,35]=true → c ∉ au:=fun c hc hm => by have:=h5 c hm; rw [hc] at this; cases this
 have n3:∀ c:UInt8,zbb c [63,35]=true → c ∉ pa:=fun c hc hm => by have:=h7 c hm; rw [hc] at this; cases this
 have eb:zfo ⟨sc,au,pa,qu,fr,true,true,hq,hf⟩=sc ++ 58 :: 47 :: 47 :: (au ++ pa ++ (if hq=true then [63] ++ qu else []) ++ (if hf=true then [35] ++ fr else [])):=by
  unfold zfo; simp
 have q35:(35:UInt8) ∉ (if hq=true then [63] ++ qu else []):=by
  split
  ·simp [h8]
  ·simp
 have m35:(35:UInt8) ∉ sc ++ 58 :: 47 :: 47 :: (au ++ pa ++ (if hq=true then [63] ++ qu else [])):=by
  simp only [List.mem_append,List.mem_cons,not_or]
  exact ⟨n1 35 (by decide),by decide,by decide,by decide,⟨n2 35 (by decide),n3 35 (by decide)⟩,q35⟩
 have m63:(63:UInt8) ∉ sc ++ 58 :: 47 :: 47 :: (au ++ pa):=by
  simp only [List.mem_append,List.mem_cons,not_or]
  exact ⟨n1 63 (by decide),by decide,by decide,by decide,n2 63 (by decide),n3 63 (by decide)⟩
 have e35:zaq 35 (zfo ⟨sc,au,pa,qu,fr,true,true,hq,hf⟩)=(sc ++ 58 :: 47 :: 47 :: (au ++ pa ++ (if hq=true then [63] ++ qu else [])),fr,hf):=by
  rw [eb]
  cases hf
  ·have:=h10 rfl; subst this
   have:sc ++ 58 :: 47 :: 47 :: (au ++ pa ++ (if hq=true then [63] ++ qu else []) ++ (if false=true then [35] ++ [] else []))=sc ++ 58 :: 47 :: 47 :: (au ++ pa ++ (if hq=true then [63] ++ qu else [])):=by simp
   rw [this,zbZ 35 _ m35]
  ·have:sc ++ 58 :: 47 :: 47 :: (au ++ pa ++ (if hq=true then [63] ++ qu else []) ++ (if true=true then [35] ++ fr else []))=(sc ++ 58 :: 47 :: 47 :: (au ++ pa ++ (if hq=true then [63] ++ qu else []))) ++ 35 :: fr:=by simp
   rw [this,zaP 35 _ fr m35]
 have e63:zaq 63 (sc ++ 58 :: 47 :: 47 :: (au ++ pa ++ (if hq=true then [63] ++ qu else [])))=(sc ++ 58 :: 47 :: 47 :: (au ++ pa),qu,hq):=by
  cases hq
  ·have:=h9 rfl; subst this
   have:sc ++ 58 :: 47 :: 47 :: (au ++ pa ++ (if false=true then [63] ++ [] else []))=sc ++ 58 :: 47 :: 47 :: (au ++ pa):=by simp
   rw [this,zbZ 63 _ m63]
  ·have:sc ++ 58 :: 47 :: 47 :: (au ++ pa ++ (if true=true then [63] ++ qu else []))=(sc ++ 58 :: 47 :: 47 :: (au ++ pa)) ++ 63 :: qu:=by simp
   rw [this,zaP 63 _ qu m63]
 have ef:zat (sc ++ 58 :: 47 :: 47 :: (au ++ pa))=sc ++ [58]:=by
  unfold zat
  have:sc ++ 58 :: 47 :: 47 :: (au ++ pa)=(sc ++ [58]) ++ 47 :: (47 :: (au ++ pa)):=by simp
  rw [this,zaP 47 _ _ (by simp only [List.mem_append,List.mem_cons,List.not_mem_nil,or_false,not_or]; exact ⟨n1 47 (by decide),by decide⟩)]
 have ec:zaq 58 (sc ++ [58])=(sc,[],true):=zaP 58 sc [] (n1 58 (by decide))
 have ed:(sc ++ 58 :: 47 :: 47 :: (au ++ pa)).drop (sc.length + 1)=47 :: 47 :: (au ++ pa):=by
  have:sc ++ 58 :: 47 :: 47 :: (au ++ pa)=(sc ++ [58]) ++ (47 :: 47 :: (au ++ pa)):=by simp
  rw [this,List.drop_append_of_le_length (by simp)]; simp
 have et:zbK (47 :: 47 :: (au ++ pa))=true:=by simp [zbK,Lib.hasPrefix]
 have ea:zbd (47 :: 47 :: (au ++ pa))=au:=by
  unfold zbd
  rw [if_pos et]
  show zat (au ++ pa)=au
  rcases h6 with rfl | ⟨r,rfl⟩
  ·exact zg5 au [] (n2 47 (by decide)) (.inl rfl)
  ·exact zg5 au _ (n2 47 (by decide)) (.inr ⟨r,rfl⟩)
 have ep:zby (47 :: 47 :: (au ++ pa))=pa:=by
  unfold zby
  rw [if_pos et,ea]
  show (au ++ pa).drop au.length=pa
  simp
 have hb:zcA (zfo ⟨sc,au,pa,qu,fr,true,true,hq,hf⟩)=sc ++ 58 :: 47 :: 47 :: (au ++ pa):=by
  unfold zcA; rw [e35]; simp only; rw [e63]
 have hsc:zbw (zfo ⟨sc,au,pa,qu,fr,true,true,hq,hf⟩)=(sc,[],true):=by
  unfold zbw; rw [hb,ef,ec]
 have hh:zd1 (zfo ⟨sc,au,pa,qu,fr,true,true,hq,hf⟩)=47 :: 47 :: (au ++ pa):=by
  unfold zd1; rw [hsc,hb,if_pos rfl,ed]
 unfold zav
 rw [if_neg (by omega),hsc,h2]
 simp only [Bool.not_true,Bool.and_false,Bool.false_eq_true,if_false,if_true]
 rw [hh,ea,ep,et,e35]
 simp only
 rw [e63]
def Cn (keep l:List UInt8):Prop:=∀ o r,rwS (zb8 keep) 0 (l ++ r) o=rwS (zb8 keep) 0 r (o ++ l)
theorem Cn.nil (keep:List UInt8):Cn keep []:=by intro o r; simp
theorem Cn.append {keep a b:List UInt8} (ha:Cn keep a) (hb:Cn keep b):Cn keep (a ++ b):=by
 intro o r
 rw [List.append_assoc,ha,hb,List.append_assoc]
theorem Cn.one {keep:List UInt8} {c:UInt8} (hp:zaQ c keep=true):Cn keep [c]:=by
 intro o r
 have hc:c ≠ 37:=zjz hp
 exact zdG _ _ _ _ _ hc (zaY rfl hp)
theorem Cn.norm {keep l:List UInt8} (h:Cn keep l) (hl:l.length ≤ 16384):zai l keep=(0,l):=by
 have:=h [] []
 unfold zai ze6
 rw [if_neg (by omega)]
 rw [List.append_nil,List.nil_append,rwS] at this
 exact this
theorem Cn.jn {keep:List UInt8} (h47:zaQ 47 keep=true):∀ l:List (List UInt8),(∀ s ∈ l,Cn keep s) → Cn keep (jn l)
 | [],_ => Cn.nil keep
 | s :: l,h => by
  rw [zb4]
  exact (Cn.one h47).append ((h s (by simp)).append (Cn.jn h47 l fun s hs => h s (by simp [hs])))
theorem pl47:zaQ 47 zan=true:=by decide
theorem esc47:∀ n:Fin 256,(47:UInt8) ∉ zc3 (UInt8.ofNat n.val):=by decide +kernel
theorem zj4 (c:UInt8):(47:UInt8) ∉ zc3 c:=by
 have:=esc47 ⟨c.toNat,UInt8.toNat_lt c⟩
 simpa using this
theorem zo4:∀ (n:Nat) (l out x:List UInt8),l.length ≤ n → rwS (zb8 zan) 0 l out=(0,x) → ∃ s m,x=out ++ (s ++ jn m) ∧ (47 ∉ s ∧ Cn zan s) ∧ (∀ q ∈ m,47 ∉ q ∧ Cn zan q) ∧ (l=[] → s=[] ∧ m=[]) ∧ (∀ t,l=47 :: t → s=[] ∧ m ≠ []):=by
 intro n
 induction n with
 | zero =>
  intro l out x hl h
  obtain rfl:l=[]:=List.eq_nil_of_length_eq_zero (by omega)
  rw [rwS] at h
  obtain rfl:out=x:=by injection h
  exact ⟨[],[],by simp [jn],⟨by simp,Cn.nil _⟩,by simp,fun _ => ⟨rfl,rfl⟩,fun t e => by cases e⟩
 | succ n ih =>
  intro l out x hl h
  cases l with
  | nil =>
   rw [rwS] at h
   obtain rfl:out=x:=by injection h
   exact ⟨[],[],by simp [jn],⟨by simp,Cn.nil _⟩,by simp,fun _ => ⟨rfl,rfl⟩,fun t e => by cases e⟩
  | cons c t =>
   simp only [List.length_cons] at hl
   by_cases hc:c=37
   ·subst hc
    rcases he:zbp (37 :: t) with _ | _
    ·rw [rwS,if_pos rfl,if_neg (by rw [he]; exact Bool.false_ne_true)] at h
     injection h with h1 _
     exact absurd h1 (by decide)
    ·obtain ⟨a,b,r,rfl⟩:=zbI he
     rcases hu:zau (zcl (37 :: a :: b :: r)) with _ | _
     ·rw [rwS,if_pos rfl,if_pos he,zcL hu,if_pos rfl,zbF] at h
      obtain ⟨s,m,e,⟨h1,h1'⟩,h2,_,_⟩:=ih r _ x (by simp at hl; omega) h
      refine ⟨zc3 (zcl (37 :: a :: b :: r)) ++ s,m,by rw [e]; simp,⟨?_,?_⟩,h2,(fun e => by cases e),(fun t e => by cases e)⟩
      ·simp only [List.mem_append,not_or]; exact ⟨zj4 _,h1⟩
      ·exact Cn.append (fun o r' => zff _ _ _ _ _ (zcL hu)) h1'
     ·rw [rwS,if_pos rfl,if_pos he,zaY (by rw [hu]; rfl) (za5 hu),if_pos rfl,zbF] at h
      obtain ⟨s,m,e,⟨h1,h1'⟩,h2,_,_⟩:=ih r _ x (by simp at hl; omega) h
      refine ⟨[zcl (37 :: a :: b :: r)] ++ s,m,by rw [e]; simp,⟨?_,(Cn.one (za5 hu)).append h1'⟩,h2,(fun e => by cases e),(fun t e => by cases e)⟩
      simp only [List.mem_append,List.mem_cons,List.not_mem_nil,or_false,not_or]
      refine ⟨fun e => ?_,h1⟩
      rw [← e] at hu
      exact absurd hu (by decide)
   ·rcases hp:zaQ c zan with _ | _
    ·rw [rwS,if_neg hc,zfx rfl hp,if_neg (by decide)] at h
     injection h with h1 _
     exact absurd h1 (by decide)
    ·rw [rwS,if_neg hc,zaY rfl hp,if_pos rfl] at h
     obtain ⟨s,m,e,⟨h1,h1'⟩,h2,_,_⟩:=ih t _ x (by omega) h
     by_cases h47:c=47
     ·subst h47
      refine ⟨[],s :: m,by rw [e,zb4]; simp,⟨by simp,Cn.nil _⟩,?_,(fun e => by cases e),(fun t e => ⟨rfl,by simp⟩)⟩
      intro q hq
      rcases List.mem_cons.1 hq with rfl | hq
      ·exact ⟨h1,h1'⟩
      ·exact h2 q hq
     ·refine ⟨[c] ++ s,m,by rw [e]; simp,⟨?_,(Cn.one hp).append h1'⟩,h2,(fun e => by cases e),(fun t e => by injection e with e _; exact absurd e h47)⟩
      simp only [List.mem_append,List.mem_cons,List.not_mem_nil,or_false,not_or]
      exact ⟨fun e => h47 e.symm,h1⟩
theorem zqk (P:List UInt8 → Prop) (h0:P []):∀ (n:Nat) (m l:List (List UInt8)),(jn m).length ≤ n → m ≠ [] → (∀ s ∈ m,47 ∉ s ∧ P s) → (∀ s ∈ l,zgc s ∧ P s) → ∃ k,k ≠ [] ∧ (∀ s ∈ k,zgc s ∧ P s) ∧ zcv (jn m) (jn l)=jn k:=by
 intro n
 induction n with
 | zero =>
  intro m l hn hm _ _
  cases m with
  | nil => exact absurd rfl hm
  | cons s m => rw [zb4] at hn; simp at hn
 | succ n ih =>
  intro m l hn hm hmp hl
  cases m with
  | nil => exact absurd rfl hm
  | cons s m =>
   have hdl:∀ s ∈ l.dropLast,zgc s ∧ P s:=fun s hs => hl s (List.dropLast_subset l hs)
   have hs:=hmp s (by simp)
   have hmp':∀ s ∈ m,47 ∉ s ∧ P s:=fun s hs => hmp s (by simp [hs])
   have hr:=zpC m
   have hnil:∀ l:List (List UInt8),(∀ s ∈ l,zgc s ∧ P s) → ∃ k,k ≠ [] ∧ (∀ s ∈ k,zgc s ∧ P s) ∧ zcv [47] (jn l)=jn k:=by
    intro l hl
    refine ⟨l ++ [[]],by simp,?_,?_⟩
    ·intro s hs
     rcases List.mem_append.1 hs with hs | hs
     ·exact hl s hs
     ·simp at hs; subst hs; exact ⟨⟨by simp,by simp,by simp⟩,h0⟩
    ·have:=zii [] [] (jn l) ⟨by simp,by simp,by simp⟩ (.inl rfl)
     rw [zaL (by simp)]
     simp only [List.append_nil] at this
     rw [this,zep,zkM]
   rw [zb4] at hn ⊢
   simp only [List.length_cons,List.length_append] at hn
   rw [zaL (by simp)]
   by_cases h2:s=[46]
   ·subst h2
    rw [step_one (jn m) _ hr]
    by_cases hm0:m=[]
    ·subst hm0
     simp only [zjR,if_true]
     exact hnil l hl
    ·have:jn m ≠ []:=by
      cases m with
      | nil => exact absurd rfl hm0
      | cons q m => rw [zb4]; simp
     simp only [this,if_false]
     exact ih m l (by simp at hn; omega) hm0 hmp' hl
   ·by_cases h3:s=[46,46]
    ·subst h3
     rw [step_two (jn m) _ hr]
     simp only
     rw [zn8 l (fun s hs => (hl s hs).1)]
     by_cases hm0:m=[]
     ·subst hm0
      simp only [zjR,if_true]
      exact hnil _ hdl
     ·have:jn m ≠ []:=by
       cases m with
       | nil => exact absurd rfl hm0
       | cons q m => rw [zb4]; simp
      simp only [this,if_false]
      exact ih m _ (by simp at hn; omega) hm0 hmp' hdl
    ·rw [zii s (jn m) _ ⟨hs.1,h2,h3⟩ hr,← zkM]
     have hl2:∀ s' ∈ l ++ [s],zgc s' ∧ P s':=by
      intro s' hs'
      rcases List.mem_append.1 hs' with hs' | hs'
      ·exact hl s' hs'
      ·simp at hs'; subst hs'; exact ⟨⟨hs.1,h2,h3⟩,hs.2⟩
     by_cases hm0:m=[]
     ·subst hm0
      exact ⟨l ++ [s],by simp,hl2,by rw [zjR,zep]⟩
     ·exact ih m _ (by omega) hm0 hmp' hl2
def zhl (l:List UInt8):Prop:=∃ m,m ≠ [] ∧ (∀ s ∈ m,zgc s ∧ Cn zan s) ∧ l=jn m
theorem zni (l:List UInt8) (hl:l=[] ∨ ∃ t,l=47 :: t) (hn:(zai l zan).1=0):zhl (zcC (zai l zan).2):=by
 have e:zai l zan=(0,(zai l zan).2):=by rw [← hn]
 have hlen:=zeA e
 have hr:rwS (zb8 zan) 0 l []=(0,(zai l zan).2):=by
  have e2:=e
  unfold zai ze6 at e2
  rw [if_neg (by omega)] at e2
  rw [e2]
  unfold zai ze6
  rw [if_neg (by omega)]
 obtain ⟨s,m,k1,k2,k3,k4,k5⟩:=zo4 l.length l [] _ (Nat.le_refl _) hr
 rw [List.nil_append] at k1
 rw [k1]
 rcases hl with rfl | ⟨t,rfl⟩
 ·obtain ⟨rfl,rfl⟩:=k4 rfl
  refine ⟨[[]],by simp,?_,?_⟩
  ·intro q hq
   simp at hq; subst hq
   exact ⟨⟨by simp,by simp,by simp⟩,Cn.nil _⟩
  ·unfold zcC; rfl
 ·obtain ⟨rfl,hm⟩:=k5 t rfl
  rw [List.nil_append]
  obtain ⟨k,q1,q2,q3⟩:=zqk (Cn zan) (Cn.nil _) (jn m).length m [] (Nat.le_refl _) hm k3 (by simp)
  refine ⟨k,q1,q2,?_⟩
  unfold zcC
  have:zaS (jn m)=jn k:=q3
  rw [this,if_neg]
  cases k with
  | nil => exact absurd rfl q1
  | cons a k => rw [zb4]; simp
theorem zhl.form {l:List UInt8} (h:zhl l):∃ r,l=47 :: r:=by
 obtain ⟨m,hm,_,rfl⟩:=h
 cases m with
 | nil => exact absurd rfl hm
 | cons s m => exact ⟨_,zb4 s m⟩
theorem zhl.dots {l:List UInt8} (h:zhl l):zaS l=l:=by
 obtain ⟨m,hm,hs,rfl⟩:=h
 have:=zkd m [] (fun s h => (hs s h).1)
 simpa [zaS] using this
theorem zhl.norm {l:List UInt8} (h:zhl l) (hl:l.length ≤ 16384):zai l zan=(0,l):=by
 obtain ⟨m,hm,hs,rfl⟩:=h
 exact (Cn.jn pl47 m fun s h => (hs s h).2).norm hl
theorem zhl.slash {l:List UInt8} (h:zhl l):zcC l=l:=by
 obtain ⟨r,hr⟩:=h.form
 unfold zcC
 rw [h.dots,if_neg (by rw [hr]; simp)]
end Go.Proofs.YtljbdpihiboeaaaGreatDoor
namespace Go.Proofs.YtljbdpihiboeaaaGreatDoor
open Go.RowKit Sx
theorem zm2 {P:Program} {w w':World} {name:String} {k:IntKind} {zs:List Int} (h:Lib.TabIs P w name k zs) (hk:∀ k,k < w.heap.size → w'.heap[k]? = w.heap[k]?):Lib.TabIs P w' name k zs:=by
 unfold Lib.TabIs World.var? at *
 cases hg:P.globalNamed name with
 | none => simp [hg] at h
 | some g =>
  simp only [hg,Option.bind_some] at h ⊢
  have hlt:g < w.heap.size:=by
   rcases Nat.lt_or_ge g w.heap.size with h' | h'
   ·exact h'
   ·rw [Array.getElem?_eq_none h'] at h; simp at h
  rw [hk g hlt]
  exact h
instance tabsN : Tabs Tryz.prog := ⟨fun w => w.ShapedOpen Tryz.prog ∧ Lib.TabIs Tryz.prog w "internal/strconv.uint64pow10" .u64 Lib.pow10Tab, fun _ _ h hk _ => ⟨zgB h.1 hk, zm2 h.2 hk⟩⟩
instance tabsN_shp:Shp Tryz.prog:=⟨fun _ h => h.1⟩
instance tabsN_pow:Pow Tryz.prog:=⟨fun _ h => h.2⟩
end Go.Proofs.YtljbdpihiboeaaaGreatDoor
namespace Go.Proofs.YtljbdpihiboeaaaGreatDoor
open Go.RowKit Sx
structure CanW (u:UrlP):Prop where
 host:zaK u.host=(0,u.host)
 port:∃ n:Nat,u.port=n ∧ n ≤ 65535 ∧ n ≠ 443
 path:zhl u.path
 query:zai u.query zaf=(0,u.query)
 frag:zai u.frag zaf=(0,u.frag)
 noq:u.hq=false → u.query=[]
 nof:u.hf=false → u.frag=[]
 len:(zcm u).length ≤ 4096
def zdu (u:UrlP):UriP:=⟨zct,ziK u.host u.port,u.path,u.query,u.frag,true,true,u.hq,u.hf⟩
theorem zfQ (u:UrlP):zfo (zdu u)=zcm u:=by
 obtain ⟨h,p,pa,q,f,hq,hf⟩:=u
 unfold zfo zdu zcm zdV zct
 cases hq <;> cases hf <;> simp
theorem qk256:∀ n:Fin 256,(okB zan (UInt8.ofNat n.val)=true → zbb (UInt8.ofNat n.val) [63,35]=false) ∧ (okB zaf (UInt8.ofNat n.val)=true → UInt8.ofNat n.val ≠ 35):=by decide +kernel
theorem zlF (c:UInt8):(okB zan c=true → zbb c [63,35]=false) ∧ (okB zaf c=true → c ≠ 35):=by
 have:=qk256 ⟨c.toNat,UInt8.toNat_lt c⟩
 simpa using this
theorem dg256:∀ n:Fin 256,zak (UInt8.ofNat n.val)=true → zbb (UInt8.ofNat n.val) [47,63,35,64]=false:=by decide +kernel
theorem dg_facts (c:UInt8) (h:zak c=true):zbb c [47,63,35,64]=false:=by
 have:=dg256 ⟨c.toNat,UInt8.toNat_lt c⟩
 simp only [UInt8.ofNat_toNat] at this
 exact this h
theorem zia {h:List UInt8} {n:Nat} (hh:zaK h=(0,h)):∀ c ∈ ziK h n,zbb c [47,63,35,64]=false:=by
 intro c hc
 have hb:∀ c ∈ h,zbb c [47,63,35,64]=false:=by
  intro c hc
  have:=zmc c (zfS (by rw [hh]) c hc)
  unfold zbb at this ⊢
  simp only [List.contains_cons,List.contains_nil,Bool.or_false,Bool.or_eq_false_iff] at this ⊢
  exact ⟨this.2.2.1,this.2.2.2.1,this.2.2.2.2,this.2.1⟩
 unfold ziK at hc
 split at hc
 ·exact hb c hc
 ·rw [ziE] at hc
  simp only [List.mem_append,List.mem_cons,List.not_mem_nil,or_false] at hc
  rcases hc with (hc | hc) | hc
  ·exact hb c hc
  ·subst hc; decide
  ·exact dg_facts c (List.all_eq_true.1 (zk3 n n (Nat.le_refl _)).1 c hc)
theorem zpP {c:UInt8} (h:zbb c [47,63,35,64]=false):zbb c [47,63,35]=false ∧ c ≠ 64:=by
 unfold zbb at h ⊢
 simp only [List.contains_cons,List.contains_nil,Bool.or_false,Bool.or_eq_false_iff] at h ⊢
 refine ⟨⟨h.1,h.2.1,h.2.2.1⟩,?_⟩
 have:=h.2.2.2
 simpa using this
theorem zbY (u:UrlP):u.path.length ≤ (zcm u).length:=by
 unfold zcm zdV
 split <;> simp only [List.length_append] <;> omega
theorem CanW.split {u:UrlP} (h:CanW u):zav (zcm u)=(0,zdu u):=by
 obtain ⟨n,hn,_,_⟩:=h.port
 rw [← zfQ]
 have hl:=h.len
 refine zij (zdu u) rfl (by show zbQ zct=true; decide) (by show ∀ c ∈ zct,_; decide) rfl ?_ ?_ ?_ ?_ h.noq h.nof (by rw [zfQ]; omega)
 ·intro c hc
  have hc':c ∈ ziK u.host u.port:=hc
  rw [hn] at hc'
  exact (zpP (zia h.host c hc')).1
 ·exact .inr h.path.form
 ·intro c hc
  have h3:=zbY u
  have:=List.all_eq_true.1 (zcI (h.path.norm (by omega))) c hc
  exact (zlF c).1 this
 ·intro hm
  have:=List.all_eq_true.1 (zcI h.query) 35 hm
  exact (zlF 35).2 this rfl
theorem CanW.back {u:UrlP} (h:CanW u):ze5 (zcm u)=(0,u):=by
 obtain ⟨n,hn,hn1,hn2⟩:=h.port
 have hl:=h.len
 have hpl:=zbY u
 have ho:zay (zdu u)=(0,u.host,n):=by
  have e1:eqL zct zct=true:=by decide
  have h64:(64:UInt8) ∉ ziK u.host n:=fun hm => (zpP (zia h.host 64 hm)).2 rfl
  unfold zay zdu
  simp only [e1]
  rw [hn,zbZ 64 _ h64]
  simp only
  rw [hp_fmt h.host hn1 hn2]
  simp
 have hr:zb5 (zdu u)=(0,⟨[],0,u.path,u.query,u.frag,u.hq,u.hf⟩):=by
  unfold zb5 zdu
  simp only
  rw [h.path.norm (by omega),h.query,h.frag]
  simp only
  rw [h.path.slash]
  simp
 unfold ze5
 rw [if_neg (by omega),h.split]
 simp only
 unfold webO
 rw [ho,hr]
 simp only
 have hu:zhq u.host n ⟨[],0,u.path,u.query,u.frag,u.hq,u.hf⟩=u:=by
  obtain ⟨a,b,c,d,e,f,g⟩:=u
  simp only at hn
  subst hn; rfl
 rw [hu]
 unfold webF
 rw [if_neg (by omega)]
 simp; omega
theorem CanW.valid {u:UrlP} (h:CanW u):zcS u=true:=by
 unfold zcS
 rw [h.back]; simp
theorem zgy (s:List UInt8) (h:(zav s).2.ha=true):(zav s).2.path=[] ∨ ∃ r,(zav s).2.path=47 :: r:=by
 unfold zav at h ⊢
 split at h
 ·cases h
 ·rename_i h1
  split at h
  ·cases h
  ·rename_i h2
   rw [if_neg h1,if_neg h2]
   simp only at h ⊢
   unfold zby
   rw [if_pos h]
   have ea:zbd (zd1 s)=zat ((zd1 s).drop 2):=by unfold zbd; rw [if_pos h]
   rw [ea]
   generalize (zd1 s).drop 2=l
   unfold zat
   rcases zbo 47 l with ⟨_,h3,_⟩ | ⟨k,_,hk,h3,h4⟩
   ·rw [h3]; left; simp
   ·rw [h3]; right
    have e:(l.take k).length=k:=by rw [List.length_take]; omega
    simp only [e]
    rw [List.drop_eq_getElem_cons hk]
    rw [List.getElem?_eq_getElem hk] at h4
    injection h4 with h4
    exact ⟨_,by rw [h4]⟩
theorem CanW.of {s:List UInt8} {u:UrlP} (h:ze5 s=(0,u)):CanW u:=by
 unfold ze5 at h
 split at h
 ·injection h with h1 _; cases h1
 ·split at h
  ·rename_i h1; injection h with h2 _; exact absurd h2 h1
  ·rename_i h0 h1
   simp only [Decidable.not_not] at h1
   have hj:=zhC s h1
   have hpf:=zgy s
   have hqq:(zav s).2.hq=false → (zav s).2.query=[]:=by
    unfold zav
    split
    ·intro _; rfl
    ·split
     ·intro _; rfl
     ·intro h1; simp only at h1 ⊢; exact ((zca 63 _).2.2 h1).2
   have hff:(zav s).2.hf=false → (zav s).2.frag=[]:=by
    unfold zav
    split
    ·intro _; rfl
    ·split
     ·intro _; rfl
     ·intro h1; simp only at h1 ⊢; exact ((zca 35 _).2.2 h1).2
   generalize (zav s).2=p at *
   unfold webO at h
   split at h
   ·rename_i h2; injection h with h3 _; exact absurd h3 h2
   ·rename_i h2
    simp only [Decidable.not_not] at h2
    split at h
    ·rename_i h3; injection h with h4 _; exact absurd h4 h3
    ·rename_i h3
     simp only [Decidable.not_not] at h3
     unfold webF at h
     split at h
     ·injection h with h4 _; cases h4
     ·rename_i h4
      injection h with _ h
      subst h
      have ho:p.ha=true ∧ hpE p.auth=(0,(zay p).2.1,(zay p).2.2):=by
       unfold zay at h2 ⊢
       split at h2
       ·cases h2
       ·rename_i g1; rw [if_neg g1]
        split at h2
        ·cases h2
        ·rename_i g2; rw [if_neg g2]
         split at h2
         ·cases h2
         ·rename_i g3; rw [if_neg g3]
          split at h2
          ·cases h2
          ·rename_i g4; rw [if_neg g4]
           exact ⟨by simpa using g3,by rw [← h2]⟩
      obtain ⟨k1,k2,k3,_,_⟩:=ziI ho.2
      have hr:(zai p.path zan).1=0 ∧ (zai p.query zaf).1=0 ∧ (zai p.frag zaf).1=0 ∧ (zb5 p).2=⟨[],0,zcC (zai p.path zan).2,(zai p.query zaf).2,(zai p.frag zaf).2,p.hq,p.hf⟩:=by
       unfold zb5 at h3 ⊢
       split at h3
       ·rename_i g; exact absurd h3 g
       ·rename_i g1; rw [if_neg g1]
        split at h3
        ·rename_i g; exact absurd h3 g
        ·rename_i g2; rw [if_neg g2]
         split at h3
         ·rename_i g; exact absurd h3 g
         ·rename_i g3; rw [if_neg g3]
          exact ⟨by simpa using g1,by simpa using g2,by simpa using g3,rfl⟩
      obtain ⟨r1,r2,r3,r4⟩:=hr
      rw [r4] at h4 ⊢
      have e2:zai p.query zaf=(0,(zai p.query zaf).2):=by rw [← r2]
      have e3:zai p.frag zaf=(0,(zai p.frag zaf).2):=by rw [← r3]
      refine ⟨k1,⟨(zay p).2.2,rfl,k2,k3⟩,zni p.path (hpf ho.1) r1,(zbH _ _ _ e2).1,(zbH _ _ _ e3).1,?_,?_,by omega⟩
      ·intro hq
       show (zai p.query zaf).2=[]
       rw [hqq hq]; rfl
      ·intro hf
       show (zai p.frag zaf).2=[]
       rw [hff hf]; rfl
theorem CanW.rel {b u:UrlP} (hb:CanW b) (hu:CanW u):relW b (zcm u)=(0,u):=by
 unfold relW
 rw [hb.valid,hu.split]
 have hres:zgg (zav (zcm b)).2 (zdu u)=zdu u:=by
  unfold zgg
  rw [if_pos (show (zdu u).hs=true from rfl)]
  show ({ zdu u with path:=zaS u.path }:UriP)=zdu u
  rw [hu.path.dots]; rfl
 simp only
 rw [hres,zfQ,hu.back]
 have e1:eqL (zdu u).scheme zct=true:=by show eqL zct zct=true; decide
 rw [e1]; simp
end Go.Proofs.YtljbdpihiboeaaaGreatDoor
namespace Go.Proofs.YtljbdpihiboeaaaGreatDoor
def zec:List UInt8:=[119,101,98]
def zho:List UInt8:=[100,105,100,46,106,115,111,110]
def wkD:List UInt8:=[46,119,101,108,108,45,107,110,111,119,110]
def wkP:List UInt8:=47 :: (wkD ++ 47 :: zho)
def dwA (m i:List UInt8):Int × List UInt8 × Nat :=
 if m ≠ zec then (100,[],0)
 else if (zb7 (zbk m i)).1 ≠ 0 then ((zb7 (zbk m i)).1,[],0)
 else hpE (zaO (zaq 58 i).1).2
def okS (x:List UInt8):Bool:=!(decide ((zaO x).2=[]) || decide ((zaO x).2=[46]) || decide ((zaO x).2=[46,46]))
def segF (x:List UInt8):List UInt8:=47 :: zbU (zaO x).2 []
def zcy (l:List (List UInt8)):List UInt8:=l.flatMap segF
def zfl (l:List (List UInt8)):List UInt8:=if l=[] then wkP else zcy l ++ 47 :: zho
def toU (m i:List UInt8):UrlP:=⟨(dwA m i).2.1,(dwA m i).2.2,zfl (zag 58 i).tail,[],[],false,false⟩
def toE (m i:List UInt8):Int × UrlP :=
 if (dwA m i).1 ≠ 0 then ((dwA m i).1,zdc)
 else if (zag 58 i).tail.all okS=false then (110,zdc)
 else if 4096 < (zcm (toU m i)).length then (5,zdc)
 else (0,toU m i)
def okI (x:List UInt8):Bool:=decide ((zai x []).1=0) && !decide (x=[])
def zkp (x:List UInt8):List UInt8:=58 :: zcN (zai x []).2
def zcW (l:List (List UInt8)):List UInt8:=l.flatMap zkp
def hpI (h:List UInt8) (p:Int):List UInt8:=if p=0 then h else h ++ ([37,51,65] ++ Lib.itoa p)
def zds (u:UrlP):List (List UInt8):=(zag 47 u.path).tail
def zeC (u:UrlP):List UInt8:=hpI u.host u.port ++ (if u.path=wkP then [] else zcW (zds u).dropLast)
def zdo (u:UrlP):Int × List UInt8 × List UInt8 :=
 if zcS u=false then (8,[],[])
 else if u.hq=true ∨ u.hf=true ∨ ¬ (zds u).getLastD []=zho then (6,[],[])
 else if ¬ u.path=wkP ∧ ((zds u).dropLast=[] ∨ (zds u).dropLast.all okI=false) then (110,[],[])
 else if 4096 < (zbk zec (zeC u)).length then (5,[],[])
 else (0,zec,zeC u)
def zeO (m i:List UInt8):Int × List UInt8 × List UInt8:=if (toE m i).1 ≠ 0 then ((toE m i).1,[],[]) else zdo (toE m i).2
def upB (c:UInt8):Bool:=zau c || c == 37
theorem zdj (c:UInt8) (d k:List UInt8):zbU (c :: d) k=(if zaQ c k=true then [c] else zc3 c) ++ zbU d k:=by simp [zbU]
theorem up256:∀ n:Fin 256,(zbj (UInt8.ofNat n.val)=true → zau (UInt8.ofNat n.val)=true) ∧ (zau (UInt8.ofNat n.val)=true → UInt8.ofNat n.val ≠ 37 ∧ UInt8.ofNat n.val ≠ 47):=by decide +kernel
theorem zie (c:UInt8):(zbj c=true → zau c=true) ∧ (zau c=true → c ≠ 37 ∧ c ≠ 47):=by
 have:=up256 ⟨c.toNat,UInt8.toNat_lt c⟩
 simpa using this
theorem zkI (also:List UInt8):∀ (n:Nat) (l out:List UInt8),l.length ≤ n → l.all upB=true → (dcL l).1=0 → rwS (zb8 also) 0 l out=(0,out ++ zbU (dcL l).2 []):=by
 intro n
 induction n with
 | zero =>
  intro l out hl _ _
  obtain rfl:l=[]:=List.eq_nil_of_length_eq_zero (by omega)
  simp [rwS,dcL,zbU]
 | succ n ih =>
  intro l out hl hb hd
  cases l with
  | nil => simp [rwS,dcL,zbU]
  | cons c t =>
   simp only [List.length_cons] at hl
   by_cases hc:c=37
   ·subst hc
    rcases he:zbp (37 :: t) with _ | _
    ·rw [zfV he] at hd; exact absurd hd (by decide)
    ·obtain ⟨a,b,r,rfl⟩:=zbI he
     have hd':(dcL r).1=0:=by rw [← (zd4 he).1]; exact hd
     have hb':r.all upB=true:=by
      simp only [List.all_cons,Bool.and_eq_true] at hb
      exact hb.2.2.2
     rw [(zd4 he).2 hd',zdj,zcE]
     rcases hu:zau (zcl (37 :: a :: b :: r)) with _ | _
     ·rw [rwS,if_pos rfl,if_pos he,zcL hu,if_pos rfl,zbF]
      have:=ih r (out ++ zc3 (zcl (37 :: a :: b :: r))) (by simp at hl; omega) hb' hd'
      show rwS (zb8 also) 0 r _=_
      rw [this]
      simp
     ·rw [rwS,if_pos rfl,if_pos he,zaY (by rw [hu]; rfl) (za5 hu),if_pos rfl,zbF]
      have:=ih r (out ++ [zcl (37 :: a :: b :: r)]) (by simp at hl; omega) hb' hd'
      show rwS (zb8 also) 0 r _=_
      rw [this]
      simp
   ·simp only [List.all_cons,Bool.and_eq_true] at hb
    have hu:zau c=true:=by
     have:=hb.1
     unfold upB at this
     rw [Bool.or_eq_true] at this
     rcases this with h | h
     ·exact h
     ·exact absurd (by simpa using h) hc
    have hd':(dcL t).1=0:=by rw [← (zdB hc).1]; exact hd
    rw [(zdB hc).2 hd',zdj,zcE,hu,if_pos rfl]
    rw [rwS,if_neg hc,zaY rfl (za5 hu),if_pos rfl]
    have:=ih t (out ++ [c]) (by omega) hb.2 hd'
    show rwS (zb8 also) 0 t _=_
    rw [this]
    simp
theorem zcF {l:List UInt8} (hl:l.length ≤ 16384):(zai l []).1=0 ↔ (zaO l).1=0 ∧ l.all upB=true:=by
 constructor
 ·intro h
  have e:zai l []=(0,(zai l []).2):=by rw [← h]
  obtain ⟨a,h1,_⟩:=(zbH _ _ _ e).2.1
  refine ⟨by rw [h1],?_⟩
  rw [List.all_eq_true]
  intro c hc
  have:=List.all_eq_true.1 (zhR e) c hc
  unfold okB at this
  rw [zcE] at this
  unfold upB
  simp only [Bool.or_eq_true] at this ⊢
  rcases this with (h | h) | h
  ·exact .inr h
  ·exact .inl ((zie c).1 h)
  ·exact .inl h
 ·rintro ⟨h1,h2⟩
  rw [zbT hl] at h1
  have:=zkI [] l.length l [] (Nat.le_refl _) h2 h1
  unfold zai ze6
  rw [if_neg (by omega),this]
theorem zgX {l:List UInt8} (h:(zai l []).1=0):(zai l []).2=zbU (zaO l).2 []:=by
 have e:zai l []=(0,(zai l []).2):=by rw [← h]
 have hl:=zeA e
 obtain ⟨h1,h2⟩:=(zcF hl).1 h
 have:=zkI [] l.length l [] (Nat.le_refl _) h2 (by rw [← zbT hl]; exact h1)
 unfold zai ze6
 rw [if_neg (by omega),this,zbT hl]; rfl
theorem zfD:∀ d:List UInt8,zcN (zbU d [])=zbc d
 | [] => rfl
 | c :: d => by
  rw [zdj,zcV,zfD d,zcE,zh2,zcu]
theorem ziT:∀ d:List UInt8,dcL (zbU d [])=(0,d)
 | [] => rfl
 | c :: d => by
  have ih:=ziT d
  rw [zdj,zcE]
  by_cases h:zau c=true
  ·rw [if_pos h]
   have d1:=zdB (c:=c) (t:=zbU d []) ((zie c).2 h).1
   rw [ih] at d1
   have e2:=d1.2 rfl
   show dcL (c :: zbU d [])=_
   have:dcL (c :: zbU d [])=((dcL (c :: zbU d [])).1,(dcL (c :: zbU d [])).2):=rfl
   rw [this,d1.1,e2]
  ·rw [if_neg h]
   have he:=zkY c (zbU d [])
   have d1:=zd4 (a:=zdn (c.toNat / 16)) (b:=zdn (c.toNat % 16)) (r:=zbU d []) he.1
   have e:zc3 c ++ zbU d []=37 :: zdn (c.toNat / 16) :: zdn (c.toNat % 16) :: zbU d []:=rfl
   rw [e]
   rw [ih] at d1
   have e2:=d1.2 rfl
   have hv:zcl (37 :: zdn (c.toNat / 16) :: zdn (c.toNat % 16) :: zbU d [])=c:=he.2
   rw [hv] at e2
   have:dcL (37 :: zdn (c.toNat / 16) :: zdn (c.toNat % 16) :: zbU d [])=((dcL (37 :: zdn (c.toNat / 16) :: zdn (c.toNat % 16) :: zbU d [])).1,(dcL (37 :: zdn (c.toNat / 16) :: zdn (c.toNat % 16) :: zbU d [])).2):=rfl
   rw [this,d1.1,e2]
theorem Cn.enc (keep:List UInt8):∀ d:List UInt8,Cn keep (zbU d [])
 | [] => Cn.nil keep
 | c :: d => by
  rw [zdj,zcE]
  by_cases h:zau c=true
  ·rw [if_pos h]
   exact (Cn.one (za5 h)).append (Cn.enc keep d)
  ·rw [if_neg h]
   exact Cn.append (fun o r' => zff _ _ _ _ _ (zcL (by simpa using h))) (Cn.enc keep d)
theorem zmq:∀ d:List UInt8,(47:UInt8) ∉ zbU d []
 | [] => by simp [zbU]
 | c :: d => by
  rw [zdj,zcE,List.mem_append,not_or]
  refine ⟨?_,zmq d⟩
  by_cases h:zau c=true
  ·rw [if_pos h]
   simpa using fun e => ((zie c).2 h).2 e.symm
  ·rw [if_neg h]; exact zj4 c
theorem zpY (d:List UInt8):d.length ≤ (zbU d []).length:=by
 induction d with
 | nil => simp [zbU]
 | cons c d ih =>
  rw [zdj,List.length_append,List.length_cons]
  split
  ·simp; omega
  ·rw [zeE]; omega
theorem zik {x:List UInt8} (hc:Cn zan x) (hl:x.length ≤ 16384) (hu:x.all upB=true):(zaO x).1=0 ∧ zbU (zaO x).2 []=x:=by
 have hn:=hc.norm hl
 obtain ⟨a,h1,_⟩:=(zbH _ _ _ hn).2.1
 have hd:(zaO x).1=0:=by rw [h1]
 refine ⟨hd,?_⟩
 have h2:=zkI zan x.length x [] (Nat.le_refl _) hu (by rw [← zbT hl]; exact hd)
 have h3:=hc [] []
 simp only [List.append_nil,List.nil_append] at h3 h2
 rw [h2] at h3
 have h4:rwS (zb8 zan) 0 [] x=(0,x):=by cases x <;> rfl
 rw [h4] at h3
 injection h3 with _ h3
 rw [zbT hl]; exact h3
theorem zef:∀ (m:List (List UInt8)),(∀ x ∈ m,(47:UInt8) ∉ x) → zag 47 (jn m)=[] :: m
 | [],_ => rfl
 | x :: m,h => by
  have hx:=h x (by simp)
  rw [zb4,zaE,if_pos rfl]
  congr 1
  have ih:=zef m (fun y hy => h y (by simp [hy]))
  cases m with
  | nil => rw [zjR,List.append_nil,zaU,zbZ 47 x hx]; simp
  | cons y m =>
   rw [zb4] at ih ⊢
   rw [zaE,if_pos rfl] at ih
   injection ih with _ ih
   rw [zaU,zaP 47 x _ hx,if_pos rfl,ih]
theorem ze7 {u:UrlP} (h:zcS u=true):CanW u:=by
 unfold zcS at h
 simp only [Bool.and_eq_true,decide_eq_true_eq] at h
 exact CanW.of (s:=zcm u) (Prod.ext h.1 h.2)
theorem zp1 {m i:List UInt8} {h:List UInt8} {n:Nat} (hd:dwA m i=(0,h,n)):m=zec ∧ idE i=(0,(idE i).2) ∧ (zbk m i).length ≤ 4096 ∧ hpE (zaO (zaq 58 i).1).2=(0,h,n):=by
 unfold dwA at hd
 split at hd
 ·injection hd with h1 _; cases h1
 ·rename_i g1
  simp only [ne_eq,Decidable.not_not] at g1
  split at hd
  ·rename_i g2; injection hd with h1 _; exact absurd h1 g2
  ·rename_i g2
   simp only [ne_eq,Decidable.not_not] at g2
   have e:zb7 (zbk m i)=(0,(zb7 (zbk m i)).2.1,(zb7 (zbk m i)).2.2):=by rw [← g2]
   obtain ⟨k1,l,k2,k3,k4⟩:=zmH e
   refine ⟨g1,?_,k4,hd⟩
   have hml:(zb7 (zbk m i)).2.1=m ∧ l=i:=by
    have hm:zbM m=true:=by rw [g1]; decide
    have h58:∀ {m:List UInt8},zbM m=true → (58:UInt8) ∉ m:=fun hm => by
     unfold zbM at hm
     simp only [Bool.and_eq_true] at hm
     exact zf2 (fun x hx => (zdZ x).1 (List.all_eq_true.1 hm.1 x hx)) (by decide)
    have c1:=zaP 58 m i (h58 hm)
    have c2:=zaP 58 _ l (h58 k1)
    have e1:(zbk m i).drop 4=m ++ 58 :: i:=by simp [zbk,zbD]
    have e2:(zbk (zb7 (zbk m i)).2.1 l).drop 4=(zb7 (zbk m i)).2.1 ++ 58 :: l:=by simp [zbk,zbD]
    rw [← e1,k2,e2,c2] at c1
    injection c1 with c1 c3
    injection c3 with c3 _
    exact ⟨c1,c3⟩
   rw [← hml.2,k3]
theorem zkS {i:List UInt8} (h:idE i=(0,(idE i).2)) (hl:i.length ≤ 16384):(∀ q ∈ zag 58 i,(zaO q).1=0 ∧ q.length ≤ i.length):=by
 obtain ⟨p,ps,hs⟩:=zaG 58 i
 have hp:=zem i p ps hl hs
 intro q hq
 refine ⟨?_,zc0 58 i q hq⟩
 rw [h] at hp
 split at hp
 ·cases hp
 ·rename_i g1
  simp only [Decidable.not_not] at g1
  rw [hs] at hq
  exact g1 q hq
theorem zhb (c:UInt8) (l:List UInt8):(zaq c l).1=(zag c l).headD []:=by
 rw [zaU]
 split
 ·rfl
 ·rename_i h
  exact ((zca c l).2.2 (by simpa using h)).1
theorem cut_mem (c:UInt8) (l:List UInt8):(zaq c l).1 ∈ zag c l:=by
 rw [zhb]
 obtain ⟨p,ps,e⟩:=zaG c l
 rw [e]; simp
theorem ziM {m i:List UInt8} (h1:m=zec) (h2:(zb7 (zbk m i)).1=0):(zaO (zaq 58 i).1).1=0 ∧ (∀ q ∈ zag 58 i,(zaO q).1=0):=by
 have e:zb7 (zbk m i)=(0,(zb7 (zbk m i)).2.1,(zb7 (zbk m i)).2.2):=by rw [← h2]
 have key:idE i=(0,(idE i).2) ∧ (zbk m i).length ≤ 4096:=by
  have hx:dwA m i=((dwA m i).1,(dwA m i).2.1,(dwA m i).2.2):=rfl
  obtain ⟨k1,l,k2,k3,k4⟩:=zmH e
  refine ⟨?_,k4⟩
  have hm:zbM m=true:=by rw [h1]; decide
  have h58:∀ {m:List UInt8},zbM m=true → (58:UInt8) ∉ m:=fun hm => by
   unfold zbM at hm
   simp only [Bool.and_eq_true] at hm
   exact zf2 (fun x hx => (zdZ x).1 (List.all_eq_true.1 hm.1 x hx)) (by decide)
  have c1:=zaP 58 m i (h58 hm)
  have c2:=zaP 58 _ l (h58 k1)
  have e1:(zbk m i).drop 4=m ++ 58 :: i:=by simp [zbk,zbD]
  have e2:(zbk (zb7 (zbk m i)).2.1 l).drop 4=(zb7 (zbk m i)).2.1 ++ 58 :: l:=by simp [zbk,zbD]
  rw [← e1,k2,e2,c2] at c1
  injection c1 with c1 c3
  injection c3 with c3 _
  rw [← c3,k3]
 have hl:i.length ≤ (zbk m i).length:=by simp [zbk]; omega
 have:=zkS key.1 (by omega)
 exact ⟨(this _ (cut_mem 58 i)).1,fun q hq => (this q hq).1⟩
theorem idb256:∀ n:Fin 256,((UInt8.ofNat n.val=46 ∨ lbB (UInt8.ofNat n.val)=true) → idB (UInt8.ofNat n.val)=true) ∧ (zak (UInt8.ofNat n.val)=true → idB (UInt8.ofNat n.val)=true ∧ UInt8.ofNat n.val ≠ 58):=by decide +kernel
theorem zjW (c:UInt8):((c=46 ∨ lbB c=true) → idB c=true) ∧ (zak c=true → idB c=true ∧ c ≠ 58):=by
 have:=idb256 ⟨c.toNat,UInt8.toNat_lt c⟩
 simp only [UInt8.ofNat_toNat] at this
 exact this
theorem zeD:∀ l:List UInt8,(∀ c ∈ l,idB c=true) → zbc l=l
 | [],_ => rfl
 | c :: l,h => by
  rw [zcu,if_pos (h c (by simp)),zeD l (fun x hx => h x (by simp [hx]))]; rfl
theorem zg9 (a b:List UInt8):zbc (a ++ b)=zbc a ++ zbc b:=by simp [zbc]
theorem zeo (l:List UInt8):(zbc l).length ≤ 3 * l.length:=by
 induction l with
 | nil => simp [zbc]
 | cons c l ih =>
  rw [zcu,List.length_append,List.length_cons]
  split
  ·simp; omega
  ·rw [zeE]; omega
theorem zmj {h:List UInt8} {n:Nat} (hh:zaK h=(0,h)):zbc (ziK h n)=hpI h n:=by
 have hb:∀ c ∈ h,idB c=true:=fun c hc => (zjW c).1 (zfS (by rw [hh]) c hc)
 unfold ziK hpI
 by_cases h0:(n:Int)=0
 ·rw [if_pos h0,if_pos h0,zeD h hb]
 ·rw [if_neg h0,if_neg h0,zg9,zg9,zeD h hb,ziE,zeD (Lib.decDigits n) (fun c hc => ((zjW c).2 (List.all_eq_true.1 (zk3 n n (Nat.le_refl _)).1 c hc)).1)]
  have:zbc [58]=[37,51,65]:=by decide
  rw [this]; simp
theorem zpL (h:List UInt8) (p:Int) (h0:-9223372036854775808 ≤ p) (h1:p ≤ 9223372036854775807):(hpI h p).length ≤ h.length + 24:=by
 have:=Lib.itoa_length_le p h0 h1
 unfold hpI
 split
 ·omega
 ·simp only [List.length_append,List.length_cons,List.length_nil]; omega
theorem zgE:∀ l:List (List UInt8),l.all okI=true → zcW l=js (l.map fun x => zbc (zaO x).2)
 | [],_ => rfl
 | x :: l,h => by
  simp only [List.all_cons,Bool.and_eq_true] at h
  have ih:=zgE l h.2
  unfold zcW js at ih ⊢
  rw [List.flatMap_cons,ih,List.map_cons,List.flatMap_cons]
  have hx:=h.1
  unfold okI at hx
  simp only [Bool.and_eq_true,decide_eq_true_eq] at hx
  show zkp x ++ _=(58 :: zbc (zaO x).2) ++ _
  unfold zkp
  rw [zgX hx.1,zfD]
theorem zma {h:List UInt8} (hh:zaK h=(0,h)):h ≠ []:=by
 rintro rfl
 exact absurd hh (by decide)
theorem idE_of {hp:List UInt8} {d:List UInt8} (ds:List (List UInt8)) (h1:hp=zbc d) (h2:hp ≠ []) (h3:∀ q ∈ ds,q ≠ []) (hl:(hp ++ js (ds.map zbc)).length ≤ 16384):idE (hp ++ js (ds.map zbc))=(0,hp ++ js (ds.map zbc)):=by
 subst h1
 have hs:zag 58 (zbc d ++ js (ds.map zbc))=zbc d :: ds.map zbc:=zge _ _ (zdP _) (fun x hx => by
  obtain ⟨q,_,rfl⟩:=List.mem_map.1 hx
  exact zdP _)
 have hlen:∀ q ∈ d :: ds,(zbc q).length ≤ 16384:=by
  intro q hq
  rw [List.length_append] at hl
  rcases List.mem_cons.1 hq with rfl | hq
  ·omega
  ·have:=zfP (ds.map zbc) (zbc q) (List.mem_map_of_mem hq)
   omega
 have hdec:∀ q ∈ d :: ds,zaO (zbc q)=(0,q):=fun q hq => by rw [zbT (hlen q hq),zeG]
 rw [zem _ (zbc d) (ds.map zbc) hl hs]
 have c1:∀ q ∈ zbc d :: ds.map zbc,(zaO q).1=0:=by
  intro q hq
  have:q ∈ (d :: ds).map zbc:=hq
  obtain ⟨q',k1,rfl⟩:=List.mem_map.1 this
  rw [hdec q' k1]
 have c2:(zbc d :: ds.map zbc).all (fun q => q.all ppB)=true:=by
  rw [List.all_eq_true]
  intro q hq
  have:q ∈ (d :: ds).map zbc:=hq
  obtain ⟨q',k1,rfl⟩:=List.mem_map.1 this
  exact zmm _
 have c3:¬ (zbc d :: ds.map zbc).getLastD []=[]:=by
  intro e
  have e2:=zen zbc d ds
  rw [List.map_cons] at e2
  rw [e2,zmn] at e
  rcases List.eq_nil_or_concat ds with rfl | ⟨l',z,rfl⟩
  ·rw [show ([d]:List (List UInt8)).getLastD []=d from rfl] at e
   exact h2 (by rw [e]; rfl)
  ·rw [List.concat_eq_append] at e h3
   have:(d :: (l' ++ [z])).getLastD []=z:=by
    show ((d :: l') ++ [z]).getLastD []=z
    simp only [List.getLastD_eq_getLast?,List.getLast?_append,List.getLast?_singleton]; rfl
   rw [this] at e
   exact h3 z (by simp) e
 rw [if_neg (by simpa using c1),if_neg (by rw [c2]; simp),if_neg c3]
 have e1:zbE (zbc d)=zbc d:=by unfold zbE; rw [hdec d (by simp)]
 have e2:jnc (ds.map zbc)=js (ds.map zbc):=by
  rw [zjQ,List.map_map]
  congr 1
  apply List.map_congr_left
  intro q hq
  show zbE (zbc q)=zbc q
  unfold zbE; rw [hdec q (by simp [hq])]
 rw [e1,e2]
theorem zi7 {m:List (List UInt8)} (hm:m ≠ []) {z:List UInt8} (h:m.getLastD []=z):m=m.dropLast ++ [z]:=by
 rcases List.eq_nil_or_concat m with rfl | ⟨l',y,rfl⟩
 ·exact absurd rfl hm
 ·rw [List.concat_eq_append] at h ⊢
  have:(l' ++ [y]).getLastD []=y:=by simp [List.getLastD_eq_getLast?]
  rw [this] at h
  subst h
  simp
theorem zek (a b:List (List UInt8)):jn (a ++ b)=jn a ++ jn b:=by simp [jn]
theorem znQ {l:List (List UInt8)}:zfl l=(if l=[] then wkP else zcy l ++ 47 :: zho):=rfl
theorem from_to {u:UrlP} {i:List UInt8} (h:zdo u=(0,zec,i)):toE zec i=(0,u):=by
 unfold zdo at h
 split at h
 ·cases h
 ·rename_i g1
  simp only [Bool.not_eq_false] at g1
  split at h
  ·cases h
  ·rename_i g2
   simp only [not_or,Bool.not_eq_true,Decidable.not_not] at g2
   obtain ⟨gq,gf,gl⟩:=g2
   split at h
   ·cases h
   ·rename_i g3
    split at h
    ·cases h
    ·rename_i g4
     injection h with _ h
     injection h with _ h
     subst h
     have hc:=ze7 g1
     obtain ⟨n,hn,hn1,hn2⟩:=hc.port
     obtain ⟨m,hm,hms,hp⟩:=hc.path
     have hsp:zds u=m:=by
      unfold zds
      rw [hp,zef m (fun x hx => (hms x hx).1.1)]; rfl
     rw [hsp] at gl g3
     have hml:=zi7 hm gl
     have hplen:∀ x ∈ m,x.length ≤ 4096:=by
      intro x hx
      have h1:=zbY u
      have h2:=hc.len
      have h3:x.length ≤ (jn m).length:=by
       obtain ⟨a,b,rfl⟩:=List.append_of_mem hx
       rw [zek,zb4]; simp; omega
      rw [hp] at h1
      omega
     have hE:=zmj (h:=u.host) (n:=n) hc.host
     have key:∃ segs:List (List UInt8),zeC u=hpI u.host n ++ js ((segs.map fun x => (zaO x).2).map zbc) ∧ segs.all okI=true ∧ (∀ x ∈ segs,x ∈ m) ∧ zfl (segs.map fun x => zbc (zaO x).2)=u.path:=by
      by_cases hw:u.path=wkP
      ·refine ⟨[],?_,rfl,by simp,?_⟩
       ·unfold zeC; rw [if_pos hw,hn]; rfl
       ·rw [hw]; rfl
      ·have g3':¬ m.dropLast=[] ∧ m.dropLast.all okI=true:=by
        refine ⟨fun e => g3 ⟨hw,.inl e⟩,?_⟩
        cases e:m.dropLast.all okI with
        | true => rfl
        | false => exact absurd ⟨hw,.inr e⟩ g3
       refine ⟨m.dropLast,?_,g3'.2,fun x hx => List.dropLast_subset m hx,?_⟩
       ·unfold zeC
        rw [if_neg hw,hn,hsp,zgE _ g3'.2,List.map_map]; rfl
       ·rw [znQ,if_neg (by rw [List.map_eq_nil_iff]; exact g3'.1),hp]
        conv => rhs; rw [hml,zek]
        have:∀ l:List (List UInt8),l.all okI=true → (∀ x ∈ l,x ∈ m) → zcy (l.map fun x => zbc (zaO x).2)=jn l:=by
         intro l
         induction l with
         | nil => intro _ _; rfl
         | cons x l ih =>
          intro ha hb
          simp only [List.all_cons,Bool.and_eq_true] at ha
          have ih:=ih ha.2 (fun y hy => hb y (by simp [hy]))
          have hx:=ha.1
          unfold okI at hx
          simp only [Bool.and_eq_true,decide_eq_true_eq] at hx
          have hxl:=hplen x (hb x (by simp))
          have hup:=((zcF (l:=x) (by omega)).1 hx.1).2
          have hse:=(zik (hms x (hb x (by simp))).2 (by omega) hup).2
          unfold zcy at ih ⊢
          rw [List.map_cons,List.flatMap_cons,ih,zb4]
          unfold segF
          have hel:(zbc (zaO x).2).length ≤ 16384:=by
           have k1:=zeo (zaO x).2
           have k2:=zpY (zaO x).2
           rw [hse] at k2
           omega
          rw [zbT hel,zeG]
          simp only
          rw [hse]; rfl
        rw [this m.dropLast g3'.2 (fun x hx => List.dropLast_subset m hx)]
        simp [jn]
     obtain ⟨segs,hid,hok,hmem,hpath⟩:=key
     have hdn:∀ x ∈ segs,(zaO x).2 ≠ [] ∧ zbU (zaO x).2 []=x ∧ x.length ≤ 4096:=by
      intro x hx
      have h1:=List.all_eq_true.1 hok x hx
      unfold okI at h1
      simp only [Bool.and_eq_true,decide_eq_true_eq,Bool.not_eq_true',decide_eq_false_iff_not] at h1
      have hxl:=hplen x (hmem x hx)
      have hup:=((zcF (l:=x) (by omega)).1 h1.1).2
      have hse:=(zik (hms x (hmem x hx)).2 (by omega) hup).2
      refine ⟨fun e => h1.2 ?_,hse,hxl⟩
      rw [e] at hse
      rw [← hse]; rfl
     have hil:(zeC u).length ≤ 4096:=by
      have:(zbk zec (zeC u)).length=(zeC u).length + 8:=by simp [zbk,zbD,zec]
      omega
     have hne:hpI u.host n ≠ []:=by
      have:=zma hc.host
      unfold hpI
      split
      ·exact this
      ·simp [this]
     have hie:idE (zeC u)=(0,zeC u):=by
      rw [hid]
      refine idE_of (d:=ziK u.host n) _ hE.symm hne ?_ (by rw [← hid]; omega)
      intro q hq
      obtain ⟨x,hx,rfl⟩:=List.mem_map.1 hq
      exact (hdn x hx).1
     have hdid:zb7 (zbk zec (zeC u))=(0,zec,zeC u):=zk1 (by decide) hie (by omega)
     have h58:(58:UInt8) ∉ hpI u.host n:=by rw [← hE]; exact zdP _
     have hsplit:zag 58 (zeC u)=hpI u.host n :: (segs.map fun x => (zaO x).2).map zbc:=by
      rw [hid]
      exact zge _ _ h58 (fun x hx => by
       obtain ⟨q,_,rfl⟩:=List.mem_map.1 hx
       exact zdP _)
     have hdw:dwA zec (zeC u)=(0,u.host,n):=by
      unfold dwA
      rw [if_neg (by simp),hdid,if_neg (by simp),zhb,hsplit]
      show hpE (zaO (hpI u.host n)).2=_
      have hl2:(hpI u.host n).length ≤ 16384:=by
       rw [hid,List.length_append] at hil
       omega
      rw [zbT hl2,← hE,zeG]
      exact hp_fmt hc.host hn1 hn2
     have htl:(zag 58 (zeC u)).tail=segs.map fun x => zbc (zaO x).2:=by
      rw [hsplit,List.tail_cons,List.map_map]; rfl
     have hU:toU zec (zeC u)=u:=by
      unfold toU
      rw [hdw,htl,hpath]
      have e1:=hc.noq gq
      have e2:=hc.nof gf
      cases u
      simp only at hn gq gf e1 e2 ⊢
      rw [hn,gq,gf,e1,e2]
     have hall:(zag 58 (zeC u)).tail.all okS=true:=by
      rw [htl,List.all_map,List.all_eq_true]
      intro x hx
      obtain ⟨k1,k2,k3⟩:=hdn x hx
      show okS (zbc (zaO x).2)=true
      have hel:(zbc (zaO x).2).length ≤ 16384:=by
       have k4:=zeo (zaO x).2
       have k5:=zpY (zaO x).2
       rw [k2] at k5
       omega
      unfold okS
      rw [zbT hel,zeG]
      simp only
      have hs:=(hms x (hmem x hx)).1
      have n1:¬ (zaO x).2=[46]:=fun e => hs.2.1 (by rw [← k2,e]; decide)
      have n2:¬ (zaO x).2=[46,46]:=fun e => hs.2.2 (by rw [← k2,e]; decide)
      simp [k1,n1,n2]
     have hlen:=hc.len
     unfold toE
     rw [hdw,hall,hU,if_neg (by simp),if_neg (by simp),if_neg (by omega)]
theorem ziy:zgc wkD ∧ zgc zho:=by
 refine ⟨⟨by decide,by decide,by decide⟩,⟨by decide,by decide,by decide⟩⟩
theorem cn_wk:Cn zan wkD ∧ Cn zan zho:=by
 have e1:zbU wkD []=wkD:=by decide
 have e2:zbU zho []=zho:=by decide
 exact ⟨by have:=Cn.enc zan wkD; rwa [e1] at this,by have:=Cn.enc zan zho; rwa [e2] at this⟩
theorem segsF_jn (l:List (List UInt8)):zcy l=jn (l.map fun x => zbU (zaO x).2 []):=by
 unfold zcy jn segF
 rw [List.flatMap_map]
theorem zli {m i:List UInt8} {u:UrlP} (h:toE m i=(0,u)):CanW u ∧ u.hq=false ∧ u.hf=false ∧ dwA m i=(0,u.host,(dwA m i).2.2) ∧ u.port=(dwA m i).2.2 ∧ u=toU m i:=by
 unfold toE at h
 split at h
 ·rename_i g; injection h with h1 _; exact absurd h1 g
 ·rename_i g1
  simp only [Decidable.not_not] at g1
  split at h
  ·cases h
  ·rename_i g2
   simp only [Bool.not_eq_false] at g2
   split at h
   ·cases h
   ·rename_i g3
    injection h with _ h
    subst h
    have hd:dwA m i=(0,(dwA m i).2.1,(dwA m i).2.2):=by rw [← g1]
    obtain ⟨k1,k2,k3,k4⟩:=zp1 hd
    obtain ⟨a1,a2,a3,_,_⟩:=ziI k4
    refine ⟨⟨a1,⟨_,rfl,a2,a3⟩,?_,?_,?_,fun _ => rfl,fun _ => rfl,by omega⟩,rfl,rfl,hd,rfl,rfl⟩
    ·show zhl (zfl (zag 58 i).tail)
     rw [znQ]
     by_cases ht:(zag 58 i).tail=[]
     ·rw [if_pos ht]
      refine ⟨[wkD,zho],by simp,?_,by decide⟩
      intro s hs
      simp only [List.mem_cons,List.not_mem_nil,or_false] at hs
      rcases hs with rfl | rfl
      ·exact ⟨ziy.1,cn_wk.1⟩
      ·exact ⟨ziy.2,cn_wk.2⟩
     ·rw [if_neg ht]
      refine ⟨((zag 58 i).tail.map fun x => zbU (zaO x).2 []) ++ [zho],by simp,?_,?_⟩
      ·intro s hs
       rcases List.mem_append.1 hs with hs | hs
       ·obtain ⟨x,hx,rfl⟩:=List.mem_map.1 hs
        have:=List.all_eq_true.1 g2 x hx
        unfold okS at this
        simp only [Bool.not_eq_true',Bool.or_eq_false_iff,decide_eq_false_iff_not] at this
        refine ⟨⟨zmq _,fun e => this.1.2 ?_,fun e => this.2 ?_⟩,Cn.enc _ _⟩
        ·have h1:=ziT (zaO x).2
         rw [e] at h1
         exact congrArg Prod.snd (h1.symm.trans (by decide:dcL [46]=(0,[46])))
        ·have h1:=ziT (zaO x).2
         rw [e] at h1
         exact congrArg Prod.snd (h1.symm.trans (by decide:dcL [46,46]=(0,[46,46])))
       ·simp only [List.mem_cons,List.not_mem_nil,or_false] at hs
        subst hs
        exact ⟨ziy.2,cn_wk.2⟩
      ·rw [segsF_jn,zek]; simp [jn]
    ·show zai [] zaf=(0,[]); decide
    ·show zai [] zaf=(0,[]); decide
theorem zmg {u:UrlP} {r:List UInt8 × List UInt8} (h:zdo u=(0,r)):r.1=zec ∧ zdo u=(0,zec,r.2) ∧ r.2=zeC u:=by
 have h':=h
 unfold zdo at h
 split at h
 ·cases h
 ·split at h
  ·cases h
  ·split at h
   ·cases h
   ·split at h
    ·cases h
    ·injection h with _ h
     subst h
     exact ⟨rfl,h',rfl⟩
theorem from_err {u:UrlP} (h:(zdo u).1 ≠ 0):(zdo u).2=([],[]):=by
 unfold zdo at h ⊢
 split
 ·rfl
 ·rename_i g1; rw [if_neg g1] at h
  split
  ·rfl
  ·rename_i g2; rw [if_neg g2] at h
   split
   ·rfl
   ·rename_i g3; rw [if_neg g3] at h
    split
    ·rfl
    ·rename_i g4; rw [if_neg g4] at h; exact absurd rfl h
theorem to_err {m i:List UInt8} (h:(toE m i).1 ≠ 0):(toE m i).2=zdc:=by
 unfold toE at h ⊢
 split
 ·rfl
 ·rename_i g1; rw [if_neg g1] at h
  split
  ·rfl
  ·rename_i g2; rw [if_neg g2] at h
   split
   ·rfl
   ·rename_i g3; rw [if_neg g3] at h; exact absurd rfl h
theorem can_ok {m i:List UInt8} {r:List UInt8 × List UInt8} (h:zeO m i=(0,r)):toE r.1 r.2=(0,(toE m i).2) ∧ zdo (toE m i).2=(0,r) ∧ zeO r.1 r.2=(0,r) ∧ (toE m i).1=0 ∧ r.1=zec:=by
 unfold zeO at h
 split at h
 ·rename_i g; injection h with h1 _; exact absurd h1 g
 ·rename_i g
  simp only [Decidable.not_not] at g
  obtain ⟨k1,k2,_⟩:=zmg h
  have h3:=from_to k2
  have h4:toE r.1 r.2=(0,(toE m i).2):=by rw [k1]; exact h3
  refine ⟨h4,h,?_,g,k1⟩
  unfold zeO
  rw [h4,if_neg (by simp)]
  exact h
theorem rwD_len:∀ (n:Nat) (l o:List UInt8),l.length ≤ n → (rwS zcd 0 l o).2.length ≤ o.length + l.length:=by
 intro n
 induction n with
 | zero =>
  intro l o hl
  obtain rfl:l=[]:=List.eq_nil_of_length_eq_zero (by omega)
  simp [rwS]
 | succ n ih =>
  intro l o hl
  cases l with
  | nil => simp [rwS]
  | cons c t =>
   simp only [List.length_cons] at hl
   by_cases hc:c=37
   ·rcases he:zbp (c :: t) with _ | _
    ·rw [rwS,if_pos hc,if_neg (by rw [he]; simp)]; simp
    ·obtain ⟨a,b,r,rfl⟩:=zbI he
     rw [zoe hc a b r rfl he]
     have:=ih r (o ++ [zcl (c :: a :: b :: r)]) (by simp at hl; omega)
     simp at this ⊢; omega
   ·rw [zod hc]
    have:=ih t (o ++ [c]) (by omega)
    simp at this ⊢; omega
theorem zc4 (l:List UInt8):(zaO l).2.length ≤ l.length:=by
 unfold zaO ze6
 split
 ·simp
 ·have h:=rwD_len l.length l [] (Nat.le_refl _)
  simpa using h
end Go.Proofs.YtljbdpihiboeaaaGreatDoor
namespace Go.Proofs.YtljbdpihiboeaaaGreatDoor
open Nat renaming reduceAdd → z6, reduceSub → z7, reduceLeDiff → z8, reduceLT → j3, reduceMul → j6, reduceEqDiff → j7
open Int renaming reduceToNat → j8, reduceAdd → j9, reduceSub → x0, reduceMul → x5, reduceNeg → x6, reduceLT → x7, reduceLE → x8, reduceEq → x9, reduceNe → y3
open Go.RowKit Sx
set_option maxHeartbeats 1000000 in
theorem zhw (b:Nat) (w:World) (h0:w.cell? ⟨b,0,none⟩=some (.pointer (some ⟨b,0,none⟩))) :
  Calls Tryz.prog 264 #[.pointer (some ⟨b,0,none⟩)] w fun e w' => e=.returned (.tuple #[]) ∧ w'=w:=by
 obtain ⟨j,hj,_⟩:=Option.map_eq_some_iff.1 (show ((Tryz.prog).info? 216).map (·.size)=some 2 by kernel_rfl)
 have t1:(Tryz.prog).underlying 214=some (.pointer 216):=by kernel_rfl
 go_enter Tryz.func264,Tryz.ntmps264
 go_wp2
 rw [Lib.run_neq_ptr_same w _ t1 hj]
 go_wp2
 go_end0
 exact ⟨rfl,rfl⟩
set_option maxHeartbeats 1000000 in
theorem zhd (T:TypeId) (b:Nat) (w:World) (h0:w.cell? ⟨b,0,none⟩=some (.pointer none)) (hsh:w.shape? b=some (T,2)) (hfz:w.frozen? ⟨b,0,none⟩=false) (hT:liesAt Tryz.prog (Tryz.prog).depth T (2 / (Tryz.prog).cellsOf T) 0 216 1=true) :
  Calls Tryz.prog 264 #[.pointer (some ⟨b,0,none⟩)] w fun e w' => e=.returned (.tuple #[]) ∧ w'=w.setCell ⟨b,0,none⟩ (.pointer (some ⟨b,0,none⟩)):=by
 obtain ⟨j,hj,hjs⟩:=Option.map_eq_some_iff.1 (show ((Tryz.prog).info? 216).map (·.size)=some 2 by kernel_rfl)
 have t1:(Tryz.prog).underlying 214=some (.pointer 216):=by kernel_rfl
 have t2:(Tryz.prog).underlying 260=some .unsafePointer:=by kernel_rfl
 go_enter Tryz.func264,Tryz.ntmps264
 go_wp2
 rw [Lib.run_to_unsafe w ⟨b,0,none⟩ t1 t2 hj (by rw [hjs]; decide) hsh (Nat.zero_lt_succ 1)]
 simp only [Result.andThen]
 rw [Oper.upon_value]
 go_wp2
 rw [run_callFunc_extern Tryz.func269 (by kernel_rfl) (by kernel_rfl) (by kernel_rfl) (e:=Extern.AbiNoEscape.same) (by kernel_rfl)]
 rw [Lib.run_noEscape]
 simp only [Result.andThen]
 rw [Oper.upon_value]
 go_wp2
 rw [Lib.run_from_unsafe w ⟨b,0,none⟩ t2 t1 hj hsh hT]
 simp only [Result.andThen]
 rw [Oper.upon_value]
 go_wp2
 go_end0
 exact ⟨rfl,rfl⟩
theorem zcB {α:Type} {l:List α} {b:Nat} {x:α} (h:l[b]? = some x):b < l.length:=by
 rcases Nat.lt_or_ge b l.length with h0 | h0
 ·exact h0
 ·rw [List.getElem?_eq_none h0] at h; cases h
theorem set_same {α:Type} {l:List α} {b:Nat} {x:α} (h:l[b]? = some x):l.set b x=l:=by
 apply List.ext_getElem?
 intro i
 rw [List.getElem?_set]
 split
 ·rename_i e; subst e; rw [if_pos (zcB h),h]
 ·rfl
theorem MemOk.kill {objs:List OB} {G:Gh} {I:Imm} {w w':World} (h:MemOk G I objs w) (r:Nat) {row:Option Nat} (hrow:∀ k,row=some k → G.own r=some k) (hg:w.grownBy w' row):MemOk G I (objs.set r .dead) w':=by
 have hne:∀ b g,b ≠ r → G.own b=some g → some g ≠ row:=fun b g hb h1 e => hb (h.inj b r g h1 (hrow g e.symm))
 have hold:∀ (b:Nat) ob,(objs.set r .dead)[b]? = some ob → (ob=.dead ∨ (b ≠ r ∧ objs[b]? = some ob)):=by
  intro b ob hb
  rw [List.getElem?_set] at hb
  split at hb
  ·split at hb
   ·injection hb with hb; exact .inl hb.symm
   ·cases hb
  ·rename_i e; exact .inr ⟨fun e' => e e'.symm,hb⟩
 refine ⟨fun g o v hi => ?_,fun b T cs hb => ?_,fun b E sz gen n xs hb => ?_,fun b es hb => ?_,h.inj,fun b g hb => Nat.lt_of_lt_of_le (h.lt b g hb) hg.size,h.apart,fun b hb => h.fresh b (by simpa using hb)⟩
 ·rw [← h.imm g o v hi]
  exact zeI (hg.block g (World.block_lt_of_cell? (h:=h.imm g o v hi)) (fun e => h.apart r g o v (hrow g e.symm) hi))
 ·rcases hold b _ hb with h1 | ⟨h1,h2⟩
  ·cases h1
  ·obtain ⟨g,ys,k1,k2,k3⟩:=h.box b T cs h2
   exact ⟨g,ys,k1,(hg.block g (h.lt b g (zaC k1)) (hne b g h1 (zaC k1))).trans k2,k3⟩
 ·rcases hold b _ hb with h1 | ⟨h1,h2⟩
  ·cases h1
  ·obtain ⟨v,ys,k1,k2,k3,k4,k5⟩:=h.row b E sz gen n xs h2
   refine ⟨v,ys,k1,World.ownsRow.kept k2 hg ?_,k3,k4,k5⟩
   rcases hv:v.ownBlock with _ | g
   ·exact .inl rfl
   ·have:=hne b g h1 (by rw [zb1 k5 k1,hv])
    first | exact .inr this | exact .inr (fun e => this e.symm)
 ·rcases hold b _ hb with h1 | ⟨h1,h2⟩
  ·cases h1
  ·obtain ⟨g,en,ck,k1,k2,k3⟩:=h.map b es h2
   exact ⟨g,en,ck,k1,(hg.block g (h.lt b g (zaC k1)) (hne b g h1 (zaC k1))).trans k2,k3⟩
section
variable [Tabs Tryz.prog] {objs:List OB} {K:List OB → AV → Prop}
def BT (T:TypeId):Prop:=liesAt Tryz.prog (Tryz.prog).depth T (2 / (Tryz.prog).cellsOf T) 0 216 1=true
theorem zhc (T:TypeId) (b:Nat) (x y:AV) (hT:BT T) (hb:objs[b]? = some (.box T [x,y])) (hx:x=.o (.pointer none) ∨ x=.p b 0) (hk:K (objs.set b (.box T [.p b 0,y])) (.tup [])):zad Tryz.prog 264 [.p b 0] objs K:=by
 intro C _ G I w hin hm ys hd
 simp only [zao] at hd
 obtain ⟨v,_,rfl,hv,rfl⟩:=hd
 simp only [Den] at hv
 obtain ⟨g,hg,rfl⟩:=hv
 obtain ⟨g',zs,k1,k2,k3,k4⟩:=hm.box b T _ hb
 obtain rfl:g=g':=Option.some.inj (hg.symm.trans k1)
 simp only [zao] at k3
 obtain ⟨z1,_,rfl,d1,z2,_,rfl,d2,rfl⟩:=k3
 have hcell:w.cell? ⟨g,0,none⟩=some z1:=by rw [cell_of_row w g 0 _ T (0,0) k2]; rfl
 rcases hx with rfl | rfl
 ·simp only [Den] at d1; subst d1
  refine (zhd T g w hcell (by simp [World.shape?,k2]) (by simp [World.frozen?,k2]) hT).mono ?_
  rintro e w' ⟨rfl,rfl⟩
  obtain ⟨s1,s2⟩:=setbox hin hm b g 0 T [.o (.pointer none),y] [.p b 0] [.pointer (some ⟨g,0,none⟩)] hb hg (zao.cons (by simp only [Den]; exact ⟨g,hg,rfl⟩) zao.nil) (by simp [Value.oneCell']) (by simp)
  exact ⟨_,_,.tup [],G,I,rfl,hk,Gh.le.refl G,Imm.le.refl I,s1,s2,by simp only [Den]; exact ⟨[],rfl,zao.nil⟩⟩
 ·simp only [Den] at d1
  obtain ⟨g2,e2,rfl⟩:=d1
  obtain rfl:g=g2:=Option.some.inj (hg.symm.trans e2)
  refine (zhw g w hcell).mono ?_
  rintro e w' ⟨rfl,rfl⟩
  rw [set_same hb] at hk
  exact ⟨_,objs,.tup [],G,I,rfl,hk,Gh.le.refl G,Imm.le.refl I,hin,hm,by simp only [Den]; exact ⟨[],rfl,zao.nil⟩⟩
end
theorem zeF (w:World):w.grownBy w.drew none:=by
 have h:=Below.drew (Below.refl w.heap.size w)
 exact ⟨h.os,h.tape,h.output,h.size,fun k hk _ => h.block k hk⟩
theorem zjZ {w w':World} (h:w.grownBy w' none) (g n:Nat):w.grownBy (w'.freeze ⟨g,0,none⟩ n) (some g):=by
 unfold World.freeze
 split
 ·exact ⟨h.os,h.tape,h.output,h.size,fun k hk _ => h.block k hk (by simp)⟩
 ·refine ⟨h.os,h.tape,h.output,by simpa using h.size,fun k hk hne => ?_⟩
  rw [Array.getElem?_modify,if_neg (by rintro rfl; exact hne rfl)]
  exact h.block k hk (by simp)
theorem zg4 {w w':World} (h:w.grownBy w' none) (o:Obj) (row:Option Nat):w.grownBy (w'.alloc o) row :=
 ⟨h.os,h.tape,h.output,by simp; have:=h.size; omega,fun k hk _ => (Below.heap_alloc w' o k (Nat.lt_of_lt_of_le hk h.size)).trans (h.block k hk (by simp))⟩
set_option maxHeartbeats 1000000 in
theorem zkk (b g cap:Nat) (l:List UInt8) (p:Value) (cur:Array Value) (T:TypeId) (w:World) (h0:l ≠ []) (hbk:w.heap[b]? = some (.cells #[p,.slice (some ⟨g,0,none⟩) l.length cap] T (0,0))) (hg:w.heap[g]? = some (.cells cur 5 (0,0)))
  (hnc:l.length ≤ cap) (hcm:cap ≤ maxLen) (hcs:cur.size=cap) (hcell:∀ j x,l[j]? = some x → w.cell? ((⟨g,0,none⟩:Addr).add j)=some (.int .u8 x.toNat)) :
  Calls Tryz.prog 222 #[.pointer (some ⟨b,0,none⟩)] w fun e w' => e=.returned (.string ⟨l.toArray⟩) ∧ w.grownBy w' (some g):=by
 have hl0:l.length ≠ 0:=by simpa using h0
 have c1:w.drew.cell? ⟨b,1,none⟩=some (.slice (some ⟨g,0,none⟩) l.length cap):=by
  have:w.drew.heap[b]? = some (.cells #[p,.slice (some ⟨g,0,none⟩) l.length cap] T (0,0)):=hbk
  rw [Lib.cell_of_heap this]; rfl
 have hSD:(Builtin.unsafeSliceData_ #[24] 246 #[.slice (some ⟨g,0,none⟩) l.length cap]).run Tryz.prog w.drew=.ok (.pointer (some ⟨g,0,none⟩)) w.drew :=
  Lib.run_unsafeSliceData_row _ _ _ _ _ _ (by omega)
 have hUS:(Builtin.unsafeString_ #[246,3] 9 #[.pointer (some ⟨g,0,none⟩),.int .i64 l.length]).run Tryz.prog w.drew=.ok (.string ⟨l.toArray⟩) (w.drew.freeze ⟨g,0,none⟩ l.length):=by
  refine Lib.run_unsafeString_row w.drew _ _ _ 5 (by kernel_rfl) (by kernel_rfl) g cur.size (by have hg':w.drew.heap[g]? = some (.cells cur 5 (0,0)):=hg; simp [World.shape?,hg']) l h0 (by omega) (by unfold maxLen at hcm; omega) ?_
  intro j x hx
  exact hcell j x hx
 clear hl0
 have mixed:(Tryz.prog).follows .mixedOrders=true:=by kernel_rfl
 go_enter Tryz.func222,Tryz.ntmps222
 go_wp2
 go_region_o
 all_goals (go_wp2; go_ret; exact ⟨rfl,zjZ (zeF w) g _⟩)
set_option maxHeartbeats 1000000 in
theorem zhg (b:Nat) (p:Value) (T:TypeId) (w:World) (hbk:w.heap[b]? = some (.cells #[p,.slice none 0 0] T (0,0))) :
  Calls Tryz.prog 222 #[.pointer (some ⟨b,0,none⟩)] w fun e w' => e=.returned (.string ⟨#[]⟩) ∧ w.grownBy w' none:=by
 have hUS:∀ (W:World) (q:Option Addr),(Builtin.unsafeString_ #[246,3] 9 #[.pointer q,.int .i64 0]).run Tryz.prog W=.ok (.string .empty) W:=fun W q => Lib.run_unsafeString_none W _ _ _ q
 have c1:w.drew.cell? ⟨b,1,none⟩=some (.slice none 0 0):=by
  have:w.drew.heap[b]? = some (.cells #[p,.slice none 0 0] T (0,0)):=hbk
  rw [Lib.cell_of_heap this]; rfl
 have hSD:(Builtin.unsafeSliceData_ #[24] 246 #[.slice none 0 0]).run Tryz.prog w.drew=.ok (.pointer none) w.drew:=rfl
 have mixed:(Tryz.prog).follows .mixedOrders=true:=by kernel_rfl
 go_enter Tryz.func222,Tryz.ntmps222
 go_wp2
 go_region_o
 all_goals (go_wp2; go_ret; exact ⟨rfl,zeF w⟩)
set_option maxHeartbeats 1000000 in
theorem zhx (b g:Nat) (p:Value) (cur:Array Value) (T:TypeId) (w:World) (hbk:w.heap[b]? = some (.cells #[p,.slice (some ⟨g,0,none⟩) 0 0] T (0,0))) (hg:w.heap[g]? = some (.cells cur 5 (0,0))) :
  Calls Tryz.prog 222 #[.pointer (some ⟨b,0,none⟩)] w fun e w' => e=.returned (.string ⟨#[]⟩) ∧ w.grownBy w' (some g):=by
 have hUS:∀ (W:World) (q:Option Addr),(Builtin.unsafeString_ #[246,3] 9 #[.pointer q,.int .i64 0]).run Tryz.prog W=.ok (.string .empty) W:=fun W q => Lib.run_unsafeString_none W _ _ _ q
 have hlt:b < w.heap.size:=by
  rcases Nat.lt_or_ge b w.heap.size with h' | h'
  ·exact h'
  ·simp [Array.getElem?_eq_none h'] at hbk
 have c1:w.drew.cell? ⟨b,1,none⟩=some (.slice (some ⟨g,0,none⟩) 0 0):=by
  have:w.drew.heap[b]? = some (.cells #[p,.slice (some ⟨g,0,none⟩) 0 0] T (0,0)):=hbk
  rw [Lib.cell_of_heap this]; rfl
 have hSD:(Builtin.unsafeSliceData_ #[24] 246 #[.slice (some ⟨g,0,none⟩) 0 0]).run Tryz.prog w.drew=.ok (.pointer (some ⟨w.drew.heap.size,0,none⟩)) (w.drew.alloc (.view ⟨g,0,none⟩ 5)) :=
  Lib.run_unsafeSliceData_zero w.drew _ _ 5 (by kernel_rfl) ⟨g,0,none⟩ 0 (5,cur.size) (by have hg':w.drew.heap[g]? = some (.cells cur 5 (0,0)):=hg; simp [World.shape?,hg'])
 have c2:(w.drew.alloc (.view ⟨g,0,none⟩ 5)).cell? ⟨b,1,none⟩=some (.slice (some ⟨g,0,none⟩) 0 0):=by
  have:(w.drew.alloc (.view ⟨g,0,none⟩ 5)).heap[b]? = _:=(Lib.alloc_old w.drew _ b hlt).trans hbk
  rw [Lib.cell_of_heap this]; rfl
 have c3:(w.alloc (.view ⟨g,0,none⟩ 5)).drew.cell? ⟨b,1,none⟩=some (.slice (some ⟨g,0,none⟩) 0 0):=c2
 have c0:w.cell? ⟨b,1,none⟩=some (.slice (some ⟨g,0,none⟩) 0 0):=c1
 have mixed:(Tryz.prog).follows .mixedOrders=true:=by kernel_rfl
 go_enter Tryz.func222,Tryz.ntmps222
 go_wp2
 go_region_o
 all_goals (go_wp2; go_ret; exact ⟨rfl,zg4 (zeF w) _ _⟩)
set_option maxHeartbeats 1000000 in
theorem zkj (b g cap:Nat) (p:Value) (T:TypeId) (w:World) (hc0:cap ≠ 0) (hbk:w.heap[b]? = some (.cells #[p,.slice (some ⟨g,0,none⟩) 0 cap] T (0,0))) :
  Calls Tryz.prog 222 #[.pointer (some ⟨b,0,none⟩)] w fun e w' => e=.returned (.string ⟨#[]⟩) ∧ w.grownBy w' none:=by
 have hUS:∀ (W:World) (q:Option Addr),(Builtin.unsafeString_ #[246,3] 9 #[.pointer q,.int .i64 0]).run Tryz.prog W=.ok (.string .empty) W:=fun W q => Lib.run_unsafeString_none W _ _ _ q
 have c1:w.drew.cell? ⟨b,1,none⟩=some (.slice (some ⟨g,0,none⟩) 0 cap):=by
  have:w.drew.heap[b]? = some (.cells #[p,.slice (some ⟨g,0,none⟩) 0 cap] T (0,0)):=hbk
  rw [Lib.cell_of_heap this]; rfl
 have hSD:(Builtin.unsafeSliceData_ #[24] 246 #[.slice (some ⟨g,0,none⟩) 0 cap]).run Tryz.prog w.drew=.ok (.pointer (some ⟨g,0,none⟩)) w.drew :=
  Lib.run_unsafeSliceData_row _ _ _ _ _ _ hc0
 clear hc0
 have mixed:(Tryz.prog).follows .mixedOrders=true:=by kernel_rfl
 go_enter Tryz.func222,Tryz.ntmps222
 go_wp2
 go_region_o
 all_goals (go_wp2; go_ret; exact ⟨rfl,zeF w⟩)
theorem zix {w w':World} (h:w.grownBy w' none) (row:Option Nat):w.grownBy w' row:=⟨h.os,h.tape,h.output,h.size,fun k hk _ => h.block k hk (by simp)⟩
def zdp (objs:List OB) (b:Nat) (T:TypeId) (l:List UInt8):Prop :=
 (objs[b]? = some (.box T [.o (.pointer none),.nil]) ∧ l=[]) ∨ ∃ r gen,objs[b]? = some (.box T [.p b 0,.orow r gen]) ∧ objs[r]? = some (.orow 5 1 gen l.length (byA l))
def zfI (objs:List OB) (b:Nat):Option Nat :=
 match objs[b]? with
 | some (.box _ [_,.orow r _]) => some r
 | _ => none
def zgd (objs:List OB) (b:Nat) (objs':List OB):Prop:=objs.length ≤ objs'.length ∧ (∀ (j:Nat) ob,objs[j]? = some ob → j ≠ b → zfI objs b ≠ some j → objs'[j]? = some ob ∧ zfI objs' b ≠ some j)
theorem zgd.refl (objs:List OB) (b:Nat):zgd objs b objs:=⟨Nat.le_refl _,fun j ob h _ h2 => ⟨h,h2⟩⟩
theorem zgd.trans {o1 o2 o3:List OB} {b:Nat} (h:zgd o1 b o2) (k:zgd o2 b o3):zgd o1 b o3 :=
 ⟨Nat.le_trans h.1 k.1,fun j ob h1 h2 h3 => by
  obtain ⟨a1,a2⟩:=h.2 j ob h1 h2 h3
  exact k.2 j ob a1 h2 a2⟩
theorem zdp.lt {objs:List OB} {b:Nat} {T:TypeId} {l:List UInt8} (h:zdp objs b T l):b < objs.length ∧ ∀ r,zfI objs b=some r → r < objs.length:=by
 rcases h with ⟨h,_⟩ | ⟨r,gen,h,h2⟩
 ·refine ⟨zcB h,fun r hr => ?_⟩
  unfold zfI at hr; rw [h] at hr; cases hr
 ·refine ⟨zcB h,fun r' hr => ?_⟩
  unfold zfI at hr; rw [h] at hr; injection hr with hr; subst hr; exact zcB h2
theorem zdp.app {objs:List OB} {b:Nat} {T:TypeId} {l:List UInt8} (h:zdp objs b T l) (more:List OB):zdp (objs ++ more) b T l ∧ zfI (objs ++ more) b=zfI objs b:=by
 have hlt:=h.lt.1
 have e:(objs ++ more)[b]? = objs[b]?:=List.getElem?_append_left hlt
 refine ⟨?_,by unfold zfI; rw [e]⟩
 rcases h with ⟨h,h2⟩ | ⟨r,gen,h,h2⟩
 ·exact .inl ⟨by rw [e]; exact h,h2⟩
 ·exact .inr ⟨r,gen,by rw [e]; exact h,by rw [List.getElem?_append_left (zcB h2)]; exact h2⟩
theorem zgd.behind {objs more objs':List OB} {b:Nat} {T:TypeId} {l:List UInt8} (h:zdp objs b T l) (k:zgd (objs ++ more) b objs'):∀ (j:Nat) ob,more[j]? = some ob → objs'[objs.length + j]? = some ob:=by
 intro j ob hj
 have h1:=h.lt
 refine (k.2 (objs.length + j) ob (by rw [List.getElem?_append_right (by omega)]; simpa using hj) (by omega) ?_).1
 rw [(h.app more).2]
 intro e
 have:=h1.2 _ e
 omega
theorem zgd.drop {objs more objs':List OB} {b:Nat} {T:TypeId} {l:List UInt8} (h:zdp objs b T l) (k:zgd (objs ++ more) b objs'):zgd objs b objs':=by
 refine ⟨by have:=k.1; simp at this; omega,fun j ob h1 h2 h3 => k.2 j ob (by rw [List.getElem?_append_left (zcB h1)]; exact h1) h2 (by rw [(h.app more).2]; exact h3)⟩
theorem zh9 (a b:List UInt8):byA (a ++ b)=byA a ++ byA b:=by simp [byA]
section
variable [Tabs Tryz.prog] {objs:List OB} {K:List OB → AV → Prop}
theorem zgp (T:TypeId) (b:Nat) (l0 l:List UInt8) (hT:BT T) (hb:zdp objs b T l0) (hl:l0.length + l.length ≤ 140737488355328) (hk:∀ objs',zdp objs' b T (l0 ++ l) → zgd objs b objs' → K objs' (.tup [.i .i64 l.length,.o .nilIface])) :
  zad Tryz.prog 253 [.p b 0,.s l] objs K:=by
 rcases hb with ⟨hb,rfl⟩ | ⟨r,gen,hb,hr⟩
 ·have hlt:=zcB hb
  refine zcQ is_strings_Builder_WriteString fun C _ => ?_
  simp only [c_strings_Builder_WriteString,sxZ,z6,z7,z8,j3,j6,j7,j8,j9,x0,x5,x6,x7,x8,x9,y3,reduceCtorEq,↓reduceIte]
  refine zae (zhc T b _ _ hT hb (.inl rfl) ?_)
  have e1:(objs.set b (OB.box T [.p b 0,.nil]))[b]? = some (.box T [.p b 0,.nil]):=List.getElem?_set_self hlt
  simp only [e1,sxZ,z6,z7,z8,j3,j6,j7,j8,j9,x0,x5,x6,x7,x8,x9,y3,reduceCtorEq,↓reduceIte]
  refine ⟨by simpa using hl,?_⟩
  have e2:(objs.set b (OB.box T [.p b 0,.nil]) ++ [OB.orow 5 1 0 l.length (byA l)])[b]? = some (.box T [.p b 0,.nil]):=by
   rw [List.getElem?_append_left (by simpa using hlt)]; exact e1
  simp only [e2,sxZ,z6,z7,z8,j3,j6,j7,j8,j9,x0,x5,x6,x7,x8,x9,y3,reduceCtorEq,↓reduceIte]
  have e3:(objs.set b (OB.box T [.p b 0,.nil]) ++ [OB.orow 5 1 0 l.length (byA l)]).set b (OB.box T [.p b 0,.orow objs.length 0])=objs.set b (OB.box T [.p b 0,.orow objs.length 0]) ++ [OB.orow 5 1 0 l.length (byA l)]:=by
   rw [List.set_append_left _ _ (by simpa using hlt),List.set_set]
  rw [e3]
  refine hk _ (.inr ⟨objs.length,0,?_,?_⟩) ⟨by simp,fun j ob h1 h2 h3 => ⟨?_,?_⟩⟩
  ·rw [List.getElem?_append_left (by simpa using hlt)]; exact List.getElem?_set_self hlt
  ·rw [List.getElem?_append_right (by simp)]; simp
  ·rw [List.getElem?_append_left (by simpa using zcB h1),List.getElem?_set_ne (fun e => h2 e.symm)]; exact h1
  ·unfold zfI
   rw [List.getElem?_append_left (by simpa using hlt),List.getElem?_set_self hlt]
   have:=zcB h1
   simp; omega
 ·have hlt:=zcB hb
  have hrl:=zcB hr
  have hne:b ≠ r:=by rintro rfl; rw [hb] at hr; cases hr
  refine zcQ is_strings_Builder_WriteString fun C _ => ?_
  simp only [c_strings_Builder_WriteString,sxZ,z6,z7,z8,j3,j6,j7,j8,j9,x0,x5,x6,x7,x8,x9,y3,reduceCtorEq,↓reduceIte]
  refine zae (zhc T b _ _ hT hb (.inr rfl) ?_)
  rw [set_same hb]
  simp only [hb,hr,sxZ,z6,z7,z8,j3,j6,j7,j8,j9,x0,x5,x6,x7,x8,x9,y3,reduceCtorEq,↓reduceIte]
  refine ⟨by omega,?_⟩
  have e2:(objs.set r (OB.orow 5 1 (gen + 1) (l0.length + l.length) (byA l0 ++ byA l)))[b]? = some (.box T [.p b 0,.orow r gen]):=by
   rw [List.getElem?_set_ne (fun e => hne e.symm)]; exact hb
  simp only [e2,sxZ,z6,z7,z8,j3,j6,j7,j8,j9,x0,x5,x6,x7,x8,x9,y3,reduceCtorEq,↓reduceIte]
  refine hk _ (.inr ⟨r,gen + 1,?_,?_⟩) ⟨by simp,fun j ob h1 h2 h3 => ⟨?_,?_⟩⟩
  ·exact List.getElem?_set_self (by simpa using hlt)
  ·rw [List.getElem?_set_ne hne,List.getElem?_set_self hrl,zh9,List.length_append]
  ·have h4:j ≠ r:=by
    rintro rfl
    exact h3 (by unfold zfI; rw [hb])
   rw [List.getElem?_set_ne (fun e => h2 e.symm),List.getElem?_set_ne (fun e => h4 e.symm)]; exact h1
  ·unfold zfI at h3 ⊢
   rw [hb] at h3
   rw [List.getElem?_set_self (by simpa using hlt)]
   exact h3
theorem zhh (T:TypeId) (b:Nat) (l:List UInt8) (hb:zdp objs b T l) (hk:∀ objs',zgd objs b objs' → K objs' (.s l)) :
  zad Tryz.prog 222 [.p b 0] objs K:=by
 intro C _ G I w hin hm ys hd
 simp only [zao] at hd
 obtain ⟨v,_,rfl,hv,rfl⟩:=hd
 simp only [Den] at hv
 obtain ⟨g,hg,rfl⟩:=hv
 have same:∀ w',w.grownBy w' none → ∀ x:List UInt8,K objs (.s x) → ∃ (y:Value) (objs':List OB) (r:AV) (G':Gh) (I':Imm),Ending.returned (.string ⟨x.toArray⟩)=.returned y ∧ K objs' r ∧ G.le G' ∧ Imm.le I I' ∧ In C G' I' w' ∧ MemOk G' I' objs' w' ∧ Den G' I' r y :=
  fun w' hgr x hx => ⟨_,objs,.s x,G,I,rfl,hx,Gh.le.refl G,Imm.le.refl I,hin.evolve hgr (by simp),hm.evolve hgr,by simp [Den]⟩
 rcases hb with ⟨hb,rfl⟩ | ⟨r,gen,hb,hr⟩
 ·obtain ⟨g',zs,k1,k2,k3,k4⟩:=hm.box b T _ hb
  obtain rfl:g=g':=Option.some.inj (hg.symm.trans k1)
  simp only [zao] at k3
  obtain ⟨z1,_,rfl,d1,z2,_,rfl,d2,rfl⟩:=k3
  simp only [Den] at d2; subst d2
  refine (zhg g z1 T w k2).mono ?_
  rintro e w' ⟨rfl,hgr⟩
  exact same w' hgr [] (hk objs (zgd.refl _ _))
 ·obtain ⟨g',zs,k1,k2,k3,k4⟩:=hm.box b T _ hb
  obtain rfl:g=g':=Option.some.inj (hg.symm.trans k1)
  simp only [zao] at k3
  obtain ⟨z1,_,rfl,d1,z2,_,rfl,d2,rfl⟩:=k3
  simp only [Den] at d2
  obtain ⟨gn,u,q1,q2,q3,q4⟩:=d2
  obtain ⟨u',vs,m1,m2,m3,m4,m5⟩:=hm.row r _ _ _ _ _ hr
  rw [q1] at m1; injection m1 with m1; injection m1 with m1 m6
  have hz:=q3 m1.symm
  subst m1 m6 hz
  have hne:b ≠ r:=by rintro rfl; rw [hb] at hr; cases hr
  have kill:∀ w' row,(∀ k,row=some k → G.own r=some k) → w.grownBy w' row → ∀ x:List UInt8,(x=l) → ∃ (y:Value) (objs':List OB) (r':AV) (G':Gh) (I':Imm),Ending.returned (.string ⟨x.toArray⟩)=.returned y ∧ K objs' r' ∧ G.le G' ∧ Imm.le I I' ∧ In C G' I' w' ∧ MemOk G' I' objs' w' ∧ Den G' I' r' y:=by
   rintro w' row hrow hgr x rfl
   refine ⟨_,objs.set r .dead,.s x,G,I,rfl,hk _ ⟨by simp,fun j ob h1 h2 h3 => ⟨?_,?_⟩⟩,Gh.le.refl G,Imm.le.refl I,hin.evolve hgr (fun k hk => hin.blk r k (hrow k hk)),MemOk.kill hm r hrow hgr,by simp [Den]⟩
   ·have h4:j ≠ r:=by
     rintro rfl
     exact h3 (by unfold zfI; rw [hb])
    rw [List.getElem?_set_ne (fun e => h4 e.symm)]; exact h1
   ·unfold zfI at h3 ⊢
    rw [hb] at h3
    rw [List.getElem?_set_ne (fun e => hne e.symm),hb]; exact h3
  have hown:=zb1 m5 q1
  have hvs:=zcR m3
  rcases m2.2 with ⟨rfl,hl0⟩ | ⟨gr,cap,cur,rfl,_,hgc,hnc,hcm,hcs,htake⟩
  ·have hl:l=[]:=List.eq_nil_of_length_eq_zero hl0
   subst hl
   refine (zhg g z1 T w k2).mono ?_
   rintro e w' ⟨rfl,hgr⟩
   exact kill w' none (by simp) hgr [] rfl
  ·have hrow:∀ k,some gr=some k → G.own r=some k:=by
    intro k hk'
    injection hk' with hk'; subst hk'
    rw [hown]; rfl
   by_cases hl:l=[]
   ·subst hl
    by_cases hc:cap=0
    ·subst hc
     refine (zhx g gr z1 cur T w k2 hgc).mono ?_
     rintro e w' ⟨rfl,hgr⟩
     exact kill w' (some gr) hrow hgr [] rfl
    ·refine (zkj g gr cap z1 T w hc k2).mono ?_
     rintro e w' ⟨rfl,hgr⟩
     exact kill w' (some gr) hrow (zix hgr _) [] rfl
   ·refine (zkk g gr cap l z1 cur T w hl k2 hgc hnc hcm (by omega) ?_).mono ?_
    ·intro j x hx
     exact m2.cells (g:=gr) rfl j (.int .u8 x.toNat) (by rw [hvs]; simp [hx])
    ·rintro e w' ⟨rfl,hgr⟩
     exact kill w' (some gr) hrow hgr l rfl
end
end Go.Proofs.YtljbdpihiboeaaaGreatDoor
namespace Go.Proofs.YtljbdpihiboeaaaGreatDoor
open Go.RowKit Sx
theorem zku (G:Gh) (I:Imm):∀ l:List (List UInt8),zao G I (l.map .s) (sv l)
 | [] => zao.nil
 | x :: l => by
  show zao G I (AV.s x :: l.map .s) (.string (S x) :: sv l)
  exact zao.cons (by simp [Den]) (zku G I l)
theorem zk6 {P:Program} [Tabs P] {f:FuncId} {args:List AV} {vs:List Value} {objs:List OB} {K:List OB → AV → Prop} (l:List (List UInt8)) (hne:0 < l.length) (hk:K objs (.row l.length (l.map .s))) (ha:znE args=some vs)
  (h:∀ w,Calls P f vs.toArray w fun e w' => ∃ v,e=.returned v ∧ zfy w' w.heap.size v l ∧ Qb w w'):zad P f args objs K:=by
 intro C _ G I w hin hm ys hd
 rw [(zcn G I args vs ha ys).1 hd]
 refine (h w).mono ?_
 rintro e w' ⟨v,rfl,hr,hb⟩
 obtain ⟨g,cap,rfl,h1,h2,h3⟩:=hr.form hne
 have hg:w.grownBy w' none:=⟨hb.os,hb.tape,hb.output,Below.size hb,fun k hk _ => Below.block hb k hk⟩
 obtain ⟨I',s1,s2,s3,s4⟩:=zjF hin hm hg g l.length cap (l.map .s) (sv l) h1 h3 (zku G I l) (znZ l) (fun j u hj => by
  have hjl:j < l.length:=by
   have:=(List.getElem?_eq_some_iff.1 hj).1
   rwa [zja] at this
  rw [hr.cell j hjl,← sv_get l j hjl]; exact hj)
 exact ⟨_,objs,.row l.length (l.map .s),G,I',rfl,hk,Gh.le.refl G,s1,s2,s3,s4⟩
section
variable [Tabs Tryz.prog] {objs:List OB} {K:List OB → AV → Prop}
theorem zit (s:List UInt8) (c:UInt8) (hs:s.length ≤ 1000000) (hk:K objs (.row (zag c s).length ((zag c s).map .s))):zad Tryz.prog 138 [.s s,.i .u8 c.toNat] objs K :=
 zk6 (vs:=[.string (S s),.int .u8 c.toNat]) _ (zbs c s) hk rfl (fun w => zex (S s) c w (by rw [zac]; exact hs))
end
end Go.Proofs.YtljbdpihiboeaaaGreatDoor
namespace Go.Proofs.YtljbdpihiboeaaaGreatDoor
open Nat renaming reduceAdd → z6, reduceSub → z7, reduceLeDiff → z8, reduceLT → j3, reduceMul → j6, reduceEqDiff → j7
open Int renaming reduceToNat → j8, reduceAdd → j9, reduceSub → x0, reduceMul → x5, reduceNeg → x6, reduceLT → x7, reduceLE → x8, reduceEq → x9, reduceNe → y3
open Go.RowKit Sx
theorem zn3 (c:UInt8):∀ (n:Nat) (s:List UInt8),s.length ≤ n → Lib.splitK [c] 0 (Lib.count s [c]) s=zag c s:=by
 intro n
 induction n with
 | zero =>
  intro s hs
  obtain rfl:s=[]:=List.eq_nil_of_length_eq_zero (by omega)
  rfl
 | succ n ih =>
  intro s hs
  rcases zbo c s with ⟨h1,h2,_⟩ | ⟨k,h1,h2,h3,_⟩
  ·rw [Lib.count_miss (by rw [zdi]; exact h1),zaU,h2]; rfl
  ·have hi:Lib.index s [c]=k:=by rw [zdi]; exact h1
   rw [Lib.count_hit (by simp) hi,Nat.add_comm,zaU,h3,if_pos rfl]
   show (if (Lib.index s [c] == -1)=true then _ else _)=_
   rw [hi,if_neg (by simp)]
   have:=ih (s.drop (k + 1)) (by rw [List.length_drop]; omega)
   simp only [Int.toNat_natCast,Nat.add_zero,List.length_cons,List.length_nil,Nat.zero_add]
   rw [this]
theorem zkv (c:UInt8) (s:List UInt8):(Lib.splitB (S [c]) 0 (Lib.countB (S s) (S [c])) (S s)).map Value.string=sv (zag c s):=by
 have h:=Lib.splitB_data (S [c]) 0 (Lib.countB (S s) (S [c])) (S s)
 have h2:Lib.splitK [c] 0 (Lib.count s [c]) s=zag c s:=zn3 c s.length s (Nat.le_refl _)
 have h3:(Lib.splitB (S [c]) 0 (Lib.countB (S s) (S [c])) (S s)).map (·.data.toList)=zag c s:=h.trans h2
 rw [← h3]
 unfold sv
 rw [List.map_map]
 apply List.map_congr_left
 intro x _
 simp [S]
theorem zn4 (c:UInt8) (s:List UInt8):Lib.countB (S s) (S [c]) + 1=(zag c s).length:=by
 have key:∀ (n:Nat) (s:List UInt8),s.length ≤ n → Lib.count s [c] + 1=(zag c s).length:=by
  intro n
  induction n with
  | zero =>
   intro s hs
   obtain rfl:s=[]:=List.eq_nil_of_length_eq_zero (by omega)
   rfl
  | succ n ih =>
   intro s hs
   rcases zbo c s with ⟨h1,h2,_⟩ | ⟨k,h1,h2,h3,_⟩
   ·rw [Lib.count_miss (by rw [zdi]; exact h1),zaU,h2]; rfl
   ·have hi:Lib.index s [c]=k:=by rw [zdi]; exact h1
    rw [Lib.count_hit (by simp) hi,zaU,h3,if_pos rfl]
    have:=ih (s.drop (k + 1)) (by rw [List.length_drop]; omega)
    simp only [List.length_cons,List.length_nil,Nat.zero_add]
    omega
 exact key s.length s (Nat.le_refl _)
theorem dec_err (l:List UInt8) (h:(zaO l).1 ≠ 0):(zaO l).2=[]:=by
 unfold zaO ze6 at h ⊢
 split
 ·rfl
 ·rename_i g; rw [if_neg g] at h; exact zde _ _ _ _ h
theorem bt_path [Tabs Tryz.prog]:BT 218:=by unfold BT; kernel_rfl
theorem bt_id [Tabs Tryz.prog]:BT 222:=by unfold BT; kernel_rfl
theorem isFn_pw:IsFn Tryz.prog 221:=⟨_,Tryz.func221,by kernel_rfl,of_decide_eq_true (by kernel_rfl)⟩
theorem isFn_iw:IsFn Tryz.prog 225:=⟨_,Tryz.func225,by kernel_rfl,of_decide_eq_true (by kernel_rfl)⟩
section
variable [Tabs Tryz.prog] {objs:List OB} {K:List OB → AV → Prop}
theorem zlm [Shp Tryz.prog] (s:List UInt8) (c:UInt8) (hs:s.length ≤ 100000) (hk:K objs (.row (zag c s).length ((zag c s).map .s))):zad Tryz.prog 219 [.s s,.s [c]] objs K:=by
 intro C _ G I w hin hm ys hd
 have hT:=hin.tab (P:=Tryz.prog)
 rw [(zcn G I [.s s,.s [c]] [.string (S s),.string (S [c])] rfl ys).1 hd]
 refine (Tryz.strings_Split_shaped (S s) (S [c]) w (Shp.sh w hT) (by rw [zac]; omega) (by rw [zac]; simp)).mono ?_
 rintro e w' ⟨rfl,rfl⟩
 have hn:=zn4 c s
 have hc:=zkv c s
 have hsl:=zc6 c s
 have hg:w.grownBy (w.alloc (.cells ((Lib.splitB (S [c]) 0 (Lib.countB (S s) (S [c])) (S s)).map Value.string).toArray 9)) none:=zg4 (World.grownBy.refl w _) _ _
 obtain ⟨I',s1,s2,s3,s4⟩:=zjF hin hm hg w.heap.size (zag c s).length (zag c s).length ((zag c s).map .s) (sv (zag c s)) (Nat.le_refl _) (Nat.le_refl _) (zku G I _) (znZ _) (fun j u hj => by
  rw [World.cell?_alloc_new,hc]; simpa using hj)
 rw [hn]
 exact ⟨_,objs,.row (zag c s).length ((zag c s).map .s),G,I',rfl,hk,Gh.le.refl G,s1,s2,s3,s4⟩
/-- each: the calls in their order, up to the first error -/
theorem each_k (l:List (List UInt8)) (hl:l.length ≤ 1000000) (f:Nat) (fs cs:List AV) (hf:IsFn Tryz.prog f) (J:Nat → List OB → Prop) (h0:J 0 objs)
  (step:∀ (i:Nat) (hi:i < l.length) o,J i o → zad Tryz.prog f (fs ++ [.s l[i]] ++ cs) o fun o' r => (r=.i .i64 0 ∧ J (i + 1) o') ∨ ∃ e:Int,r=.i .i64 e ∧ e ≠ 0 ∧ K o' (.i .i64 e))
  (hend:∀ o,J l.length o → K o (.i .i64 0)):zad Tryz.prog 220 [.row l.length (l.map .s),.fn f fs cs] objs K:=by
 refine zcQ is_didweb_each fun C _ => ?_
 simp only [c_didweb_each,sxZ,z6,z7,z8,j3,j6,j7,j8,j9,x0,x5,x6,x7,x8,x9,y3,reduceCtorEq,↓reduceIte]
 refine zcq (fun n objs tm => ∃ i:Nat,i ≤ l.length ∧ n=l.length - i ∧ J i objs ∧ tm.length=21 ∧ tm[8]? = some (.row l.length (l.map .s)) ∧ tm[1]? = some (.fn f fs cs) ∧ tm[9]? = some (.i .i64 l.length) ∧ tm[10]? = some (.i .i64 i)) l.length ⟨0,Nat.zero_le _,rfl,h0,rfl,rfl,rfl,rfl,rfl⟩ ?_
 rintro n o tm ⟨i,hi,rfl,hJ,hlen,t8,t1,t9,t10⟩
 by_cases hlt:(i:Int) < l.length
 ·have hlt':i < l.length:=by omega
  have hg:(l.map AV.s)[i]? = some (.s l[i]):=by simp [hlt']
  simp only [sxZ,z6,z7,z8,j3,j6,j7,j8,j9,x0,x5,x6,x7,x8,x9,y3,reduceCtorEq,↓reduceIte,List.getElem?_set,hlen,t8,t1,t9,t10,hlt,Nat.mul_one,Int.toNat_natCast,hg,List.length_map]
  refine ⟨by omega,?_⟩
  refine kcallv hf ((step i hlt' o hJ).mono ?_)
  rintro o' r (⟨rfl,hJ'⟩ | ⟨e,rfl,he,hK⟩)
  ·simp only [sxZ,z6,z7,z8,j3,j6,j7,j8,j9,x0,x5,x6,x7,x8,x9,y3,reduceCtorEq,↓reduceIte,List.getElem?_set,hlen,t8,t1,t9,t10]
   exact ⟨⟨by omega,by omega⟩,l.length - (i + 1),by omega,i + 1,by omega,rfl,hJ',rfl⟩
  ·simp only [he,sxZ,z6,z7,z8,j3,j6,j7,j8,j9,x0,x5,x6,x7,x8,x9,y3,reduceCtorEq,↓reduceIte,List.getElem?_set,hlen,t8,t1,t9,t10]
   exact hK
 ·obtain rfl:i=l.length:=by omega
  simp only [sxZ,z6,z7,z8,j3,j6,j7,j8,j9,x0,x5,x6,x7,x8,x9,y3,reduceCtorEq,↓reduceIte,List.getElem?_set,hlen,t8,t1,t9,t10,hlt]
  exact hend o hJ
theorem pwAdd_k (b:Nat) (l x:List UInt8) (hb:zdp objs b 218 l) (hx:x.length ≤ 16384) (hl:l.length ≤ 1000000000) (h0:okS x=false → K objs (.i .i64 110))
  (h1:okS x=true → ∀ objs',zdp objs' b 218 (l ++ segF x) → zgd objs b objs' → K objs' (.i .i64 0)):zad Tryz.prog 221 [.p b 0,.s x] objs K:=by
 refine zcQ is_didweb_pathWriter_add fun C _ => ?_
 simp only [c_didweb_pathWriter_add,sxZ,z6,z7,z8,j3,j6,j7,j8,j9,x0,x5,x6,x7,x8,x9,y3,reduceCtorEq,↓reduceIte]
 refine zae (zgU x ?_)
 have he:=dec_err x
 have hdl:=zc4 x
 have hd0:=zc4 x
 unfold okS at h0 h1
 unfold segF at h1
 generalize zaO x=q at *
 obtain ⟨e,d⟩:=q
 simp only at he hdl h0 h1 hd0 ⊢
 by_cases c1:e=0
 ·subst c1
  by_cases c2:d=[]
  ·simp only [c2,sxZ,z6,z7,z8,j3,j6,j7,j8,j9,x0,x5,x6,x7,x8,x9,y3,reduceCtorEq,↓reduceIte]
   exact h0 (by rw [c2]; rfl)
  ·by_cases c3:d=[46]
   ·simp only [c3,sxZ,z6,z7,z8,j3,j6,j7,j8,j9,x0,x5,x6,x7,x8,x9,y3,reduceCtorEq,↓reduceIte]
    exact h0 (by rw [c3]; decide)
   ·by_cases c4:d=[46,46]
    ·have n1:¬ ([46,46]:List UInt8)=[46]:=by decide
     simp only [c4,n1,sxZ,z6,z7,z8,j3,j6,j7,j8,j9,x0,x5,x6,x7,x8,x9,y3,reduceCtorEq,↓reduceIte]
     exact h0 (by rw [c4]; decide)
    ·simp only [c2,c3,c4,sxZ,z6,z7,z8,j3,j6,j7,j8,j9,x0,x5,x6,x7,x8,x9,y3,reduceCtorEq,↓reduceIte]
     refine zb6 (zjB d [] (by omega) ⟨rfl,rfl⟩) ?_
     have hel:=zcK d []
     simp only [sxZ,z6,z7,z8,j3,j6,j7,j8,j9,x0,x5,x6,x7,x8,x9,y3,reduceCtorEq,↓reduceIte]
     refine ⟨by omega,?_⟩
     refine zae (zgp _ b l _ bt_path hb (by simp only [List.length_cons]; omega) fun objs' k1 k2 => ?_)
     simp only [sxZ,z6,z7,z8,j3,j6,j7,j8,j9,x0,x5,x6,x7,x8,x9,y3,reduceCtorEq,↓reduceIte]
     exact h1 (by simp [c2,c3,c4]) objs' k1 k2
 ·have hd:=he c1
  subst hd
  simp only [c1,sxZ,z6,z7,z8,j3,j6,j7,j8,j9,x0,x5,x6,x7,x8,x9,y3,reduceCtorEq,↓reduceIte]
  exact h0 rfl
theorem iwAdd_k [Shp Tryz.prog] (b:Nat) (l x:List UInt8) (hb:zdp objs b 222 l) (hx:x.length ≤ 16384) (hl:l.length ≤ 1000000000) (h0:okI x=false → K objs (.i .i64 110))
  (h1:okI x=true → ∀ objs',zdp objs' b 222 (l ++ zkp x) → zgd objs b objs' → K objs' (.i .i64 0)):zad Tryz.prog 225 [.p b 0,.s x] objs K:=by
 refine zcQ is_didweb_idWriter_add fun C _ => ?_
 simp only [c_didweb_idWriter_add,sxZ,z6,z7,z8,j3,j6,j7,j8,j9,x0,x5,x6,x7,x8,x9,y3,reduceCtorEq,↓reduceIte]
 refine zae (zgS x [] ?_)
 have hnl:=(zdA x []).1
 unfold okI at h0 h1
 unfold zkp at h1
 generalize zai x []=q at *
 obtain ⟨e,d⟩:=q
 simp only at h0 h1 hnl ⊢
 by_cases c1:e=0
 ·subst c1
  by_cases c2:x=[]
  ·simp only [c2,sxZ,z6,z7,z8,j3,j6,j7,j8,j9,x0,x5,x6,x7,x8,x9,y3,reduceCtorEq,↓reduceIte]
   exact h0 (by rw [c2]; rfl)
  ·simp only [c2,sxZ,z6,z7,z8,j3,j6,j7,j8,j9,x0,x5,x6,x7,x8,x9,y3,reduceCtorEq,↓reduceIte]
   refine zb6 (zgG d _ 126 (by omega) (by decide) (by decide) ⟨rfl,rfl⟩) ?_
   have htl:=zfC d
   unfold zcN at htl h1
   simp only [sxZ,z6,z7,z8,j3,j6,j7,j8,j9,x0,x5,x6,x7,x8,x9,y3,reduceCtorEq,↓reduceIte]
   refine ⟨by omega,?_⟩
   refine zae (zgp _ b l _ bt_id hb (by simp only [List.length_cons]; omega) fun objs' k1 k2 => ?_)
   simp only [sxZ,z6,z7,z8,j3,j6,j7,j8,j9,x0,x5,x6,x7,x8,x9,y3,reduceCtorEq,↓reduceIte]
   exact h1 (by simp [c2]) objs' k1 k2
 ·simp only [c1,sxZ,z6,z7,z8,j3,j6,j7,j8,j9,x0,x5,x6,x7,x8,x9,y3,reduceCtorEq,↓reduceIte]
  exact h0 (by simp [c1])
theorem zpD [Pow Tryz.prog] (b:Nat) (h:List UInt8) (p:Int) (hb:zdp objs b 222 []) (hh:h.length ≤ 1000000) (h0:-9223372036854775808 ≤ p) (h1:p ≤ 9223372036854775807)
  (hk:∀ objs',zdp objs' b 222 (hpI h p) → zgd objs b objs' → K objs' (.tup [])):zad Tryz.prog 224 [.p b 0,zdS h p] objs K:=by
 refine zcQ is_didweb_idWriter_start fun C _ => ?_
 have hil:=Lib.itoa_length_le p h0 h1
 unfold hpI at hk
 simp only [c_didweb_idWriter_start,zdS,gn1,sxZ,z6,z7,z8,j3,j6,j7,j8,j9,x0,x5,x6,x7,x8,x9,y3,reduceCtorEq,↓reduceIte]
 refine zae (zgp _ b [] h bt_id (hb.app _).1 (by simp; omega) fun o k1 k2 => ?_)
 have e1:=k2.behind hb 0 _ rfl
 rw [Nat.add_zero] at e1
 rw [List.nil_append] at k1
 by_cases c1:p=0
 ·subst c1
  simp only [e1,sxZ,z6,z7,z8,j3,j6,j7,j8,j9,x0,x5,x6,x7,x8,x9,y3,reduceCtorEq,↓reduceIte]
  exact hk o (by simpa using k1) (k2.drop hb)
 ·simp only [c1,e1,sxZ,z6,z7,z8,j3,j6,j7,j8,j9,x0,x5,x6,x7,x8,x9,y3,reduceCtorEq,↓reduceIte]
  refine zb6 (itoa_k p h0 h1 ⟨rfl,rfl⟩) ?_
  simp only [sxZ,z6,z7,z8,j3,j6,j7,j8,j9,x0,x5,x6,x7,x8,x9,y3,reduceCtorEq,↓reduceIte]
  refine ⟨by omega,?_⟩
  refine zae (zgp _ b h _ bt_id k1 (by simp only [List.length_cons]; omega) fun o' k3 k4 => ?_)
  simp only [sxZ,z6,z7,z8,j3,j6,j7,j8,j9,x0,x5,x6,x7,x8,x9,y3,reduceCtorEq,↓reduceIte]
  rw [if_neg c1] at hk
  exact hk o' k3 ((k2.drop hb).trans k4)
theorem zmr [Shp Tryz.prog] (m i:List UInt8) (hm:m.length ≤ 200000000000) (hi:i.length ≤ 200000000000) (hk:K objs (.tup [zdS (dwA m i).2.1 (dwA m i).2.2,.i .i64 (dwA m i).1])):zad Tryz.prog 162 [.agg [.s m,.s i]] objs K:=by
 refine za1 is_didweb_Authority rfl fun C _ => ?_
 unfold dwA at hk
 by_cases c0:m=zec
 ·subst c0
  simp only [zec,c_didweb_Authority,sxZ,z6,z7,z8,j3,j6,j7,j8,j9,x0,x5,x6,x7,x8,x9,y3,reduceCtorEq,↓reduceIte]
  refine zae (zdy _ _ (by decide) (by omega) ?_)
  simp only [sxZ,z6,z7,z8,j3,j6,j7,j8,j9,x0,x5,x6,x7,x8,x9,y3,reduceCtorEq,↓reduceIte]
  refine zae (zha _ (by simp only [zbk,zbD,List.length_append,List.length_cons,List.length_nil,maxLen]; omega) ?_)
  simp only [ne_eq,not_true_eq_false,if_false] at hk
  have hf:=ziM (m:=zec) (i:=i) rfl
  have hw:zec=[119,101,98]:=rfl
  rw [hw] at hf
  simp only [hw] at hk
  generalize zb7 (zbk [119,101,98] i)=q at *
  obtain ⟨e,d1,d2⟩:=q
  simp only at hf hk ⊢
  by_cases c1:e=0
  ·subst c1
   obtain ⟨hf,_⟩:=hf rfl
   simp only [not_true_eq_false,if_false] at hk
   simp only [sxZ,z6,z7,z8,j3,j6,j7,j8,j9,x0,x5,x6,x7,x8,x9,y3,reduceCtorEq,↓reduceIte]
   refine zae (sCut_k i 58 (by unfold maxLen; omega) ?_)
   simp only [sxZ,z6,z7,z8,j3,j6,j7,j8,j9,x0,x5,x6,x7,x8,x9,y3,reduceCtorEq,↓reduceIte]
   refine zae (zgU _ ?_)
   simp only [hf,sxZ,z6,z7,z8,j3,j6,j7,j8,j9,x0,x5,x6,x7,x8,x9,y3,reduceCtorEq,↓reduceIte]
   have hl1:=zc4 (zaq 58 i).1
   have hl2:=(za2 58 i).1
   refine zae (zme _ (by unfold maxLen; omega) ?_)
   simp only [zdS,sxZ,z6,z7,z8,j3,j6,j7,j8,j9,x0,x5,x6,x7,x8,x9,y3,reduceCtorEq,↓reduceIte]
   exact hk
  ·simp only [c1,not_false_eq_true,if_true] at hk
   simp only [c1,sxZ,z6,z7,z8,j3,j6,j7,j8,j9,x0,x5,x6,x7,x8,x9,y3,reduceCtorEq,↓reduceIte]
   exact hk
 ·have c0':¬ m=[119,101,98]:=c0
  rw [if_pos c0] at hk
  simp only [c0',c_didweb_Authority,sxZ,z6,z7,z8,j3,j6,j7,j8,j9,x0,x5,x6,x7,x8,x9,y3,reduceCtorEq,↓reduceIte]
  exact hk
end
theorem zgf (l:List (List UInt8)):((l.map AV.s).take l.length).drop 1=l.tail.map AV.s:=by
 rw [List.take_of_length_le (by simp),← List.map_drop,List.drop_one]
theorem segF_len (x:List UInt8):(segF x).length ≤ 1 + 3 * x.length:=by
 unfold segF
 have h1:=zcK (zaO x).2 []
 have h2:=zc4 x
 simp only [List.length_cons]; omega
theorem zdF:∀ l:List (List UInt8),(zcy l).length ≤ 3 * (l.flatMap fun x => 1 :: x).length
 | [] => by simp [zcy]
 | x :: l => by
  have ih:=zdF l
  have h:=segF_len x
  unfold zcy at ih ⊢
  rw [List.flatMap_cons,List.flatMap_cons,List.length_append,List.length_append,List.length_cons]
  omega
theorem zjc (c:UInt8):∀ (s:List UInt8),((zag c s).flatMap fun x => (1:UInt8) :: x).length=s.length + 1
 | [] => rfl
 | x :: t => by
  have ih:=zjc c t
  rw [zaE]
  split
  ·rw [List.flatMap_cons]; simp only [List.length_append,List.length_cons,List.length_nil] at ih ⊢; omega
  ·obtain ⟨p,ps,e⟩:=zaG c t
   rw [e] at ih ⊢
   simp only [List.flatMap_cons,List.length_append,List.length_cons] at ih ⊢
   omega
theorem zfb (c:UInt8) (s:List UInt8):((zag c s).tail.flatMap fun x => (1:UInt8) :: x).length ≤ s.length:=by
 have h:=zjc c s
 obtain ⟨p,ps,e⟩:=zaG c s
 rw [e] at h ⊢
 simp only [List.flatMap_cons,List.length_append,List.length_cons,List.tail_cons] at h ⊢
 omega
theorem zfa {l:List (List UInt8)} (i:Nat) (f:List UInt8 → List UInt8):(l.take i).flatMap f ++ (l.drop i).flatMap f=l.flatMap f:=by
 rw [← List.flatMap_append,List.take_append_drop]
theorem zhF {l:List (List UInt8)} {i:Nat} (h:i < l.length):zcy (l.take (i + 1))=zcy (l.take i) ++ segF l[i]:=by
 unfold zcy
 rw [List.take_succ_eq_append_getElem h,List.flatMap_append]; simp
theorem zm5 {l:List (List UInt8)} {i:Nat} (h:i < l.length):zcW (l.take (i + 1))=zcW (l.take i) ++ zkp l[i]:=by
 unfold zcW
 rw [List.take_succ_eq_append_getElem h,List.flatMap_append]; simp
theorem ziX {p:List UInt8 → Bool} {l:List (List UInt8)} {i:Nat} (h:i < l.length):(l.take (i + 1)).all p=((l.take i).all p && p l[i]):=by
 rw [List.take_succ_eq_append_getElem h,List.all_append]; simp
theorem zhj {p:List UInt8 → Bool} {l:List (List UInt8)} {i:Nat} (h:i < l.length) (hp:p l[i]=false):l.all p=false:=by
 rw [Bool.eq_false_iff]
 intro e
 rw [List.all_eq_true.1 e _ (List.getElem_mem h)] at hp; cases hp
theorem ze9 {m i:List UInt8} (hi:i.length ≤ 13000) (c0:(dwA m i).1=0):zb9 (toU m i):=by
 have hd:dwA m i=(0,(dwA m i).2.1,(dwA m i).2.2):=by rw [← c0]
 obtain ⟨_,_,_,k4⟩:=zp1 hd
 obtain ⟨_,a2,_,a4,_⟩:=ziI k4
 have h1:=zdF (zag 58 i).tail
 have h2:=zfb 58 i
 refine ⟨by show (dwA m i).2.1.length ≤ _; omega,by show _ ≤ (((dwA m i).2.2:Nat):Int); omega,by show (((dwA m i).2.2:Nat):Int) ≤ _; omega,?_,by show (0:Nat) ≤ _; omega,by show (0:Nat) ≤ _; omega⟩
 show (zfl _).length ≤ _
 unfold zfl
 split
 ·decide
 ·simp only [List.length_append,List.length_cons,zho,List.length_nil]; omega
theorem ziD (l:List (List UInt8)):l.length ≤ (l.flatMap fun x => (1:UInt8) :: x).length:=by
 induction l with
 | nil => simp
 | cons x l ih => simp only [List.flatMap_cons,List.length_append,List.length_cons]; omega
theorem segI_len (x:List UInt8):(zkp x).length ≤ 1 + 3 * x.length:=by
 unfold zkp
 have h1:=zfC (zai x []).2
 have h2:=(zdA x []).1
 simp only [List.length_cons]; omega
theorem zgD:∀ l:List (List UInt8),(zcW l).length ≤ 3 * (l.flatMap fun x => (1:UInt8) :: x).length
 | [] => by simp [zcW]
 | x :: l => by
  have ih:=zgD l
  have h:=segI_len x
  unfold zcW at ih ⊢
  rw [List.flatMap_cons,List.flatMap_cons,List.length_append,List.length_append,List.length_cons]
  omega
theorem zmL {u:UrlP} (h:zcS u=true):∃ init z,zds u=init ++ [z]:=by
 obtain ⟨m,hm,hms,hp⟩:=(ze7 h).path
 have hsp:zds u=m:=by
  unfold zds
  rw [hp,zef m (fun x hx => (hms x hx).1.1)]; rfl
 rw [hsp]
 rcases List.eq_nil_or_concat m with rfl | ⟨l',y,rfl⟩
 ·exact absurd rfl hm
 ·exact ⟨l',y,by simp⟩
section
variable [Tabs Tryz.prog] {objs:List OB} {K:List OB → AV → Prop}
theorem eachF_k (b:Nat) (l:List (List UInt8)) (hb:zdp objs b 218 []) (hl:(l.flatMap fun x => (1:UInt8) :: x).length ≤ 16384) (h0:l.all okS=false → ∀ o,zgd objs b o → K o (.i .i64 110))
  (h1:l.all okS=true → ∀ o,zdp o b 218 (zcy l) → zgd objs b o → K o (.i .i64 0)) :
  zad Tryz.prog 220 [.row l.length (l.map .s),.fn 221 [.p b 0] []] objs K:=by
 have hmem:∀ x ∈ l,x.length + 1 ≤ (l.flatMap fun x => (1:UInt8) :: x).length:=by
  intro x hx
  obtain ⟨p,q,rfl⟩:=List.append_of_mem hx
  simp only [List.flatMap_append,List.flatMap_cons,List.length_append,List.length_cons]; omega
 have hlen:l.length ≤ (l.flatMap fun x => (1:UInt8) :: x).length:=by
  clear hb h0 h1 hl hmem
  induction l with
  | nil => simp
  | cons x l ih => simp only [List.flatMap_cons,List.length_append,List.length_cons]; omega
 refine each_k l (by omega) _ _ _ isFn_pw (fun i o => zdp o b 218 (zcy (l.take i)) ∧ zgd objs b o ∧ (l.take i).all okS=true) ⟨by simpa [zcy] using hb,zgd.refl _ _,by simp⟩ ?_ ?_
 ·rintro i hi o ⟨k1,k2,k3⟩
  have hx:=hmem l[i] (List.getElem_mem hi)
  have hs:(zcy (l.take i)).length ≤ 1000000000:=by
   have h2:=zdF (l.take i)
   have h3:=congrArg List.length (zfa (l:=l) i fun x => (1:UInt8) :: x)
   rw [List.length_append] at h3
   omega
  refine pwAdd_k b (zcy (l.take i)) l[i] k1 (by omega) hs (fun e => ?_) (fun e o' k4 k5 => ?_)
  ·exact .inr ⟨110,rfl,by decide,h0 (zhj hi e) o k2⟩
  ·refine .inl ⟨rfl,by rw [zhF hi]; exact k4,k2.trans k5,by rw [ziX hi,k3,e]; rfl⟩
 ·rintro o ⟨k1,k2,k3⟩
  rw [List.take_length] at k1 k3
  exact h1 k3 o k1 k2
theorem zp0 [Shp Tryz.prog] [Pow Tryz.prog] (m i:List UInt8) (hm:m.length ≤ 13000) (hi:i.length ≤ 13000) (hk:K objs (.tup [zaA (toE m i).2,.i .i64 (toE m i).1])):zad Tryz.prog 193 [.agg [.s m,.s i]] objs K:=by
 refine za1 is_didweb_ToURL rfl fun C _ => ?_
 simp only [c_didweb_ToURL,sxZ,z6,z7,z8,j3,j6,j7,j8,j9,x0,x5,x6,x7,x8,x9,y3,reduceCtorEq,↓reduceIte]
 refine zae (zmr m i (by omega) (by omega) ?_)
 unfold toE at hk
 by_cases c0:(dwA m i).1=0
 ·simp only [c0,ne_eq,not_true_eq_false,if_false] at hk
  simp only [c0,zdS,sxZ,z6,z7,z8,j3,j6,j7,j8,j9,x0,x5,x6,x7,x8,x9,y3,reduceCtorEq,↓reduceIte]
  refine zae (zlm i 58 (by omega) ?_)
  have hpos:=zbs 58 i
  have htail:=zfb 58 i
  simp only [sxZ,z6,z7,z8,j3,j6,j7,j8,j9,x0,x5,x6,x7,x8,x9,y3,reduceCtorEq,↓reduceIte,Nat.mul_one,zgf]
  refine ⟨by omega,?_⟩
  have hsh:=ze9 hi c0
  have hlen:(zag 58 i).length - 1=(zag 58 i).tail.length:=by simp
  have hU:toU m i=⟨(dwA m i).2.1,(dwA m i).2.2,zfl (zag 58 i).tail,[],[],false,false⟩:=rfl
  rw [hlen]
  generalize (zag 58 i).tail=segs at *
  by_cases ht:segs=[]
  ·subst ht
   rw [show ([]:List (List UInt8)).all okS=true from rfl] at hk
   simp only [Bool.true_eq_false,if_false] at hk
   rw [show zfl []=wkP from rfl] at hU
   rw [hU] at hsh hk
   generalize hu:(⟨(dwA m i).2.1,(dwA m i).2.2,wkP,[],[],false,false⟩:UrlP)=u at hsh hk
   have e0:¬ (0:Int) < ((0:Nat):Int):=by omega
   simp only [e0,sxZ,z6,z7,z8,j3,j6,j7,j8,j9,x0,x5,x6,x7,x8,x9,y3,reduceCtorEq,↓reduceIte]
   refine zae (show zad _ _ [zaA ⟨(dwA m i).2.1,(dwA m i).2.2,wkP,[],[],false,false⟩] _ _ from hu ▸ zdE u hsh ?_)
   by_cases c1:(4096:Int) < (zcm u).length
   ·have c1':4096 < (zcm u).length:=by omega
    rw [if_pos c1'] at hk
    simp only [c1,sxZ,z6,z7,z8,j3,j6,j7,j8,j9,x0,x5,x6,x7,x8,x9,y3,reduceCtorEq,↓reduceIte]
    exact hk
   ·have c1':¬ 4096 < (zcm u).length:=by omega
    rw [if_neg c1'] at hk
    simp only [c1,sxZ,z6,z7,z8,j3,j6,j7,j8,j9,x0,x5,x6,x7,x8,x9,y3,reduceCtorEq,↓reduceIte]
    subst hu
    exact hk
  ·have e0:(0:Int) < (segs.length:Nat):=by
    have:=List.length_pos_iff.2 ht
    omega
   rw [show zfl segs=zcy segs ++ 47 :: zho by unfold zfl; rw [if_neg ht]] at hU
   have hsl:=zdF segs
   rw [hU] at hsh hk
   simp only [e0,sxZ,z6,z7,z8,j3,j6,j7,j8,j9,x0,x5,x6,x7,x8,x9,y3,reduceCtorEq,↓reduceIte]
   refine zae (eachF_k 4 segs (.inl ⟨rfl,rfl⟩) (by omega) (fun hbad o k2 => ?_) (fun hok o k1 k2 => ?_))
   ·have o1:=(k2.2 1 _ rfl (by decide) (fun e => by cases (show (none:Option Nat)=some _ from e))).1
    have ol:1 < o.length:=zcB o1
    rw [hbad] at hk
    simp only [o1,ol,sxZ,z6,z7,z8,j3,j6,j7,j8,j9,x0,x5,x6,x7,x8,x9,y3,reduceCtorEq,↓reduceIte,List.getElem?_set]
    exact hk
   ·rw [hok] at hk
    simp only [Bool.true_eq_false,if_false] at hk
    simp only [sxZ,z6,z7,z8,j3,j6,j7,j8,j9,x0,x5,x6,x7,x8,x9,y3,reduceCtorEq,↓reduceIte]
    refine zae (zhh _ 4 (zcy segs) k1 fun o' k3 => ?_)
    have k4:=k2.trans k3
    have o1:=(k4.2 1 _ rfl (by decide) (fun e => by cases (show (none:Option Nat)=some _ from e))).1
    have o3:=(k4.2 3 _ rfl (by decide) (fun e => by cases (show (none:Option Nat)=some _ from e))).1
    have ol1:1 < o'.length:=zcB o1
    have ol3:3 < o'.length:=zcB o3
    have hpa:zcy segs ++ [47] ++ [100,105,100,46,106,115,111,110]=zcy segs ++ 47 :: zho:=by simp [zho]
    simp only [o1,o3,ol1,ol3,sxZ,z6,z7,z8,j3,j6,j7,j8,j9,x0,x5,x6,x7,x8,x9,y3,reduceCtorEq,↓reduceIte,List.getElem?_set,List.length_set]
    refine ⟨by omega,?_⟩
    simp only [hpa]
    refine ⟨by omega,?_⟩
    refine zae (zdE _ hsh ?_)
    generalize hu:(⟨(dwA m i).2.1,(dwA m i).2.2,zcy segs ++ 47 :: zho,[],[],false,false⟩:UrlP)=u at hsh hk ⊢
    by_cases c1:(4096:Int) < (zcm u).length
    ·have c1':4096 < (zcm u).length:=by omega
     rw [if_pos c1'] at hk
     simp only [c1,o1,o3,ol1,ol3,sxZ,z6,z7,z8,j3,j6,j7,j8,j9,x0,x5,x6,x7,x8,x9,y3,reduceCtorEq,↓reduceIte,List.getElem?_set,List.length_set]
     exact hk
    ·have c1':¬ 4096 < (zcm u).length:=by omega
     rw [if_neg c1'] at hk
     simp only [c1,o1,o3,ol1,ol3,sxZ,z6,z7,z8,j3,j6,j7,j8,j9,x0,x5,x6,x7,x8,x9,y3,reduceCtorEq,↓reduceIte,List.getElem?_set,List.length_set]
     subst hu
     exact hk
 ·simp only [c0,ne_eq,not_false_eq_true,if_true] at hk
  simp only [c0,zdS,sxZ,z6,z7,z8,j3,j6,j7,j8,j9,x0,x5,x6,x7,x8,x9,y3,reduceCtorEq,↓reduceIte]
  exact hk
theorem eachI_k [Shp Tryz.prog] (b:Nat) (l0:List UInt8) (l:List (List UInt8)) (hb:zdp objs b 222 l0) (hl0:l0.length ≤ 100000000) (hl:(l.flatMap fun x => (1:UInt8) :: x).length ≤ 16384) (h0:l.all okI=false → ∀ o,zgd objs b o → K o (.i .i64 110))
  (h1:l.all okI=true → ∀ o,zdp o b 222 (l0 ++ zcW l) → zgd objs b o → K o (.i .i64 0)) :
  zad Tryz.prog 220 [.row l.length (l.map .s),.fn 225 [.p b 0] []] objs K:=by
 have hmem:∀ x ∈ l,x.length + 1 ≤ (l.flatMap fun x => (1:UInt8) :: x).length:=by
  intro x hx
  obtain ⟨p,q,rfl⟩:=List.append_of_mem hx
  simp only [List.flatMap_append,List.flatMap_cons,List.length_append,List.length_cons]; omega
 have hlen:l.length ≤ (l.flatMap fun x => (1:UInt8) :: x).length:=by
  clear hb h0 h1 hl hmem
  induction l with
  | nil => simp
  | cons x l ih => simp only [List.flatMap_cons,List.length_append,List.length_cons]; omega
 refine each_k l (by omega) _ _ _ isFn_iw (fun i o => zdp o b 222 (l0 ++ zcW (l.take i)) ∧ zgd objs b o ∧ (l.take i).all okI=true) ⟨by simpa [zcW] using hb,zgd.refl _ _,by simp⟩ ?_ ?_
 ·rintro i hi o ⟨k1,k2,k3⟩
  have hx:=hmem l[i] (List.getElem_mem hi)
  have hs:(l0 ++ zcW (l.take i)).length ≤ 1000000000:=by
   have h2:=zgD (l.take i)
   have h3:=congrArg List.length (zfa (l:=l) i fun x => (1:UInt8) :: x)
   rw [List.length_append] at h3 ⊢
   omega
  refine iwAdd_k b (l0 ++ zcW (l.take i)) l[i] k1 (by omega) hs (fun e => ?_) (fun e o' k4 k5 => ?_)
  ·exact .inr ⟨110,rfl,by decide,h0 (zhj hi e) o k2⟩
  ·refine .inl ⟨rfl,by rw [zm5 hi,← List.append_assoc]; exact k4,k2.trans k5,by rw [ziX hi,k3,e]; rfl⟩
 ·rintro o ⟨k1,k2,k3⟩
  rw [List.take_length] at k1 k3
  exact h1 k3 o k1 k2
set_option maxHeartbeats 1000000 in
theorem zkZ [Shp Tryz.prog] [Pow Tryz.prog] (u:UrlP) (hu:zb9 u) (hk:K objs (.tup [.agg [.s (zdo u).2.1,.s (zdo u).2.2],.i .i64 (zdo u).1])):zad Tryz.prog 194 [zaA u] objs K:=by
 refine za1 is_didweb_FromURL rfl fun C _ => ?_
 simp only [c_didweb_FromURL,zaA,sxZ,z6,z7,z8,j3,j6,j7,j8,j9,x0,x5,x6,x7,x8,x9,y3,reduceCtorEq,↓reduceIte]
 refine zae (wValid_k u hu ?_)
 unfold zdo at hk
 by_cases c0:zcS u=true
 ·obtain ⟨init,z,hseg⟩:=zmL c0
  have hlen:=zi5 c0
  have hpl:=zbY u
  have hsum:=zfb 47 u.path
  have hst:(zag 47 u.path).tail=init ++ [z]:=hseg
  have hln:(zag 47 u.path).length - 1=init.length + 1:=by
   have:=congrArg List.length hst
   simpa using this
  have hpos:=zbs 47 u.path
  rw [hst] at hsum
  have hid:zeC u=hpI u.host u.port ++ (if u.path=wkP then [] else zcW init):=by
   unfold zeC; rw [hseg]; simp
  have hhl:u.host.length ≤ 1000000:=hu.1
  simp only [c0,Bool.true_eq_false,if_false,hseg,List.getLastD_concat,List.dropLast_concat,hid] at hk
  simp only [c0,sxZ,z6,z7,z8,j3,j6,j7,j8,j9,x0,x5,x6,x7,x8,x9,y3,reduceCtorEq,↓reduceIte]
  refine zae (zlm u.path 47 (by omega) ?_)
  simp only [sxZ,z6,z7,z8,j3,j6,j7,j8,j9,x0,x5,x6,x7,x8,x9,y3,reduceCtorEq,↓reduceIte,Nat.mul_one,zgf,hst,hln]
  have hls:=ziD (init ++ [z])
  rw [List.length_append,List.length_singleton] at hls
  refine ⟨by omega,by omega,?_⟩
  have e1:((init.length + 1:Nat):Int) - 1=init.length:=by omega
  have hz:((init ++ [z]).map AV.s)[init.length]? = some (.s z):=by simp
  have htk:((init ++ [z]).map AV.s).take init.length=init.map AV.s:=by simp
  have hsi:(init.flatMap fun x => (1:UInt8) :: x).length ≤ 16384:=by
   rw [List.flatMap_append,List.length_append] at hsum
   omega
  simp only [e1]
  cases hq:u.hq with
  | true =>
   simp only [hq,true_or,if_true] at hk
   simp only [sxZ,z6,z7,z8,j3,j6,j7,j8,j9,x0,x5,x6,x7,x8,x9,y3,reduceCtorEq,↓reduceIte]
   exact hk
  | false =>
   cases hf:u.hf with
   | true =>
    simp only [hf,true_or,or_true,if_true] at hk
    simp only [sxZ,z6,z7,z8,j3,j6,j7,j8,j9,x0,x5,x6,x7,x8,x9,y3,reduceCtorEq,↓reduceIte]
    exact hk
   | false =>
    simp only [sxZ,z6,z7,z8,j3,j6,j7,j8,j9,x0,x5,x6,x7,x8,x9,y3,reduceCtorEq,↓reduceIte,Int.toNat_natCast,Nat.mul_one,hz]
    refine ⟨by simp; omega,?_⟩
    by_cases c1:z=zho
    ·simp only [hq,hf,c1,Bool.false_eq_true,not_true_eq_false,or_self,if_false] at hk
     have c1':¬ ¬ z=[100,105,100,46,106,115,111,110]:=fun h => h c1
     simp only [c1',sxZ,z6,z7,z8,j3,j6,j7,j8,j9,x0,x5,x6,x7,x8,x9,y3,reduceCtorEq,↓reduceIte]
     have eu:zaA u=.agg [.s u.host,.i .i64 u.port,.s u.path,.s u.query,.s u.frag,.b false,.b false]:=by unfold zaA; rw [hq,hf]
     refine zae ?_
     rw [← eu]
     refine zi4 u ?_
     simp only [zdS,sxZ,z6,z7,z8,j3,j6,j7,j8,j9,x0,x5,x6,x7,x8,x9,y3,reduceCtorEq,↓reduceIte]
     refine zae (zpD 2 u.host u.port (.inl ⟨rfl,rfl⟩) hhl hu.2.1 hu.2.2.1 fun o k1 k2 => ?_)
     have o0:=(k2.2 0 _ rfl (by decide) (fun e => by cases (show (none:Option Nat)=some _ from e))).1
     have o1:=(k2.2 1 _ rfl (by decide) (fun e => by cases (show (none:Option Nat)=some _ from e))).1
     have hhp:=zpL u.host u.port hu.2.1 hu.2.2.1
     by_cases c2:u.path=wkP
     ·simp only [c2,not_true_eq_false,false_and,if_false,if_true,List.append_nil] at hk
      have c2':¬ ¬ wkP=[47,46,119,101,108,108,45,107,110,111,119,110,47,100,105,100,46,106,115,111,110]:=fun h => h rfl
      simp only [c2,c2',o0,o1,sxZ,z6,z7,z8,j3,j6,j7,j8,j9,x0,x5,x6,x7,x8,x9,y3,reduceCtorEq,↓reduceIte]
      refine zae (zhh _ 2 _ k1 fun o' k3 => ?_)
      have p1:=((k2.trans k3).2 1 _ rfl (by decide) (fun e => by cases (show (none:Option Nat)=some _ from e))).1
      have ol1:1 < o'.length:=zcB p1
      have g1:∀ x:OB,(o' ++ [x])[1]? = o'[1]?:=fun x => List.getElem?_append_left ol1
      have s1:∀ x y:OB,(o' ++ [x]).set 1 y=o'.set 1 y ++ [x]:=fun x y => List.set_append_left _ _ ol1
      have g2:∀ x y:OB,(o'.set 1 y ++ [x])[1]? = some y:=fun x y => by rw [List.getElem?_append_left (by simpa using ol1),List.getElem?_set_self ol1]
      simp only [gn1,sn1,g1,s1,g2,p1,sxZ,z6,z7,z8,j3,j6,j7,j8,j9,x0,x5,x6,x7,x8,x9,y3,reduceCtorEq,↓reduceIte]
      refine zae (zdy _ _ (by decide) (by omega) ?_)
      have hw:zec=[119,101,98]:=rfl
      rw [hw] at hk
      by_cases c3:(4096:Int) < (zbk [119,101,98] (hpI u.host u.port)).length
      ·have c3':4096 < (zbk [119,101,98] (hpI u.host u.port)).length:=by omega
       rw [if_pos c3'] at hk
       simp only [c3,gn1,sn1,g1,s1,g2,p1,sxZ,z6,z7,z8,j3,j6,j7,j8,j9,x0,x5,x6,x7,x8,x9,y3,reduceCtorEq,↓reduceIte]
       exact hk
      ·have c3':¬ 4096 < (zbk [119,101,98] (hpI u.host u.port)).length:=by omega
       rw [if_neg c3'] at hk
       simp only [c3,gn1,sn1,g1,s1,g2,p1,sxZ,z6,z7,z8,j3,j6,j7,j8,j9,x0,x5,x6,x7,x8,x9,y3,reduceCtorEq,↓reduceIte]
       exact hk
     ·have c2':¬ u.path=[47,46,119,101,108,108,45,107,110,111,119,110,47,100,105,100,46,106,115,111,110]:=c2
      by_cases c4:init=[]
      ·subst c4
       simp only [c2,not_false_eq_true,true_and,true_or,if_true] at hk
       have ol1:=zcB o1
       have ez:((0:Nat):Int)=0:=rfl
       simp only [c2',o0,o1,ol1,ez,sxZ,z6,z7,z8,j3,j6,j7,j8,j9,x0,x5,x6,x7,x8,x9,y3,reduceCtorEq,↓reduceIte,List.getElem?_set]
       exact hk
      ·have c4':¬ ((init.length:Nat):Int)=0:=by
        have:=List.length_pos_iff.2 c4
        omega
       simp only [c2,c4,not_false_eq_true,true_and,false_or,if_false] at hk
       simp only [c2',c4',o0,o1,sxZ,z6,z7,z8,j3,j6,j7,j8,j9,x0,x5,x6,x7,x8,x9,y3,reduceCtorEq,↓reduceIte,Int.toNat_natCast,Nat.mul_one,htk]
       refine ⟨by omega,?_⟩
       refine zae (eachI_k 2 _ init k1 (by omega) hsi (fun hbad o' k5 => ?_) (fun hok o' k4 k5 => ?_))
       ·have p1:=((k2.trans k5).2 1 _ rfl (by decide) (fun e => by cases (show (none:Option Nat)=some _ from e))).1
        have ol1:=zcB p1
        rw [hbad] at hk
        simp only [p1,ol1,sxZ,z6,z7,z8,j3,j6,j7,j8,j9,x0,x5,x6,x7,x8,x9,y3,reduceCtorEq,↓reduceIte,List.getElem?_set]
        exact hk
       ·rw [hok] at hk
        simp only [Bool.true_eq_false,if_false] at hk
        simp only [sxZ,z6,z7,z8,j3,j6,j7,j8,j9,x0,x5,x6,x7,x8,x9,y3,reduceCtorEq,↓reduceIte]
        have hsl:=zgD init
        refine zae (zhh _ 2 _ k4 fun o2 k6 => ?_)
        have p1:=(((k2.trans k5).trans k6).2 1 _ rfl (by decide) (fun e => by cases (show (none:Option Nat)=some _ from e))).1
        have ol1:1 < o2.length:=zcB p1
        have g1:∀ x:OB,(o2 ++ [x])[1]? = o2[1]?:=fun x => List.getElem?_append_left ol1
        have s1:∀ x y:OB,(o2 ++ [x]).set 1 y=o2.set 1 y ++ [x]:=fun x y => List.set_append_left _ _ ol1
        have g2:∀ x y:OB,(o2.set 1 y ++ [x])[1]? = some y:=fun x y => by rw [List.getElem?_append_left (by simpa using ol1),List.getElem?_set_self ol1]
        simp only [gn1,sn1,g1,s1,g2,p1,sxZ,z6,z7,z8,j3,j6,j7,j8,j9,x0,x5,x6,x7,x8,x9,y3,reduceCtorEq,↓reduceIte]
        refine zae (zdy _ _ (by decide) (by rw [List.length_append]; omega) ?_)
        have hw:zec=[119,101,98]:=rfl
        rw [hw] at hk
        by_cases c3:(4096:Int) < (zbk [119,101,98] (hpI u.host u.port ++ zcW init)).length
        ·have c3':4096 < (zbk [119,101,98] (hpI u.host u.port ++ zcW init)).length:=by omega
         rw [if_pos c3'] at hk
         simp only [c3,gn1,sn1,g1,s1,g2,p1,sxZ,z6,z7,z8,j3,j6,j7,j8,j9,x0,x5,x6,x7,x8,x9,y3,reduceCtorEq,↓reduceIte]
         exact hk
        ·have c3':¬ 4096 < (zbk [119,101,98] (hpI u.host u.port ++ zcW init)).length:=by omega
         rw [if_neg c3'] at hk
         simp only [c3,gn1,sn1,g1,s1,g2,p1,sxZ,z6,z7,z8,j3,j6,j7,j8,j9,x0,x5,x6,x7,x8,x9,y3,reduceCtorEq,↓reduceIte]
         exact hk
    ·simp only [hq,hf,c1,Bool.false_eq_true,not_false_eq_true,or_true,if_true] at hk
     have c1':¬ z=[100,105,100,46,106,115,111,110]:=c1
     simp only [c1',sxZ,z6,z7,z8,j3,j6,j7,j8,j9,x0,x5,x6,x7,x8,x9,y3,reduceCtorEq,↓reduceIte]
     exact hk
 ·simp only [c0,sxZ,z6,z7,z8,j3,j6,j7,j8,j9,x0,x5,x6,x7,x8,x9,y3,reduceCtorEq,↓reduceIte]
  simp only [c0,if_true] at hk
  exact hk
theorem dwCan_k [Shp Tryz.prog] [Pow Tryz.prog] (m i:List UInt8) (hm:m.length ≤ 13000) (hi:i.length ≤ 13000) (hk:K objs (.tup [.agg [.s (zeO m i).2.1,.s (zeO m i).2.2],.i .i64 (zeO m i).1])):zad Tryz.prog 161 [.agg [.s m,.s i]] objs K:=by
 refine za1 is_didweb_Canonical rfl fun C _ => ?_
 simp only [c_didweb_Canonical,sxZ,z6,z7,z8,j3,j6,j7,j8,j9,x0,x5,x6,x7,x8,x9,y3,reduceCtorEq,↓reduceIte]
 refine zae (zp0 m i hm hi ?_)
 unfold zeO at hk
 have hz:=to_err (m:=m) (i:=i)
 have hsh:(toE m i).1=0 → zb9 (toE m i).2:=fun h => by
  have e:toE m i=(0,(toE m i).2):=by rw [← h]
  obtain ⟨_,_,_,k4,_,k6⟩:=zli e
  rw [k6]; exact ze9 hi (by rw [k4])
 generalize toE m i=q at *
 obtain ⟨e,u⟩:=q
 simp only at hz hsh hk ⊢
 by_cases c0:e=0
 ·subst c0
  simp only [ne_eq,not_true_eq_false,if_false] at hk
  simp only [zaA,sxZ,z6,z7,z8,j3,j6,j7,j8,j9,x0,x5,x6,x7,x8,x9,y3,reduceCtorEq,↓reduceIte]
  refine zae (zkZ u (hsh rfl) ?_)
  simp only [sxZ,z6,z7,z8,j3,j6,j7,j8,j9,x0,x5,x6,x7,x8,x9,y3,reduceCtorEq,↓reduceIte]
  exact hk
 ·have:=hz c0
  subst this
  simp only [c0,ne_eq,not_false_eq_true,if_true] at hk
  simp only [c0,zaA,sxZ,z6,z7,z8,j3,j6,j7,j8,j9,x0,x5,x6,x7,x8,x9,y3,reduceCtorEq,↓reduceIte]
  exact hk
end
def jn2:List (List UInt8) → List UInt8
 | [] => []
 | p :: ps => zbE p ++ jnc ps
theorem jn2_snoc (xs:List (List UInt8)) (q:List UInt8):jn2 (xs ++ [q])=(if xs=[] then [] else jn2 xs ++ [58]) ++ zbE q:=by
 cases xs with
 | nil => simp [jn2,jnc]
 | cons p ps => simp [jn2,jnc]
theorem idE_list (d:List UInt8) (hl:d.length ≤ 16384):idE d=if ¬ (∀ q ∈ zag 58 d,(zaO q).1=0) then (2,[]) else if (zag 58 d).all (fun q => q.all ppB)=false then (1,[]) else if (zag 58 d).getLastD []=[] then (3,[]) else (0,jn2 (zag 58 d)):=by
 obtain ⟨p,ps,h⟩:=zaG 58 d
 rw [zem d p ps hl h,h]; rfl
theorem zmo (l:List UInt8):(zbc l).length ≤ 3 * l.length:=by
 induction l with
 | nil => exact Nat.le_refl _
 | cons c l ih =>
  rw [zcu,List.length_append,List.length_cons]
  split <;> simp only [zeE,List.length_cons,List.length_nil] <;> omega
theorem pp_iff (c:UInt8):ppB c=(c == 37 || idB c):=rfl
theorem zqC {xs:List (List UInt8)} {p:List UInt8 → Prop} (h:∀ j (hj:j < xs.length),p xs[j]):∀ q ∈ xs,p q:=by
 intro x hx
 obtain ⟨j,hj,rfl⟩:=List.mem_iff_getElem.1 hx
 exact h j hj
theorem zpW (l:List UInt8) (c:UInt8):zbc (l ++ [c])=zbc l ++ (if idB c=true then [c] else zc3 c):=by simp [zbc]
theorem dcL_len (l:List UInt8) (h:(dcL l).1=0):(dcL l).2.length ≤ l.length:=by
 have key:∀ (n:Nat) (l:List UInt8),l.length ≤ n → (dcL l).1=0 → (dcL l).2.length ≤ l.length:=by
  intro n
  induction n with
  | zero =>
   intro l hl h
   obtain rfl:l=[]:=List.eq_nil_of_length_eq_zero (by omega)
   exact Nat.le_refl _
  | succ n ih =>
   intro l hl h
   cases l with
   | nil => exact Nat.le_refl _
   | cons c t =>
    by_cases hc:c=37
    ·subst hc
     rcases he:zbp (37 :: t) with _ | _
     ·rw [zfV he] at h; cases h
     ·obtain ⟨a,b,r,rfl⟩:=zbI he
      have d:=zd4 he
      rw [d.1] at h
      have:=ih r (by simp at hl ⊢; omega) h
      rw [d.2 h]
      simp; omega
    ·have d:=zdB (c:=c) (t:=t) hc
     rw [d.1] at h
     have:=ih t (by simp at hl; omega) h
     rw [d.2 h]
     simp; omega
 exact key l.length l (Nat.le_refl _) h
section
variable [Tabs Tryz.prog] {objs:List OB} {K:List OB → AV → Prop}
theorem zlE (c:UInt8) (hk:K objs (.b (zak c))):zad Tryz.prog 124 [.i .u8 c.toNat] objs K :=
 conv (vs:=[.int .u8 c.toNat]) rfl rfl (fun w => (za3 c w).mono (by rintro e w' ⟨rfl,rfl⟩; exact ⟨rfl,Qb.refl _⟩)) hk
theorem rAlpha_k (c:UInt8) (hk:K objs (.b (za0 c))):zad Tryz.prog 123 [.i .u8 c.toNat] objs K :=
 conv (vs:=[.int .u8 c.toNat]) rfl rfl (fun w => (za4 c w).mono (by rintro e w' ⟨rfl,rfl⟩; exact ⟨rfl,Qb.refl _⟩)) hk
theorem rIn_k (c:UInt8) (s:List UInt8) (hs:s.length ≤ maxLen) (hk:K objs (.b (zbb c s))):zad Tryz.prog 92 [.i .u8 c.toNat,.s s] objs K :=
 conv (vs:=[.int .u8 c.toNat,.string (S s)]) rfl rfl (fun w => (zb3 c (S s) w (by rw [zac]; exact hs)).mono (by rintro e w' ⟨rfl,rfl⟩; exact ⟨rfl,Qb.refl _⟩)) hk
theorem zoG (c:UInt8) (hk:K objs (.s (zc3 c))):zad Tryz.prog 93 [.i .u8 c.toNat] objs K :=
 conv (vs:=[.int .u8 c.toNat]) rfl rfl (fun w => zdX c w) hk
theorem zju (c:UInt8) (hk:K objs (.b (idB c))):zad Tryz.prog 146 [.i .u8 c.toNat] objs K:=by
 refine za1 is_ref10_plain rfl fun C _ => ?_
 unfold idB at hk
 simp only [c_ref10_plain,sxZ,z6,z7,z8,j3,j6,j7,j8,j9,x0,x5,x6,x7,x8,x9,y3,reduceCtorEq,↓reduceIte]
 refine zae (rAlpha_k c ?_)
 by_cases h1:za0 c=true
 ·simp only [h1,Bool.true_or] at hk
  simp only [h1,sxZ,z6,z7,z8,j3,j6,j7,j8,j9,x0,x5,x6,x7,x8,x9,y3,reduceCtorEq,↓reduceIte]
  exact hk
 ·simp only [h1,sxZ,z6,z7,z8,j3,j6,j7,j8,j9,x0,x5,x6,x7,x8,x9,y3,reduceCtorEq,↓reduceIte]
  refine zae (zlE c ?_)
  by_cases h2:zak c=true
  ·simp only [h1,h2,Bool.true_or,Bool.or_true,Bool.false_or] at hk
   simp only [h2,sxZ,z6,z7,z8,j3,j6,j7,j8,j9,x0,x5,x6,x7,x8,x9,y3,reduceCtorEq,↓reduceIte]
   exact hk
  ·simp only [h1,h2,Bool.false_or] at hk
   simp only [h2,sxZ,z6,z7,z8,j3,j6,j7,j8,j9,x0,x5,x6,x7,x8,x9,y3,reduceCtorEq,↓reduceIte]
   refine zae (rIn_k c _ (by decide) ?_)
   simp only [sxZ,z6,z7,z8,j3,j6,j7,j8,j9,x0,x5,x6,x7,x8,x9,y3,reduceCtorEq,↓reduceIte]
   exact hk
set_option maxHeartbeats 4000000 in
theorem znf (s:List UInt8) (hs:s.length ≤ 1000000) (hk:K objs (.b (zbM s))):zad Tryz.prog 145 [.s s] objs K:=by
 refine za1 is_ref10_method rfl fun C _ => ?_
 unfold zbM at hk
 simp only [c_ref10_method,sxZ,z6,z7,z8,j3,j6,j7,j8,j9,x0,x5,x6,x7,x8,x9,y3,reduceCtorEq,↓reduceIte]
 refine zcq (fun n objs tm => ∃ i:Nat,i ≤ s.length ∧ n=s.length - i ∧ objs=[] ∧ (∀ j (h:j < s.length),j < i → meB s[j]=true) ∧ tm.length=29 ∧ tm[0]? = some (.s s) ∧ tm[3]? = some (.i .i64 i)) s.length ⟨0,Nat.zero_le _,rfl,rfl,fun j h h0 => absurd h0 (by omega),rfl,rfl,rfl⟩ ?_
 rintro n _ tm ⟨i,hi,rfl,rfl,hall,hlen,t0,t3⟩
 by_cases hlt:(i:Int) < s.length
 ·have hlt':i < s.length:=by omega
  have hg:=zdw hlt'
  have hfin:meB s[i]=false → K objs (.b false):=fun h => by
   rw [ziY hlt' h] at hk; exact hk
  have hnext:meB s[i]=true → ∀ j (h:j < s.length),j < i + 1 → meB s[j]=true:=by
   intro h j hj hji
   rcases Nat.lt_or_ge j i with h1 | h1
   ·exact hall j hj h1
   ·have:j=i:=by omega
    subst this; exact h
  simp only [sxZ,z6,z7,z8,j3,j6,j7,j8,j9,x0,x5,x6,x7,x8,x9,y3,reduceCtorEq,↓reduceIte,List.getElem?_set,hlen,t0,t3,hlt]
  refine ⟨by omega,?_⟩
  rw [hg]
  generalize s[i]=c at *
  refine zae (zlE c ?_)
  by_cases hd:zak c=true
  ·have hm:meB c=true:=by unfold meB; rw [hd]; rfl
   simp only [hd,sxZ,z6,z7,z8,j3,j6,j7,j8,j9,x0,x5,x6,x7,x8,x9,y3,reduceCtorEq,↓reduceIte,List.getElem?_set,hlen,t0,t3]
   exact ⟨⟨by omega,by omega⟩,s.length - (i + 1),by omega,i + 1,by omega,rfl,hnext hm,rfl⟩
  ·simp only [Bool.not_eq_true] at hd
   have hm:=zo6 c hd
   by_cases h97:((c.toNat:Nat):Int) < 97
   ·have hm2:meB c=false:=by rw [hm,decide_eq_false (by omega)]; rfl
    simp only [hd,hg,h97,sxZ,z6,z7,z8,j3,j6,j7,j8,j9,x0,x5,x6,x7,x8,x9,y3,reduceCtorEq,↓reduceIte,List.getElem?_set,hlen,t0,t3]
    exact ⟨⟨by omega,by omega⟩,hfin hm2⟩
   ·by_cases h122:(122:Int) < ((c.toNat:Nat):Int)
    ·have hm2:meB c=false:=by rw [hm,decide_eq_false (p:=c.toNat ≤ 122) (by omega),Bool.and_false]
     simp only [hd,hg,h97,h122,sxZ,z6,z7,z8,j3,j6,j7,j8,j9,x0,x5,x6,x7,x8,x9,y3,reduceCtorEq,↓reduceIte,List.getElem?_set,hlen,t0,t3]
     exact ⟨⟨by omega,by omega⟩,⟨by omega,by omega⟩,hfin hm2⟩
    ·have hm2:meB c=true:=by rw [hm,decide_eq_true (by omega),decide_eq_true (by omega)]; rfl
     simp only [hd,hg,h97,h122,sxZ,z6,z7,z8,j3,j6,j7,j8,j9,x0,x5,x6,x7,x8,x9,y3,reduceCtorEq,↓reduceIte,List.getElem?_set,hlen,t0,t3]
     exact ⟨⟨by omega,by omega⟩,⟨by omega,by omega⟩,⟨by omega,by omega⟩,s.length - (i + 1),by omega,i + 1,by omega,rfl,hnext hm2,rfl⟩
 ·have hie:i=s.length:=by omega
  subst hie
  have ha:s.all meB=true:=zmS fun j h => hall j h h
  rw [ha] at hk
  simp only [sxZ,z6,z7,z8,j3,j6,j7,j8,j9,x0,x5,x6,x7,x8,x9,y3,reduceCtorEq,↓reduceIte,List.getElem?_set,hlen,t0,t3,hlt]
  have e:decide (¬ s=[])=(true && !s.isEmpty):=by cases s <;> simp
  rw [e]
  exact hk
set_option maxHeartbeats 4000000 in
theorem zdW (s:List UInt8) (hs:s.length ≤ 1000000) (hk:K objs (.s (zbc s))):zad Tryz.prog 147 [.s s] objs K:=by
 refine za1 is_ref10_Escaped rfl fun C _ => ?_
 simp only [c_ref10_Escaped,sxZ,z6,z7,z8,j3,j6,j7,j8,j9,x0,x5,x6,x7,x8,x9,y3,reduceCtorEq,↓reduceIte]
 refine zcq (fun n objs tm => ∃ i:Nat,i ≤ s.length ∧ n=s.length - i ∧ objs=[] ∧ tm.length=29 ∧ tm[0]? = some (.s s) ∧ tm[3]? = some (.s (zbc (s.take i))) ∧ tm[4]? = some (.i .i64 i)) s.length ⟨0,Nat.zero_le _,rfl,rfl,rfl,rfl,rfl,rfl⟩ ?_
 rintro n _ tm ⟨i,hi,rfl,rfl,hlen,t0,t3,t4⟩
 have hacc:=zmo (s.take i)
 rw [List.length_take] at hacc
 by_cases hlt:(i:Int) < s.length
 ·have hlt':i < s.length:=by omega
  have hg:=zdw hlt'
  have hsn:zbc (s.take (i + 1))=zbc (s.take i) ++ (if idB s[i]=true then [s[i]] else zc3 s[i]):=by
   rw [List.take_succ_eq_append_getElem hlt',zpW]
  have hsl:(s.take (i + 1)).drop i=[s[i]]:=by
   rw [List.take_succ_eq_append_getElem hlt',List.drop_append_of_le_length (by rw [List.length_take]; omega)]
   simp
  generalize s[i]=c at *
  simp only [sxZ,z6,z7,z8,j3,j6,j7,j8,j9,x0,x5,x6,x7,x8,x9,y3,reduceCtorEq,↓reduceIte,List.getElem?_set,hlen,t0,t3,t4,hlt,hg]
  refine ⟨by omega,?_⟩
  refine zae (zju c ?_)
  by_cases h:idB c=true
  ·rw [if_pos h] at hsn
   simp only [sxZ,z6,z7,z8,j3,j6,j7,j8,j9,x0,x5,x6,x7,x8,x9,y3,reduceCtorEq,↓reduceIte,List.getElem?_set,hlen,t0,t3,t4,h,hg,hsl]
   exact ⟨⟨by omega,by omega⟩,⟨by omega,by omega,by omega⟩,by omega,⟨by omega,by omega⟩,s.length - (i + 1),by omega,i + 1,by omega,rfl,by rw [hsn],rfl⟩
  ·rw [if_neg h] at hsn
   simp only [sxZ,z6,z7,z8,j3,j6,j7,j8,j9,x0,x5,x6,x7,x8,x9,y3,reduceCtorEq,↓reduceIte,List.getElem?_set,hlen,t0,t3,t4,h,hg]
   refine ⟨by omega,?_⟩
   refine zae (zoG c ?_)
   simp only [sxZ,z6,z7,z8,j3,j6,j7,j8,j9,x0,x5,x6,x7,x8,x9,y3,reduceCtorEq,↓reduceIte,List.getElem?_set,hlen,t0,t3,t4,h,hg,zeE]
   exact ⟨by omega,⟨by omega,by omega⟩,s.length - (i + 1),by omega,i + 1,by omega,rfl,by rw [hsn],rfl⟩
 ·have hie:i=s.length:=by omega
  subst hie
  rw [List.take_length] at t3
  simp only [sxZ,z6,z7,z8,j3,j6,j7,j8,j9,x0,x5,x6,x7,x8,x9,y3,reduceCtorEq,↓reduceIte,List.getElem?_set,hlen,t0,t3,t4,hlt]
  exact hk
set_option maxHeartbeats 8000000 in
theorem zf1 (s:List UInt8) (hs:s.length ≤ maxLen) (hk:K objs (.tup [.agg [.s (zb7 s).2.1,.s (zb7 s).2.2],.i .i64 (zb7 s).1])):zad Tryz.prog 116 [.s s] objs K:=by
 have hm:maxLen=2 ^ 63 - 1:=rfl
 refine za1 is_ref10_ParseDID rfl fun C _ => ?_
 unfold zb7 at hk
 by_cases c0:(4096:Int) < ↑s.length
 ·have c0':4096 < s.length:=by omega
  simp only [c0',if_true] at hk
  simp only [c0,c_ref10_ParseDID,sxZ,z6,z7,z8,j3,j6,j7,j8,j9,x0,x5,x6,x7,x8,x9,y3,reduceCtorEq,↓reduceIte]
  exact hk
 ·have c0':¬ 4096 < s.length:=by omega
  simp only [c0',if_false] at hk
  simp only [c0,c_ref10_ParseDID,sxZ,z6,z7,z8,j3,j6,j7,j8,j9,x0,x5,x6,x7,x8,x9,y3,reduceCtorEq,↓reduceIte]
  refine zae (zbG s zbD hs ?_)
  by_cases c1:Lib.hasPrefix s zbD=true
  ·have h4:4 ≤ s.length:=zdY c1
   have hdl:(s.drop 4).length ≤ s.length:=by rw [List.length_drop]; omega
   simp only [c1,sxZ,z6,z7,z8,j3,j6,j7,j8,j9,x0,x5,x6,x7,x8,x9,y3,reduceCtorEq,↓reduceIte] at hk ⊢
   refine ⟨by omega,?_⟩
   generalize s.drop 4=r at *
   refine zae (zaZ r [58] (by omega) (by decide) ?_)
   have c58:=zer 58 r
   have hil:=ziH r [58]
   by_cases h58:zaz r [58] < r.length
   ·have e58:=c58.1 h58
    rw [e58] at hk
    have hne:¬ ((zaz r [58]:Nat):Int)=((r.length:Nat):Int):=by omega
    have htl:(r.take (zaz r [58])).length ≤ r.length:=by rw [List.length_take]; omega
    have hdl2:(r.drop (zaz r [58] + 1)).length ≤ r.length:=by rw [List.length_drop]; omega
    simp only [hne,sxZ,z6,z7,z8,j3,j6,j7,j8,j9,x0,x5,x6,x7,x8,x9,y3,reduceCtorEq,↓reduceIte] at hk ⊢
    refine ⟨⟨by omega,by omega⟩,?_⟩
    refine zae (znf _ (by omega) ?_)
    by_cases c2:zbM (r.take (zaz r [58]))=true
    ·simp only [c2,sxZ,z6,z7,z8,j3,j6,j7,j8,j9,x0,x5,x6,x7,x8,x9,y3,reduceCtorEq,↓reduceIte] at hk ⊢
     refine ⟨⟨by omega,by omega⟩,⟨by omega,by omega⟩,?_⟩
     refine zae (zit _ 58 (by omega) ?_)
     have hid:=idE_list (r.drop (zaz r [58] + 1)) (by omega)
     have hxl:=zc6 58 (r.drop (zaz r [58] + 1))
     have hxp:=zbs 58 (r.drop (zaz r [58] + 1))
     have hxs:∀ q ∈ zag 58 (r.drop (zaz r [58] + 1)),q.length ≤ 4096:=fun q hq => by
      have:=zc0 58 _ q hq; omega
     generalize idE (r.drop (zaz r [58] + 1))=ie at hk hid
     generalize zag 58 (r.drop (zaz r [58] + 1))=xs at hid hxl hxp hxs ⊢
     have hb:zaz r [58] ≤ r.length:=hil
     clear c58 e58 hil hne
     generalize zaz r [58]=ix at *
     simp only [sxZ,z6,z7,z8,j3,j6,j7,j8,j9,x0,x5,x6,x7,x8,x9,y3,reduceCtorEq,↓reduceIte]
     refine zcq (fun n objs tm => ∃ i:Nat,i ≤ xs.length ∧ n=xs.length - i ∧ objs=[.box 153 [.s [],.s []]] ∧ (∀ j (h:j < xs.length),j < i → (zaO xs[j]).1=0) ∧ tm.length=113 ∧ tm[0]? = some (.s r) ∧ tm[2]? = some (.p 0 0) ∧ tm[4]? = some (.i .i64 ix) ∧ tm[5]? = some (.row xs.length (xs.map .s)) ∧ tm[46]? = some (.row xs.length (xs.map .s)) ∧ tm[47]? = some (.i .i64 xs.length) ∧ tm[48]? = some (.i .i64 i)) xs.length ⟨0,Nat.zero_le _,rfl,rfl,fun j h h0 => absurd h0 (by omega),rfl,rfl,rfl,rfl,rfl,rfl,rfl,rfl⟩ ?_
     rintro n _ tm ⟨i,hi,rfl,rfl,hall,hlen,t0,t2,t4,t5,t46,t47,t48⟩
     by_cases hlt:(i:Int) < xs.length
     ·have hlt':i < xs.length:=by omega
      have hx:(xs.map AV.s)[i]? = some (.s xs[i]):=by simp
      have hni:(zaO xs[i]).1 ≠ 0 → K objs (.tup [.agg [.s [],.s []],.i .i64 2]):=fun h => by
       rw [if_pos (fun h2 => h (h2 _ (List.getElem_mem hlt')))] at hid
       rw [hid] at hk
       simp only [sxZ,z6,z7,z8,j3,j6,j7,j8,j9,x0,x5,x6,x7,x8,x9,y3,reduceCtorEq,↓reduceIte] at hk
       exact hk
      have hnext:(zaO xs[i]).1=0 → ∀ j (h:j < xs.length),j < i + 1 → (zaO xs[j]).1=0:=by
       intro h j hj hji
       rcases Nat.lt_or_ge j i with h1 | h1
       ·exact hall j hj h1
       ·have:j=i:=by omega
        subst this; exact h
      clear hk
      generalize xs[i]=q at *
      simp only [sxZ,z6,z7,z8,j3,j6,j7,j8,j9,x0,x5,x6,x7,x8,x9,y3,reduceCtorEq,↓reduceIte,List.getElem?_set,hlen,t0,t2,t4,t5,t46,t47,t48,hlt]
      refine ⟨⟨by omega,by simp⟩,?_⟩
      rw [Nat.mul_one,hx]
      simp only [sxZ,z6,z7,z8,j3,j6,j7,j8,j9,x0,x5,x6,x7,x8,x9,y3,reduceCtorEq,↓reduceIte,List.getElem?_set,hlen,t0,t2,t4,t5,t46,t47,t48]
      refine zae (zc7 q ?_)
      by_cases hd:(zaO q).1=0
      ·simp only [sxZ,z6,z7,z8,j3,j6,j7,j8,j9,x0,x5,x6,x7,x8,x9,y3,reduceCtorEq,↓reduceIte,List.getElem?_set,hlen,t0,t2,t4,t5,t46,t47,t48,hd]
       exact ⟨⟨by omega,by omega⟩,xs.length - (i + 1),by omega,i + 1,by omega,rfl,hnext hd,rfl⟩
      ·simp only [sxZ,z6,z7,z8,j3,j6,j7,j8,j9,x0,x5,x6,x7,x8,x9,y3,reduceCtorEq,↓reduceIte,List.getElem?_set,hlen,t0,t2,t4,t5,t46,t47,t48,hd]
       exact hni hd
     ·have hie:i=xs.length:=by omega
      subst hie
      have hdec:∀ q ∈ xs,(zaO q).1=0:=zqC fun j h => hall j h h
      rw [if_neg (fun h => h hdec)] at hid
      simp only [sxZ,z6,z7,z8,j3,j6,j7,j8,j9,x0,x5,x6,x7,x8,x9,y3,reduceCtorEq,↓reduceIte,List.getElem?_set,hlen,t0,t2,t4,t5,t46,t47,t48,hlt]
      refine zcq (fun n objs tm => ∃ i:Nat,∃ acc:List UInt8,i ≤ xs.length ∧ n=xs.length - i ∧ objs=[.box 153 [.s [],.s []]] ∧ (∀ j (h:j < xs.length),j < i → xs[j].all ppB=true) ∧ acc=jn2 (xs.take i) ∧ acc.length ≤ i * 20000 ∧ tm.length=113 ∧ tm[0]? = some (.s r) ∧ tm[2]? = some (.p 0 0) ∧ tm[4]? = some (.i .i64 ix) ∧ tm[5]? = some (.row xs.length (xs.map .s)) ∧ tm[10]? = some (.s acc) ∧ tm[61]? = some (.row xs.length (xs.map .s)) ∧ tm[62]? = some (.i .i64 xs.length) ∧ tm[63]? = some (.i .i64 i)) xs.length ⟨0,[],Nat.zero_le _,rfl,rfl,fun j h h0 => absurd h0 (by omega),rfl,by simp,(by simp only [sxZ,z6,z7,z8,j3,j6,j7,j8,j9,x0,x5,x6,x7,x8,x9,y3,reduceCtorEq,↓reduceIte,List.getElem?_set,hlen]; try rfl),(by simp only [sxZ,z6,z7,z8,j3,j6,j7,j8,j9,x0,x5,x6,x7,x8,x9,y3,reduceCtorEq,↓reduceIte,List.getElem?_set,hlen,t0]; try rfl),(by simp only [sxZ,z6,z7,z8,j3,j6,j7,j8,j9,x0,x5,x6,x7,x8,x9,y3,reduceCtorEq,↓reduceIte,List.getElem?_set,hlen,t2]; try rfl),(by simp only [sxZ,z6,z7,z8,j3,j6,j7,j8,j9,x0,x5,x6,x7,x8,x9,y3,reduceCtorEq,↓reduceIte,List.getElem?_set,hlen,t4]; try rfl),(by simp only [sxZ,z6,z7,z8,j3,j6,j7,j8,j9,x0,x5,x6,x7,x8,x9,y3,reduceCtorEq,↓reduceIte,List.getElem?_set,hlen,t5]; try rfl),(by simp only [sxZ,z6,z7,z8,j3,j6,j7,j8,j9,x0,x5,x6,x7,x8,x9,y3,reduceCtorEq,↓reduceIte,List.getElem?_set,hlen]; try rfl),(by simp only [sxZ,z6,z7,z8,j3,j6,j7,j8,j9,x0,x5,x6,x7,x8,x9,y3,reduceCtorEq,↓reduceIte,List.getElem?_set,hlen]; try rfl),(by simp only [sxZ,z6,z7,z8,j3,j6,j7,j8,j9,x0,x5,x6,x7,x8,x9,y3,reduceCtorEq,↓reduceIte,List.getElem?_set,hlen]; try rfl),(by simp only [sxZ,z6,z7,z8,j3,j6,j7,j8,j9,x0,x5,x6,x7,x8,x9,y3,reduceCtorEq,↓reduceIte,List.getElem?_set,hlen]; try rfl)⟩ ?_
      clear hall hlt t0 t2 t4 t5 t46 t47 t48 hlen tm
      rintro n _ tm ⟨i,acc,hi,rfl,rfl,hall,hacc,hal,hlen,t0,t2,t4,t5,t10,t61,t62,t63⟩
      by_cases hlt:(i:Int) < xs.length
      ·have hlt':i < xs.length:=by omega
       have hx:(xs.map AV.s)[i]? = some (.s xs[i]):=by simp
       have hql:xs[i].length ≤ 4096:=hxs _ (List.getElem_mem hlt')
       have hni:xs[i].all ppB=false → K objs (.tup [.agg [.s [],.s []],.i .i64 1]):=fun h => by
        have:(xs.all fun q => q.all ppB)=false:=by
         rw [Bool.eq_false_iff]
         intro e
         have:=List.all_eq_true.1 e _ (List.getElem_mem hlt')
         rw [h] at this; cases this
        rw [if_pos this] at hid
        rw [hid] at hk
        simp only [sxZ,z6,z7,z8,j3,j6,j7,j8,j9,x0,x5,x6,x7,x8,x9,y3,reduceCtorEq,↓reduceIte] at hk
        exact hk
       have hnext:xs[i].all ppB=true → ∀ j (h:j < xs.length),j < i + 1 → xs[j].all ppB=true:=by
        intro h j hj hji
        rcases Nat.lt_or_ge j i with h1 | h1
        ·exact hall j hj h1
        ·have:j=i:=by omega
         subst this; exact h
       have htk:jn2 (xs.take (i + 1))=(if xs.take i=[] then [] else acc ++ [58]) ++ zbE xs[i]:=by
        rw [List.take_succ_eq_append_getElem hlt',jn2_snoc,hacc]
       have htn:xs.take i=[] ↔ i=0:=by
        rw [List.take_eq_nil_iff]
        constructor
        ·rintro (h | h)
         ·exact h
         ·rw [h] at hxp; simp at hxp
        ·exact fun h => .inl h
       have hdq:=hdec _ (List.getElem_mem hlt')
       have hdl3:(zaO xs[i]).2.length ≤ 4096:=by
        have h2:(zaO xs[i]).2.length ≤ xs[i].length:=by
         rw [zbT (by omega)] at hdq ⊢
         exact dcL_len _ hdq
        omega
       have hpl:(zbc (zaO xs[i]).2).length ≤ 13000:=by
        have h1:=zmo (zaO xs[i]).2
        omega
       clear hk hid hall hacc hxs hdec
       have hpe:zbE xs[i]=zbc (zaO xs[i]).2:=rfl
       generalize xs[i]=q at *
       simp only [sxZ,z6,z7,z8,j3,j6,j7,j8,j9,x0,x5,x6,x7,x8,x9,y3,reduceCtorEq,↓reduceIte,List.getElem?_set,hlen,t0,t2,t4,t5,t10,t61,t62,t63,hlt]
       refine ⟨⟨by omega,by simp⟩,?_⟩
       rw [Nat.mul_one,hx]
       simp only [sxZ,z6,z7,z8,j3,j6,j7,j8,j9,x0,x5,x6,x7,x8,x9,y3,reduceCtorEq,↓reduceIte,List.getElem?_set,hlen,t0,t2,t4,t5,t10,t61,t62,t63]
       refine zcq (fun n objs tm => ∃ k:Nat,k ≤ q.length ∧ n=q.length - k ∧ objs=[.box 153 [.s [],.s []]] ∧ (∀ j (h:j < q.length),j < k → ppB q[j]=true) ∧ tm.length=113 ∧ tm[0]? = some (.s r) ∧ tm[2]? = some (.p 0 0) ∧ tm[4]? = some (.i .i64 ix) ∧ tm[5]? = some (.row xs.length (xs.map .s)) ∧ tm[10]? = some (.s acc) ∧ tm[11]? = some (.i .i64 i) ∧ tm[12]? = some (.s q) ∧ tm[13]? = some (.i .i64 k) ∧ tm[61]? = some (.row xs.length (xs.map .s)) ∧ tm[62]? = some (.i .i64 xs.length) ∧ tm[63]? = some (.i .i64 i)) q.length ⟨0,Nat.zero_le _,rfl,rfl,fun j h h0 => absurd h0 (by omega),(by simp only [sxZ,z6,z7,z8,j3,j6,j7,j8,j9,x0,x5,x6,x7,x8,x9,y3,reduceCtorEq,↓reduceIte,List.getElem?_set,hlen]; try rfl),(by simp only [sxZ,z6,z7,z8,j3,j6,j7,j8,j9,x0,x5,x6,x7,x8,x9,y3,reduceCtorEq,↓reduceIte,List.getElem?_set,hlen,t0]; try rfl),(by simp only [sxZ,z6,z7,z8,j3,j6,j7,j8,j9,x0,x5,x6,x7,x8,x9,y3,reduceCtorEq,↓reduceIte,List.getElem?_set,hlen,t2]; try rfl),(by simp only [sxZ,z6,z7,z8,j3,j6,j7,j8,j9,x0,x5,x6,x7,x8,x9,y3,reduceCtorEq,↓reduceIte,List.getElem?_set,hlen,t4]; try rfl),(by simp only [sxZ,z6,z7,z8,j3,j6,j7,j8,j9,x0,x5,x6,x7,x8,x9,y3,reduceCtorEq,↓reduceIte,List.getElem?_set,hlen,t5]; try rfl),(by simp only [sxZ,z6,z7,z8,j3,j6,j7,j8,j9,x0,x5,x6,x7,x8,x9,y3,reduceCtorEq,↓reduceIte,List.getElem?_set,hlen,t10]; try rfl),(by simp only [sxZ,z6,z7,z8,j3,j6,j7,j8,j9,x0,x5,x6,x7,x8,x9,y3,reduceCtorEq,↓reduceIte,List.getElem?_set,hlen]; try rfl),(by simp only [sxZ,z6,z7,z8,j3,j6,j7,j8,j9,x0,x5,x6,x7,x8,x9,y3,reduceCtorEq,↓reduceIte,List.getElem?_set,hlen]; try rfl),(by simp only [sxZ,z6,z7,z8,j3,j6,j7,j8,j9,x0,x5,x6,x7,x8,x9,y3,reduceCtorEq,↓reduceIte,List.getElem?_set,hlen]; try rfl),(by simp only [sxZ,z6,z7,z8,j3,j6,j7,j8,j9,x0,x5,x6,x7,x8,x9,y3,reduceCtorEq,↓reduceIte,List.getElem?_set,hlen,t61]; try rfl),(by simp only [sxZ,z6,z7,z8,j3,j6,j7,j8,j9,x0,x5,x6,x7,x8,x9,y3,reduceCtorEq,↓reduceIte,List.getElem?_set,hlen,t62]; try rfl),(by simp only [sxZ,z6,z7,z8,j3,j6,j7,j8,j9,x0,x5,x6,x7,x8,x9,y3,reduceCtorEq,↓reduceIte,List.getElem?_set,hlen,t63]; try rfl)⟩ ?_
       clear hx t0 t2 t4 t5 t10 t61 t62 t63 hlen tm
       rintro n _ tm ⟨k,hk1,rfl,rfl,hall,hlen,t0,t2,t4,t5,t10,t11,t12,t13,t61,t62,t63⟩
       by_cases hkl:(k:Int) < q.length
       ·have hkl':k < q.length:=by omega
        have hg:=zdw hkl'
        have hbad:ppB q[k]=false → K objs (.tup [.agg [.s [],.s []],.i .i64 1]):=fun h => hni (ziY hkl' h)
        have hgood:ppB q[k]=true → ∀ j (h:j < q.length),j < k + 1 → ppB q[j]=true:=by
         intro h j hj hji
         rcases Nat.lt_or_ge j k with h1 | h1
         ·exact hall j hj h1
         ·have:j=k:=by omega
          subst this; exact h
        generalize q[k]=c at *
        have hpp:=pp_iff c
        simp only [sxZ,z6,z7,z8,j3,j6,j7,j8,j9,x0,x5,x6,x7,x8,x9,y3,reduceCtorEq,↓reduceIte,List.getElem?_set,hlen,t0,t2,t4,t5,t10,t11,t12,t13,t61,t62,t63,hkl,hg]
        refine ⟨by omega,?_⟩
        refine zae (zju c ?_)
        by_cases hid:idB c=true
        ·simp only [sxZ,z6,z7,z8,j3,j6,j7,j8,j9,x0,x5,x6,x7,x8,x9,y3,reduceCtorEq,↓reduceIte,List.getElem?_set,hlen,t0,t2,t4,t5,t10,t11,t12,t13,t61,t62,t63,hg,hid]
         have hpt:ppB c=true:=by rw [hpp,hid,Bool.or_true]
         exact ⟨⟨by omega,by omega⟩,q.length - (k + 1),by omega,k + 1,by omega,rfl,hgood hpt,rfl⟩
        ·simp only [Bool.not_eq_true] at hid
         rw [hid,Bool.or_false] at hpp
         by_cases h37:c=37
         ·have e37:((c.toNat:Nat):Int)=37:=by rw [h37]; rfl
          have hpt:ppB c=true:=by rw [hpp,h37]; rfl
          simp only [sxZ,z6,z7,z8,j3,j6,j7,j8,j9,x0,x5,x6,x7,x8,x9,y3,reduceCtorEq,↓reduceIte,List.getElem?_set,hlen,t0,t2,t4,t5,t10,t11,t12,t13,t61,t62,t63,hg,hid,e37]
          exact ⟨⟨by omega,by omega⟩,⟨by omega,by omega⟩,q.length - (k + 1),by omega,k + 1,by omega,rfl,hgood hpt,rfl⟩
         ·have e37:¬ ((c.toNat:Nat):Int)=37:=fun e => h37 (UInt8.toNat_inj.1 (by have:(37:UInt8).toNat=37:=rfl; omega))
          have hpf:ppB c=false:=by rw [hpp]; simpa using h37
          simp only [sxZ,z6,z7,z8,j3,j6,j7,j8,j9,x0,x5,x6,x7,x8,x9,y3,reduceCtorEq,↓reduceIte,List.getElem?_set,hlen,t0,t2,t4,t5,t10,t11,t12,t13,t61,t62,t63,hg,hid,e37]
          exact ⟨⟨by omega,by omega⟩,hbad hpf⟩
       ·have hqa:q.all ppB=true:=zmS fun j h => hall j h (by omega)
        simp only [sxZ,z6,z7,z8,j3,j6,j7,j8,j9,x0,x5,x6,x7,x8,x9,y3,reduceCtorEq,↓reduceIte,List.getElem?_set,hlen,t0,t2,t4,t5,t10,t11,t12,t13,t61,t62,t63,hkl]
        refine zae (zc7 q ?_)
        by_cases hi0:i=0
        ·subst hi0
         have hgt:¬ (0:Int) < ((0:Nat):Int):=by decide
         rw [if_pos (htn.2 rfl)] at htk
         have hac:acc.length ≤ 0:=by omega
         obtain rfl:acc=[]:=List.eq_nil_of_length_eq_zero (by omega)
         simp only [sxZ,z6,z7,z8,j3,j6,j7,j8,j9,x0,x5,x6,x7,x8,x9,y3,reduceCtorEq,↓reduceIte,List.getElem?_set,hlen,t0,t2,t4,t5,t10,t11,t12,t13,t61,t62,t63,hgt]
         refine zae (zdW _ (by omega) ?_)
         simp only [sxZ,z6,z7,z8,j3,j6,j7,j8,j9,x0,x5,x6,x7,x8,x9,y3,reduceCtorEq,↓reduceIte,List.getElem?_set,hlen,t0,t2,t4,t5,t10,t11,t12,t13,t61,t62,t63]
         exact ⟨by omega,⟨by omega,by omega⟩,xs.length - 1,by omega,1,_,by omega,rfl,hnext hqa,by rw [htk,hpe]; rfl,by omega,rfl,rfl⟩
        ·have hgt:(0:Int) < ((i:Nat):Int):=by omega
         rw [if_neg (fun h => hi0 (htn.1 h))] at htk
         simp only [sxZ,z6,z7,z8,j3,j6,j7,j8,j9,x0,x5,x6,x7,x8,x9,y3,reduceCtorEq,↓reduceIte,List.getElem?_set,hlen,t0,t2,t4,t5,t10,t11,t12,t13,t61,t62,t63,hgt]
         have hib:i * 20000 ≤ 100000000:=by omega
         refine ⟨by omega,?_⟩
         refine zae (zdW _ (by omega) ?_)
         simp only [sxZ,z6,z7,z8,j3,j6,j7,j8,j9,x0,x5,x6,x7,x8,x9,y3,reduceCtorEq,↓reduceIte,List.getElem?_set,hlen,t0,t2,t4,t5,t10,t11,t12,t13,t61,t62,t63]
         exact ⟨by omega,⟨by omega,by omega⟩,xs.length - (i + 1),by omega,i + 1,_,by omega,rfl,hnext hqa,by rw [htk,hpe],by simp only [List.length_append,List.length_cons,List.length_nil]; omega,rfl,rfl⟩
      ·have hie:i=xs.length:=by omega
       subst hie
       have hal2:(xs.all fun q => q.all ppB)=true:=List.all_eq_true.2 (zqC fun j h => hall j h h)
       rw [if_neg (by rw [hal2]; simp)] at hid
       have hlast:xs.getLastD []=xs[xs.length - 1]:=zea xs [] hxp
       have hxn:(xs.map AV.s)[((xs.length:Int) - 1).toNat * 1]? = some (.s xs[xs.length - 1]):=by
        rw [show ((xs.length:Int) - 1).toNat * 1=xs.length - 1 by omega,List.getElem?_map,List.getElem?_eq_getElem (by omega)]; rfl
       rw [List.take_length] at hacc
       simp only [sxZ,z6,z7,z8,j3,j6,j7,j8,j9,x0,x5,x6,x7,x8,x9,y3,reduceCtorEq,↓reduceIte,List.getElem?_set,hlen,t0,t2,t4,t5,t10,t61,t62,t63,hlt]
       refine ⟨⟨by omega,by omega⟩,⟨by omega,by omega,by simp⟩,?_⟩
       rw [hxn]
       rw [hlast] at hid
       by_cases hz:xs[xs.length - 1]=[]
       ·rw [if_pos hz] at hid
        rw [hid] at hk
        simp only [sxZ,z6,z7,z8,j3,j6,j7,j8,j9,x0,x5,x6,x7,x8,x9,y3,reduceCtorEq,↓reduceIte,List.getElem?_set,hlen,t0,t2,t4,t5,t10,t61,t62,t63,hz] at hk ⊢
        exact hk
       ·rw [if_neg hz] at hid
        rw [hid] at hk
        simp only [sxZ,z6,z7,z8,j3,j6,j7,j8,j9,x0,x5,x6,x7,x8,x9,y3,reduceCtorEq,↓reduceIte] at hk
        simp only [sxZ,z6,z7,z8,j3,j6,j7,j8,j9,x0,x5,x6,x7,x8,x9,y3,reduceCtorEq,↓reduceIte,List.getElem?_set,hlen,t0,t2,t4,t5,t10,t61,t62,t63,hz]
        refine ⟨⟨by omega,by omega⟩,?_⟩
        rw [hacc]
        exact hk
    ·simp only [c2,sxZ,z6,z7,z8,j3,j6,j7,j8,j9,x0,x5,x6,x7,x8,x9,y3,reduceCtorEq,↓reduceIte] at hk ⊢
     exact hk
   ·have e58:=c58.2 h58
    rw [e58] at hk
    have hne:((zaz r [58]:Nat):Int)=((r.length:Nat):Int):=by omega
    simp only [hne,sxZ,z6,z7,z8,j3,j6,j7,j8,j9,x0,x5,x6,x7,x8,x9,y3,reduceCtorEq,↓reduceIte] at hk ⊢
    exact hk
  ·simp only [c1,sxZ,z6,z7,z8,j3,j6,j7,j8,j9,x0,x5,x6,x7,x8,x9,y3,reduceCtorEq,↓reduceIte] at hk ⊢
   exact hk
end
section
variable [Tabs Tryz.prog] {objs:List OB} {K:List OB → AV → Prop}
end
end Go.Proofs.YtljbdpihiboeaaaGreatDoor
namespace Go.Proofs.YtljbdpihiboeaaaGreatDoor
open Go.RowKit Sx
theorem from_len {u:UrlP} {r:List UInt8 × List UInt8} (h:zdo u=(0,r)):r.2.length ≤ 4096:=by
 unfold zdo at h
 split at h
 ·cases h
 ·split at h
  ·cases h
  ·split at h
   ·cases h
   ·split at h
    ·cases h
    ·rename_i g
     injection h with _ h
     subst h
     have:(zbk zec (zeC u)).length=(zeC u).length + 8:=by simp [zbk,zbD,zec]
     show (zeC u).length ≤ _
     omega
theorem znY {m i:List UInt8} (hi:i.length ≤ 13000) (h:(toE m i).1=0):zb9 (toE m i).2:=by
 have e:toE m i=(0,(toE m i).2):=by rw [← h]
 obtain ⟨_,_,_,k4,_,k6⟩:=zli e
 rw [k6]; exact ze9 hi (by rw [k4])
section
variable [Tabs Tryz.prog] [Shp Tryz.prog] [Pow Tryz.prog] {objs:List OB} {K:List OB → AV → Prop}
end
end Go.Proofs.YtljbdpihiboeaaaGreatDoor
namespace Go.Proofs.YtljbdpihiboeaaaGreatDoor
open Nat renaming reduceAdd → z6, reduceSub → z7, reduceLeDiff → z8, reduceLT → j3, reduceMul → j6, reduceEqDiff → j7
open Int renaming reduceToNat → j8, reduceAdd → j9, reduceSub → x0, reduceMul → x5, reduceNeg → x6, reduceLT → x7, reduceLE → x8, reduceEq → x9, reduceNe → y3
open Go.RowKit Sx
theorem dw_err {m i:List UInt8} (h:(dwA m i).1 ≠ 0):(dwA m i).2=([],0):=by
 unfold dwA at h ⊢
 split
 ·rfl
 ·rename_i g1; rw [if_neg g1] at h
  split
  ·rfl
  ·rename_i g2; rw [if_neg g2] at h
   exact hp_err h
def rowDw (m i:List UInt8):AV:=if m=zec ∧ (zb7 (zbk m i)).1=0 then .row (zag 58 i).length ((zag 58 i).map .s) else .nil
theorem dw_parts {m i:List UInt8} (h:(dwA m i).1=0):m=zec ∧ (zb7 (zbk m i)).1=0 ∧ ∀ q ∈ zag 58 i,(zaO q).1=0:=by
 unfold dwA at h
 split at h
 ·cases h
 ·rename_i g1
  simp only [ne_eq,Decidable.not_not] at g1
  split at h
  ·rename_i g2; exact absurd h g2
  ·rename_i g2
   simp only [ne_eq,Decidable.not_not] at g2
   exact ⟨g1,g2,(ziM g1 g2).2⟩
theorem zgP:∀ l:List (List UInt8),zbx (l.map AV.s)=true
 | [] => rfl
 | x :: l => by simp only [List.map_cons,zbx,AV.plain,zgP l,Bool.and_self]
theorem zn9 {u:UrlP} (h:zcS u=true):∀ x ∈ zds u,x.length ≤ 4096 ∧ ((x.all upB=false ∨ (zaO x).2=[]) → okI x=false) ∧ (x.all upB=true → (zaO x).2 ≠ [] → okI x=true ∧ zkp x=58 :: zbc (zaO x).2):=by
 have hc:=ze7 h
 obtain ⟨m,hm,hms,hp⟩:=hc.path
 have hsp:zds u=m:=by
  unfold zds
  rw [hp,zef m (fun x hx => (hms x hx).1.1)]; rfl
 rw [hsp]
 intro x hx
 have hl:x.length ≤ 4096:=by
  have h1:=zbY u
  have h2:=hc.len
  have h3:x.length ≤ (jn m).length:=by
   obtain ⟨a,b,rfl⟩:=List.append_of_mem hx
   rw [zek,zb4]; simp; omega
  rw [hp] at h1
  omega
 have hcn:=(hms x hx).2
 have hd0:(zaO x).1=0:=by
  have hn:=hcn.norm (by omega)
  obtain ⟨a,h1,_⟩:=(zbH _ _ _ hn).2.1
  rw [h1]
 refine ⟨hl,fun h1 => ?_,fun h1 h2 => ?_⟩
 ·unfold okI
  cases hx0:decide ((zai x []).1=0) with
  | false => rfl
  | true =>
   rw [decide_eq_true_eq,zcF (by omega)] at hx0
   rcases h1 with h1 | h1
   ·rw [h1] at hx0; exact absurd hx0.2 (by decide)
   ·have:=(zik hcn (by omega) hx0.2).2
    rw [h1] at this
    rw [← this]; rfl
 ·have hn:(zai x []).1=0:=(zcF (by omega)).2 ⟨hd0,h1⟩
  have hne:x ≠ []:=by
   rintro rfl
   exact h2 rfl
  refine ⟨by unfold okI; rw [hn]; simp [hne],?_⟩
  unfold zkp
  rw [zgX hn,zfD]
def zmW (u:UrlP) (l:List (List UInt8)):List UInt8:=hpI u.host u.port ++ (if u.path=wkP then [] else l.flatMap fun x => 58 :: zbc (zaO x).2)
theorem zkn (u:UrlP) (l:List (List UInt8)) (x:List UInt8):zmW u (l ++ [x])=if u.path=wkP then zmW u l else zmW u l ++ 58 :: zbc (zaO x).2:=by
 unfold zmW
 split
 ·rfl
 ·rw [List.flatMap_append]; simp
theorem zgq (u:UrlP) (l:List (List UInt8)):(zmW u l).length ≤ (hpI u.host u.port).length + 3 * (l.flatMap fun x => (1:UInt8) :: x).length:=by
 unfold zmW
 rw [List.length_append]
 split
 ·simp
 ·have:(l.flatMap fun x => 58 :: zbc (zaO x).2).length ≤ 3 * (l.flatMap fun x => (1:UInt8) :: x).length:=by
   induction l with
   | nil => simp
   | cons x l ih =>
    have h1:=zeo (zaO x).2
    have h2:=zc4 x
    simp only [List.flatMap_cons,List.length_append,List.length_cons]; omega
  omega
theorem zlk:∀ l:List (List UInt8),(∀ x ∈ l,okI x=true ∧ zkp x=58 :: zbc (zaO x).2) → (l.flatMap fun x => 58 :: zbc (zaO x).2)=zcW l
 | [],_ => rfl
 | x :: l,h => by
  unfold zcW
  rw [List.flatMap_cons,List.flatMap_cons,(h x (by simp)).2,zlk l (fun y hy => h y (by simp [hy]))]; rfl
theorem ziZ {u:UrlP} {l:List (List UInt8)} (h:∀ x ∈ l,okI x=true ∧ zkp x=58 :: zbc (zaO x).2):zmW u l=hpI u.host u.port ++ (if u.path=wkP then [] else zcW l):=by
 unfold zmW
 rw [zlk l h]
theorem okS_is (x:List UInt8):okS x=!(decide ((zaO x).2=[]) || decide ((zaO x).2=[46]) || decide ((zaO x).2=[46,46])):=rfl
section
variable [Tabs Tryz.prog] {objs:List OB} {K:List OB → AV → Prop}
theorem zhM (m i:List UInt8) (hm:m.length ≤ 13000) (hi:i.length ≤ 13000) (hk:K objs (.tup [rowDw m i,zdS (dwA m i).2.1 (dwA m i).2.2,.i .i64 (dwA m i).1])):zad Tryz.prog 150 [.agg [.s m,.s i]] objs K:=by
 have hmx:maxLen=2 ^ 63 - 1:=rfl
 refine za1 is_ref11_first rfl fun C _ => ?_
 unfold dwA rowDw at hk
 by_cases c0:m=zec
 ·subst c0
  have hw:zec=[119,101,98]:=rfl
  simp only [ne_eq,not_true_eq_false,if_false,true_and] at hk
  simp only [hw] at hk
  simp only [hw,c_ref11_first,sxZ,z6,z7,z8,j3,j6,j7,j8,j9,x0,x5,x6,x7,x8,x9,y3,reduceCtorEq,↓reduceIte]
  refine zae (zcY _ _ (by decide) (by omega) ?_)
  simp only [sxZ,z6,z7,z8,j3,j6,j7,j8,j9,x0,x5,x6,x7,x8,x9,y3,reduceCtorEq,↓reduceIte]
  refine zae (zf1 _ (by simp only [zbk,zbD,List.length_append,List.length_cons,List.length_nil]; omega) ?_)
  have hf:=ziM (m:=zec) (i:=i) rfl
  rw [hw] at hf
  generalize zb7 (zbk [119,101,98] i)=q at *
  obtain ⟨e,d1,d2⟩:=q
  simp only at hf hk ⊢
  by_cases c1:e=0
  ·subst c1
   simp only [not_true_eq_false,if_false,if_true] at hk
   simp only [sxZ,z6,z7,z8,j3,j6,j7,j8,j9,x0,x5,x6,x7,x8,x9,y3,reduceCtorEq,↓reduceIte]
   refine zae (zit i 58 (by omega) ?_)
   have hpos:=zbs 58 i
   have hcs:=zhb 58 i
   have hl2:=(za2 58 i).1
   obtain ⟨p,ps,hs⟩:=zaG 58 i
   rw [hs] at hcs
   simp only [List.headD_cons] at hcs
   rw [hcs] at hk hl2
   rw [hs] at hk ⊢
   simp only [sxZ,z6,z7,z8,j3,j6,j7,j8,j9,x0,x5,x6,x7,x8,x9,y3,reduceCtorEq,↓reduceIte]
   refine ⟨by simp,?_⟩
   refine zae (zc7 p ?_)
   have hl1:=zc4 p
   simp only [sxZ,z6,z7,z8,j3,j6,j7,j8,j9,x0,x5,x6,x7,x8,x9,y3,reduceCtorEq,↓reduceIte]
   refine zae (zjo _ (by omega) ?_)
   have e1:=zgP ps
   simp only [List.length_cons,List.map_cons,zdS] at hk
   simp only [zdS,e1,sxZ,z6,z7,z8,j3,j6,j7,j8,j9,x0,x5,x6,x7,x8,x9,y3,reduceCtorEq,↓reduceIte]
   exact hk
  ·simp only [c1,not_false_eq_true,if_true,if_false] at hk
   simp only [c1,sxZ,z6,z7,z8,j3,j6,j7,j8,j9,x0,x5,x6,x7,x8,x9,y3,reduceCtorEq,↓reduceIte]
   exact hk
 ·have c0':¬ m=[119,101,98]:=c0
  simp only [c0,ne_eq,not_false_eq_true,if_true,false_and,if_false] at hk
  simp only [c0',c_ref11_first,sxZ,z6,z7,z8,j3,j6,j7,j8,j9,x0,x5,x6,x7,x8,x9,y3,reduceCtorEq,↓reduceIte]
  exact hk
theorem zoA (m i:List UInt8) (hm:m.length ≤ 13000) (hi:i.length ≤ 13000) (hk:K objs (.tup [zdS (dwA m i).2.1 (dwA m i).2.2,.i .i64 (dwA m i).1])):zad Tryz.prog 118 [.agg [.s m,.s i]] objs K:=by
 refine za1 is_ref11_Authority rfl fun C _ => ?_
 simp only [c_ref11_Authority,sxZ,z6,z7,z8,j3,j6,j7,j8,j9,x0,x5,x6,x7,x8,x9,y3,reduceCtorEq,↓reduceIte]
 refine zae (zhM m i hm hi ?_)
 simp only [zdS,sxZ,z6,z7,z8,j3,j6,j7,j8,j9,x0,x5,x6,x7,x8,x9,y3,reduceCtorEq,↓reduceIte]
 exact hk
set_option maxHeartbeats 1000000 in
theorem znc (m i:List UInt8) (hm:m.length ≤ 13000) (hi:i.length ≤ 13000) (hk:K objs (.tup [zaA (toE m i).2,.i .i64 (toE m i).1])):zad Tryz.prog 148 [.agg [.s m,.s i]] objs K:=by
 refine za1 is_ref11_ToURL rfl fun C _ => ?_
 simp only [c_ref11_ToURL,sxZ,z6,z7,z8,j3,j6,j7,j8,j9,x0,x5,x6,x7,x8,x9,y3,reduceCtorEq,↓reduceIte]
 refine zae (zhM m i hm hi ?_)
 unfold toE at hk
 by_cases c0:(dwA m i).1=0
 ·obtain ⟨p1,p2,p3⟩:=dw_parts c0
  have hrow:rowDw m i=.row (zag 58 i).length ((zag 58 i).map .s):=by unfold rowDw; rw [if_pos ⟨p1,p2⟩]
  have hsh:=ze9 hi c0
  have hpos:=zbs 58 i
  have htail:=zfb 58 i
  have hlen:(zag 58 i).length - 1=(zag 58 i).tail.length:=by simp
  have hlen2:(zag 58 i).length=(zag 58 i).tail.length + 1:=by rw [← hlen]; omega
  have hp3:∀ q ∈ (zag 58 i).tail,(zaO q).1=0:=fun q hq => p3 q (List.mem_of_mem_tail hq)
  simp only [c0,ne_eq,not_true_eq_false,if_false] at hk
  simp only [c0,hrow,zdS,sxZ,z6,z7,z8,j3,j6,j7,j8,j9,x0,x5,x6,x7,x8,x9,y3,reduceCtorEq,↓reduceIte,Nat.mul_one,zgf]
  refine ⟨by omega,?_⟩
  have hU:toU m i=⟨(dwA m i).2.1,(dwA m i).2.2,zfl (zag 58 i).tail,[],[],false,false⟩:=rfl
  rw [hlen]
  generalize (zag 58 i).tail=segs at *
  have hmem:∀ x ∈ segs,x.length + 1 ≤ (segs.flatMap fun x => (1:UInt8) :: x).length:=by
   intro x hx
   obtain ⟨p,q,rfl⟩:=List.append_of_mem hx
   simp only [List.flatMap_append,List.flatMap_cons,List.length_append,List.length_cons]; omega
  have hls:=ziD segs
  refine zcq (fun n objs tm => ∃ j:Nat,j ≤ segs.length ∧ n=segs.length - j ∧ objs=[.box 153 [.s m,.s i],.box 30 [.s [],.i .i64 0,.s [],.s [],.s [],.b false,.b false],.box 104 [.s (dwA m i).2.1,.i .i64 (dwA m i).2.2]] ∧ (segs.take j).all okS=true ∧
   tm.length=68 ∧ tm[2]? = some (.p 1 0) ∧ tm[4]? = some (.row (zag 58 i).length ((zag 58 i).map .s)) ∧ tm[5]? = some (.p 2 0) ∧ tm[7]? = some (.s (zcy (segs.take j))) ∧ tm[24]? = some (.row segs.length (segs.map .s)) ∧ tm[25]? = some (.i .i64 segs.length) ∧ tm[26]? = some (.i .i64 j)) segs.length
   ⟨0,Nat.zero_le _,rfl,rfl,by simp,rfl,rfl,rfl,rfl,rfl,rfl,rfl,rfl⟩ ?_
  rintro n o tm ⟨j,hj,rfl,rfl,hok,hl,t2,t4,t5,t7,t24,t25,t26⟩
  by_cases hlt:(j:Int) < segs.length
  ·have hlt':j < segs.length:=by omega
   have hg:(segs.map AV.s)[j]? = some (.s segs[j]):=by simp [hlt']
   have hx:=hmem segs[j] (List.getElem_mem hlt')
   have hdl:=zc4 segs[j]
   have hsf:(zcy (segs.take j)).length ≤ 100000:=by
    have h2:=zdF (segs.take j)
    have h3:=congrArg List.length (zfa (l:=segs) j fun x => (1:UInt8) :: x)
    rw [List.length_append] at h3
    omega
   have hnext:=zhF hlt'
   have hallt:okS segs[j]=true → (segs.take (j + 1)).all okS=true:=fun e => by rw [ziX hlt',hok,e]; rfl
   have hbad:okS segs[j]=false → segs.all okS=false:=zhj hlt'
   rw [okS_is] at hallt hbad
   unfold segF at hnext
   simp only [sxZ,z6,z7,z8,j3,j6,j7,j8,j9,x0,x5,x6,x7,x8,x9,y3,reduceCtorEq,↓reduceIte,List.getElem?_set,hl,t2,t4,t5,t7,t24,t25,t26,hlt,Nat.mul_one,Int.toNat_natCast,hg,List.length_map]
   refine ⟨by omega,?_⟩
   refine zae (zc7 segs[j] ?_)
   generalize (zaO segs[j]).2=d at *
   generalize (zaO segs[j]).1=e
   by_cases c2:d=[]
   ·rw [hbad (by rw [c2]; rfl)] at hk
    simp only [c2,sxZ,z6,z7,z8,j3,j6,j7,j8,j9,x0,x5,x6,x7,x8,x9,y3,reduceCtorEq,↓reduceIte,List.getElem?_set,hl,t2,t4,t5,t7,t24,t25,t26]
    exact hk
   ·by_cases c3:d=[46]
    ·rw [hbad (by rw [c3]; decide)] at hk
     simp only [c3,sxZ,z6,z7,z8,j3,j6,j7,j8,j9,x0,x5,x6,x7,x8,x9,y3,reduceCtorEq,↓reduceIte,List.getElem?_set,hl,t2,t4,t5,t7,t24,t25,t26]
     exact hk
    ·by_cases c4:d=[46,46]
     ·have n1:¬ ([46,46]:List UInt8)=[46]:=by decide
      rw [hbad (by rw [c4]; decide)] at hk
      simp only [c4,n1,sxZ,z6,z7,z8,j3,j6,j7,j8,j9,x0,x5,x6,x7,x8,x9,y3,reduceCtorEq,↓reduceIte,List.getElem?_set,hl,t2,t4,t5,t7,t24,t25,t26]
      exact hk
     ·simp only [c2,c3,c4,sxZ,z6,z7,z8,j3,j6,j7,j8,j9,x0,x5,x6,x7,x8,x9,y3,reduceCtorEq,↓reduceIte,List.getElem?_set,hl,t2,t4,t5,t7,t24,t25,t26]
      refine zae (zhH d [] (by omega) (by decide) ?_)
      have hel:=zcK d []
      simp only [sxZ,z6,z7,z8,j3,j6,j7,j8,j9,x0,x5,x6,x7,x8,x9,y3,reduceCtorEq,↓reduceIte,List.getElem?_set,hl,t2,t4,t5,t7,t24,t25,t26]
      refine ⟨by omega,by omega,⟨by omega,by omega⟩,segs.length - (j + 1),by omega,j + 1,by omega,rfl,hallt (by simp [c2,c3,c4]),by rw [hnext],rfl⟩
  ·obtain rfl:j=segs.length:=by omega
   rw [List.take_length] at hok t7
   rw [hok] at hk
   simp only [Bool.true_eq_false,if_false] at hk
   have hsl:=zdF segs
   by_cases ht:segs=[]
   ·subst ht
    have e1:((zag 58 i).length:Int)=1:=by rw [hlen2]; rfl
    rw [show zfl []=wkP from rfl] at hU
    rw [hU] at hsh hk
    generalize hu:(⟨(dwA m i).2.1,(dwA m i).2.2,wkP,[],[],false,false⟩:UrlP)=u at hsh hk
    have ez:¬ ((0:Nat):Int) < ((0:Nat):Int):=by omega
    have hwk:([47,46,119,101,108,108,45,107,110,111,119,110] ++ [47,100,105,100,46,106,115,111,110]:List UInt8)=wkP:=by decide
    simp only [sxZ,z6,z7,z8,j3,j6,j7,j8,j9,x0,x5,x6,x7,x8,x9,y3,reduceCtorEq,↓reduceIte,List.getElem?_set,hl,t2,t4,t5,t7,t24,t25,t26,hlt,ez,e1,hwk]
    refine zae (show zad _ _ [zaA ⟨(dwA m i).2.1,(dwA m i).2.2,wkP,[],[],false,false⟩] _ _ from hu ▸ zch u hsh ?_)
    by_cases c1:(4096:Int) < (zcm u).length
    ·have c1':4096 < (zcm u).length:=by omega
     rw [if_pos c1'] at hk
     simp only [c1,sxZ,z6,z7,z8,j3,j6,j7,j8,j9,x0,x5,x6,x7,x8,x9,y3,reduceCtorEq,↓reduceIte,List.getElem?_set,hl,t2,t4,t5,t7,t24,t25,t26]
     exact hk
    ·have c1':¬ 4096 < (zcm u).length:=by omega
     rw [if_neg c1'] at hk
     simp only [c1,sxZ,z6,z7,z8,j3,j6,j7,j8,j9,x0,x5,x6,x7,x8,x9,y3,reduceCtorEq,↓reduceIte,List.getElem?_set,hl,t2,t4,t5,t7,t24,t25,t26]
     subst hu
     exact hk
   ·have hp:=List.length_pos_iff.2 ht
    have e1:¬ ((zag 58 i).length:Int)=1:=by omega
    rw [show zfl segs=zcy segs ++ 47 :: zho by unfold zfl; rw [if_neg ht]] at hU
    rw [hU] at hsh hk
    have hpa:zcy segs ++ [47,100,105,100,46,106,115,111,110]=zcy segs ++ 47 :: zho:=rfl
    simp only [sxZ,z6,z7,z8,j3,j6,j7,j8,j9,x0,x5,x6,x7,x8,x9,y3,reduceCtorEq,↓reduceIte,List.getElem?_set,hl,t2,t4,t5,t7,t24,t25,t26,hlt,e1,hpa]
    refine ⟨by omega,?_⟩
    refine zae (zch _ hsh ?_)
    generalize hu:(⟨(dwA m i).2.1,(dwA m i).2.2,zcy segs ++ 47 :: zho,[],[],false,false⟩:UrlP)=u at hsh hk ⊢
    by_cases c1:(4096:Int) < (zcm u).length
    ·have c1':4096 < (zcm u).length:=by omega
     rw [if_pos c1'] at hk
     simp only [c1,sxZ,z6,z7,z8,j3,j6,j7,j8,j9,x0,x5,x6,x7,x8,x9,y3,reduceCtorEq,↓reduceIte,List.getElem?_set,hl,t2,t4,t5,t7,t24,t25,t26]
     exact hk
    ·have c1':¬ 4096 < (zcm u).length:=by omega
     rw [if_neg c1'] at hk
     simp only [c1,sxZ,z6,z7,z8,j3,j6,j7,j8,j9,x0,x5,x6,x7,x8,x9,y3,reduceCtorEq,↓reduceIte,List.getElem?_set,hl,t2,t4,t5,t7,t24,t25,t26]
     subst hu
     exact hk
 ·have hz:=dw_err c0
  simp only [c0,ne_eq,not_false_eq_true,if_true] at hk
  simp only [c0,zdS,sxZ,z6,z7,z8,j3,j6,j7,j8,j9,x0,x5,x6,x7,x8,x9,y3,reduceCtorEq,↓reduceIte]
  exact hk
end
theorem zkm {p:UInt8 → Bool} {x:List UInt8} {k:Nat} (h:k < x.length):(x.take (k + 1)).all p=((x.take k).all p && p x[k]):=by
 rw [List.take_succ_eq_append_getElem h,List.all_append]; simp
theorem zmT {p:UInt8 → Bool} {x:List UInt8} {k:Nat} (h:k < x.length) (hp:p x[k]=false):x.all p=false:=by
 rw [Bool.eq_false_iff]
 intro e
 rw [List.all_eq_true.1 e _ (List.getElem_mem h)] at hp; cases hp
section
variable [Tabs Tryz.prog] {objs:List OB} {K:List OB → AV → Prop}
theorem zlC (c:UInt8) (hk:K objs (.b (zau c))):zad Tryz.prog 91 [.i .u8 c.toNat] objs K :=
 zqs (vs:=[.int .u8 c.toNat]) rfl rfl (fun w => zaV c w) hk
set_option maxHeartbeats 2000000 in
theorem zjt (u:UrlP) (hu:zb9 u) (hk:K objs (.tup [.agg [.s (zdo u).2.1,.s (zdo u).2.2],.i .i64 (zdo u).1])):zad Tryz.prog 149 [zaA u] objs K:=by
 refine za1 is_ref11_FromURL rfl fun C _ => ?_
 simp only [c_ref11_FromURL,zaA,sxZ,z6,z7,z8,j3,j6,j7,j8,j9,x0,x5,x6,x7,x8,x9,y3,reduceCtorEq,↓reduceIte]
 refine zae (zoa u hu ?_)
 unfold zdo at hk
 by_cases c0:zcS u=true
 ·obtain ⟨init,z,hseg⟩:=zmL c0
  have hsf:=zn9 c0
  have hlen:=zi5 c0
  have hpl:=zbY u
  have hsum:=zfb 47 u.path
  have hst:(zag 47 u.path).tail=init ++ [z]:=hseg
  have hln:(zag 47 u.path).length - 1=init.length + 1:=by
   have:=congrArg List.length hst
   simpa using this
  have hpos:=zbs 47 u.path
  rw [hst] at hsum
  rw [hseg] at hsf
  have hid:zeC u=hpI u.host u.port ++ (if u.path=wkP then [] else zcW init):=by
   unfold zeC; rw [hseg]; simp
  have hhl:u.host.length ≤ 1000000:=hu.1
  simp only [c0,Bool.true_eq_false,if_false,hseg,List.getLastD_concat,List.dropLast_concat,hid] at hk
  simp only [c0,sxZ,z6,z7,z8,j3,j6,j7,j8,j9,x0,x5,x6,x7,x8,x9,y3,reduceCtorEq,↓reduceIte]
  refine zae (zit u.path 47 (by omega) ?_)
  simp only [sxZ,z6,z7,z8,j3,j6,j7,j8,j9,x0,x5,x6,x7,x8,x9,y3,reduceCtorEq,↓reduceIte,Nat.mul_one,zgf,hst,hln]
  have hls:=ziD (init ++ [z])
  rw [List.length_append,List.length_singleton] at hls
  refine ⟨by omega,?_⟩
  have e1:((init.length + 1:Nat):Int) - 1=init.length:=by omega
  have hz:((init ++ [z]).map AV.s)[init.length]? = some (.s z):=by simp
  have htk:((init ++ [z]).map AV.s).take init.length=init.map AV.s:=by simp
  have hsi:(init.flatMap fun x => (1:UInt8) :: x).length ≤ 16384:=by
   rw [List.flatMap_append,List.length_append] at hsum
   omega
  cases hq:u.hq with
  | true =>
   simp only [hq,true_or,if_true] at hk
   simp only [sxZ,z6,z7,z8,j3,j6,j7,j8,j9,x0,x5,x6,x7,x8,x9,y3,reduceCtorEq,↓reduceIte]
   exact hk
  | false =>
   cases hf:u.hf with
   | true =>
    simp only [hf,true_or,or_true,if_true] at hk
    simp only [sxZ,z6,z7,z8,j3,j6,j7,j8,j9,x0,x5,x6,x7,x8,x9,y3,reduceCtorEq,↓reduceIte]
    exact hk
   | false =>
    simp only [sxZ,z6,z7,z8,j3,j6,j7,j8,j9,x0,x5,x6,x7,x8,x9,y3,reduceCtorEq,↓reduceIte,e1,Int.toNat_natCast,Nat.mul_one,hz]
    refine ⟨by omega,by simp; omega,?_⟩
    by_cases c1:z=zho
    ·simp only [hq,hf,c1,Bool.false_eq_true,not_true_eq_false,or_self,if_false] at hk
     have c1':¬ ¬ z=[100,105,100,46,106,115,111,110]:=fun h => h c1
     simp only [c1',sxZ,z6,z7,z8,j3,j6,j7,j8,j9,x0,x5,x6,x7,x8,x9,y3,reduceCtorEq,↓reduceIte,e1,Int.toNat_natCast,Nat.mul_one,htk]
     refine ⟨by omega,by omega,?_⟩
     by_cases c4:init=[]
     ·subst c4
      have ez:((0:Nat):Int)=0:=rfl
      by_cases c2:u.path=wkP
      ·-- a well-known path has a segment ahead of its last one
       exfalso
       have:=congrArg List.length hst
       rw [c2] at this
       have hw:(zag 47 wkP).tail.length=2:=by decide
       rw [hw] at this
       simp at this
      ·simp only [c2,not_false_eq_true,true_and,true_or,if_true] at hk
       simp only [ez,sxZ,z6,z7,z8,j3,j6,j7,j8,j9,x0,x5,x6,x7,x8,x9,y3,reduceCtorEq,↓reduceIte]
       exact hk
     ·have c4':¬ ((init.length:Nat):Int)=0:=by
       have:=List.length_pos_iff.2 c4
       omega
      simp only [c4,false_or] at hk
      have hil:=Lib.itoa_length_le u.port hu.2.1 hu.2.2.1
      have hhp:=zpL u.host u.port hu.2.1 hu.2.2.1
      have hall:(¬ u.path=wkP ∧ init.all okI=false) ↔ init.all okI=false:=by
       refine ⟨fun h => h.2,fun h => ⟨fun e => ?_,h⟩⟩
       have hw:(zag 47 wkP).tail=[wkD] ++ [zho]:=by decide
       rw [e,hw] at hst
       obtain ⟨h1,_⟩:=List.append_inj' hst (by simp)
       rw [← h1] at h
       exact absurd h (by decide)
      simp only [hall] at hk
      have hmem:∀ x ∈ init,x.length + 1 ≤ (init.flatMap fun x => (1:UInt8) :: x).length:=by
       intro x hx
       obtain ⟨p,q,rfl⟩:=List.append_of_mem hx
       simp only [List.flatMap_append,List.flatMap_cons,List.length_append,List.length_cons]; omega
      have hls2:=ziD init
      have hacc0:zmW u []=hpI u.host u.port:=by unfold zmW; simp
      by_cases cp:u.port=0
      ·have hp0:hpI u.host u.port=u.host:=by unfold hpI; rw [if_pos cp]
       rw [hp0] at hacc0
       simp only [c4',cp,sxZ,z6,z7,z8,j3,j6,j7,j8,j9,x0,x5,x6,x7,x8,x9,y3,reduceCtorEq,↓reduceIte]
       refine zcq (fun n objs tm => ∃ j:Nat,j ≤ init.length ∧ n=init.length - j ∧ objs=[.box 30 [.s u.host,.i .i64 u.port,.s u.path,.s u.query,.s u.frag,.b false,.b false],.box 153 [.s [],.s []]] ∧ (∀ x ∈ init.take j,okI x=true ∧ zkp x=58 :: zbc (zaO x).2) ∧
        tm.length=105 ∧ tm[1]? = some (.p 0 0) ∧ tm[2]? = some (.p 1 0) ∧ tm[5]? = some (.s (zmW u (init.take j))) ∧ tm[56]? = some (.row init.length (init.map .s)) ∧ tm[57]? = some (.i .i64 init.length) ∧ tm[58]? = some (.i .i64 j)) init.length
        ⟨0,Nat.zero_le _,rfl,by rw [cp],by simp,rfl,rfl,rfl,by rw [List.take_zero,hacc0]; rfl,rfl,rfl,rfl⟩ ?_
       rintro n o tm ⟨j,hj,rfl,rfl,hgood,hl,t1,t2,t5,t56,t57,t58⟩
       by_cases hlt:(j:Int) < init.length
       ·have hlt':j < init.length:=by omega
        have hg:(init.map AV.s)[j]? = some (.s init[j]):=by simp [hlt']
        have hx:=hmem init[j] (List.getElem_mem hlt')
        obtain ⟨f1,f2,f3⟩:=hsf init[j] (List.mem_append_left _ (List.getElem_mem hlt'))
        have hbad:okI init[j]=false → init.all okI=false:=zhj hlt'
        have hacl:=zgq u (init.take j)
        have h3:=congrArg List.length (zfa (l:=init) j fun x => (1:UInt8) :: x)
        rw [List.length_append] at h3
        have hsn:init.take (j + 1)=init.take j ++ [init[j]]:=List.take_succ_eq_append_getElem hlt'
        simp only [sxZ,z6,z7,z8,j3,j6,j7,j8,j9,x0,x5,x6,x7,x8,x9,y3,reduceCtorEq,↓reduceIte,List.getElem?_set,hl,t1,t2,t5,t56,t57,t58,hlt,Nat.mul_one,Int.toNat_natCast,hg,List.length_map]
        refine ⟨by omega,?_⟩
        generalize init[j]=x at *
        refine zcq (fun n objs tm => ∃ k:Nat,k ≤ x.length ∧ n=x.length - k ∧ objs=[.box 30 [.s u.host,.i .i64 u.port,.s u.path,.s u.query,.s u.frag,.b false,.b false],.box 153 [.s [],.s []]] ∧ (x.take k).all upB=true ∧
         tm.length=105 ∧ tm[1]? = some (.p 0 0) ∧ tm[2]? = some (.p 1 0) ∧ tm[5]? = some (.s (zmW u (init.take j))) ∧ tm[56]? = some (.row init.length (init.map .s)) ∧ tm[57]? = some (.i .i64 init.length) ∧ tm[58]? = some (.i .i64 j) ∧ tm[7]? = some (.s x) ∧ tm[8]? = some (.i .i64 k)) x.length
         ⟨0,Nat.zero_le _,rfl,rfl,by simp,by simp only [List.length_set,hl],by simp only [sxZ,z6,z7,z8,j3,j6,j7,j8,j9,x0,x5,x6,x7,x8,x9,y3,reduceCtorEq,↓reduceIte,List.getElem?_set,hl,t1],by simp only [sxZ,z6,z7,z8,j3,j6,j7,j8,j9,x0,x5,x6,x7,x8,x9,y3,reduceCtorEq,↓reduceIte,List.getElem?_set,hl,t2],by simp only [sxZ,z6,z7,z8,j3,j6,j7,j8,j9,x0,x5,x6,x7,x8,x9,y3,reduceCtorEq,↓reduceIte,List.getElem?_set,hl,t5],by simp only [sxZ,z6,z7,z8,j3,j6,j7,j8,j9,x0,x5,x6,x7,x8,x9,y3,reduceCtorEq,↓reduceIte,List.getElem?_set,hl,t56],by simp only [sxZ,z6,z7,z8,j3,j6,j7,j8,j9,x0,x5,x6,x7,x8,x9,y3,reduceCtorEq,↓reduceIte,List.getElem?_set,hl,t57],by simp only [sxZ,z6,z7,z8,j3,j6,j7,j8,j9,x0,x5,x6,x7,x8,x9,y3,reduceCtorEq,↓reduceIte,List.getElem?_set,hl,t58],by simp only [sxZ,z6,z7,z8,j3,j6,j7,j8,j9,x0,x5,x6,x7,x8,x9,y3,reduceCtorEq,↓reduceIte,List.getElem?_set,hl],by simp only [sxZ,z6,z7,z8,j3,j6,j7,j8,j9,x0,x5,x6,x7,x8,x9,y3,reduceCtorEq,↓reduceIte,List.getElem?_set,hl]; rfl⟩ ?_
        clear t1 t2 t5 t56 t57 t58 hl
        rintro n o tm ⟨k,hk1,rfl,rfl,hall2,hl,t1,t2,t5,t56,t57,t58,t7,t8⟩
        by_cases hkx:(k:Int) < x.length
        ·have hkx':k < x.length:=by omega
         have hgx:=zdw hkx'
         have hub:upB x[k]=(zau x[k] || x[k] == 37):=rfl
         have hno:upB x[k]=false → okI x=false:=fun e => f2 (.inl (zmT hkx' e))
         have hyes:upB x[k]=true → (x.take (k + 1)).all upB=true:=fun e => by rw [zkm hkx',hall2,e]; rfl
         simp only [sxZ,z6,z7,z8,j3,j6,j7,j8,j9,x0,x5,x6,x7,x8,x9,y3,reduceCtorEq,↓reduceIte,List.getElem?_set,hl,t1,t2,t5,t7,t8,t56,t57,t58,hkx,Int.toNat_natCast]
         refine ⟨by omega,?_⟩
         rw [hgx]
         refine zae (zlC x[k] ?_)
         by_cases hu1:zau x[k]=true
         ·simp only [hu1,sxZ,z6,z7,z8,j3,j6,j7,j8,j9,x0,x5,x6,x7,x8,x9,y3,reduceCtorEq,↓reduceIte,List.getElem?_set,hl,t1,t2,t5,t7,t8,t56,t57,t58]
          exact ⟨⟨by omega,by omega⟩,x.length - (k + 1),by omega,k + 1,by omega,rfl,hyes (by rw [hub,hu1]; rfl),rfl⟩
         ·simp only [Bool.not_eq_true] at hu1
          by_cases h37:((x[k].toNat:Nat):Int)=37
          ·have h37':x[k]=37:=UInt8.toNat_inj.1 (by show x[k].toNat=37; omega)
           simp only [hu1,hgx,h37,sxZ,z6,z7,z8,j3,j6,j7,j8,j9,x0,x5,x6,x7,x8,x9,y3,reduceCtorEq,↓reduceIte,List.getElem?_set,hl,t1,t2,t5,t7,t8,t56,t57,t58,Int.toNat_natCast]
           exact ⟨by omega,⟨by omega,by omega⟩,x.length - (k + 1),by omega,k + 1,by omega,rfl,hyes (by rw [hub,h37']; rfl),rfl⟩
          ·have h37':¬ x[k]=37:=fun e => h37 (by rw [e]; rfl)
           rw [hbad (hno (by rw [hub,hu1]; simpa using h37'))] at hk
           simp only [hu1,hgx,h37,sxZ,z6,z7,z8,j3,j6,j7,j8,j9,x0,x5,x6,x7,x8,x9,y3,reduceCtorEq,↓reduceIte,List.getElem?_set,hl,t1,t2,t5,t7,t8,t56,t57,t58,Int.toNat_natCast]
           exact ⟨by omega,hk⟩
        ·obtain rfl:k=x.length:=by omega
         rw [List.take_length] at hall2
         simp only [sxZ,z6,z7,z8,j3,j6,j7,j8,j9,x0,x5,x6,x7,x8,x9,y3,reduceCtorEq,↓reduceIte,List.getElem?_set,hl,t1,t2,t5,t7,t8,t56,t57,t58,hkx]
         refine zae (zc7 x ?_)
         have hdl:=zc4 x
         have hsnoc:=zkn u (init.take j) x
         have hgd:(zaO x).2 ≠ [] → ∀ y ∈ init.take (j + 1),okI y=true ∧ zkp y=58 :: zbc (zaO y).2:=fun e y hy => by
          rw [hsn] at hy
          rcases List.mem_append.1 hy with hy | hy
          ·exact hgood y hy
          ·simp only [List.mem_cons,List.not_mem_nil,or_false] at hy
           subst hy; exact f3 hall2 e
         rw [← hsn] at hsnoc
         generalize (zaO x).1=e at *
         by_cases hd0:(zaO x).2=[]
         ·rw [hbad (f2 (.inr hd0))] at hk
          simp only [hd0,sxZ,z6,z7,z8,j3,j6,j7,j8,j9,x0,x5,x6,x7,x8,x9,y3,reduceCtorEq,↓reduceIte,List.getElem?_set,hl,t1,t2,t5,t7,t8,t56,t57,t58]
          exact hk
         ·have hgd2:=hgd hd0
          by_cases c2:u.path=wkP
          ·have c2':u.path=[47,46,119,101,108,108,45,107,110,111,119,110,47,100,105,100,46,106,115,111,110]:=c2
           rw [if_pos c2] at hsnoc
           rw [← hsnoc] at t5
           have c3':¬ ¬ u.path=[47,46,119,101,108,108,45,107,110,111,119,110,47,100,105,100,46,106,115,111,110]:=fun h => h c2'
           simp only [hd0,c3',sxZ,z6,z7,z8,j3,j6,j7,j8,j9,x0,x5,x6,x7,x8,x9,y3,reduceCtorEq,↓reduceIte,List.getElem?_set,hl,t1,t2,t5,t7,t8,t56,t57,t58]
           exact ⟨⟨by omega,by omega⟩,init.length - (j + 1),by omega,j + 1,by omega,rfl,hgd2,rfl,rfl⟩
          ·have c2':¬ u.path=[47,46,119,101,108,108,45,107,110,111,119,110,47,100,105,100,46,106,115,111,110]:=c2
           rw [if_neg c2] at hsnoc
           have hel:=zeo (zaO x).2
           generalize (zaO x).2=d at *
           simp only [hd0,c2',sxZ,z6,z7,z8,j3,j6,j7,j8,j9,x0,x5,x6,x7,x8,x9,y3,reduceCtorEq,↓reduceIte,List.getElem?_set,hl,t1,t2,t5,t7,t8,t56,t57,t58]
           refine zae (zdW d (by omega) ?_)
           simp only [sxZ,z6,z7,z8,j3,j6,j7,j8,j9,x0,x5,x6,x7,x8,x9,y3,reduceCtorEq,↓reduceIte,List.getElem?_set,hl,t1,t2,t5,t7,t8,t56,t57,t58]
           exact ⟨by omega,by omega,⟨by omega,by omega⟩,init.length - (j + 1),by omega,j + 1,by omega,rfl,hgd2,by rw [hsnoc],rfl⟩
       ·obtain rfl:j=init.length:=by omega
        rw [List.take_length] at hgood t5
        rw [ziZ hgood] at t5
        have hok:init.all okI=true:=List.all_eq_true.2 fun x hx => (hgood x hx).1
        rw [hok] at hk
        simp only [Bool.true_eq_false,if_false] at hk
        have hal:=zgq u init
        rw [ziZ hgood] at hal
        generalize (hpI u.host u.port ++ if u.path=wkP then [] else zcW init)=l at *
        simp only [sxZ,z6,z7,z8,j3,j6,j7,j8,j9,x0,x5,x6,x7,x8,x9,y3,reduceCtorEq,↓reduceIte,List.getElem?_set,hl,t1,t2,t5,t56,t57,t58,hlt]
        refine zae (zcY _ _ (by decide) (by omega) ?_)
        have hw:zec=[119,101,98]:=rfl
        rw [hw] at hk
        by_cases c3:(4096:Int) < (zbk [119,101,98] l).length
        ·have c3':4096 < (zbk [119,101,98] l).length:=by omega
         rw [if_pos c3'] at hk
         simp only [c3,sxZ,z6,z7,z8,j3,j6,j7,j8,j9,x0,x5,x6,x7,x8,x9,y3,reduceCtorEq,↓reduceIte,List.getElem?_set,hl,t1,t2,t5,t56,t57,t58]
         exact hk
        ·have c3':¬ 4096 < (zbk [119,101,98] l).length:=by omega
         rw [if_neg c3'] at hk
         simp only [c3,sxZ,z6,z7,z8,j3,j6,j7,j8,j9,x0,x5,x6,x7,x8,x9,y3,reduceCtorEq,↓reduceIte,List.getElem?_set,hl,t1,t2,t5,t56,t57,t58]
         exact hk
      ·have hp0:hpI u.host u.port=u.host ++ ([37,51,65] ++ Lib.itoa u.port):=by unfold hpI; rw [if_neg cp]
       rw [hp0] at hacc0
       simp only [c4',cp,sxZ,z6,z7,z8,j3,j6,j7,j8,j9,x0,x5,x6,x7,x8,x9,y3,reduceCtorEq,↓reduceIte]
       refine zae (zgK u.port hu.2.1 hu.2.2.1 ?_)
       simp only [sxZ,z6,z7,z8,j3,j6,j7,j8,j9,x0,x5,x6,x7,x8,x9,y3,reduceCtorEq,↓reduceIte]
       refine ⟨by omega,by omega,?_⟩
       refine zcq (fun n objs tm => ∃ j:Nat,j ≤ init.length ∧ n=init.length - j ∧ objs=[.box 30 [.s u.host,.i .i64 u.port,.s u.path,.s u.query,.s u.frag,.b false,.b false],.box 153 [.s [],.s []]] ∧ (∀ x ∈ init.take j,okI x=true ∧ zkp x=58 :: zbc (zaO x).2) ∧
        tm.length=105 ∧ tm[1]? = some (.p 0 0) ∧ tm[2]? = some (.p 1 0) ∧ tm[5]? = some (.s (zmW u (init.take j))) ∧ tm[56]? = some (.row init.length (init.map .s)) ∧ tm[57]? = some (.i .i64 init.length) ∧ tm[58]? = some (.i .i64 j)) init.length
        ⟨0,Nat.zero_le _,rfl,rfl,by simp,rfl,rfl,rfl,by rw [List.take_zero,hacc0]; rfl,rfl,rfl,rfl⟩ ?_
       rintro n o tm ⟨j,hj,rfl,rfl,hgood,hl,t1,t2,t5,t56,t57,t58⟩
       by_cases hlt:(j:Int) < init.length
       ·have hlt':j < init.length:=by omega
        have hg:(init.map AV.s)[j]? = some (.s init[j]):=by simp [hlt']
        have hx:=hmem init[j] (List.getElem_mem hlt')
        obtain ⟨f1,f2,f3⟩:=hsf init[j] (List.mem_append_left _ (List.getElem_mem hlt'))
        have hbad:okI init[j]=false → init.all okI=false:=zhj hlt'
        have hacl:=zgq u (init.take j)
        have h3:=congrArg List.length (zfa (l:=init) j fun x => (1:UInt8) :: x)
        rw [List.length_append] at h3
        have hsn:init.take (j + 1)=init.take j ++ [init[j]]:=List.take_succ_eq_append_getElem hlt'
        simp only [sxZ,z6,z7,z8,j3,j6,j7,j8,j9,x0,x5,x6,x7,x8,x9,y3,reduceCtorEq,↓reduceIte,List.getElem?_set,hl,t1,t2,t5,t56,t57,t58,hlt,Nat.mul_one,Int.toNat_natCast,hg,List.length_map]
        refine ⟨by omega,?_⟩
        generalize init[j]=x at *
        refine zcq (fun n objs tm => ∃ k:Nat,k ≤ x.length ∧ n=x.length - k ∧ objs=[.box 30 [.s u.host,.i .i64 u.port,.s u.path,.s u.query,.s u.frag,.b false,.b false],.box 153 [.s [],.s []]] ∧ (x.take k).all upB=true ∧
         tm.length=105 ∧ tm[1]? = some (.p 0 0) ∧ tm[2]? = some (.p 1 0) ∧ tm[5]? = some (.s (zmW u (init.take j))) ∧ tm[56]? = some (.row init.length (init.map .s)) ∧ tm[57]? = some (.i .i64 init.length) ∧ tm[58]? = some (.i .i64 j) ∧ tm[7]? = some (.s x) ∧ tm[8]? = some (.i .i64 k)) x.length
         ⟨0,Nat.zero_le _,rfl,rfl,by simp,by simp only [List.length_set,hl],by simp only [sxZ,z6,z7,z8,j3,j6,j7,j8,j9,x0,x5,x6,x7,x8,x9,y3,reduceCtorEq,↓reduceIte,List.getElem?_set,hl,t1],by simp only [sxZ,z6,z7,z8,j3,j6,j7,j8,j9,x0,x5,x6,x7,x8,x9,y3,reduceCtorEq,↓reduceIte,List.getElem?_set,hl,t2],by simp only [sxZ,z6,z7,z8,j3,j6,j7,j8,j9,x0,x5,x6,x7,x8,x9,y3,reduceCtorEq,↓reduceIte,List.getElem?_set,hl,t5],by simp only [sxZ,z6,z7,z8,j3,j6,j7,j8,j9,x0,x5,x6,x7,x8,x9,y3,reduceCtorEq,↓reduceIte,List.getElem?_set,hl,t56],by simp only [sxZ,z6,z7,z8,j3,j6,j7,j8,j9,x0,x5,x6,x7,x8,x9,y3,reduceCtorEq,↓reduceIte,List.getElem?_set,hl,t57],by simp only [sxZ,z6,z7,z8,j3,j6,j7,j8,j9,x0,x5,x6,x7,x8,x9,y3,reduceCtorEq,↓reduceIte,List.getElem?_set,hl,t58],by simp only [sxZ,z6,z7,z8,j3,j6,j7,j8,j9,x0,x5,x6,x7,x8,x9,y3,reduceCtorEq,↓reduceIte,List.getElem?_set,hl],by simp only [sxZ,z6,z7,z8,j3,j6,j7,j8,j9,x0,x5,x6,x7,x8,x9,y3,reduceCtorEq,↓reduceIte,List.getElem?_set,hl]; rfl⟩ ?_
        clear t1 t2 t5 t56 t57 t58 hl
        rintro n o tm ⟨k,hk1,rfl,rfl,hall2,hl,t1,t2,t5,t56,t57,t58,t7,t8⟩
        by_cases hkx:(k:Int) < x.length
        ·have hkx':k < x.length:=by omega
         have hgx:=zdw hkx'
         have hub:upB x[k]=(zau x[k] || x[k] == 37):=rfl
         have hno:upB x[k]=false → okI x=false:=fun e => f2 (.inl (zmT hkx' e))
         have hyes:upB x[k]=true → (x.take (k + 1)).all upB=true:=fun e => by rw [zkm hkx',hall2,e]; rfl
         simp only [sxZ,z6,z7,z8,j3,j6,j7,j8,j9,x0,x5,x6,x7,x8,x9,y3,reduceCtorEq,↓reduceIte,List.getElem?_set,hl,t1,t2,t5,t7,t8,t56,t57,t58,hkx,Int.toNat_natCast]
         refine ⟨by omega,?_⟩
         rw [hgx]
         refine zae (zlC x[k] ?_)
         by_cases hu1:zau x[k]=true
         ·simp only [hu1,sxZ,z6,z7,z8,j3,j6,j7,j8,j9,x0,x5,x6,x7,x8,x9,y3,reduceCtorEq,↓reduceIte,List.getElem?_set,hl,t1,t2,t5,t7,t8,t56,t57,t58]
          exact ⟨⟨by omega,by omega⟩,x.length - (k + 1),by omega,k + 1,by omega,rfl,hyes (by rw [hub,hu1]; rfl),rfl⟩
         ·simp only [Bool.not_eq_true] at hu1
          by_cases h37:((x[k].toNat:Nat):Int)=37
          ·have h37':x[k]=37:=UInt8.toNat_inj.1 (by show x[k].toNat=37; omega)
           simp only [hu1,hgx,h37,sxZ,z6,z7,z8,j3,j6,j7,j8,j9,x0,x5,x6,x7,x8,x9,y3,reduceCtorEq,↓reduceIte,List.getElem?_set,hl,t1,t2,t5,t7,t8,t56,t57,t58,Int.toNat_natCast]
           exact ⟨by omega,⟨by omega,by omega⟩,x.length - (k + 1),by omega,k + 1,by omega,rfl,hyes (by rw [hub,h37']; rfl),rfl⟩
          ·have h37':¬ x[k]=37:=fun e => h37 (by rw [e]; rfl)
           rw [hbad (hno (by rw [hub,hu1]; simpa using h37'))] at hk
           simp only [hu1,hgx,h37,sxZ,z6,z7,z8,j3,j6,j7,j8,j9,x0,x5,x6,x7,x8,x9,y3,reduceCtorEq,↓reduceIte,List.getElem?_set,hl,t1,t2,t5,t7,t8,t56,t57,t58,Int.toNat_natCast]
           exact ⟨by omega,hk⟩
        ·obtain rfl:k=x.length:=by omega
         rw [List.take_length] at hall2
         simp only [sxZ,z6,z7,z8,j3,j6,j7,j8,j9,x0,x5,x6,x7,x8,x9,y3,reduceCtorEq,↓reduceIte,List.getElem?_set,hl,t1,t2,t5,t7,t8,t56,t57,t58,hkx]
         refine zae (zc7 x ?_)
         have hdl:=zc4 x
         have hsnoc:=zkn u (init.take j) x
         have hgd:(zaO x).2 ≠ [] → ∀ y ∈ init.take (j + 1),okI y=true ∧ zkp y=58 :: zbc (zaO y).2:=fun e y hy => by
          rw [hsn] at hy
          rcases List.mem_append.1 hy with hy | hy
          ·exact hgood y hy
          ·simp only [List.mem_cons,List.not_mem_nil,or_false] at hy
           subst hy; exact f3 hall2 e
         rw [← hsn] at hsnoc
         generalize (zaO x).1=e at *
         by_cases hd0:(zaO x).2=[]
         ·rw [hbad (f2 (.inr hd0))] at hk
          simp only [hd0,sxZ,z6,z7,z8,j3,j6,j7,j8,j9,x0,x5,x6,x7,x8,x9,y3,reduceCtorEq,↓reduceIte,List.getElem?_set,hl,t1,t2,t5,t7,t8,t56,t57,t58]
          exact hk
         ·have hgd2:=hgd hd0
          by_cases c2:u.path=wkP
          ·have c2':u.path=[47,46,119,101,108,108,45,107,110,111,119,110,47,100,105,100,46,106,115,111,110]:=c2
           rw [if_pos c2] at hsnoc
           rw [← hsnoc] at t5
           have c3':¬ ¬ u.path=[47,46,119,101,108,108,45,107,110,111,119,110,47,100,105,100,46,106,115,111,110]:=fun h => h c2'
           simp only [hd0,c3',sxZ,z6,z7,z8,j3,j6,j7,j8,j9,x0,x5,x6,x7,x8,x9,y3,reduceCtorEq,↓reduceIte,List.getElem?_set,hl,t1,t2,t5,t7,t8,t56,t57,t58]
           exact ⟨⟨by omega,by omega⟩,init.length - (j + 1),by omega,j + 1,by omega,rfl,hgd2,rfl,rfl⟩
          ·have c2':¬ u.path=[47,46,119,101,108,108,45,107,110,111,119,110,47,100,105,100,46,106,115,111,110]:=c2
           rw [if_neg c2] at hsnoc
           have hel:=zeo (zaO x).2
           generalize (zaO x).2=d at *
           simp only [hd0,c2',sxZ,z6,z7,z8,j3,j6,j7,j8,j9,x0,x5,x6,x7,x8,x9,y3,reduceCtorEq,↓reduceIte,List.getElem?_set,hl,t1,t2,t5,t7,t8,t56,t57,t58]
           refine zae (zdW d (by omega) ?_)
           simp only [sxZ,z6,z7,z8,j3,j6,j7,j8,j9,x0,x5,x6,x7,x8,x9,y3,reduceCtorEq,↓reduceIte,List.getElem?_set,hl,t1,t2,t5,t7,t8,t56,t57,t58]
           exact ⟨by omega,by omega,⟨by omega,by omega⟩,init.length - (j + 1),by omega,j + 1,by omega,rfl,hgd2,by rw [hsnoc],rfl⟩
       ·obtain rfl:j=init.length:=by omega
        rw [List.take_length] at hgood t5
        rw [ziZ hgood] at t5
        have hok:init.all okI=true:=List.all_eq_true.2 fun x hx => (hgood x hx).1
        rw [hok] at hk
        simp only [Bool.true_eq_false,if_false] at hk
        have hal:=zgq u init
        rw [ziZ hgood] at hal
        generalize (hpI u.host u.port ++ if u.path=wkP then [] else zcW init)=l at *
        simp only [sxZ,z6,z7,z8,j3,j6,j7,j8,j9,x0,x5,x6,x7,x8,x9,y3,reduceCtorEq,↓reduceIte,List.getElem?_set,hl,t1,t2,t5,t56,t57,t58,hlt]
        refine zae (zcY _ _ (by decide) (by omega) ?_)
        have hw:zec=[119,101,98]:=rfl
        rw [hw] at hk
        by_cases c3:(4096:Int) < (zbk [119,101,98] l).length
        ·have c3':4096 < (zbk [119,101,98] l).length:=by omega
         rw [if_pos c3'] at hk
         simp only [c3,sxZ,z6,z7,z8,j3,j6,j7,j8,j9,x0,x5,x6,x7,x8,x9,y3,reduceCtorEq,↓reduceIte,List.getElem?_set,hl,t1,t2,t5,t56,t57,t58]
         exact hk
        ·have c3':¬ 4096 < (zbk [119,101,98] l).length:=by omega
         rw [if_neg c3'] at hk
         simp only [c3,sxZ,z6,z7,z8,j3,j6,j7,j8,j9,x0,x5,x6,x7,x8,x9,y3,reduceCtorEq,↓reduceIte,List.getElem?_set,hl,t1,t2,t5,t56,t57,t58]
         exact hk
    ·simp only [hq,hf,c1,Bool.false_eq_true,not_false_eq_true,or_true,if_true] at hk
     have c1':¬ z=[100,105,100,46,106,115,111,110]:=c1
     simp only [c1',sxZ,z6,z7,z8,j3,j6,j7,j8,j9,x0,x5,x6,x7,x8,x9,y3,reduceCtorEq,↓reduceIte]
     exact hk
 ·simp only [c0,sxZ,z6,z7,z8,j3,j6,j7,j8,j9,x0,x5,x6,x7,x8,x9,y3,reduceCtorEq,↓reduceIte]
  simp only [c0,if_true] at hk
  exact hk
theorem rdwCan_k (m i:List UInt8) (hm:m.length ≤ 13000) (hi:i.length ≤ 13000) (hk:K objs (.tup [.agg [.s (zeO m i).2.1,.s (zeO m i).2.2],.i .i64 (zeO m i).1])):zad Tryz.prog 117 [.agg [.s m,.s i]] objs K:=by
 refine za1 is_ref11_Canonical rfl fun C _ => ?_
 simp only [c_ref11_Canonical,sxZ,z6,z7,z8,j3,j6,j7,j8,j9,x0,x5,x6,x7,x8,x9,y3,reduceCtorEq,↓reduceIte]
 refine zae (znc m i hm hi ?_)
 unfold zeO at hk
 have hz:=to_err (m:=m) (i:=i)
 have hsh:(toE m i).1=0 → zb9 (toE m i).2:=fun h => znY hi h
 generalize toE m i=q at *
 obtain ⟨e,u⟩:=q
 simp only at hz hsh hk ⊢
 by_cases c0:e=0
 ·subst c0
  simp only [ne_eq,not_true_eq_false,if_false] at hk
  simp only [zaA,sxZ,z6,z7,z8,j3,j6,j7,j8,j9,x0,x5,x6,x7,x8,x9,y3,reduceCtorEq,↓reduceIte]
  refine zae (zjt u (hsh rfl) ?_)
  simp only [sxZ,z6,z7,z8,j3,j6,j7,j8,j9,x0,x5,x6,x7,x8,x9,y3,reduceCtorEq,↓reduceIte]
  exact hk
 ·have:=hz c0
  subst this
  simp only [c0,ne_eq,not_false_eq_true,if_true] at hk
  simp only [c0,zaA,sxZ,z6,z7,z8,j3,j6,j7,j8,j9,x0,x5,x6,x7,x8,x9,y3,reduceCtorEq,↓reduceIte]
  exact hk
end
end Go.Proofs.YtljbdpihiboeaaaGreatDoor
namespace Go.Proofs.YtljbdpihiboeaaaGreatDoor
open Go.RowKit Sx
section
variable [Tabs Tryz.prog] [Shp Tryz.prog] [Pow Tryz.prog]
end
end Go.Proofs.YtljbdpihiboeaaaGreatDoor
namespace Go.Proofs.YtljbdpihiboeaaaGreatDoor
open Go.RowKit
def zdl:List UInt8:=[97,99,99,116,58]
def zco:List UInt8:=[33,36,38,39,40,41,42,43,44,59,61]
def zgR:List UInt8 → Bool
 | [] => true
 | c :: _ => c.toNat == 37
def zbl (l:List UInt8):Int × List UInt8 × List UInt8 :=
 if 4096 < l.length then (5,[],[])
 else if l.length < 5 ∨ eqL (l.take 5) zdl=false then (60,[],[])
 else if (zaq 64 (l.drop 5)).2.2=false then (6,[],[])
 else if (zai (zaq 64 (l.drop 5)).1 zco).1 ≠ 0 ∨ zgR (zai (zaq 64 (l.drop 5)).1 zco).2=true then (80,[],[])
 else if (zaK (zaq 64 (l.drop 5)).2.1).1 ≠ 0 then ((zaK (zaq 64 (l.drop 5)).2.1).1,[],[])
 else (0,(zai (zaq 64 (l.drop 5)).1 zco).2,(zaK (zaq 64 (l.drop 5)).2.1).2)
def za9 (u h:List UInt8):Value:=.agg #[.string (S u),.string (S h)]
def zaH (r:Int × List UInt8 × List UInt8):Value:=.tuple #[za9 r.2.1 r.2.2,.int .i64 r.1]
def fmtA (u h:List UInt8):List UInt8:=zdl ++ u ++ [64] ++ h
theorem zcj (s:ByteArray) (w:World) (hs:s.size ≤ maxLen) :
  Calls Tryz.prog 181 #[.string s] w fun e w' => e=.returned (zeL (zaq 64 s.data.toList)) ∧ Qb w w':=by
 go_enter Tryz.func181,Tryz.ntmps181
 go_wp2_with fail
 refine (zbe s 64 _ hs).mono ?_
 rintro e w1 ⟨rfl,hq1⟩
 unfold zeL
 go_wp2_with fail
 go_ret3
 exact ⟨rfl,hq1⟩
theorem zk9 (u h:List UInt8) (w:World) (hu:u.length ≤ 9000000000000000000) (hh:h.length ≤ 100000000000000000) :
  Calls Tryz.prog 156 #[za9 u h] w fun e w' => e=.returned (.string (S (fmtA u h))) ∧ Qb w w':=by
 unfold za9
 go_enter Tryz.func156,Tryz.ntmps156
 go_wp2_with fail
 go_ret
 exact ⟨zeh (S_eq (by unfold fmtA zdl; simp [ByteArray.data_append])),(Qb.refl w).alloc _⟩
theorem zjw (u h:List UInt8) (w:World) (hu:u.length ≤ 9000000000000000000) (hh:h.length ≤ 100000000000000000) :
  Calls Tryz.prog 76 #[za9 u h] w fun e w' => e=.returned (.string (S (fmtA u h))) ∧ Qb w w':=by
 unfold za9
 go_enter Tryz.func76,Tryz.ntmps76
 go_wp2_with fail
 go_ret
 exact ⟨zeh (S_eq (by unfold fmtA zdl; simp [ByteArray.data_append])),(Qb.refl w).alloc _⟩
set_option maxHeartbeats 2000000 in
theorem znB (s:ByteArray) (w:World) (hs:s.size ≤ maxLen) :
  Calls Tryz.prog 155 #[.string s] w fun e w' => e=.returned (zaH (zbl s.data.toList)) ∧ Qb w w':=by
 unfold maxLen at hs
 by_cases h0:4096 < s.size
 ·have HF:Hid (zbl s.data.toList=(5,[],[])):=Lib.hid (by unfold zbl; rw [if_pos (by rw [zaa]; exact h0)])
  go_enter Tryz.func155,Tryz.ntmps155
  go_wp2_with fail
  exact bodyPost_ret (v:=zaH (5,[],[])) (by simp [results,Tryz.results155,go_sem,zaH,za9]) rfl ⟨by rw [HF.out],(Qb.refl w).alloc _⟩
 have h0':s.size ≤ 4096:=by omega
 by_cases h5:s.size < 5
 ·have HF:Hid (zbl s.data.toList=(60,[],[])):=Lib.hid (by unfold zbl; rw [if_neg (by rw [zaa]; omega),if_pos (.inl (by rw [zaa]; exact h5))])
  clear h0
  go_enter Tryz.func155,Tryz.ntmps155
  go_wp2_with fail
  exact bodyPost_ret (v:=zaH (60,[],[])) (by simp [results,Tryz.results155,go_sem,zaH,za9]) rfl ⟨by rw [HF.out],(Qb.refl w).alloc _⟩
 have h5':5 ≤ s.size:=by omega
 have HX5:=Lib.hid (za8 s 5)
 have hxl:(s.extract 0 5).data.toList=s.data.toList.take 5:=by rw [HX5.out]
 have HXD:=Lib.hid (zaB s 5)
 have HE:Hid (zbl s.data.toList=if eqL (s.data.toList.take 5) zdl=false then (60,[],[]) else if (zaq 64 (s.data.toList.drop 5)).2.2=false then (6,[],[])
   else if (zai (zaq 64 (s.data.toList.drop 5)).1 zco).1 ≠ 0 ∨ zgR (zai (zaq 64 (s.data.toList.drop 5)).1 zco).2=true then (80,[],[])
   else if (zaK (zaq 64 (s.data.toList.drop 5)).2.1).1 ≠ 0 then ((zaK (zaq 64 (s.data.toList.drop 5)).2.1).1,[],[])
   else (0,(zai (zaq 64 (s.data.toList.drop 5)).1 zco).2,(zaK (zaq 64 (s.data.toList.drop 5)).2.1).2)):=Lib.hid (by
  unfold zbl; rw [if_neg (by rw [zaa]; omega)]
  have:∀ p:Prop,(s.data.toList.length < 5 ∨ p)=p:=fun p => by rw [zaa]; exact propext ⟨fun h => h.resolve_left h5,.inr⟩
  simp only [this])
 have hdl:(s.data.toList.drop 5).length ≤ 4096:=by rw [List.length_drop,zaa]; omega
 generalize s.data.toList.drop 5=d at *
 obtain ⟨p,q,b,hcut⟩:∃ p q b,zaq 64 d=(p,q,b):=⟨_,_,_,rfl⟩
 obtain ⟨ne,u,hn⟩:∃ ne u,zai p zco=(ne,u):=⟨_,_,rfl⟩
 obtain ⟨he,h,hh⟩:∃ he h,zaK q=(he,h):=⟨_,_,rfl⟩
 have HC:=Lib.hid hcut
 have HN:=Lib.hid hn
 have HH:=Lib.hid hh
 have hlens:=za2 64 d
 rw [hcut] at hlens
 have hpl:p.length ≤ 4096:=by have:=hlens.1; simp at this; omega
 have hql:q.length ≤ 4096:=by have:=hlens.2; simp at this; omega
 have HI:Hid (zaz d [64]=p.length):=Lib.hid (by rw [zbz,hcut])
 have HIX:Hid (zaz d ({ data:=#[64] }:ByteArray).data.toList=p.length):=HI
 have hE2:∀ x,eqL (s.data.toList.take 5) zdl=x → zbl s.data.toList=if x=false then (60,[],[]) else if b=false then (6,[],[]) else if ne ≠ 0 ∨ zgR u=true then (80,[],[]) else if he ≠ 0 then (he,[],[]) else (0,u,h):=fun x hx => by
  rw [HE.out,hcut]; simp only; rw [hn,hh,hx]
 have HE2:=Lib.hid hE2
 have hcl:=zca 64 d
 rw [hcut] at hcl
 simp only at hcl
 have HCL:=Lib.hid hcl
 have hi:=zbo 64 d
 rw [hcut] at hi
 have HCI:=Lib.hid hi
 clear hcut hn hh hE2 HE hlens h0 h5 hcl hi
 rcases hx:eqL (s.data.toList.take 5) zdl with _ | _
 ·have HEQ:Hid (eqL (s.extract 0 5).data.toList ({ data:=#[97,99,99,116,58] }:ByteArray).data.toList=false):=Lib.hid (by rw [hxl]; exact hx)
  have HX:=Lib.hid hx
  clear hx hxl
  have HF:Hid (zbl s.data.toList=(60,[],[])):=Lib.hid (by rw [HE2.out _ HX.out]; rfl)
  go_enter Tryz.func155,Tryz.ntmps155
  go_wp2_with fail
  refine (zbm _ _ _ (by unfold maxLen; rw [HX5.out,zac,List.length_take]; omega) (by decide)).mono ?_
  rintro e w1 ⟨rfl,hqe⟩
  rw [show eqL (s.extract 0 5).data.toList ({ data:=#[97,99,99,116,58] }:ByteArray).data.toList=false from HEQ.out]
  have hk:=(Obk.new w _ _).qb hqe
  have hc0:=hk.cell 0
  have hc1:=hk.cell 1
  have hf0:=hk.frozen 0
  have hf1:=hk.frozen 1
  simp at hc0 hc1
  go_wp2_with fail
  exact bodyPost_ret (v:=zaH (60,[],[])) (by simp [results,Tryz.results155,go_sem,hc0,hc1,hf0,hf1,zaH,za9]) rfl ⟨by rw [HF.out],((((Qb.refl w).alloc _).trans hqe).set (Nat.le_refl _) _).set (Nat.le_refl _) _⟩
 ·have HEQ:Hid (eqL (s.extract 0 5).data.toList ({ data:=#[97,99,99,116,58] }:ByteArray).data.toList=true):=Lib.hid (by rw [hxl]; exact hx)
  have HX:=Lib.hid hx
  clear hx hxl
  rcases b with _ | _
  ·have hpd:p.length=d.length:=by rw [(HCL.out.2.2 rfl).1]
   have HF:Hid (zbl s.data.toList=(6,[],[])):=Lib.hid (by rw [HE2.out _ HX.out]; rfl)
   go_enter Tryz.func155,Tryz.ntmps155
   go_wp2_with fail
   refine (zbm _ _ _ (by unfold maxLen; rw [HX5.out,zac,List.length_take]; omega) (by decide)).mono ?_
   rintro e w1 ⟨rfl,hqe⟩
   rw [show eqL (s.extract 0 5).data.toList ({ data:=#[97,99,99,116,58] }:ByteArray).data.toList=true from HEQ.out]
   go_wp2_with fail
   rw [HXD.out]
   refine (zcj _ _ (by unfold maxLen; rw [zac]; omega)).mono ?_
   rintro e w2 ⟨rfl,hq2⟩
   rw [zab,HC.out]
   unfold zeL
   have hk:=(Obk.new w _ _).qb (hqe.trans hq2)
   have hc0:=hk.cell 0
   have hc1:=hk.cell 1
   have hf0:=hk.frozen 0
   have hf1:=hk.frozen 1
   simp at hc0 hc1
   go_wp2_with fail
   exact bodyPost_ret (v:=zaH (6,[],[])) (by simp [results,Tryz.results155,go_sem,hc0,hc1,hf0,hf1,zaH,za9]) rfl ⟨by rw [HF.out],((((Qb.refl w).alloc _).trans (hqe.trans hq2)).set (Nat.le_refl _) _).set (Nat.le_refl _) _⟩
  ·have hpd:=HCL.out.2.1 rfl
   have hpq:p=d.take p.length ∧ q=d.drop (p.length + 1):=by
    rcases HCI.out with ⟨_,h2,_⟩ | ⟨k,_,hk,h2,_⟩
    ·injection h2 with _ h2; injection h2 with _ h2; cases h2
    ·injection h2 with h2 h3; injection h3 with h3 _
     have:p.length=k:=by rw [h2,List.length_take]; omega
     rw [this]; exact ⟨h2,h3⟩
   have hxp:=za8 (S d) p.length
   rw [zab,← hpq.1] at hxp
   have hxq:=zaB (S d) (p.length + 1)
   rw [zab,zac,← hpq.2] at hxq
   have HXP:=Lib.hid hxp
   have HXQ:=Lib.hid hxq
   have hpi:(p.length:Int) + 1 ≤ (d.length:Int):=by omega
   have hb1:((p.length:Int) == (d.length:Int))=false:=by rw [beq_eq_false_iff_ne]; omega
   clear hpd hpq hxp hxq
   by_cases hne:ne=0
   ·subst hne
    rcases u with _ | ⟨c,t⟩
    ·have HF:Hid (zbl s.data.toList=(80,[],[])):=Lib.hid (by rw [HE2.out _ HX.out]; rfl)
     go_enter Tryz.func155,Tryz.ntmps155
     go_wp2_with fail
     refine (zbm _ _ _ (by unfold maxLen; rw [HX5.out,zac,List.length_take]; omega) (by decide)).mono ?_
     rintro e w1 ⟨rfl,hqe⟩
     rw [show eqL (s.extract 0 5).data.toList ({ data:=#[97,99,99,116,58] }:ByteArray).data.toList=true from HEQ.out]
     go_wp2_with fail
     rw [HXD.out]
     refine (zcj _ _ (by unfold maxLen; rw [zac]; omega)).mono ?_
     rintro e w2 ⟨rfl,hq2⟩
     rw [zab,HC.out]
     unfold zeL
     go_wp2_with fail
     refine (zdM _ _ _).mono ?_
     rintro e w3 ⟨rfl,hq3⟩
     rw [zab,show zai p ({ data:=#[33,36,38,39,40,41,42,43,44,59,61] }:ByteArray).data.toList=_ from HN.out]
     unfold zcX
     have hk:=(Obk.new w _ _).qb ((hqe.trans hq2).trans hq3)
     have hc0:=hk.cell 0
     have hc1:=hk.cell 1
     have hf0:=hk.frozen 0
     have hf1:=hk.frozen 1
     simp at hc0 hc1
     go_wp2_with fail
     exact bodyPost_ret (v:=zaH (80,[],[])) (by simp [results,Tryz.results155,go_sem,hc0,hc1,hf0,hf1,zaH,za9]) rfl ⟨by rw [HF.out],((((Qb.refl w).alloc _).trans ((hqe.trans hq2).trans hq3)).set (Nat.le_refl _) _).set (Nat.le_refl _) _⟩
    ·by_cases hc:c.toNat=37
     ·obtain rfl:c=37:=UInt8.toNat_inj.1 hc
      clear hc
      have HF:Hid (zbl s.data.toList=(80,[],[])):=Lib.hid (by rw [HE2.out _ HX.out,if_neg (by simp),if_neg (by simp),if_pos (.inr rfl)])
      go_enter Tryz.func155,Tryz.ntmps155
      go_wp2_with fail
      refine (zbm _ _ _ (by unfold maxLen; rw [HX5.out,zac,List.length_take]; omega) (by decide)).mono ?_
      rintro e w1 ⟨rfl,hqe⟩
      rw [show eqL (s.extract 0 5).data.toList ({ data:=#[97,99,99,116,58] }:ByteArray).data.toList=true from HEQ.out]
      go_wp2_with fail
      rw [HXD.out]
      refine (zcj _ _ (by unfold maxLen; rw [zac]; omega)).mono ?_
      rintro e w2 ⟨rfl,hq2⟩
      rw [zab,HC.out]
      unfold zeL
      go_wp2_with fail
      refine (zdM _ _ _).mono ?_
      rintro e w3 ⟨rfl,hq3⟩
      rw [zab,show zai p ({ data:=#[33,36,38,39,40,41,42,43,44,59,61] }:ByteArray).data.toList=_ from HN.out]
      unfold zcX
      have hk:=(Obk.new w _ _).qb ((hqe.trans hq2).trans hq3)
      have hc0:=hk.cell 0
      have hc1:=hk.cell 1
      have hf0:=hk.frozen 0
      have hf1:=hk.frozen 1
      simp at hc0 hc1
      go_wp2_with fail
      exact bodyPost_ret (v:=zaH (80,[],[])) (by simp [results,Tryz.results155,go_sem,hc0,hc1,hf0,hf1,zaH,za9]) rfl ⟨by rw [HF.out],((((Qb.refl w).alloc _).trans ((hqe.trans hq2).trans hq3)).set (Nat.le_refl _) _).set (Nat.le_refl _) _⟩
     ·have hb:((((S (c :: t))[0]'(by rw [zac,List.length_cons]; omega)).toNat:Int) == 37)=false:=by
       show ((c.toNat:Int) == 37)=false
       rw [beq_eq_false_iff_ne]; omega
      have hpl2:zgR (c :: t)=false:=show (c.toNat == 37)=false from by rw [beq_eq_false_iff_ne]; exact hc
      have HPL:=Lib.hid hpl2
      clear hc hpl2
      by_cases hhe:he=0
      ·subst hhe
       have HF:Hid (zbl s.data.toList=(0,c :: t,h)):=Lib.hid (by rw [HE2.out _ HX.out,if_neg (by simp),if_neg (by simp),if_neg (by rw [HPL.out]; simp),if_neg (by simp)])
       go_enter Tryz.func155,Tryz.ntmps155
       go_wp2_with fail
       refine (zbm _ _ _ (by unfold maxLen; rw [HX5.out,zac,List.length_take]; omega) (by decide)).mono ?_
       rintro e w1 ⟨rfl,hqe⟩
       rw [show eqL (s.extract 0 5).data.toList ({ data:=#[97,99,99,116,58] }:ByteArray).data.toList=true from HEQ.out]
       go_wp2_with fail
       rw [HXD.out]
       refine (zcj _ _ (by unfold maxLen; rw [zac]; omega)).mono ?_
       rintro e w2 ⟨rfl,hq2⟩
       rw [zab,HC.out]
       unfold zeL
       go_wp2_with fail
       refine (zdM _ _ _).mono ?_
       rintro e w3 ⟨rfl,hq3⟩
       rw [zab,show zai p ({ data:=#[33,36,38,39,40,41,42,43,44,59,61] }:ByteArray).data.toList=_ from HN.out]
       unfold zcX
       go_wp2_with fail
       refine (zcM (S q) _ (by unfold maxLen; rw [zac]; omega)).mono ?_
       rintro e w4 ⟨rfl,hq4⟩
       rw [zab,HH.out]
       unfold zcX
       have hk:=(Obk.new w _ _).qb (((hqe.trans hq2).trans hq3).trans hq4)
       have hc0:=hk.cell 0
       have hc1:=hk.cell 1
       have hf0:=hk.frozen 0
       have hf1:=hk.frozen 1
       simp at hc0 hc1
       go_wp2_with fail
       exact bodyPost_ret (v:=zaH (0,c :: t,h)) (by simp [results,Tryz.results155,go_sem,hc0,hc1,hf0,hf1,zaH,za9]) rfl ⟨by rw [HF.out],((((Qb.refl w).alloc _).trans (((hqe.trans hq2).trans hq3).trans hq4)).set (Nat.le_refl _) _).set (Nat.le_refl _) _⟩
      ·have hb2:(he != 0)=true:=bne_iff_ne.2 hhe
       have HHE:=Lib.hid hhe
       clear hhe
       have HF:Hid (zbl s.data.toList=(he,[],[])):=Lib.hid (by rw [HE2.out _ HX.out,if_neg (by simp),if_neg (by simp),if_neg (by rw [HPL.out]; simp),if_pos HHE.out])
       go_enter Tryz.func155,Tryz.ntmps155
       go_wp2_with fail
       refine (zbm _ _ _ (by unfold maxLen; rw [HX5.out,zac,List.length_take]; omega) (by decide)).mono ?_
       rintro e w1 ⟨rfl,hqe⟩
       rw [show eqL (s.extract 0 5).data.toList ({ data:=#[97,99,99,116,58] }:ByteArray).data.toList=true from HEQ.out]
       go_wp2_with fail
       rw [HXD.out]
       refine (zcj _ _ (by unfold maxLen; rw [zac]; omega)).mono ?_
       rintro e w2 ⟨rfl,hq2⟩
       rw [zab,HC.out]
       unfold zeL
       go_wp2_with fail
       refine (zdM _ _ _).mono ?_
       rintro e w3 ⟨rfl,hq3⟩
       rw [zab,show zai p ({ data:=#[33,36,38,39,40,41,42,43,44,59,61] }:ByteArray).data.toList=_ from HN.out]
       unfold zcX
       go_wp2_with fail
       refine (zcM (S q) _ (by unfold maxLen; rw [zac]; omega)).mono ?_
       rintro e w4 ⟨rfl,hq4⟩
       rw [zab,HH.out]
       unfold zcX
       have hk:=(Obk.new w _ _).qb (((hqe.trans hq2).trans hq3).trans hq4)
       have hc0:=hk.cell 0
       have hc1:=hk.cell 1
       have hf0:=hk.frozen 0
       have hf1:=hk.frozen 1
       simp at hc0 hc1
       go_wp2_with fail
       exact bodyPost_ret (v:=zaH (he,[],[])) (by simp [results,Tryz.results155,go_sem,hc0,hc1,hf0,hf1,zaH,za9]) rfl ⟨by rw [HF.out],((((Qb.refl w).alloc _).trans (((hqe.trans hq2).trans hq3).trans hq4)).set (Nat.le_refl _) _).set (Nat.le_refl _) _⟩
   ·have hb2:(ne != 0)=true:=bne_iff_ne.2 hne
    have HNE:=Lib.hid hne
    clear hne
    have HF:Hid (zbl s.data.toList=(80,[],[])):=Lib.hid (by rw [HE2.out _ HX.out,if_neg (by simp),if_neg (by simp),if_pos (.inl HNE.out)])
    go_enter Tryz.func155,Tryz.ntmps155
    go_wp2_with fail
    refine (zbm _ _ _ (by unfold maxLen; rw [HX5.out,zac,List.length_take]; omega) (by decide)).mono ?_
    rintro e w1 ⟨rfl,hqe⟩
    rw [show eqL (s.extract 0 5).data.toList ({ data:=#[97,99,99,116,58] }:ByteArray).data.toList=true from HEQ.out]
    go_wp2_with fail
    rw [HXD.out]
    refine (zcj _ _ (by unfold maxLen; rw [zac]; omega)).mono ?_
    rintro e w2 ⟨rfl,hq2⟩
    rw [zab,HC.out]
    unfold zeL
    go_wp2_with fail
    refine (zdM _ _ _).mono ?_
    rintro e w3 ⟨rfl,hq3⟩
    rw [zab,show zai p ({ data:=#[33,36,38,39,40,41,42,43,44,59,61] }:ByteArray).data.toList=_ from HN.out]
    unfold zcX
    have hk:=(Obk.new w _ _).qb ((hqe.trans hq2).trans hq3)
    have hc0:=hk.cell 0
    have hc1:=hk.cell 1
    have hf0:=hk.frozen 0
    have hf1:=hk.frozen 1
    simp at hc0 hc1
    go_wp2_with fail
    exact bodyPost_ret (v:=zaH (80,[],[])) (by simp [results,Tryz.results155,go_sem,hc0,hc1,hf0,hf1,zaH,za9]) rfl ⟨by rw [HF.out],((((Qb.refl w).alloc _).trans ((hqe.trans hq2).trans hq3)).set (Nat.le_refl _) _).set (Nat.le_refl _) _⟩
set_option maxHeartbeats 2000000 in
theorem zkD (s:ByteArray) (w:World) (hs:s.size ≤ maxLen) :
  Calls Tryz.prog 75 #[.string s] w fun e w' => e=.returned (zaH (zbl s.data.toList)) ∧ Qb w w':=by
 unfold maxLen at hs
 by_cases h0:4096 < s.size
 ·have HF:Hid (zbl s.data.toList=(5,[],[])):=Lib.hid (by unfold zbl; rw [if_pos (by rw [zaa]; exact h0)])
  go_enter Tryz.func75,Tryz.ntmps75
  go_wp2_with fail
  exact bodyPost_ret (v:=zaH (5,[],[])) (by simp [results,Tryz.results75,go_sem,zaH,za9]) rfl ⟨by rw [HF.out],(Qb.refl w).alloc _⟩
 have h0':s.size ≤ 4096:=by omega
 by_cases h5:s.size < 5
 ·have HF:Hid (zbl s.data.toList=(60,[],[])):=Lib.hid (by unfold zbl; rw [if_neg (by rw [zaa]; omega),if_pos (.inl (by rw [zaa]; exact h5))])
  clear h0
  go_enter Tryz.func75,Tryz.ntmps75
  go_wp2_with fail
  exact bodyPost_ret (v:=zaH (60,[],[])) (by simp [results,Tryz.results75,go_sem,zaH,za9]) rfl ⟨by rw [HF.out],(Qb.refl w).alloc _⟩
 have h5':5 ≤ s.size:=by omega
 have HX5:=Lib.hid (za8 s 5)
 have hxl:(s.extract 0 5).data.toList=s.data.toList.take 5:=by rw [HX5.out]
 have HXD:=Lib.hid (zaB s 5)
 have HE:Hid (zbl s.data.toList=if eqL (s.data.toList.take 5) zdl=false then (60,[],[]) else if (zaq 64 (s.data.toList.drop 5)).2.2=false then (6,[],[])
   else if (zai (zaq 64 (s.data.toList.drop 5)).1 zco).1 ≠ 0 ∨ zgR (zai (zaq 64 (s.data.toList.drop 5)).1 zco).2=true then (80,[],[])
   else if (zaK (zaq 64 (s.data.toList.drop 5)).2.1).1 ≠ 0 then ((zaK (zaq 64 (s.data.toList.drop 5)).2.1).1,[],[])
   else (0,(zai (zaq 64 (s.data.toList.drop 5)).1 zco).2,(zaK (zaq 64 (s.data.toList.drop 5)).2.1).2)):=Lib.hid (by
  unfold zbl; rw [if_neg (by rw [zaa]; omega)]
  have:∀ p:Prop,(s.data.toList.length < 5 ∨ p)=p:=fun p => by rw [zaa]; exact propext ⟨fun h => h.resolve_left h5,.inr⟩
  simp only [this])
 have hdl:(s.data.toList.drop 5).length ≤ 4096:=by rw [List.length_drop,zaa]; omega
 generalize s.data.toList.drop 5=d at *
 obtain ⟨p,q,b,hcut⟩:∃ p q b,zaq 64 d=(p,q,b):=⟨_,_,_,rfl⟩
 obtain ⟨ne,u,hn⟩:∃ ne u,zai p zco=(ne,u):=⟨_,_,rfl⟩
 obtain ⟨he,h,hh⟩:∃ he h,zaK q=(he,h):=⟨_,_,rfl⟩
 have HC:=Lib.hid hcut
 have HN:=Lib.hid hn
 have HH:=Lib.hid hh
 have hlens:=za2 64 d
 rw [hcut] at hlens
 have hpl:p.length ≤ 4096:=by have:=hlens.1; simp at this; omega
 have hql:q.length ≤ 4096:=by have:=hlens.2; simp at this; omega
 have HI:Hid (zaz d [64]=p.length):=Lib.hid (by rw [zbz,hcut])
 have HIX:Hid (zaz d ({ data:=#[64] }:ByteArray).data.toList=p.length):=HI
 have hE2:∀ x,eqL (s.data.toList.take 5) zdl=x → zbl s.data.toList=if x=false then (60,[],[]) else if b=false then (6,[],[]) else if ne ≠ 0 ∨ zgR u=true then (80,[],[]) else if he ≠ 0 then (he,[],[]) else (0,u,h):=fun x hx => by
  rw [HE.out,hcut]; simp only; rw [hn,hh,hx]
 have HE2:=Lib.hid hE2
 have hcl:=zca 64 d
 rw [hcut] at hcl
 simp only at hcl
 have HCL:=Lib.hid hcl
 have hi:=zbo 64 d
 rw [hcut] at hi
 have HCI:=Lib.hid hi
 clear hcut hn hh hE2 HE hlens h0 h5 hcl hi
 rcases hx:eqL (s.data.toList.take 5) zdl with _ | _
 ·have HEQ:Hid (eqL (s.extract 0 5).data.toList ({ data:=#[97,99,99,116,58] }:ByteArray).data.toList=false):=Lib.hid (by rw [hxl]; exact hx)
  have HX:=Lib.hid hx
  clear hx hxl
  have HF:Hid (zbl s.data.toList=(60,[],[])):=Lib.hid (by rw [HE2.out _ HX.out]; rfl)
  go_enter Tryz.func75,Tryz.ntmps75
  go_wp2_with fail
  refine (zbt _ _ _ (by rw [HX5.out,zac,List.length_take]; omega) (by decide)).mono ?_
  rintro e w1 ⟨rfl,hqe⟩
  rw [show eqL (s.extract 0 5).data.toList ({ data:=#[97,99,99,116,58] }:ByteArray).data.toList=false from HEQ.out]
  have hk:=(Obk.new w _ _).qb hqe
  have hc0:=hk.cell 0
  have hc1:=hk.cell 1
  have hf0:=hk.frozen 0
  have hf1:=hk.frozen 1
  simp at hc0 hc1
  go_wp2_with fail
  exact bodyPost_ret (v:=zaH (60,[],[])) (by simp [results,Tryz.results75,go_sem,hc0,hc1,hf0,hf1,zaH,za9]) rfl ⟨by rw [HF.out],((((Qb.refl w).alloc _).trans hqe).set (Nat.le_refl _) _).set (Nat.le_refl _) _⟩
 ·have HEQ:Hid (eqL (s.extract 0 5).data.toList ({ data:=#[97,99,99,116,58] }:ByteArray).data.toList=true):=Lib.hid (by rw [hxl]; exact hx)
  have HX:=Lib.hid hx
  clear hx hxl
  rcases b with _ | _
  ·have hpd:p.length=d.length:=by rw [(HCL.out.2.2 rfl).1]
   have HF:Hid (zbl s.data.toList=(6,[],[])):=Lib.hid (by rw [HE2.out _ HX.out]; rfl)
   have hb1:((p.length:Int) == (d.length:Int))=true:=by rw [beq_iff_eq]; omega
   clear hpd
   go_enter Tryz.func75,Tryz.ntmps75
   go_wp2_with fail
   refine (zbt _ _ _ (by rw [HX5.out,zac,List.length_take]; omega) (by decide)).mono ?_
   rintro e w1 ⟨rfl,hqe⟩
   rw [show eqL (s.extract 0 5).data.toList ({ data:=#[97,99,99,116,58] }:ByteArray).data.toList=true from HEQ.out]
   go_wp2_with fail
   rw [HXD.out]
   refine (zbh _ _ _ (by unfold maxLen; rw [zac]; omega) (by decide)).mono ?_
   rintro e w2 ⟨rfl,rfl⟩
   rw [zab,show zaz d ({ data:=#[64] }:ByteArray).data.toList=p.length from HIX.out]
   have hk:=(Obk.new w _ _).qb hqe
   have hc0:=hk.cell 0
   have hc1:=hk.cell 1
   have hf0:=hk.frozen 0
   have hf1:=hk.frozen 1
   simp at hc0 hc1
   go_wp2_with fail
   exact bodyPost_ret (v:=zaH (6,[],[])) (by simp [results,Tryz.results75,go_sem,hc0,hc1,hf0,hf1,zaH,za9]) rfl ⟨by rw [HF.out],((((Qb.refl w).alloc _).trans hqe).set (Nat.le_refl _) _).set (Nat.le_refl _) _⟩
  ·have hpd:=HCL.out.2.1 rfl
   have hpq:p=d.take p.length ∧ q=d.drop (p.length + 1):=by
    rcases HCI.out with ⟨_,h2,_⟩ | ⟨k,_,hk,h2,_⟩
    ·injection h2 with _ h2; injection h2 with _ h2; cases h2
    ·injection h2 with h2 h3; injection h3 with h3 _
     have:p.length=k:=by rw [h2,List.length_take]; omega
     rw [this]; exact ⟨h2,h3⟩
   have hxp:=za8 (S d) p.length
   rw [zab,← hpq.1] at hxp
   have hxq:=zaB (S d) (p.length + 1)
   rw [zab,zac,← hpq.2] at hxq
   have HXP:=Lib.hid hxp
   have HXQ:=Lib.hid hxq
   have hpi:(p.length:Int) + 1 ≤ (d.length:Int):=by omega
   have hb1:((p.length:Int) == (d.length:Int))=false:=by rw [beq_eq_false_iff_ne]; omega
   clear hpd hpq hxp hxq
   by_cases hne:ne=0
   ·subst hne
    rcases u with _ | ⟨c,t⟩
    ·have HF:Hid (zbl s.data.toList=(80,[],[])):=Lib.hid (by rw [HE2.out _ HX.out]; rfl)
     go_enter Tryz.func75,Tryz.ntmps75
     go_wp2_with fail
     refine (zbt _ _ _ (by rw [HX5.out,zac,List.length_take]; omega) (by decide)).mono ?_
     rintro e w1 ⟨rfl,hqe⟩
     rw [show eqL (s.extract 0 5).data.toList ({ data:=#[97,99,99,116,58] }:ByteArray).data.toList=true from HEQ.out]
     go_wp2_with fail
     rw [HXD.out]
     refine (zbh _ _ _ (by unfold maxLen; rw [zac]; omega) (by decide)).mono ?_
     rintro e w2 ⟨rfl,rfl⟩
     rw [zab,show zaz d ({ data:=#[64] }:ByteArray).data.toList=p.length from HIX.out]
     go_wp2_with fail
     rw [HXP.out]
     refine (zdJ _ _ _ (by decide)).mono ?_
     rintro e w3 ⟨rfl,hq3⟩
     rw [zab,show zai p ({ data:=#[33,36,38,39,40,41,42,43,44,59,61] }:ByteArray).data.toList=_ from HN.out]
     unfold zcX
     have hk:=(Obk.new w _ _).qb (hqe.trans hq3)
     have hc0:=hk.cell 0
     have hc1:=hk.cell 1
     have hf0:=hk.frozen 0
     have hf1:=hk.frozen 1
     simp at hc0 hc1
     go_wp2_with fail
     exact bodyPost_ret (v:=zaH (80,[],[])) (by simp [results,Tryz.results75,go_sem,hc0,hc1,hf0,hf1,zaH,za9]) rfl ⟨by rw [HF.out],((((Qb.refl w).alloc _).trans (hqe.trans hq3)).set (Nat.le_refl _) _).set (Nat.le_refl _) _⟩
    ·by_cases hc:c.toNat=37
     ·obtain rfl:c=37:=UInt8.toNat_inj.1 hc
      clear hc
      have HF:Hid (zbl s.data.toList=(80,[],[])):=Lib.hid (by rw [HE2.out _ HX.out,if_neg (by simp),if_neg (by simp),if_pos (.inr rfl)])
      go_enter Tryz.func75,Tryz.ntmps75
      go_wp2_with fail
      refine (zbt _ _ _ (by rw [HX5.out,zac,List.length_take]; omega) (by decide)).mono ?_
      rintro e w1 ⟨rfl,hqe⟩
      rw [show eqL (s.extract 0 5).data.toList ({ data:=#[97,99,99,116,58] }:ByteArray).data.toList=true from HEQ.out]
      go_wp2_with fail
      rw [HXD.out]
      refine (zbh _ _ _ (by unfold maxLen; rw [zac]; omega) (by decide)).mono ?_
      rintro e w2 ⟨rfl,rfl⟩
      rw [zab,show zaz d ({ data:=#[64] }:ByteArray).data.toList=p.length from HIX.out]
      go_wp2_with fail
      rw [HXP.out]
      refine (zdJ _ _ _ (by decide)).mono ?_
      rintro e w3 ⟨rfl,hq3⟩
      rw [zab,show zai p ({ data:=#[33,36,38,39,40,41,42,43,44,59,61] }:ByteArray).data.toList=_ from HN.out]
      unfold zcX
      have hk:=(Obk.new w _ _).qb (hqe.trans hq3)
      have hc0:=hk.cell 0
      have hc1:=hk.cell 1
      have hf0:=hk.frozen 0
      have hf1:=hk.frozen 1
      simp at hc0 hc1
      go_wp2_with fail
      exact bodyPost_ret (v:=zaH (80,[],[])) (by simp [results,Tryz.results75,go_sem,hc0,hc1,hf0,hf1,zaH,za9]) rfl ⟨by rw [HF.out],((((Qb.refl w).alloc _).trans (hqe.trans hq3)).set (Nat.le_refl _) _).set (Nat.le_refl _) _⟩
     ·have hb:((((S (c :: t))[0]'(by rw [zac,List.length_cons]; omega)).toNat:Int) == 37)=false:=by
       show ((c.toNat:Int) == 37)=false
       rw [beq_eq_false_iff_ne]; omega
      have hpl2:zgR (c :: t)=false:=show (c.toNat == 37)=false from by rw [beq_eq_false_iff_ne]; exact hc
      have HPL:=Lib.hid hpl2
      clear hc hpl2
      by_cases hhe:he=0
      ·subst hhe
       have HF:Hid (zbl s.data.toList=(0,c :: t,h)):=Lib.hid (by rw [HE2.out _ HX.out,if_neg (by simp),if_neg (by simp),if_neg (by rw [HPL.out]; simp),if_neg (by simp)])
       go_enter Tryz.func75,Tryz.ntmps75
       go_wp2_with fail
       refine (zbt _ _ _ (by rw [HX5.out,zac,List.length_take]; omega) (by decide)).mono ?_
       rintro e w1 ⟨rfl,hqe⟩
       rw [show eqL (s.extract 0 5).data.toList ({ data:=#[97,99,99,116,58] }:ByteArray).data.toList=true from HEQ.out]
       go_wp2_with fail
       rw [HXD.out]
       refine (zbh _ _ _ (by unfold maxLen; rw [zac]; omega) (by decide)).mono ?_
       rintro e w2 ⟨rfl,rfl⟩
       rw [zab,show zaz d ({ data:=#[64] }:ByteArray).data.toList=p.length from HIX.out]
       go_wp2_with fail
       rw [HXP.out]
       refine (zdJ _ _ _ (by decide)).mono ?_
       rintro e w3 ⟨rfl,hq3⟩
       rw [zab,show zai p ({ data:=#[33,36,38,39,40,41,42,43,44,59,61] }:ByteArray).data.toList=_ from HN.out]
       unfold zcX
       go_wp2_with fail
       rw [HXQ.out]
       refine (zdL (S q) _ (by rw [zac]; omega)).mono ?_
       rintro e w4 ⟨rfl,hq4⟩
       rw [zab,HH.out]
       unfold zcX
       have hk:=(Obk.new w _ _).qb ((hqe.trans hq3).trans hq4)
       have hc0:=hk.cell 0
       have hc1:=hk.cell 1
       have hf0:=hk.frozen 0
       have hf1:=hk.frozen 1
       simp at hc0 hc1
       go_wp2_with fail
       exact bodyPost_ret (v:=zaH (0,c :: t,h)) (by simp [results,Tryz.results75,go_sem,hc0,hc1,hf0,hf1,zaH,za9]) rfl ⟨by rw [HF.out],((((Qb.refl w).alloc _).trans ((hqe.trans hq3).trans hq4)).set (Nat.le_refl _) _).set (Nat.le_refl _) _⟩
      ·have hb2:(he != 0)=true:=bne_iff_ne.2 hhe
       have HHE:=Lib.hid hhe
       clear hhe
       have HF:Hid (zbl s.data.toList=(he,[],[])):=Lib.hid (by rw [HE2.out _ HX.out,if_neg (by simp),if_neg (by simp),if_neg (by rw [HPL.out]; simp),if_pos HHE.out])
       go_enter Tryz.func75,Tryz.ntmps75
       go_wp2_with fail
       refine (zbt _ _ _ (by rw [HX5.out,zac,List.length_take]; omega) (by decide)).mono ?_
       rintro e w1 ⟨rfl,hqe⟩
       rw [show eqL (s.extract 0 5).data.toList ({ data:=#[97,99,99,116,58] }:ByteArray).data.toList=true from HEQ.out]
       go_wp2_with fail
       rw [HXD.out]
       refine (zbh _ _ _ (by unfold maxLen; rw [zac]; omega) (by decide)).mono ?_
       rintro e w2 ⟨rfl,rfl⟩
       rw [zab,show zaz d ({ data:=#[64] }:ByteArray).data.toList=p.length from HIX.out]
       go_wp2_with fail
       rw [HXP.out]
       refine (zdJ _ _ _ (by decide)).mono ?_
       rintro e w3 ⟨rfl,hq3⟩
       rw [zab,show zai p ({ data:=#[33,36,38,39,40,41,42,43,44,59,61] }:ByteArray).data.toList=_ from HN.out]
       unfold zcX
       go_wp2_with fail
       rw [HXQ.out]
       refine (zdL (S q) _ (by rw [zac]; omega)).mono ?_
       rintro e w4 ⟨rfl,hq4⟩
       rw [zab,HH.out]
       unfold zcX
       have hk:=(Obk.new w _ _).qb ((hqe.trans hq3).trans hq4)
       have hc0:=hk.cell 0
       have hc1:=hk.cell 1
       have hf0:=hk.frozen 0
       have hf1:=hk.frozen 1
       simp at hc0 hc1
       go_wp2_with fail
       exact bodyPost_ret (v:=zaH (he,[],[])) (by simp [results,Tryz.results75,go_sem,hc0,hc1,hf0,hf1,zaH,za9]) rfl ⟨by rw [HF.out],((((Qb.refl w).alloc _).trans ((hqe.trans hq3).trans hq4)).set (Nat.le_refl _) _).set (Nat.le_refl _) _⟩
   ·have hb2:(ne != 0)=true:=bne_iff_ne.2 hne
    have HNE:=Lib.hid hne
    clear hne
    have HF:Hid (zbl s.data.toList=(80,[],[])):=Lib.hid (by rw [HE2.out _ HX.out,if_neg (by simp),if_neg (by simp),if_pos (.inl HNE.out)])
    go_enter Tryz.func75,Tryz.ntmps75
    go_wp2_with fail
    refine (zbt _ _ _ (by rw [HX5.out,zac,List.length_take]; omega) (by decide)).mono ?_
    rintro e w1 ⟨rfl,hqe⟩
    rw [show eqL (s.extract 0 5).data.toList ({ data:=#[97,99,99,116,58] }:ByteArray).data.toList=true from HEQ.out]
    go_wp2_with fail
    rw [HXD.out]
    refine (zbh _ _ _ (by unfold maxLen; rw [zac]; omega) (by decide)).mono ?_
    rintro e w2 ⟨rfl,rfl⟩
    rw [zab,show zaz d ({ data:=#[64] }:ByteArray).data.toList=p.length from HIX.out]
    go_wp2_with fail
    rw [HXP.out]
    refine (zdJ _ _ _ (by decide)).mono ?_
    rintro e w3 ⟨rfl,hq3⟩
    rw [zab,show zai p ({ data:=#[33,36,38,39,40,41,42,43,44,59,61] }:ByteArray).data.toList=_ from HN.out]
    unfold zcX
    have hk:=(Obk.new w _ _).qb (hqe.trans hq3)
    have hc0:=hk.cell 0
    have hc1:=hk.cell 1
    have hf0:=hk.frozen 0
    have hf1:=hk.frozen 1
    simp at hc0 hc1
    go_wp2_with fail
    exact bodyPost_ret (v:=zaH (80,[],[])) (by simp [results,Tryz.results75,go_sem,hc0,hc1,hf0,hf1,zaH,za9]) rfl ⟨by rw [HF.out],((((Qb.refl w).alloc _).trans (hqe.trans hq3)).set (Nat.le_refl _) _).set (Nat.le_refl _) _⟩
end Go.Proofs.YtljbdpihiboeaaaGreatDoor
