/- The texts that the proofs of these statements reach, in their order, as few files. -/
import Derived.Test.YtnnipcgblooemaaGreatDoorProg
import Derived.Lib.Builder
import Derived.Lib.UnsafeStr
import Derived.Shelf.RegionOpenPlain
import Derived.Laws.Externs
import Derived.Lib.Split
import Derived.Test.YtnnipcgblooemaaGreatDoorFn4
set_option linter.unusedVariables false
set_option linter.unusedSimpArgs false
set_option maxRecDepth 100000
namespace Go.Proofs.YtnnipcgblooemaaGreatDoor
open Nat renaming reduceAdd → z6, reduceSub → z7, reduceLeDiff → z8, reduceLT → j6, reduceMul → j7, reduceEqDiff → j8
open Int renaming reduceToNat → j9, reduceAdd → x0, reduceSub → x5, reduceMul → x6, reduceNeg → x7, reduceLT → x8, reduceLE → x9, reduceEq → y3, reduceNe → y4
open Go.RowKit Sx
theorem zp8 (c:UInt8) (hd:zal c=false):meB c=(decide (97≤c.toNat)&&decide (c.toNat≤122)):=by unfold meB;rw[hd];rfl
theorem ib256:∀n:Fin 256,ibB (UInt8.ofNat n.val)=(UInt8.ofNat n.val==37||(za4 (UInt8.ofNat n.val)||zal (UInt8.ofNat n.val)||zbe (UInt8.ofNat n.val) [46,45,95,58])):=by decide +kernel
theorem ib_form (c:UInt8):ibB c=(c==37||(za4 c||zal c||zbe c [46,45,95,58])):=by
 have:=ib256 ⟨c.toNat,UInt8.toNat_lt c⟩
 simpa using this
theorem trim_did {s:List UInt8} (h:Lib.hasPrefix s zbF=true):Lib.trimPrefix s zbF=s.drop 4:=by unfold Lib.trimPrefix;rw[if_pos h];rfl
theorem fmtD_len (m i:List UInt8):(zbo m i).length=m.length+i.length+5:=by simp[zbo,zbF];omega
section
variable [Tabs Tryz.prog] {objs:List OB} {K:List OB→AV→Prop}
theorem zg6 [Shp Tryz.prog] (s new:List UInt8) (c:UInt8) (hs:s.length≤100000) (hn:new.length≤100) (hne:new≠[c]) (hk:K objs (.s (zk1 c new s))):zad Tryz.prog 154 [.s s,.s [c],.s new] objs K:=by
 have hc:Lib.countB (S s) (S [c])≤s.length+1:=zkR c s
 have hl:(S s).size+Lib.countB (S s) (S [c])*(S new).size≤140737488355328:=by
  have h1:Lib.countB (S s) (S [c])*(S new).size≤100001*100:=Nat.mul_le_mul (by omega) (by rw[zac];omega)
  rw[zac];omega
 have e:Lib.replaceAll s [c] new=zk1 c new s:=zhT c new s hne
 rw[←e] at hk
 exact convT (vs:=[.string (S s),.string (S [c]),.string (S new)]) rfl rfl (fun w hT=>Tryz.strings_ReplaceAll_shaped (S s) (S [c]) (S new) w (Shp.sh w hT) (by rw[zac];omega) (by rw[zac];simp) hl) hk
theorem zrs (s:List UInt8) (hs:s.length≤1000000) (hk:K objs (.b (zbP s))):zad Tryz.prog 127 [.s s] objs K:=by
 refine zaU is_did_isMethod rfl fun C _=>?_
 unfold zbP at hk
 simp only[c_did_isMethod,sxZ,z6,z7,z8,j6,j7,j8,j9,x0,x5,x6,x7,x8,x9,y3,y4,reduceCtorEq,↓reduceIte]
 refine zbg (fun n objs tm=>∃i:Nat,i≤s.length∧n=s.length - i∧objs=[]∧(∀j (h:j<s.length),j<i→meB s[j]=true)∧tm.length=29∧tm[0]? = some (.s s)∧tm[5]? = some (.i .i64 s.length)∧tm[6]? = some (.i .i64 i)) s.length ⟨0,Nat.zero_le _,rfl,rfl,fun j h h0=>absurd h0 (by omega),rfl,rfl,rfl,rfl⟩ ?_
 rintro n _ tm ⟨i,hi,rfl,rfl,hall,hlen,t0,t5,t6⟩
 by_cases hlt:(i:Int)<s.length
 ·have hlt':i<s.length:=by omega
  have hg:=zdB hlt'
  have hfin:meB s[i]=false→K objs (.b false):=fun h=>by
   rw[zjw hlt' h] at hk;exact hk
  have hnext:meB s[i]=true→∀j (h:j<s.length),j<i+1→meB s[j]=true:=by
   intro h j hj hji
   rcases Nat.lt_or_ge j i with h1|h1
   ·exact hall j hj h1
   ·have:j=i:=by omega
    subst this;exact h
  simp only[sxZ,z6,z7,z8,j6,j7,j8,j9,x0,x5,x6,x7,x8,x9,y3,y4,reduceCtorEq,↓reduceIte,List.getElem?_set,hlen,t0,t5,t6,hlt]
  refine⟨by omega,?_⟩
  rw[hg]
  generalize s[i]=c at *
  refine zaf (znL c ?_)
  by_cases hd:zal c=true
  ·have hm:meB c=true:=by unfold meB;rw[hd];rfl
   simp only[hd,sxZ,z6,z7,z8,j6,j7,j8,j9,x0,x5,x6,x7,x8,x9,y3,y4,reduceCtorEq,↓reduceIte,List.getElem?_set,hlen,t0,t5,t6]
   exact⟨⟨by omega,by omega⟩,s.length - (i+1),by omega,i+1,by omega,rfl,hnext hm,rfl⟩
  ·simp only[Bool.not_eq_true] at hd
   have hm:=zp8 c hd
   by_cases h97:((c.toNat:Nat):Int)<97
   ·have hm2:meB c=false:=by rw[hm,decide_eq_false (by omega)];rfl
    simp only[hd,hg,h97,sxZ,z6,z7,z8,j6,j7,j8,j9,x0,x5,x6,x7,x8,x9,y3,y4,reduceCtorEq,↓reduceIte,List.getElem?_set,hlen,t0,t5,t6]
    exact⟨⟨by omega,by omega⟩,hfin hm2⟩
   ·by_cases h122:(122:Int)<((c.toNat:Nat):Int)
    ·have hm2:meB c=false:=by rw[hm,decide_eq_false (p:=c.toNat≤122) (by omega),Bool.and_false]
     simp only[hd,hg,h97,h122,sxZ,z6,z7,z8,j6,j7,j8,j9,x0,x5,x6,x7,x8,x9,y3,y4,reduceCtorEq,↓reduceIte,List.getElem?_set,hlen,t0,t5,t6]
     exact⟨⟨by omega,by omega⟩,⟨by omega,by omega⟩,hfin hm2⟩
    ·have hm2:meB c=true:=by rw[hm,decide_eq_true (by omega),decide_eq_true (by omega)];rfl
     simp only[hd,hg,h97,h122,sxZ,z6,z7,z8,j6,j7,j8,j9,x0,x5,x6,x7,x8,x9,y3,y4,reduceCtorEq,↓reduceIte,List.getElem?_set,hlen,t0,t5,t6]
     exact⟨⟨by omega,by omega⟩,⟨by omega,by omega⟩,⟨by omega,by omega⟩,s.length - (i+1),by omega,i+1,by omega,rfl,hnext hm2,rfl⟩
 ·have hie:i=s.length:=by omega
  subst hie
  have ha:s.all meB=true:=znG fun j h=>hall j h h
  rw[ha] at hk
  simp only[sxZ,z6,z7,z8,j6,j7,j8,j9,x0,x5,x6,x7,x8,x9,y3,y4,reduceCtorEq,↓reduceIte,List.getElem?_set,hlen,t0,t5,t6,hlt]
  have e:decide (¬s=[])=(true&&!s.isEmpty):=by cases s<;>simp
  rw[e]
  exact hk
theorem zrt (c:UInt8) (hk:K objs (.b (za4 c||zal c||zbe c [46,45,95,58]))):zad Tryz.prog 153 [.i .u8 c.toNat] objs K:=by
 refine zaU is_did_isIDByte rfl fun C _=>?_
 simp only[c_did_isIDByte,sxZ,z6,z7,z8,j6,j7,j8,j9,x0,x5,x6,x7,x8,x9,y3,y4,reduceCtorEq,↓reduceIte]
 refine zaf (aAlpha_k c ?_)
 by_cases h1:za4 c=true
 ·simp only[h1,Bool.true_or] at hk
  simp only[h1,sxZ,z6,z7,z8,j6,j7,j8,j9,x0,x5,x6,x7,x8,x9,y3,y4,reduceCtorEq,↓reduceIte]
  exact hk
 ·simp only[h1,sxZ,z6,z7,z8,j6,j7,j8,j9,x0,x5,x6,x7,x8,x9,y3,y4,reduceCtorEq,↓reduceIte]
  refine zaf (znL c ?_)
  by_cases h2:zal c=true
  ·simp only[h1,h2,Bool.true_or,Bool.or_true,Bool.false_or] at hk
   simp only[h2,sxZ,z6,z7,z8,j6,j7,j8,j9,x0,x5,x6,x7,x8,x9,y3,y4,reduceCtorEq,↓reduceIte]
   exact hk
  ·simp only[h1,h2,Bool.false_or] at hk
   simp only[h2,sxZ,z6,z7,z8,j6,j7,j8,j9,x0,x5,x6,x7,x8,x9,y3,y4,reduceCtorEq,↓reduceIte]
   refine zaf (zjP _ c ?_)
   simp only[sxZ,z6,z7,z8,j6,j7,j8,j9,x0,x5,x6,x7,x8,x9,y3,y4,reduceCtorEq,↓reduceIte]
   rw[idx_has]
   exact hk
set_option maxHeartbeats 4000000 in
theorem zon [Shp Tryz.prog] (s:List UInt8) (hs:s.length≤16384) (hk:K objs (.tup [.s (idE s).2,.i .i64 (idE s).1])):zad Tryz.prog 128 [.s s] objs K:=by
 refine zaU is_did_parseID rfl fun C _=>?_
 have hid:idE s=if (zaR s).1≠0 then ((zaR s).1,[]) else if s.all ibB=false then (1,[]) else if s=[]∨s.getLast? = some 58 then (3,[]) else if (zaj s zbw).1≠0 then ((zaj s zbw).1,[]) else (0,zcO (zaj s zbw).2):=rfl
 simp only[c_did_parseID,sxZ,z6,z7,z8,j6,j7,j8,j9,x0,x5,x6,x7,x8,x9,y3,y4,reduceCtorEq,↓reduceIte]
 refine zaf (zhm s ?_)
 by_cases h1:(zaR s).1=0
 ·simp only[h1,sxZ,z6,z7,z8,j6,j7,j8,j9,x0,x5,x6,x7,x8,x9,y3,y4,reduceCtorEq,↓reduceIte] at hid ⊢
  refine zbg (fun n objs tm=>∃i:Nat,i≤s.length∧n=s.length - i∧objs=[]∧(∀j (h:j<s.length),j<i→ibB s[j]=true)∧tm.length=54∧tm[0]? = some (.s s)∧tm[18]? = some (.i .i64 s.length)∧tm[19]? = some (.i .i64 i)) s.length ⟨0,Nat.zero_le _,rfl,rfl,fun j h h0=>absurd h0 (by omega),rfl,rfl,rfl,rfl⟩ ?_
  rintro n _ tm ⟨i,hi,rfl,rfl,hall,hlen,t0,t5,t6⟩
  by_cases hlt:(i:Int)<s.length
  ·have hlt':i<s.length:=by omega
   have hg:=zdB hlt'
   have hfin:ibB s[i]=false→K objs (.tup [.s [],.i .i64 1]):=fun h=>by
    rw[zjw hlt' h] at hid
    simp only[sxZ,z6,z7,z8,j6,j7,j8,j9,x0,x5,x6,x7,x8,x9,y3,y4,reduceCtorEq,↓reduceIte] at hid
    rw[hid] at hk;exact hk
   have hnext:ibB s[i]=true→∀j (h:j<s.length),j<i+1→ibB s[j]=true:=by
    intro h j hj hji
    rcases Nat.lt_or_ge j i with h1|h1
    ·exact hall j hj h1
    ·have:j=i:=by omega
     subst this;exact h
   clear hk hid
   generalize s[i]=c at *
   have hib:=ib_form c
   by_cases h37:c=37
   ·have e37:((c.toNat:Nat):Int)=37:=by rw[h37];rfl
    have hb:ibB c=true:=by rw[hib,h37];rfl
    simp only[sxZ,z6,z7,z8,j6,j7,j8,j9,x0,x5,x6,x7,x8,x9,y3,y4,reduceCtorEq,↓reduceIte,List.getElem?_set,hlen,t0,t5,t6,hlt,hg,e37]
    exact⟨by omega,⟨by omega,by omega⟩,s.length - (i+1),by omega,i+1,by omega,rfl,hnext hb,rfl⟩
   ·have e37:¬((c.toNat:Nat):Int)=37:=fun e=>h37 (UInt8.toNat_inj.1 (by have:(37:UInt8).toNat=37:=rfl;omega))
    have hne:(c==37)=false:=by simpa using h37
    simp only[sxZ,z6,z7,z8,j6,j7,j8,j9,x0,x5,x6,x7,x8,x9,y3,y4,reduceCtorEq,↓reduceIte,List.getElem?_set,hlen,t0,t5,t6,hlt,hg,e37]
    refine⟨by omega,by omega,?_⟩
    refine zaf (zrt c ?_)
    rw[hne,Bool.false_or] at hib
    rw[←hib]
    by_cases hb:ibB c=true
    ·simp only[hb,sxZ,z6,z7,z8,j6,j7,j8,j9,x0,x5,x6,x7,x8,x9,y3,y4,reduceCtorEq,↓reduceIte,List.getElem?_set,hlen,t0,t5,t6]
     exact⟨⟨by omega,by omega⟩,s.length - (i+1),by omega,i+1,by omega,rfl,hnext hb,rfl⟩
    ·simp only[Bool.not_eq_true] at hb
     simp only[hb,sxZ,z6,z7,z8,j6,j7,j8,j9,x0,x5,x6,x7,x8,x9,y3,y4,reduceCtorEq,↓reduceIte,List.getElem?_set,hlen,t0,t5,t6]
     exact hfin hb
  ·have hie:i=s.length:=by omega
   subst hie
   have ha:s.all ibB=true:=znG fun j h=>hall j h h
   simp only[ha,sxZ,z6,z7,z8,j6,j7,j8,j9,x0,x5,x6,x7,x8,x9,y3,y4,reduceCtorEq,↓reduceIte] at hid
   simp only[sxZ,z6,z7,z8,j6,j7,j8,j9,x0,x5,x6,x7,x8,x9,y3,y4,reduceCtorEq,↓reduceIte,List.getElem?_set,hlen,t0,t5,t6,hlt]
   by_cases hs0:s=[]
   ·have ho:s=[]∨s.getLast? = some 58:=.inl hs0
    rw[if_pos ho] at hid
    rw[hid] at hk
    simp only[sxZ,z6,z7,z8,j6,j7,j8,j9,x0,x5,x6,x7,x8,x9,y3,y4,reduceCtorEq,↓reduceIte,List.getElem?_set,hlen,t0,t5,t6,hs0]
    exact hk
   ·have hpos:0<s.length:=by
     rcases Nat.eq_zero_or_pos s.length with h|h
     ·exact absurd (List.eq_nil_of_length_eq_zero h) hs0
     ·exact h
    have hgl:s.getLast? = some s[s.length - 1]:=by rw[List.getLast?_eq_getElem?,List.getElem?_eq_getElem (by omega)]
    have hg2:s.getD ((s.length:Int) - 1).toNat 0=s[s.length - 1]:=by
     rw[show ((s.length:Int) - 1).toNat=s.length - 1 by omega];exact zdB (by omega)
    by_cases h58:s[s.length - 1]=58
    ·have ho:s=[]∨s.getLast? = some 58:=.inr (by rw[hgl,h58])
     have e58:((s[s.length - 1].toNat:Nat):Int)=58:=by rw[h58];rfl
     rw[if_pos ho] at hid
     rw[hid] at hk
     simp only[sxZ,z6,z7,z8,j6,j7,j8,j9,x0,x5,x6,x7,x8,x9,y3,y4,reduceCtorEq,↓reduceIte,List.getElem?_set,hlen,t0,t5,t6,hs0]
     refine⟨⟨by omega,by omega⟩,⟨by omega,by omega⟩,?_⟩
     rw[hg2]
     simp only[sxZ,z6,z7,z8,j6,j7,j8,j9,x0,x5,x6,x7,x8,x9,y3,y4,reduceCtorEq,↓reduceIte,List.getElem?_set,hlen,t0,t5,t6,e58]
     exact hk
    ·have ho:¬(s=[]∨s.getLast? = some 58):=by
      rw[hgl]
      rintro(h|h)
      ·exact hs0 h
      ·injection h with h;exact h58 h
     have e58:¬((s[s.length - 1].toNat:Nat):Int)=58:=fun e=>h58 (UInt8.toNat_inj.1 (by have:(58:UInt8).toNat=58:=rfl;omega))
     rw[if_neg ho] at hid
     simp only[sxZ,z6,z7,z8,j6,j7,j8,j9,x0,x5,x6,x7,x8,x9,y3,y4,reduceCtorEq,↓reduceIte,List.getElem?_set,hlen,t0,t5,t6,hs0]
     refine⟨⟨by omega,by omega⟩,⟨by omega,by omega⟩,?_⟩
     rw[hg2]
     simp only[sxZ,z6,z7,z8,j6,j7,j8,j9,x0,x5,x6,x7,x8,x9,y3,y4,reduceCtorEq,↓reduceIte,List.getElem?_set,hlen,t0,t5,t6,e58]
     refine zaf (zhk s zbw ?_)
     by_cases h3:(zaj s zbw).1=0
     ·have nl:=zdF s zbw
      simp only[h3,sxZ,z6,z7,z8,j6,j7,j8,j9,x0,x5,x6,x7,x8,x9,y3,y4,reduceCtorEq,↓reduceIte] at hid
      simp only[h3,sxZ,z6,z7,z8,j6,j7,j8,j9,x0,x5,x6,x7,x8,x9,y3,y4,reduceCtorEq,↓reduceIte,List.getElem?_set,hlen]
      refine zaf (zg6 _ _ 126 (by omega) (by decide) (by decide) ?_)
      rw[hid] at hk
      simp only[sxZ,z6,z7,z8,j6,j7,j8,j9,x0,x5,x6,x7,x8,x9,y3,y4,reduceCtorEq,↓reduceIte,List.getElem?_set,hlen]
      exact hk
     ·simp only[h3,sxZ,z6,z7,z8,j6,j7,j8,j9,x0,x5,x6,x7,x8,x9,y3,y4,reduceCtorEq,↓reduceIte] at hid
      simp only[h3,sxZ,z6,z7,z8,j6,j7,j8,j9,x0,x5,x6,x7,x8,x9,y3,y4,reduceCtorEq,↓reduceIte,List.getElem?_set,hlen]
      rw[hid] at hk
      exact hk
 ·simp only[h1,sxZ,z6,z7,z8,j6,j7,j8,j9,x0,x5,x6,x7,x8,x9,y3,y4,reduceCtorEq,↓reduceIte] at hid ⊢
  rw[hid] at hk
  exact hk
theorem zhB [Shp Tryz.prog] (s:List UInt8) (hs:s.length≤maxLen) (hk:K objs (.tup [.agg [.s (zca s).2.1,.s (zca s).2.2],.i .i64 (zca s).1])):zad Tryz.prog 97 [.s s] objs K:=by
 have hm:maxLen=2 ^ 63 - 1:=rfl
 refine zaU is_did_ParseDID rfl fun C _=>?_
 unfold zca at hk
 by_cases c0:(4096:Int)<↑s.length
 ·have c0':4096<s.length:=by omega
  simp only[c0',if_true] at hk
  simp only[c0,c_did_ParseDID,sxZ,z6,z7,z8,j6,j7,j8,j9,x0,x5,x6,x7,x8,x9,y3,y4,reduceCtorEq,↓reduceIte]
  exact hk
 ·have c0':¬4096<s.length:=by omega
  simp only[c0',if_false] at hk
  simp only[c0,c_did_ParseDID,sxZ,z6,z7,z8,j6,j7,j8,j9,x0,x5,x6,x7,x8,x9,y3,y4,reduceCtorEq,↓reduceIte]
  refine zaf (zjQ s zbF ?_)
  by_cases c1:Lib.hasPrefix s zbF=true
  ·have ct:=za5 58 (s.drop 4)
   have hdl:(s.drop 4).length≤s.length:=by rw[List.length_drop];omega
   rw[trim_did c1]
   simp only[c1,sxZ,z6,z7,z8,j6,j7,j8,j9,x0,x5,x6,x7,x8,x9,y3,y4,reduceCtorEq,↓reduceIte] at hk ⊢
   generalize s.drop 4=r at *
   refine zaf (sCut_k r 58 (by omega) ?_)
   by_cases c2:(zar 58 r).2.2=true
   ·simp only[c2,sxZ,z6,z7,z8,j6,j7,j8,j9,x0,x5,x6,x7,x8,x9,y3,y4,reduceCtorEq,↓reduceIte] at hk ⊢
    refine zaf (zrs _ (by omega) ?_)
    by_cases c3:zbP (zar 58 r).1=true
    ·simp only[c3,sxZ,z6,z7,z8,j6,j7,j8,j9,x0,x5,x6,x7,x8,x9,y3,y4,reduceCtorEq,↓reduceIte] at hk ⊢
     refine zaf (zon _ (by omega) ?_)
     by_cases c4:(idE (zar 58 r).2.1).1=0
     ·simp only[c4,sxZ,z6,z7,z8,j6,j7,j8,j9,x0,x5,x6,x7,x8,x9,y3,y4,reduceCtorEq,↓reduceIte] at hk ⊢
      exact hk
     ·simp only[c4,sxZ,z6,z7,z8,j6,j7,j8,j9,x0,x5,x6,x7,x8,x9,y3,y4,reduceCtorEq,↓reduceIte] at hk ⊢
      exact hk
    ·simp only[c3,sxZ,z6,z7,z8,j6,j7,j8,j9,x0,x5,x6,x7,x8,x9,y3,y4,reduceCtorEq,↓reduceIte] at hk ⊢
     exact hk
   ·simp only[c2,sxZ,z6,z7,z8,j6,j7,j8,j9,x0,x5,x6,x7,x8,x9,y3,y4,reduceCtorEq,↓reduceIte] at hk ⊢
    exact hk
  ·simp only[c1,sxZ,z6,z7,z8,j6,j7,j8,j9,x0,x5,x6,x7,x8,x9,y3,y4,reduceCtorEq,↓reduceIte] at hk ⊢
   exact hk
theorem zdD (m i:List UInt8) (h1:m.length≤200000000000000) (h2:i.length≤200000000000000) (hk:K objs (.s (zbo m i))):zad Tryz.prog 100 [.agg [.s m,.s i]] objs K:=by
 refine zaU is_did_FormatDID rfl fun C _=>?_
 simp only[c_did_FormatDID,sxZ,z6,z7,z8,j6,j7,j8,j9,x0,x5,x6,x7,x8,x9,y3,y4,reduceCtorEq,↓reduceIte]
 exact⟨by omega,by omega,by omega,by simpa[zbo,zbF] using hk⟩
theorem zc0 (m i:List UInt8) (h1:m.length≤200000000000000) (h2:i.length≤200000000000000) (hk:K objs (.s (zbo m i))):zad Tryz.prog 62 [.agg [.s m,.s i]] objs K:=by
 refine zaU is_ref10_FormatDID rfl fun C _=>?_
 simp only[c_ref10_FormatDID,sxZ,z6,z7,z8,j6,j7,j8,j9,x0,x5,x6,x7,x8,x9,y3,y4,reduceCtorEq,↓reduceIte]
 exact⟨by omega,by omega,by omega,by simpa[zbo,zbF] using hk⟩
end
end Go.Proofs.YtnnipcgblooemaaGreatDoor
namespace Go.Proofs.YtnnipcgblooemaaGreatDoor
open Go.RowKit Sx
instance tabs:Tabs Tryz.prog:=⟨fun w=>w.ShapedOpen Tryz.prog,fun _ _ h hk _=>zg1 h hk⟩
instance tabs_shp:Shp Tryz.prog:=⟨fun _ h=>h⟩
end Go.Proofs.YtnnipcgblooemaaGreatDoor
namespace Go.Proofs.YtnnipcgblooemaaGreatDoor
def ppB (c:UInt8):Bool:=c==37||idB c
theorem zoX {a b:UInt8} (r:List UInt8) (ha:a≠58) (hb:b≠58) {p:List UInt8} {ps:List (List UInt8)} (h:zah 58 r=p::ps):zah 58 (37::a::b::r)=(37::a::b::p)::ps:=by
 rw[zaE,if_neg (by decide),zaE,if_neg ha,zaE,if_neg hb,h]
theorem addN_out (c:UInt8) (out:List UInt8) (h:zaT c zbw=true):zcb zbw out c false=(0,out++[c]):=za1 rfl h
theorem zo5 {c:UInt8} (t out:List UInt8) (hc:c≠37) (h:zaT c zbw=true):rwS (zcb zbw) 0 (c::t) out=rwS (zcb zbw) 0 t (out++[c]):=by
 rw[rwS,if_neg hc,addN_out c out h,if_pos rfl]
theorem rwN_esc (a b:UInt8) (r out:List UInt8) (he:zbt (37::a::b::r)=true):rwS (zcb zbw) 0 (37::a::b::r) out=rwS (zcb zbw) 0 r (out++(if zav (zcn (37::a::b::r))=true then [zcn (37::a::b::r)] else zc5 (zcn (37::a::b::r)))):=by
 rw[rwS,if_pos rfl,if_pos he]
 rcases hu:zav (zcn (37::a::b::r)) with _|_
 ·rw[zcM hu,if_pos rfl,zbH,if_neg Bool.false_ne_true];rfl
 ·rw[za1 (by rw[hu];rfl) (za8 hu),if_pos rfl,zbH,if_pos rfl];rfl
theorem zix (v:UInt8):zcO (if zav v=true then [v] else zc5 v)=if idB v=true then [v] else zc5 v:=by
 have hf:=zd8 v
 rcases hu:zav v with _|_
 ·rw[if_neg Bool.false_ne_true,hf.2.2.1 hu,if_neg Bool.false_ne_true,znP]
 ·rw[if_pos rfl]
  by_cases h:v=126
  ·subst h;decide
  ·rw[hf.2.1 hu h,if_pos rfl,zfQ h]
theorem zn8:∀(n:Nat) (l p:List UInt8) (ps:List (List UInt8)),l.length≤n→zah 58 l=p::ps→((dcL l).1=0↔∀q∈p::ps,(dcL q).1=0) ∧
  (l.all ibB=true→(dcL l).1=0→∀out,∃y,rwS (zcb zbw) 0 l out=(0,out++y)∧zcO y=zbf (dcL p).2++ps.flatMap fun q=>58::zbf (dcL q).2):=by
 intro n
 induction n with
 | zero=>
  intro l p ps hl hs
  obtain rfl:l=[]:=List.eq_nil_of_length_eq_zero (by omega)
  obtain⟨rfl,rfl⟩:p=[]∧ps=[]:=by
   have:zah 58 []=[[]]:=rfl
   rw[this] at hs;injection hs with h1 h2;exact⟨h1.symm,h2.symm⟩
  exact⟨by simp,fun _ _ out=>⟨[],by rw[rwS,List.append_nil],rfl⟩⟩
 | succ n ih=>
  intro l p ps hl hs
  cases l with
  | nil=>
   obtain⟨rfl,rfl⟩:p=[]∧ps=[]:=by
    have:zah 58 []=[[]]:=rfl
    rw[this] at hs;injection hs with h1 h2;exact⟨h1.symm,h2.symm⟩
   exact⟨by simp,fun _ _ out=>⟨[],by rw[rwS,List.append_nil],rfl⟩⟩
  | cons c t=>
   simp only[List.length_cons] at hl
   by_cases hc:c=37
   ·subst hc
    rcases he:zbt (37::t) with _|_
    ·obtain⟨p',ps',e'⟩:=zaG 58 t
     rw[zaE,if_neg (by decide),e'] at hs
     injection hs with h1 h2
     have hb:=zgc he
     have hp:zbt p=false:=by
      rw[←h1]
      rcases hq:zbt (37::p') with _|_
      ·rfl
      ·obtain⟨a,b,r,rfl⟩:=zbK hq
       have hx:(zbn a&&zbn b)=true:=hq
       have ht:t=a::b::t.drop 2:=by
        have h3:zah 58 t=(a::b::r)::ps':=e'
        rw[zaX] at h3
        rcases zbs 58 t with ⟨_,h4,_⟩|⟨k,_,hk,h4,_⟩
        ·rw[h4] at h3
         simp only[Bool.false_eq_true,if_false,List.cons.injEq] at h3
         rw[h3.1];rfl
        ·rw[h4] at h3
         simp only[if_true,List.cons.injEq] at h3
         have h5:=h3.1
         match t,k,h5 with
         | [],k,h5=>simp at h5
         | [x],0,h5=>simp at h5
         | [x],k+1,h5=>simp at h5
         | x::y::t,0,h5=>simp at h5
         | x::y::t,1,h5=>simp at h5
         | x::y::t,k+2,h5=>simp at h5;rw[h5.1,h5.2.1];rfl
       rw[ht] at he
       have:zbt (37::a::b::t.drop 2)=(zbn a&&zbn b):=rfl
       rw[this,hx] at he;cases he
     have hpb:(dcL p).1=2:=by rw[←h1] at hp ⊢;exact zgc hp
     exact⟨⟨(fun h=>by rw[hb] at h;cases h),(fun h=>by have:=h p (by simp);rw[hpb] at this;cases this)⟩,(fun _ h=>by rw[hb] at h;cases h)⟩
    ·obtain⟨a,b,r,rfl⟩:=zbK he
     have hx:zbn a=true∧zbn b=true:=by
      have:(zbn a&&zbn b)=true:=he
      simpa using this
     have ha:=((zd8 a).2.2.2.2 hx.1).1
     have hb:=((zd8 b).2.2.2.2 hx.2).1
     obtain⟨p',ps',e'⟩:=zaG 58 r
     rw[zoX r ha hb e'] at hs
     injection hs with h1 h2
     subst h1 h2
     have hep:zbt (37::a::b::p')=true:=he
     have hv:zcn (37::a::b::p')=zcn (37::a::b::r):=rfl
     obtain⟨i1,i2⟩:=ih r p' ps' (by simp at hl;omega) e'
     have d1:=zec he
     have d2:=zec hep
     refine⟨?_,fun hall h0 out=>?_⟩
     ·rw[d1.1,i1]
      simp only[List.mem_cons,forall_eq_or_imp,d2.1]
     ·rw[d1.1] at h0
      have hall':r.all ibB=true:=by
       simp only[List.all_cons,Bool.and_eq_true] at hall
       exact hall.2.2.2
      obtain⟨y,y1,y2⟩:=i2 hall' h0 (out++(if zav (zcn (37::a::b::r))=true then [zcn (37::a::b::r)] else zc5 (zcn (37::a::b::r))))
      have hp0:=(i1.1 h0) p' (by simp)
      refine⟨(if zav (zcn (37::a::b::r))=true then [zcn (37::a::b::r)] else zc5 (zcn (37::a::b::r)))++y,?_,?_⟩
      ·rw[rwN_esc a b r out he,y1,List.append_assoc]
      ·rw[zcX,zix,y2,d2.2 hp0,hv,zcu,List.append_assoc]
   ·by_cases h58:c=58
    ·subst h58
     obtain⟨p',ps',e'⟩:=zaG 58 t
     rw[zaE,if_pos rfl,e'] at hs
     injection hs with h1 h2
     subst h1 h2
     obtain⟨i1,i2⟩:=ih t p' ps' (by omega) e'
     have d1:=zdG (c:=58) (t:=t) (by decide)
     refine⟨?_,fun hall h0 out=>?_⟩
     ·rw[d1.1,i1]
      simp only[List.mem_cons,forall_eq_or_imp]
      exact⟨fun h=>⟨rfl,h⟩,fun h=>h.2⟩
     ·rw[d1.1] at h0
      have hall':t.all ibB=true:=by
       simp only[List.all_cons,Bool.and_eq_true] at hall
       exact hall.2
      obtain⟨y,y1,y2⟩:=i2 hall' h0 (out++[58])
      refine⟨58::y,?_,?_⟩
      ·rw[zo5 t out (by decide) (by decide),y1,List.append_assoc];rfl
      ·show zcO ([58]++y)=_
       rw[zcX,zfQ (by decide),y2];simp[zbf,dcL,rwS]
    ·obtain⟨p',ps',e'⟩:=zaG 58 t
     rw[zaE,if_neg h58,e'] at hs
     injection hs with h1 h2
     subst h1 h2
     obtain⟨i1,i2⟩:=ih t p' ps' (by omega) e'
     have d1:=zdG (c:=c) (t:=t) hc
     have d2:=zdG (c:=c) (t:=p') hc
     refine⟨?_,fun hall h0 out=>?_⟩
     ·rw[d1.1,i1]
      simp only[List.mem_cons,forall_eq_or_imp,d2.1]
     ·rw[d1.1] at h0
      simp only[List.all_cons,Bool.and_eq_true] at hall
      have hid:idB c=true:=by
       have:=hall.1
       unfold ibB at this
       simp only[Bool.or_eq_true,beq_iff_eq] at this
       rcases this with (h|h)|h
       ·exact absurd h hc
       ·exact h
       ·exact absurd h h58
      have hf:=(zd8 c).1 hid
      obtain⟨y,y1,y2⟩:=i2 hall.2 h0 (out++[c])
      have hp0:=(i1.1 h0) p' (by simp)
      refine⟨c::y,?_,?_⟩
      ·rw[zo5 t out hc hf.1,y1,List.append_assoc];rfl
      ·show zcO ([c]++y)=_
       rw[zcX,zfQ hf.2.1,y2,d2.2 hp0,zcu,if_pos hid,List.append_assoc]
theorem zfK:∀l:List UInt8,l.all ibB=(zah 58 l).all fun q=>q.all ppB
 | []=>rfl
 | c::t=>by
  have ih:=zfK t
  obtain⟨p',ps',e'⟩:=zaG 58 t
  rw[zaE]
  by_cases h:c=58
  ·subst h
   rw[if_pos rfl,List.all_cons,ih,List.all_cons];rfl
  ·rw[if_neg h,e',List.all_cons,ih,e',List.all_cons,List.all_cons,List.all_cons,←Bool.and_assoc]
   congr 2
   unfold ibB ppB
   have:(c==58)=false:=by simpa using h
   rw[this,Bool.or_false]
theorem zkk:∀l:List UInt8,(zah 58 l).getLastD []=[]↔(l=[]∨l.getLast? = some 58)
 | []=>by simp[zah]
 | [c]=>by
  by_cases h:c=58
  ·subst h;simp[zah]
  ·rw[zaE,if_neg h];simp[zah,h]
 | c::d::t=>by
  have ih:=zkk (d::t)
  obtain⟨p',ps',e'⟩:=zaG 58 (d::t)
  rw[zaE]
  simp only[reduceCtorEq,false_or,List.getLast?_cons_cons] at ih ⊢
  rw[←ih]
  by_cases h:c=58
  ·subst h
   rw[if_pos rfl,e'];simp
  ·rw[if_neg h,e']
   cases ps' with
   | nil=>
    simp only[List.getLastD_cons,List.getLastD_nil]
    rw[e'] at ih
    simp only[List.getLastD_cons,List.getLastD_nil] at ih
    constructor
    ·intro h2;cases h2
    ·intro h2
     subst h2
     exfalso
     have hsp:=zaX 58 (d::t)
     rw[e'] at hsp
     split at hsp
     ·rename_i h3
      injection hsp with _ h4
      have:=zbx 58 (zar 58 (d::t)).2.1
      rw[←h4] at this;simp at this
     ·injection hsp with h4 _;cases h4
   | cons q qs=>simp
theorem zev (l p:List UInt8) (ps:List (List UInt8)) (hl:l.length≤16384) (hs:zah 58 l=p::ps) :
  idE l=if ¬(∀q∈p::ps,(zaR q).1=0) then (2,[]) else if (p::ps).all (fun q=>q.all ppB)=false then (1,[]) else if (p::ps).getLastD []=[] then (3,[]) else (0,zbG p++jnc ps):=by
 obtain⟨m1,m2⟩:=zn8 l.length l p ps (Nat.le_refl _) hs
 have hq:∀q∈p::ps,zaR q=dcL q:=fun q hq=>zbW (by
  rw[←hs] at hq
  have:=zc2 58 l q hq
  omega)
 have e1:(∀q∈p::ps,(zaR q).1=0)↔(dcL l).1=0:=by
  rw[m1]
  exact forall_congr' fun q=>forall_congr' fun h=>by rw[hq q h]
 unfold idE
 rw[zbW hl,←hs,zfK,hs]
 have e2:=zkk l
 rw[hs] at e2
 by_cases h0:(dcL l).1=0
 ·rw[if_neg (show ¬(dcL l).1≠0 from fun h=>h h0),if_neg (show ¬¬(∀q∈p::ps,(zaR q).1=0) from fun h=>h (e1.2 h0))]
  by_cases h1:((p::ps).all fun q=>q.all ppB)=false
  ·rw[if_pos h1,if_pos h1]
  ·rw[if_neg h1,if_neg h1]
   by_cases h2:(p::ps).getLastD []=[]
   ·rw[if_pos h2,if_pos (e2.1 h2)]
   ·rw[if_neg h2,if_neg (fun h=>h2 (e2.2 h))]
    obtain⟨y,y1,y2⟩:=m2 (by rw[zfK,hs];simpa using h1) h0 []
    have hn:zaj l zbw=(0,y):=by
     unfold zaj zfk
     rw[if_neg (by omega),y1];rfl
    rw[hn,if_neg (by simp)]
    simp only
    rw[y2]
    have e3:zbG p=zbf (dcL p).2:=by unfold zbG;rw[hq p (by simp)]
    have e4:jnc ps=ps.flatMap fun q=>58::zbf (dcL q).2:=by
     unfold jnc
     have:∀qs:List (List UInt8),(∀q∈qs,zaR q=dcL q)→qs.flatMap (fun q=>58::zbG q)=qs.flatMap fun q=>58::zbf (dcL q).2:=by
      intro qs
      induction qs with
      | nil=>intro _;rfl
      | cons q qs ih=>
       intro h
       rw[List.flatMap_cons,List.flatMap_cons,ih (fun q' h'=>h q' (by simp[h']))]
       unfold zbG
       rw[h q (by simp)]
     exact this ps (fun q h=>hq q (by simp[h]))
    rw[e3,e4]
 ·have h2:(dcL l).1=2:=(dcL_err l.length l (Nat.le_refl _)).resolve_left h0
  rw[if_pos h0,if_pos (by rw[e1];exact h0),h2]
theorem zeT:∀d:List UInt8,dcL (zbf d)=(0,d)
 | []=>rfl
 | c::d=>by
  have ih:=zeT d
  rw[zcu]
  by_cases h:idB c=true
  ·rw[if_pos h]
   have h37:=((zd8 c).1 h).2.2.2
   have d1:=zdG (c:=c) (t:=zbf d) h37
   show dcL (c::zbf d)=_
   rw[ih] at d1
   have e2:=d1.2 rfl
   have:dcL (c::zbf d)=((dcL (c::zbf d)).1,(dcL (c::zbf d)).2):=rfl
   rw[this,d1.1,e2]
  ·rw[if_neg h]
   have he:=zlE c (zbf d)
   have d1:=zec (a:=zdp (c.toNat / 16)) (b:=zdp (c.toNat % 16)) (r:=zbf d) he.1
   have e:zc5 c++zbf d=37::zdp (c.toNat / 16)::zdp (c.toNat % 16)::zbf d:=rfl
   rw[e]
   rw[ih] at d1
   have e2:=d1.2 rfl
   have hv:zcn (37::zdp (c.toNat / 16)::zdp (c.toNat % 16)::zbf d)=c:=he.2
   rw[hv] at e2
   have:dcL (37::zdp (c.toNat / 16)::zdp (c.toNat % 16)::zbf d)=((dcL (37::zdp (c.toNat / 16)::zdp (c.toNat % 16)::zbf d)).1,(dcL (37::zdp (c.toNat / 16)::zdp (c.toNat % 16)::zbf d)).2):=rfl
   rw[this,d1.1,e2]
theorem zqY:∀n:Fin 256,(zc5 (UInt8.ofNat n.val)).all (fun c=>ppB c&&c != 58)=true:=by decide +kernel
theorem zlD:∀d:List UInt8,(zbf d).all (fun c=>ppB c&&c != 58)=true
 | []=>rfl
 | c::d=>by
  rw[zcu,List.all_append,zlD d,Bool.and_true]
  by_cases h:idB c=true
  ·rw[if_pos h]
   have hf:=(zd8 c).1 h
   simp[ppB,h,hf.2.2.1]
  ·rw[if_neg h]
   have:=zqY ⟨c.toNat,UInt8.toNat_lt c⟩
   simpa using this
theorem zdV (d:List UInt8):(58:UInt8)∉zbf d:=by
 intro hm
 have:=List.all_eq_true.1 (zlD d) 58 hm
 simp at this
theorem zm8 (d:List UInt8):(zbf d).all ppB=true:=by
 rw[List.all_eq_true]
 intro x hx
 have:=List.all_eq_true.1 (zlD d) x hx
 simp only[Bool.and_eq_true] at this
 exact this.1
theorem zm9 (d:List UInt8):zbf d=[]↔d=[]:=by
 cases d with
 | nil=>exact⟨fun _=>rfl,fun _=>rfl⟩
 | cons c d=>
  rw[zcu]
  constructor
  ·intro h
   exfalso
   have:=congrArg List.length h
   rw[List.length_append] at this
   split at this<;>simp[zc5] at this
  ·intro h;cases h
def js (ps:List (List UInt8)):List UInt8:=ps.flatMap fun q=>58::q
theorem zgF:∀(s:List UInt8) (l:List (List UInt8)),58∉s→(∀x∈l,(58:UInt8)∉x)→zah 58 (s++js l)=s::l
 | s,[],hs,_=>by
  show zah 58 (s++[])=_
  rw[List.append_nil,zaX,zb3 58 s hs];simp
 | s,x::l,hs,h=>by
  have:s++js (x::l)=s++58::(x++js l):=by simp[js]
  rw[this,zaX,zaS 58 s _ hs,if_pos rfl,zgF x l (h x (by simp)) (fun y hy=>h y (by simp[hy]))]
theorem zkq (ps:List (List UInt8)):jnc ps=js (ps.map zbG):=by
 unfold jnc js
 rw[List.flatMap_map]
theorem zfc {q:List UInt8} (h1:(zbG q).length≤16384):(zaR (zbG q)).1=0∧zbG (zbG q)=zbG q:=by
 have e:zaR (zbG q)=(0,(zaR q).2):=by
  unfold zbG at h1 ⊢
  rw[zbW h1,zeT]
 refine⟨by rw[e],?_⟩
 show zbf (zaR (zbG q)).2=zbG q
 rw[e];rfl
theorem zf6:∀(ps:List (List UInt8)) (q:List UInt8),q∈ps→q.length≤(js ps).length
 | [],q,h=>by cases h
 | p::ps,q,h=>by
  have:js (p::ps)=58::(p++js ps):=by simp[js]
  rw[this,List.length_cons,List.length_append]
  rcases List.mem_cons.1 h with rfl|h
  ·omega
  ·have:=zf6 ps q h;omega
theorem zex (f:List UInt8→List UInt8):∀(p:List UInt8) (ps:List (List UInt8)),((p::ps).map f).getLastD []=f ((p::ps).getLastD [])
 | p,[]=>by simp
 | p,q::ps=>by
  have:=zex f q ps
  simpa using this
theorem zqN {l i:List UInt8} (hl:l.length≤16384) (hi:i.length≤16384) (h:idE l=(0,i)):idE i=(0,i)∧i.all ibB=true:=by
 obtain⟨p,ps,hs⟩:=zaG 58 l
 have hp:=zev l p ps hl hs
 rw[h] at hp
 split at hp
 ·cases hp
 ·rename_i g1
  split at hp
  ·cases hp
  ·rename_i g2
   split at hp
   ·cases hp
   ·rename_i g3
    injection hp with _ hp
    simp only[Decidable.not_not] at g1
    have hsi:zah 58 i=zbG p::ps.map zbG:=by
     rw[hp,zkq]
     exact zgF _ _ (zdV _) (fun x hx=>by
      obtain⟨q,_,rfl⟩:=List.mem_map.1 hx
      exact zdV _)
    have hlen:∀q∈p::ps,(zbG q).length≤16384:=by
     intro q hq
     have hi2:=hi
     rw[hp,zkq,List.length_append] at hi2
     rcases List.mem_cons.1 hq with rfl|hq
     ·omega
     ·have:=zf6 (ps.map zbG) (zbG q) (List.mem_map_of_mem hq)
      omega
    have hq:=zev i (zbG p) (ps.map zbG) hi hsi
    have c1:∀q∈zbG p::ps.map zbG,(zaR q).1=0:=by
     intro q hq
     have:q∈(p::ps).map zbG:=hq
     obtain⟨q',h1,rfl⟩:=List.mem_map.1 this
     exact(zfc (hlen q' h1)).1
    have c2:(zbG p::ps.map zbG).all (fun q=>q.all ppB)=true:=by
     rw[List.all_eq_true]
     intro q hq
     have:q∈(p::ps).map zbG:=hq
     obtain⟨q',h1,rfl⟩:=List.mem_map.1 this
     exact zm8 _
    have c3:¬(zbG p::ps.map zbG).getLastD []=[]:=by
     have e:=zex zbG p ps
     show ¬((p::ps).map zbG).getLastD []=[]
     rw[e]
     intro e2
     unfold zbG at e2
     rw[zm9] at e2
     apply g3
     have hm:(p::ps).getLastD []∈p::ps:=by
      rw[List.getLastD_eq_getLast?,List.getLast?_eq_some_getLast (by simp)]
      exact List.getLast_mem _
     generalize (p::ps).getLastD []=q at *
     have hql:q.length≤l.length:=zc2 58 l q (by rw[hs];exact hm)
     have h0:=g1 q hm
     cases q with
     | nil=>rfl
     | cons c t=>
      exfalso
      rw[zbW (by omega)] at h0 e2
      by_cases hc:c=37
      ·subst hc
       rcases he:zbt (37::t) with _|_
       ·rw[zgc he] at h0;cases h0
       ·obtain⟨a,b,r,rfl⟩:=zbK he
        have d1:=zec he
        rw[d1.1] at h0
        rw[d1.2 h0] at e2;cases e2
      ·have d1:=zdG (c:=c) (t:=t) hc
       rw[d1.1] at h0
       rw[d1.2 h0] at e2;cases e2
    rw[if_neg (fun h=>h c1),if_neg (by rw[c2];simp),if_neg c3] at hq
    refine⟨?_,?_⟩
    ·rw[hq,(zfc (hlen p (by simp))).2,hp]
     congr 2
     rw[zkq,zkq,List.map_map]
     congr 1
     refine List.map_congr_left fun q hq=>?_
     exact(zfc (hlen q (by simp[hq]))).2
    ·rw[zfK,hsi];exact c2
structure CanD (u:DidU):Prop where
 meth:zbP u.meth=true
 id:idE u.id=(0,u.id)
 idb:u.id.all ibB=true
 path:zaj u.path zap=(0,u.path)
 slash:u.path=[]∨∃r,u.path=47::r
 query:zaj u.query zag=(0,u.query)
 frag:zaj u.frag zag=(0,u.frag)
 noq:u.hq=false→u.query=[]
 nof:u.hf=false→u.frag=[]
 len:(zjg u).length≤4096
theorem me256:∀n:Fin 256,(meB (UInt8.ofNat n.val)=true→zbe (UInt8.ofNat n.val) [58,47,63,35]=false)∧(ibB (UInt8.ofNat n.val)=true→zbe (UInt8.ofNat n.val) [47,63,35]=false)∧(okB zap (UInt8.ofNat n.val)=true→zbe (UInt8.ofNat n.val) [63,35]=false)∧(okB zag (UInt8.ofNat n.val)=true→UInt8.ofNat n.val≠35):=by decide +kernel
theorem zd7 (c:UInt8):(meB c=true→zbe c [58,47,63,35]=false)∧(ibB c=true→zbe c [47,63,35]=false)∧(okB zap c=true→zbe c [63,35]=false)∧(okB zag c=true→c≠35):=by
 have:=me256 ⟨c.toNat,UInt8.toNat_lt c⟩
 simpa using this
theorem zgn {l cs:List UInt8} {c:UInt8} (h:∀x∈l,zbe x cs=false) (hc:zbe c cs=true):c∉l:=fun hm=>by
 have:=h c hm
 rw[hc] at this;cases this
theorem fmtD_no {m i:List UInt8} (hm:zbP m=true) (hi:i.all ibB=true):∀x∈zbo m i,zbe x [47,63,35]=false:=by
 intro x hx
 unfold zbo at hx
 simp only[List.mem_append,List.mem_cons,List.not_mem_nil,or_false] at hx
 rcases hx with ((hx|hx)|hx)|hx
 ·have:∀x∈zbF,zbe x [47,63,35]=false:=by decide
  exact this x hx
 ·unfold zbP at hm
  simp only[Bool.and_eq_true] at hm
  have:=(zd7 x).1 (List.all_eq_true.1 hm.1 x hx)
  unfold zbe at this ⊢
  simp only[List.contains_cons,List.contains_nil,Bool.or_false,Bool.or_eq_false_iff] at this ⊢
  exact this.2
 ·subst hx;decide
 ·exact(zd7 x).2.1 (List.all_eq_true.1 hi x hx)
theorem zlH {m i:List UInt8} (hm:zbP m=true) (hi:idE i=(0,i)) (hl:(zbo m i).length≤4096):zca (zbo m i)=(0,m,i):=by
 have h58:(58:UInt8)∉m:=by
  unfold zbP at hm
  simp only[Bool.and_eq_true] at hm
  exact zgn (fun x hx=>(zd7 x).1 (List.all_eq_true.1 hm.1 x hx)) (by decide)
 have hp:Lib.hasPrefix (zbo m i) zbF=true:=by
  unfold zbo
  rw[List.append_assoc,List.append_assoc]
  exact List.isPrefixOf_iff_prefix.2 (List.prefix_append _ _)
 have hd:(zbo m i).drop 4=m++58::i:=by simp[zbo,zbF]
 unfold zca
 rw[if_neg (by omega),if_neg (by rw[hp];simp),hd,zaS 58 m i h58]
 simp only
 rw[hm,hi]
 simp
theorem CanD.back {u:DidU} (h:CanD u):didUE (zjg u)=(0,u):=by
 obtain⟨m,i,pa,qu,fr,hq,hf⟩:=u
 have hl:=h.len
 have hno:=fmtD_no h.meth h.idb
 have npa:∀x∈pa,zbe x [63,35]=false:=fun x hx=>(zd7 x).2.2.1 (List.all_eq_true.1 (zcK h.path) x hx)
 have nqu:(35:UInt8)∉qu:=fun hx=>(zd7 35).2.2.2 (List.all_eq_true.1 (zcK h.query) 35 hx) rfl
 have hs:=h.slash
 have hqn:=h.noq
 have hfn:=h.nof
 simp only at hno hs hqn hfn hl
 have f35:(35:UInt8)∉zbo m i:=zgn hno (by decide)
 have f63:(63:UInt8)∉zbo m i:=zgn hno (by decide)
 have f47:(47:UInt8)∉zbo m i:=zgn hno (by decide)
 have p35:(35:UInt8)∉pa:=zgn npa (by decide)
 have p63:(63:UInt8)∉pa:=zgn npa (by decide)
 have q35:(35:UInt8)∉(if hq=true then [63]++qu else []):=by
  split
  ·simp[nqu]
  ·simp
 have e35:zar 35 (zjg ⟨m,i,pa,qu,fr,hq,hf⟩)=(zbo m i++pa++(if hq=true then [63]++qu else []),fr,hf):=by
  unfold zjg
  cases hf
  ·have:=hfn rfl;subst this
   simp only[Bool.false_eq_true,if_false,List.append_nil]
   exact zb3 35 _ (by simp only[List.mem_append,not_or];exact⟨⟨f35,p35⟩,q35⟩)
  ·simp only[if_true]
   have:zbo m i++pa++(if hq=true then [63]++qu else [])++([35]++fr)=(zbo m i++pa++(if hq=true then [63]++qu else []))++35::fr:=by simp
   rw[this]
   exact zaS 35 _ fr (by simp only[List.mem_append,not_or];exact⟨⟨f35,p35⟩,q35⟩)
 have e63:zar 63 (zbo m i++pa++(if hq=true then [63]++qu else []))=(zbo m i++pa,qu,hq):=by
  cases hq
  ·have:=hqn rfl;subst this
   simp only[Bool.false_eq_true,if_false,List.append_nil]
   exact zb3 63 _ (by simp only[List.mem_append,not_or];exact⟨f63,p63⟩)
  ·simp only[if_true]
   have:zbo m i++pa++([63]++qu)=(zbo m i++pa)++63::qu:=by simp
   rw[this]
   exact zaS 63 _ qu (by simp only[List.mem_append,not_or];exact⟨f63,p63⟩)
 have eb:zcB (zjg ⟨m,i,pa,qu,fr,hq,hf⟩)=zbo m i++pa:=by
  unfold zcB;rw[e35];simp only;rw[e63]
 have en:zgv (zjg ⟨m,i,pa,qu,fr,hq,hf⟩)=zbo m i:=by
  unfold zgv zau
  rw[eb]
  rcases hs with rfl|⟨r,rfl⟩
  ·rw[List.append_nil,zb3 47 _ f47]
  ·rw[zaS 47 _ r f47]
 have hdl:(zbo m i).length≤4096:=by
  unfold zjg at hl
  simp only[List.length_append] at hl
  omega
 unfold didUE
 rw[if_neg (by omega),en,zlH h.meth h.id hdl,eb,e35]
 simp only
 rw[e63]
 simp only
 have ed:(zbo m i++pa).drop (zbo m i).length=pa:=by simp
 rw[ed,h.path,h.query,h.frag]
 simp
theorem znt {s m i:List UInt8} (h:zca s=(0,m,i)):zbP m=true∧∃l,s=zbo m l∧idE l=(0,i)∧s.length≤4096:=by
 unfold zca at h
 split at h
 ·cases h
 ·rename_i g0
  split at h
  ·cases h
  ·rename_i g1
   split at h
   ·cases h
   ·rename_i g2
    split at h
    ·cases h
    ·rename_i g3
     split at h
     ·rename_i g4;injection h with h1 _;exact absurd h1 g4
     ·rename_i g4
      simp only[Decidable.not_not] at g4
      injection h with _ h
      injection h with h1 h2
      subst h1 h2
      simp only[Bool.not_eq_false] at g1 g2 g3
      refine⟨g3,(zar 58 (s.drop 4)).2.1,?_,by rw[←g4],by omega⟩
      obtain⟨t,ht⟩:=List.isPrefixOf_iff_prefix.1 (show List.isPrefixOf zbF s=true from g1)
      have hj:=zed 58 (s.drop 4)
      rw[g2,if_pos rfl] at hj
      unfold zbo
      have hd:s.drop 4=t:=by rw[←ht];simp[zbF]
      rw[List.append_assoc,List.append_assoc,←List.append_assoc _ [58],List.append_assoc _ [58],←hj,hd,ht]
theorem idE_le {l i:List UInt8} (h:idE l=(0,i)):i.length≤3*l.length:=by
 unfold idE at h
 split at h
 ·rename_i g;injection h with h1 _;exact absurd h1 g
 ·split at h
  ·cases h
  ·split at h
   ·cases h
   ·split at h
    ·rename_i g;injection h with h1 _;exact absurd h1 g
    ·injection h with _ h
     have h1:=zdF l zbw
     have h2:=zfR (zaj l zbw).2
     rw[←h];omega
theorem CanD.of {s:List UInt8} {u:DidU} (hs:s.length≤1000) (h:didUE s=(0,u)):CanD u:=by
 unfold didUE at h
 split at h
 ·cases h
 ·split at h
  ·rename_i g;injection h with h1 _;exact absurd h1 g
  ·rename_i g1
   split at h
   ·rename_i g;injection h with h1 _;exact absurd h1 g
   ·rename_i g2
    split at h
    ·rename_i g;injection h with h1 _;exact absurd h1 g
    ·rename_i g3
     split at h
     ·rename_i g;injection h with h1 _;exact absurd h1 g
     ·rename_i g4
      simp only[Decidable.not_not] at g1 g2 g3 g4
      injection h with _ h
      have hd:zca (zgv s)=(0,(zca (zgv s)).2.1,(zca (zgv s)).2.2):=by rw[←g1]
      obtain⟨k1,l,k2,k3,k4⟩:=znt hd
      have e2:zaj ((zcB s).drop (zgv s).length) zap=(0,(zaj ((zcB s).drop (zgv s).length) zap).2):=by rw[←g2]
      have e3:zaj (zar 63 (zar 35 s).1).2.1 zag=(0,(zaj (zar 63 (zar 35 s).1).2.1 zag).2):=by rw[←g3]
      have e4:zaj (zar 35 s).2.1 zag=(0,(zaj (zar 35 s).2.1 zag).2):=by rw[←g4]
      have j1:=congrArg List.length (zed 35 s)
      have j2:=congrArg List.length (zed 63 (zar 35 s).1)
      have c1:=zcc 35 s
      have c2:=zcc 63 (zar 35 s).1
      have hnb:=(zaI (zcB s)).2
      have hnl:(zgv s).length≤(zcB s).length:=hnb
      have hbl:(zcB s).length≤(zar 35 s).1.length:=zru 63 _
      have h35l:=zru 35 s
      have kl:(zgv s).length=(zca (zgv s)).2.1.length+l.length+5:=by
       have hk2:=congrArg List.length k2
       simp only[zbo,zbF,List.length_append,List.length_cons,List.length_nil] at hk2
       omega
      have il:=idE_le k3
      have pl:=(zbJ _ _ _ e2).2.2
      have ql:=(zbJ _ _ _ e3).2.2
      have fl:=(zbJ _ _ _ e4).2.2
      rw[List.length_drop] at pl
      have ia:=zqN (l:=l) (by omega) (by omega) k3
      have q0:(zar 63 (zar 35 s).1).2.1.length≤(zar 35 s).1.length:=(za5 63 _).2
      have f0:(zar 35 s).2.1.length≤s.length:=(za5 35 _).2
      have qs:(zcB s).length+(zar 63 (zar 35 s).1).2.1.length≤(zar 35 s).1.length:=by
       show (zar 63 (zar 35 s).1).1.length+_≤_
       rcases hb:(zar 63 (zar 35 s).1).2.2 with _|_
       ·rw[(c2.2.2 hb).1,(c2.2.2 hb).2];simp
       ·have:=c2.2.1 hb;omega
      have fs:(zar 35 s).1.length+(zar 35 s).2.1.length≤s.length:=by
       rcases hb:(zar 35 s).2.2 with _|_
       ·rw[(c1.2.2 hb).1,(c1.2.2 hb).2];simp
       ·have:=c1.2.1 hb;omega
      have hslash:(zaj ((zcB s).drop (zgv s).length) zap).2=[]∨∃r,(zaj ((zcB s).drop (zgv s).length) zap).2=47::r:=by
       have hx:(zcB s).drop (zgv s).length=[]∨∃r,(zcB s).drop (zgv s).length=47::r:=by
        unfold zgv zau
        rcases zbs 47 (zcB s) with ⟨_,h3,_⟩|⟨k,_,hk,h3,h4⟩
        ·rw[h3];left;simp
        ·rw[h3];right
         have e:((zcB s).take k).length=k:=by rw[List.length_take];omega
         simp only[e]
         rw[List.drop_eq_getElem_cons hk]
         rw[List.getElem?_eq_getElem hk] at h4
         injection h4 with h4
         exact⟨_,by rw[h4]⟩
       rcases hx with hx|⟨r,hx⟩
       ·left;rw[hx];decide
       ·right
        rw[hx] at e2 ⊢
        have hlen:=zeM e2
        have hr:rwS (zcb zap) 0 (47::r) []=(0,(zaj (47::r) zap).2):=by
         have e5:=e2
         unfold zaj zfk at e5
         rw[if_neg (by omega)] at e5
         rw[e5]
         unfold zaj zfk
         rw[if_neg (by omega)]
        have hp1:rwS (zcb zap) 0 (47::r) []=rwS (zcb zap) 0 r [47]:=by
         rw[rwS,if_neg (by decide),za1 rfl (by decide),if_pos rfl];rfl
        rw[hp1] at hr
        obtain⟨y,a,k5,_⟩:=zkb zap r.length r [47] _ (Nat.le_refl _) hr
        exact⟨y,k5⟩
      rw[←h]
      refine⟨k1,ia.1,ia.2,(zbJ _ _ _ e2).1,hslash,(zbJ _ _ _ e3).1,(zbJ _ _ _ e4).1,?_,?_,?_⟩
      ·intro hq
       show (zaj (zar 63 (zar 35 s).1).2.1 zag).2=[]
       rw[(c2.2.2 hq).2];rfl
      ·intro hf
       show (zaj (zar 35 s).2.1 zag).2=[]
       rw[(c1.2.2 hf).2];rfl
      ·unfold zjg
       simp only[List.length_append]
       have z1:((if (zar 63 (zar 35 s).1).2.2=true then [63]++(zaj (zar 63 (zar 35 s).1).2.1 zag).2 else []):List UInt8).length≤(zaj (zar 63 (zar 35 s).1).2.1 zag).2.length+1:=by
        split<;>simp
       have z2:((if (zar 35 s).2.2=true then [35]++(zaj (zar 35 s).2.1 zag).2 else []):List UInt8).length≤(zaj (zar 35 s).2.1 zag).2.length+1:=by
        split<;>simp
       have z3:(zbo (zca (zgv s)).2.1 (zca (zgv s)).2.2).length=(zca (zgv s)).2.1.length+(zca (zgv s)).2.2.length+5:=by simp[zbo,zbF];omega
       omega
section
open Go.RowKit Sx
section
variable {objs:List OB} {K:List OB→AV→Prop}
end
theorem CanD.lens {u:DidU} (h:CanD u):u.meth.length≤4096∧u.id.length≤4096∧u.path.length≤4096∧u.query.length≤16384∧u.frag.length≤16384:=by
 have hl:=h.len
 have h1:=zeM h.query
 have h2:=zeM h.frag
 have h3:=fmtD_len u.meth u.id
 unfold zjg at hl
 simp only[List.length_append] at hl
 omega
end
end Go.Proofs.YtnnipcgblooemaaGreatDoor
namespace Go.Proofs.YtnnipcgblooemaaGreatDoor
open Nat renaming reduceAdd → z6, reduceSub → z7, reduceLeDiff → z8, reduceLT → j6, reduceMul → j7, reduceEqDiff → j8
open Int renaming reduceToNat → j9, reduceAdd → x0, reduceSub → x5, reduceMul → x6, reduceNeg → x7, reduceLT → x8, reduceLE → x9, reduceEq → y3, reduceNe → y4
open Go.RowKit Sx
section
variable [Tabs Tryz.prog] {objs:List OB} {K:List OB→AV→Prop}
set_option maxHeartbeats 4000000 in
theorem zjR (s:List UInt8) (hs:s.length≤140737488351232) (hk:K objs (.tup [zaQ (zfj s).2,.i .i64 (zfj s).1])):zad Tryz.prog 58 [.s s] objs K:=by
 have hm:maxLen=2 ^ 63 - 1:=rfl
 refine zaU is_ref07_Parse rfl fun C _=>?_
 unfold zfj webO at hk
 by_cases c0:(4096:Int)<↑s.length
 ·have c0':4096<s.length:=by omega
  simp only[c0',if_true,zoM] at hk
  simp only[c0,c_ref07_Parse,sxZ,z6,z7,z8,j6,j7,j8,j9,x0,x5,x6,x7,x8,x9,y3,y4,reduceCtorEq,↓reduceIte]
  exact hk
 ·have c0':¬4096<s.length:=by omega
  simp only[c0',if_false] at hk
  simp only[c0,c_ref07_Parse,sxZ,z6,z7,z8,j6,j7,j8,j9,x0,x5,x6,x7,x8,x9,y3,y4,reduceCtorEq,↓reduceIte]
  refine zaf (zo9 _ hs ?_)
  have sl:=zh4 s
  have op:=zfd (zaw s).2
  have ol:=zf0 (zaw s).2
  have rl:=zhc (zaw s).2
  generalize hp:(zaw s).2=p at *
  by_cases c1:(zaw s).1=0
  ·simp only[c1,zbz,sxZ,z6,z7,z8,j6,j7,j8,j9,x0,x5,x6,x7,x8,x9,y3,y4,reduceCtorEq,↓reduceIte] at hk ⊢
   have ho:zay p=if p.hs=false then (60,[],0) else if eqL p.scheme zct=false then (60,[],0) else if p.ha=false then (71,[],0) else if (zar 64 p.auth).2.2=true then (70,[],0) else hpE p.auth:=rfl
   by_cases d1:p.hs=true
   ·simp only[d1,sxZ,z6,z7,z8,j6,j7,j8,j9,x0,x5,x6,x7,x8,x9,y3,y4,reduceCtorEq,↓reduceIte] at ho ⊢
    refine zaf (zpx p.scheme zct (by omega) (by decide) ?_)
    by_cases d2:eqL p.scheme zct=true
    ·simp only[d2,sxZ,z6,z7,z8,j6,j7,j8,j9,x0,x5,x6,x7,x8,x9,y3,y4,reduceCtorEq,↓reduceIte] at ho ⊢
     by_cases d3:p.ha=true
     ·simp only[d3,sxZ,z6,z7,z8,j6,j7,j8,j9,x0,x5,x6,x7,x8,x9,y3,y4,reduceCtorEq,↓reduceIte] at ho ⊢
      refine zbM (za3 p.auth [64] (by omega) (by decide) ⟨rfl,rfl⟩) ?_
      simp only[sxZ,z6,z7,z8,j6,j7,j8,j9,x0,x5,x6,x7,x8,x9,y3,y4,reduceCtorEq,↓reduceIte]
      have hix:=hasB_idx p.auth 64
      by_cases d4:(zar 64 p.auth).2.2=true
      ·have d4':=hix.2 d4
       simp only[d4,sxZ,z6,z7,z8,j6,j7,j8,j9,x0,x5,x6,x7,x8,x9,y3,y4,reduceCtorEq,↓reduceIte] at ho
       simp only[d4',sxZ,z6,z7,z8,j6,j7,j8,j9,x0,x5,x6,x7,x8,x9,y3,y4,reduceCtorEq,↓reduceIte]
       rw[ho] at hk
       simp only[zaQ,zdt,sxZ,z6,z7,z8,j6,j7,j8,j9,x0,x5,x6,x7,x8,x9,y3,y4,reduceCtorEq,↓reduceIte] at hk
       exact hk
      ·have d4':¬((zaA p.auth [64]:Nat):Int)<((p.auth.length:Nat):Int):=fun h=>d4 (hix.1 h)
       simp only[d4,sxZ,z6,z7,z8,j6,j7,j8,j9,x0,x5,x6,x7,x8,x9,y3,y4,reduceCtorEq,↓reduceIte] at ho
       simp only[d4',sxZ,z6,z7,z8,j6,j7,j8,j9,x0,x5,x6,x7,x8,x9,y3,y4,reduceCtorEq,↓reduceIte]
       refine zaf (zjX p.auth (by omega) ?_)
       rw[←ho]
       by_cases c2:(zay p).1=0
       ·simp only[c2,zdY,sxZ,z6,z7,z8,j6,j7,j8,j9,x0,x5,x6,x7,x8,x9,y3,y4,reduceCtorEq,↓reduceIte] at hk ⊢
        refine zaf (ziV p.path zap (by decide) ?_)
        have hr:zb9 p=if (zaj p.path zap).1≠0 then ((zaj p.path zap).1,zdt) else if (zaj p.query zag).1≠0 then ((zaj p.query zag).1,zdt) else if (zaj p.frag zag).1≠0 then ((zaj p.frag zag).1,zdt) else (0,⟨[],0,zcD (zaj p.path zap).2,(zaj p.query zag).2,(zaj p.frag zag).2,p.hq,p.hf⟩):=rfl
        by_cases c3:(zaj p.path zap).1=0
        ·simp only[c3,sxZ,z6,z7,z8,j6,j7,j8,j9,x0,x5,x6,x7,x8,x9,y3,y4,reduceCtorEq,↓reduceIte] at hr ⊢
         refine zaf (ziV p.query zag (by decide) ?_)
         by_cases c4:(zaj p.query zag).1=0
         ·simp only[c4,sxZ,z6,z7,z8,j6,j7,j8,j9,x0,x5,x6,x7,x8,x9,y3,y4,reduceCtorEq,↓reduceIte] at hr ⊢
          refine zaf (ziV p.frag zag (by decide) ?_)
          by_cases c5:(zaj p.frag zag).1=0
          ·simp only[c5,sxZ,z6,z7,z8,j6,j7,j8,j9,x0,x5,x6,x7,x8,x9,y3,y4,reduceCtorEq,↓reduceIte] at hr ⊢
           have n1:=zdF p.path zap
           refine zaf (ruDots_k _ (by omega) ?_)
           have hsh:zcm (zhR (zay p).2.1 (zay p).2.2 (zb9 p).2):=⟨by show (zay p).2.1.length≤_;omega,by show _≤(((zay p).2.2:Nat):Int);omega,by show (((zay p).2.2:Nat):Int)≤_;omega,by show (zb9 p).2.path.length≤_;omega,by show (zb9 p).2.query.length≤_;omega,by show (zb9 p).2.frag.length≤_;omega⟩
           have hsl:zcD (zaj p.path zap).2=if zaV (zaj p.path zap).2=[] then [47] else zaV (zaj p.path zap).2:=rfl
           have hr1:(zb9 p).1=0:=by rw[hr]
           simp only[hr1,sxZ,z6,z7,z8,j6,j7,j8,j9,x0,x5,x6,x7,x8,x9,y3,y4,reduceCtorEq,↓reduceIte] at hk
           rw[hr] at hk hsh
           have fin:∀pa:List UInt8,zcD (zaj p.path zap).2=pa→zcm ⟨(zay p).2.1,(zay p).2.2,pa,(zaj p.query zag).2,(zaj p.frag zag).2,p.hq,p.hf⟩ ∧
             ((((4096:Int)<((zcA ⟨(zay p).2.1,(zay p).2.2,pa,(zaj p.query zag).2,(zaj p.frag zag).2,p.hq,p.hf⟩).length:Nat))∧K objs (.tup [zaQ zdt,.i .i64 5])) ∨
             (¬((4096:Int)<((zcA ⟨(zay p).2.1,(zay p).2.2,pa,(zaj p.query zag).2,(zaj p.frag zag).2,p.hq,p.hf⟩).length:Nat))∧K objs (.tup [zaQ ⟨(zay p).2.1,(zay p).2.2,pa,(zaj p.query zag).2,(zaj p.frag zag).2,p.hq,p.hf⟩,.i .i64 0]))):=by
            intro pa hpa
            rw[hpa] at hk hsh
            simp only[zhR] at hk hsh
            refine⟨hsh,?_⟩
            by_cases c7:4096<(zcA ⟨(zay p).2.1,(zay p).2.2,pa,(zaj p.query zag).2,(zaj p.frag zag).2,p.hq,p.hf⟩).length
            ·rw[webF,if_pos c7] at hk
             exact .inl ⟨by omega,hk⟩
            ·rw[webF,if_neg c7] at hk
             exact .inr ⟨by omega,hk⟩
           clear hk hsh
           by_cases c6:zaV (zaj p.path zap).2=[]
           ·rw[if_pos c6] at hsl
            obtain⟨f1,f2⟩:=fin _ hsl
            simp only[c6,sxZ,z6,z7,z8,j6,j7,j8,j9,x0,x5,x6,x7,x8,x9,y3,y4,reduceCtorEq,↓reduceIte]
            refine zaf (zcE _ f1 ?_)
            rcases f2 with ⟨f2,f3⟩|⟨f2,f3⟩
            ·simp only[f2,sxZ,z6,z7,z8,j6,j7,j8,j9,x0,x5,x6,x7,x8,x9,y3,y4,reduceCtorEq,↓reduceIte]
             exact f3
            ·simp only[f2,sxZ,z6,z7,z8,j6,j7,j8,j9,x0,x5,x6,x7,x8,x9,y3,y4,reduceCtorEq,↓reduceIte]
             exact f3
           ·rw[if_neg c6] at hsl
            obtain⟨f1,f2⟩:=fin _ hsl
            simp only[c6,sxZ,z6,z7,z8,j6,j7,j8,j9,x0,x5,x6,x7,x8,x9,y3,y4,reduceCtorEq,↓reduceIte]
            refine zaf (zcE _ f1 ?_)
            rcases f2 with ⟨f2,f3⟩|⟨f2,f3⟩
            ·simp only[f2,sxZ,z6,z7,z8,j6,j7,j8,j9,x0,x5,x6,x7,x8,x9,y3,y4,reduceCtorEq,↓reduceIte]
             exact f3
            ·simp only[f2,sxZ,z6,z7,z8,j6,j7,j8,j9,x0,x5,x6,x7,x8,x9,y3,y4,reduceCtorEq,↓reduceIte]
             exact f3
          ·simp only[c5,sxZ,z6,z7,z8,j6,j7,j8,j9,x0,x5,x6,x7,x8,x9,y3,y4,reduceCtorEq,↓reduceIte] at hr ⊢
           rw[hr] at hk
           simp only[c5,zaQ,zdt,sxZ,z6,z7,z8,j6,j7,j8,j9,x0,x5,x6,x7,x8,x9,y3,y4,reduceCtorEq,↓reduceIte] at hk
           exact hk
         ·simp only[c4,sxZ,z6,z7,z8,j6,j7,j8,j9,x0,x5,x6,x7,x8,x9,y3,y4,reduceCtorEq,↓reduceIte] at hr ⊢
          rw[hr] at hk
          simp only[c4,zaQ,zdt,sxZ,z6,z7,z8,j6,j7,j8,j9,x0,x5,x6,x7,x8,x9,y3,y4,reduceCtorEq,↓reduceIte] at hk
          exact hk
        ·simp only[c3,sxZ,z6,z7,z8,j6,j7,j8,j9,x0,x5,x6,x7,x8,x9,y3,y4,reduceCtorEq,↓reduceIte] at hr ⊢
         rw[hr] at hk
         simp only[c3,zaQ,zdt,sxZ,z6,z7,z8,j6,j7,j8,j9,x0,x5,x6,x7,x8,x9,y3,y4,reduceCtorEq,↓reduceIte] at hk
         exact hk
       ·simp only[c2,zdY,zaQ,zdt,sxZ,z6,z7,z8,j6,j7,j8,j9,x0,x5,x6,x7,x8,x9,y3,y4,reduceCtorEq,↓reduceIte] at hk ⊢
        exact hk
     ·simp only[d3,sxZ,z6,z7,z8,j6,j7,j8,j9,x0,x5,x6,x7,x8,x9,y3,y4,reduceCtorEq,↓reduceIte] at ho ⊢
      rw[ho] at hk
      simp only[zaQ,zdt,sxZ,z6,z7,z8,j6,j7,j8,j9,x0,x5,x6,x7,x8,x9,y3,y4,reduceCtorEq,↓reduceIte] at hk
      exact hk
    ·simp only[d2,sxZ,z6,z7,z8,j6,j7,j8,j9,x0,x5,x6,x7,x8,x9,y3,y4,reduceCtorEq,↓reduceIte] at ho ⊢
     rw[ho] at hk
     simp only[zaQ,zdt,sxZ,z6,z7,z8,j6,j7,j8,j9,x0,x5,x6,x7,x8,x9,y3,y4,reduceCtorEq,↓reduceIte] at hk
     exact hk
   ·simp only[d1,sxZ,z6,z7,z8,j6,j7,j8,j9,x0,x5,x6,x7,x8,x9,y3,y4,reduceCtorEq,↓reduceIte] at ho ⊢
    rw[ho] at hk
    simp only[zaQ,zdt,sxZ,z6,z7,z8,j6,j7,j8,j9,x0,x5,x6,x7,x8,x9,y3,y4,reduceCtorEq,↓reduceIte] at hk
    exact hk
  ·simp only[c1,zbz,zaQ,zdt,sxZ,z6,z7,z8,j6,j7,j8,j9,x0,x5,x6,x7,x8,x9,y3,y4,reduceCtorEq,↓reduceIte] at hk ⊢
   exact hk
end
theorem zoJ (p:UriP):zcm (webO p).2:=by
 have op:=zfd p
 have ol:=zf0 p
 have rl:=zhc p
 have hz:zcm zdt:=⟨by decide,by decide,by decide,by decide,by decide,by decide⟩
 unfold webO webF
 repeat' split
 all_goals first
  | exact hz
  | exact⟨by show (zay p).2.1.length≤_;omega,by show _≤(((zay p).2.2:Nat):Int);omega,by show (((zay p).2.2:Nat):Int)≤_;omega,by show (zb9 p).2.path.length≤_;omega,by show (zb9 p).2.query.length≤_;omega,by show (zb9 p).2.frag.length≤_;omega⟩
theorem zlX (s:List UInt8):zcm (zfj s).2:=by
 have hz:zcm zdt:=⟨by decide,by decide,by decide,by decide,by decide,by decide⟩
 unfold zfj
 repeat' split
 ·exact hz
 ·exact hz
 ·exact zoJ _
theorem ziu {u:UrlP} (h:zcm u):(zcA u).length≤5000000:=by
 obtain⟨h1,h2,h3,h4,h5,h6⟩:=h
 have:=fmtW_len u h2 h3
 omega
theorem zjE {b:UrlP} (h:zcU b=true):(zcA b).length≤4096:=by
 unfold zcU at h
 simp only[Bool.and_eq_true,decide_eq_true_eq] at h
 have h1:=h.1
 unfold zfj at h1
 split at h1
 ·cases h1
 ·omega
def eqW (a b:UrlP):Bool:=decide (a.host=b.host)&&(decide (a.port=b.port)&&(decide (a.path=b.path)&&(decide (a.query=b.query)&&(decide (a.frag=b.frag)&&(a.hq==b.hq&&a.hf==b.hf)))))
theorem eqW_is (a b:UrlP):eqW a b=decide (a=b):=by
 obtain⟨a1,a2,a3,a4,a5,a6,a7⟩:=a
 obtain⟨b1,b2,b3,b4,b5,b6,b7⟩:=b
 rw[Bool.eq_iff_iff]
 simp[eqW]
theorem eqW_comm (a b:UrlP):eqW a b=decide (b=a):=by
 rw[eqW_is]
 exact decide_eq_decide.2 ⟨fun h=>h.symm,fun h=>h.symm⟩
section
variable [Tabs Tryz.prog] {objs:List OB} {K:List OB→AV→Prop}
theorem wValid_k [Pow Tryz.prog] (u:UrlP) (hu:zcm u) (hk:K objs (.b (zcU u))):zad Tryz.prog 159 [zaQ u] objs K:=by
 have hm:maxLen=2 ^ 63 - 1:=rfl
 have hl:=ziu hu
 refine zaU is_weburl_Valid rfl fun C _=>?_
 simp only[c_weburl_Valid,zaQ,sxZ,z6,z7,z8,j6,j7,j8,j9,x0,x5,x6,x7,x8,x9,y3,y4,reduceCtorEq,↓reduceIte]
 refine zaf (zdJ u hu ?_)
 simp only[sxZ,z6,z7,z8,j6,j7,j8,j9,x0,x5,x6,x7,x8,x9,y3,y4,reduceCtorEq,↓reduceIte]
 refine zaf (zlY _ (by omega) ?_)
 unfold zcU at hk
 generalize (zfj (zcA u)).2=v at hk ⊢
 by_cases h:(zfj (zcA u)).1=0
 ·simp only[h,zaQ,sxZ,z6,z7,z8,j6,j7,j8,j9,x0,x5,x6,x7,x8,x9,y3,y4,reduceCtorEq,↓reduceIte] at hk ⊢
  rw[←eqW_is] at hk
  exact hk
 ·simp only[h,zaQ,sxZ,z6,z7,z8,j6,j7,j8,j9,x0,x5,x6,x7,x8,x9,y3,y4,reduceCtorEq,↓reduceIte] at hk ⊢
  exact hk
theorem zo3 (u:UrlP) (hu:zcm u) (hk:K objs (.b (zcU u))):zad Tryz.prog 115 [zaQ u] objs K:=by
 have hm:maxLen=2 ^ 63 - 1:=rfl
 have hl:=ziu hu
 refine zaU is_ref07_Valid rfl fun C _=>?_
 simp only[c_ref07_Valid,zaQ,sxZ,z6,z7,z8,j6,j7,j8,j9,x0,x5,x6,x7,x8,x9,y3,y4,reduceCtorEq,↓reduceIte]
 refine zaf (zcE u hu ?_)
 simp only[sxZ,z6,z7,z8,j6,j7,j8,j9,x0,x5,x6,x7,x8,x9,y3,y4,reduceCtorEq,↓reduceIte]
 refine zaf (zjR _ (by omega) ?_)
 unfold zcU at hk
 generalize (zfj (zcA u)).2=v at hk ⊢
 by_cases h:(zfj (zcA u)).1=0
 ·simp only[h,zaQ,sxZ,z6,z7,z8,j6,j7,j8,j9,x0,x5,x6,x7,x8,x9,y3,y4,reduceCtorEq,↓reduceIte] at hk ⊢
  rw[←eqW_comm] at hk
  exact hk
 ·simp only[h,zaQ,sxZ,z6,z7,z8,j6,j7,j8,j9,x0,x5,x6,x7,x8,x9,y3,y4,reduceCtorEq,↓reduceIte] at hk ⊢
  exact hk
end
end Go.Proofs.YtnnipcgblooemaaGreatDoor
namespace Go.Proofs.YtnnipcgblooemaaGreatDoor
open Go.RowKit Sx
section
variable [Tabs Tryz.prog] {objs:List OB} {K:List OB→AV→Prop}
end
end Go.Proofs.YtnnipcgblooemaaGreatDoor
namespace Go.Proofs.YtnnipcgblooemaaGreatDoor
def jn (l:List (List UInt8)):List UInt8:=l.flatMap fun s=>47::s
def zgC (s:List UInt8):Prop:=47∉s∧s≠[46]∧s≠[46,46]
theorem zkr:jn []=[]:=rfl
theorem zb8 (s:List UInt8) (l:List (List UInt8)):jn (s::l)=47::(s++jn l):=by simp[jn]
theorem zlr (s:List UInt8) (l:List (List UInt8)):jn (l++[s])=jn l++47::s:=by simp[jn]
theorem zqF (l:List (List UInt8)):jn l=[]∨∃r,jn l=47::r:=by
 cases l with
 | nil=>exact .inl rfl
 | cons s l=>exact .inr ⟨_,zb8 s l⟩
theorem zh7:∀a b:List UInt8,47∉a→zgh (a++47::b)=b
 | [],b,_=>by rw[List.nil_append,zgh,if_pos rfl]
 | x::a,b,h=>by
  simp only[List.mem_cons,not_or] at h
  rw[List.cons_append,zgh,if_neg (fun e=>h.1 e.symm)]
  exact zh7 a b h.2
theorem znT (l s:List UInt8) (h:47∉s):za9 (l++47::s)=l:=by
 unfold za9
 have:(l++47::s).reverse=s.reverse++47::l.reverse:=by simp
 rw[this,zh7 _ _ (by simpa using h),List.reverse_reverse]
theorem zo1 (l:List (List UInt8)) (h:∀s∈l,zgC s):za9 (jn l)=jn l.dropLast:=by
 rcases List.eq_nil_or_concat l with rfl|⟨l',s,rfl⟩
 ·rfl
 ·rw[List.concat_eq_append,zlr,znT _ _ (h s (by simp)).1];simp
theorem zhx (s rest:List UInt8) (hs:47∉s) (hr:rest=[]∨∃r,rest=47::r):zau (s++rest)=s:=by
 unfold zau
 rcases hr with rfl|⟨r,rfl⟩
 ·rw[List.append_nil,zb3 47 s hs]
 ·rw[zaS 47 s r hs]
theorem step_one (rest o:List UInt8) (hr:rest=[]∨∃r,rest=47::r):zax (47::([46]++rest)) o=(if rest=[] then [47] else rest,o):=by
 rcases hr with rfl|⟨r,rfl⟩
 ·simp[zax,Lib.hasPrefix]
 ·simp[zax,Lib.hasPrefix]
theorem step_two (rest o:List UInt8) (hr:rest=[]∨∃r,rest=47::r):zax (47::([46,46]++rest)) o=(if rest=[] then [47] else rest,za9 o):=by
 rcases hr with rfl|⟨r,rfl⟩
 ·simp[zax,Lib.hasPrefix]
 ·simp[zax,Lib.hasPrefix]
theorem zgL {l p:List UInt8} (h:∀u,p++u=l→False):Lib.hasPrefix l p=false:=by
 rw[Bool.eq_false_iff]
 intro e
 obtain⟨u,hu⟩:=List.isPrefixOf_iff_prefix.1 (show List.isPrefixOf p l=true from e)
 exact h u hu
theorem ziL (s rest o:List UInt8) (hs:zgC s) (hr:rest=[]∨∃r,rest=47::r):zax (47::(s++rest)) o=(rest,o++47::s):=by
 obtain⟨h1,h2,h3⟩:=hs
 have hf:=zhx s rest h1 hr
 have hseg:zfr (47::(s++rest))=1+s.length:=by
  unfold zfr
  rw[List.drop_succ_cons,List.drop_zero,hf]
 have e1:(47::(s++rest)).drop (1+s.length)=rest:=by
  rw[Nat.add_comm,List.drop_succ_cons];simp
 have e2:(47::(s++rest)).take (1+s.length)=47::s:=by
  rw[Nat.add_comm,List.take_succ_cons];simp
 have key:zax (47::(s++rest)) o=((47::(s++rest)).drop (zfr (47::(s++rest))),o++(47::(s++rest)).take (zfr (47::(s++rest)))):=by
  unfold zax
  have p1:Lib.hasPrefix (47::(s++rest)) [46,46,47]=false:=zgL fun u hu=>by simp at hu
  have p2:Lib.hasPrefix (47::(s++rest)) [46,47]=false:=zgL fun u hu=>by simp at hu
  have p7:¬(47::(s++rest)=[46]∨47::(s++rest)=[46,46]):=by simp
  have p3:Lib.hasPrefix (47::(s++rest)) [47,46,47]=false:=zgL fun u hu=>by
   rcases s with _|⟨a,_|⟨b,s⟩⟩
   ·rcases hr with rfl|⟨r,rfl⟩<;>simp at hu
   ·simp only[List.cons_append,List.nil_append,List.cons.injEq,true_and] at hu
    exact h2 (by rw[←hu.1])
   ·simp only[List.cons_append,List.nil_append,List.cons.injEq,true_and] at hu
    exact h1 (by rw[hu.2.1];simp)
  have p4:¬47::(s++rest)=[47,46]:=by
   rcases s with _|⟨a,s⟩
   ·rcases hr with rfl|⟨r,rfl⟩<;>simp
   ·intro e
    simp only[List.cons_append,List.cons.injEq,true_and,List.append_eq_nil_iff] at e
    exact h2 (by rw[e.1,e.2.1])
  have p5:Lib.hasPrefix (47::(s++rest)) [47,46,46,47]=false:=zgL fun u hu=>by
   rcases s with _|⟨a,_|⟨b,_|⟨c,s⟩⟩⟩
   ·rcases hr with rfl|⟨r,rfl⟩<;>simp at hu
   ·rcases hr with rfl|⟨r,rfl⟩<;>simp at hu
   ·simp only[List.cons_append,List.nil_append,List.cons.injEq,true_and] at hu
    exact h3 (by rw[←hu.1,←hu.2.1])
   ·simp only[List.cons_append,List.nil_append,List.cons.injEq,true_and] at hu
    exact h1 (by rw[hu.2.2.1];simp)
  have p6:¬47::(s++rest)=[47,46,46]:=by
   rcases s with _|⟨a,_|⟨b,s⟩⟩
   ·rcases hr with rfl|⟨r,rfl⟩<;>simp
   ·rcases hr with rfl|⟨r,rfl⟩<;>simp
   ·intro e
    simp only[List.cons_append,List.cons.injEq,true_and,List.append_eq_nil_iff] at e
    exact h3 (by rw[e.1,e.2.1,e.2.2.1])
  rw[p1,p2,p3,p5,if_neg Bool.false_ne_true,if_neg Bool.false_ne_true,if_neg Bool.false_ne_true,if_neg p4,if_neg Bool.false_ne_true,if_neg p6,if_neg p7]
 rw[key,hseg,e1,e2]
theorem zkN:∀(l:List (List UInt8)) (o:List UInt8),(∀s∈l,zgC s)→zcv (jn l) o=o++jn l
 | [],o,_=>by rw[zkr,zez,List.append_nil]
 | s::l,o,h=>by
  rw[zb8,zaM (by simp),ziL s (jn l) o (h s (by simp)) (zqF l)]
  simp only
  rw[zkN l _ (fun s hs=>h s (by simp[hs]))];simp
end Go.Proofs.YtnnipcgblooemaaGreatDoor
namespace Go.Proofs.YtnnipcgblooemaaGreatDoor
theorem ziM (p:UriP) (h1:p.hs=true) (h2:zbU p.scheme=true) (h3:∀c∈p.scheme,zbe c [58,47,63,35]=false) (h4:p.ha=true) (h5:∀c∈p.auth,zbe c [47,63,35]=false)
  (h6:p.path=[]∨∃r,p.path=47::r) (h7:∀c∈p.path,zbe c [63,35]=false) (h8:(35:UInt8)∉p.query) (h9:p.hq=false→p.query=[]) (h10:p.hf=false→p.frag=[]) (h11:(zfD p).length≤16384):zaw (zfD p)=(0,p):=by
 obtain⟨sc,au,pa,qu,fr,hs,ha,hq,hf⟩:=p
 simp only at h1 h2 h3 h4 h5 h6 h7 h8 h9 h10
 subst h1 h4
 have n1:∀c:UInt8,zbe c [58,47,63,35]=true→c∉sc:=fun c hc hm=>by have:=h3 c hm;rw[hc] at this;cases this
 have n2:∀c:UInt8,zbe c [47,63,35]=true→c∉au:=fun c hc hm=>by have:=h5 c hm;rw[hc] at this;cases this
 have n3:∀c:UInt8,zbe c [63,35]=true→c∉pa:=fun c hc hm=>by have:=h7 c hm;rw[hc] at this;cases this
 have eb:zfD ⟨sc,au,pa,qu,fr,true,true,hq,hf⟩=sc++58::47::47::(au++pa++(if hq=true then [63]++qu else [])++(if hf=true then [35]++fr else [])):=by
  unfold zfD;simp
 have q35:(35:UInt8)∉(if hq=true then [63]++qu else []):=by
  split
  ·simp[h8]
  ·simp
 have m35:(35:UInt8)∉sc++58::47::47::(au++pa++(if hq=true then [63]++qu else [])):=by
  simp only[List.mem_append,List.mem_cons,not_or]
  exact⟨n1 35 (by decide),by decide,by decide,by decide,⟨n2 35 (by decide),n3 35 (by decide)⟩,q35⟩
 have m63:(63:UInt8)∉sc++58::47::47::(au++pa):=by
  simp only[List.mem_append,List.mem_cons,not_or]
  exact⟨n1 63 (by decide),by decide,by decide,by decide,n2 63 (by decide),n3 63 (by decide)⟩
 have e35:zar 35 (zfD ⟨sc,au,pa,qu,fr,true,true,hq,hf⟩)=(sc++58::47::47::(au++pa++(if hq=true then [63]++qu else [])),fr,hf):=by
  rw[eb]
  cases hf
  ·have:=h10 rfl;subst this
   have:sc++58::47::47::(au++pa++(if hq=true then [63]++qu else [])++(if false=true then [35]++[] else []))=sc++58::47::47::(au++pa++(if hq=true then [63]++qu else [])):=by simp
   rw[this,zb3 35 _ m35]
  ·have:sc++58::47::47::(au++pa++(if hq=true then [63]++qu else [])++(if true=true then [35]++fr else []))=(sc++58::47::47::(au++pa++(if hq=true then [63]++qu else [])))++35::fr:=by simp
   rw[this,zaS 35 _ fr m35]
 have e63:zar 63 (sc++58::47::47::(au++pa++(if hq=true then [63]++qu else [])))=(sc++58::47::47::(au++pa),qu,hq):=by
  cases hq
  ·have:=h9 rfl;subst this
   have:sc++58::47::47::(au++pa++(if false=true then [63]++[] else []))=sc++58::47::47::(au++pa):=by simp
   rw[this,zb3 63 _ m63]
  ·have:sc++58::47::47::(au++pa++(if true=true then [63]++qu else []))=(sc++58::47::47::(au++pa))++63::qu:=by simp
   rw[this,zaS 63 _ qu m63]
 have ef:zau (sc++58::47::47::(au++pa))=sc++[58]:=by
  unfold zau
  have:sc++58::47::47::(au++pa)=(sc++[58])++47::(47::(au++pa)):=by simp
  rw[this,zaS 47 _ _ (by simp only[List.mem_append,List.mem_cons,List.not_mem_nil,or_false,not_or];exact⟨n1 47 (by decide),by decide⟩)]
 have ec:zar 58 (sc++[58])=(sc,[],true):=zaS 58 sc [] (n1 58 (by decide))
 have ed:(sc++58::47::47::(au++pa)).drop (sc.length+1)=47::47::(au++pa):=by
  have:sc++58::47::47::(au++pa)=(sc++[58])++(47::47::(au++pa)):=by simp
  rw[this,List.drop_append_of_le_length (by simp)];simp
 have et:zbN (47::47::(au++pa))=true:=by simp[zbN,Lib.hasPrefix]
 have ea:zbh (47::47::(au++pa))=au:=by
  unfold zbh
  rw[if_pos et]
  show zau (au++pa)=au
  rcases h6 with rfl|⟨r,rfl⟩
  ·exact zhx au [] (n2 47 (by decide)) (.inl rfl)
  ·exact zhx au _ (n2 47 (by decide)) (.inr ⟨r,rfl⟩)
 have ep:zbC (47::47::(au++pa))=pa:=by
  unfold zbC
  rw[if_pos et,ea]
  show (au++pa).drop au.length=pa
  simp
 have hb:zcB (zfD ⟨sc,au,pa,qu,fr,true,true,hq,hf⟩)=sc++58::47::47::(au++pa):=by
  unfold zcB;rw[e35];simp only;rw[e63]
 have hsc:zbB (zfD ⟨sc,au,pa,qu,fr,true,true,hq,hf⟩)=(sc,[],true):=by
  unfold zbB;rw[hb,ef,ec]
 have hh:zd9 (zfD ⟨sc,au,pa,qu,fr,true,true,hq,hf⟩)=47::47::(au++pa):=by
  unfold zd9;rw[hsc,hb,if_pos rfl,ed]
 unfold zaw
 rw[if_neg (by omega),hsc,h2]
 simp only[Bool.not_true,Bool.and_false,Bool.false_eq_true,if_false,if_true]
 rw[hh,ea,ep,et,e35]
 simp only
 rw[e63]
def Cn (keep l:List UInt8):Prop:=∀o r,rwS (zcb keep) 0 (l++r) o=rwS (zcb keep) 0 r (o++l)
theorem Cn.nil (keep:List UInt8):Cn keep []:=by intro o r;simp
theorem Cn.append {keep a b:List UInt8} (ha:Cn keep a) (hb:Cn keep b):Cn keep (a++b):=by
 intro o r
 rw[List.append_assoc,ha,hb,List.append_assoc]
theorem Cn.one {keep:List UInt8} {c:UInt8} (hp:zaT c keep=true):Cn keep [c]:=by
 intro o r
 have hc:c≠37:=zj7 hp
 exact zdL _ _ _ _ _ hc (za1 rfl hp)
theorem Cn.norm {keep l:List UInt8} (h:Cn keep l) (hl:l.length≤16384):zaj l keep=(0,l):=by
 have:=h [] []
 unfold zaj zfk
 rw[if_neg (by omega)]
 rw[List.append_nil,List.nil_append,rwS] at this
 exact this
theorem Cn.jn {keep:List UInt8} (h47:zaT 47 keep=true):∀l:List (List UInt8),(∀s∈l,Cn keep s)→Cn keep (jn l)
 | [],_=>Cn.nil keep
 | s::l,h=>by
  rw[zb8]
  exact(Cn.one h47).append ((h s (by simp)).append (Cn.jn h47 l fun s hs=>h s (by simp[hs])))
theorem pl47:zaT 47 zap=true:=by decide
theorem esc47:∀n:Fin 256,(47:UInt8)∉zc5 (UInt8.ofNat n.val):=by decide +kernel
theorem zkE (c:UInt8):(47:UInt8)∉zc5 c:=by
 have:=esc47 ⟨c.toNat,UInt8.toNat_lt c⟩
 simpa using this
theorem zp4:∀(n:Nat) (l out x:List UInt8),l.length≤n→rwS (zcb zap) 0 l out=(0,x)→∃s m,x=out++(s++jn m)∧(47∉s∧Cn zap s)∧(∀q∈m,47∉q∧Cn zap q)∧(l=[]→s=[]∧m=[])∧(∀t,l=47::t→s=[]∧m≠[]):=by
 intro n
 induction n with
 | zero=>
  intro l out x hl h
  obtain rfl:l=[]:=List.eq_nil_of_length_eq_zero (by omega)
  rw[rwS] at h
  obtain rfl:out=x:=by injection h
  exact⟨[],[],by simp[jn],⟨by simp,Cn.nil _⟩,by simp,fun _=>⟨rfl,rfl⟩,fun t e=>by cases e⟩
 | succ n ih=>
  intro l out x hl h
  cases l with
  | nil=>
   rw[rwS] at h
   obtain rfl:out=x:=by injection h
   exact⟨[],[],by simp[jn],⟨by simp,Cn.nil _⟩,by simp,fun _=>⟨rfl,rfl⟩,fun t e=>by cases e⟩
  | cons c t=>
   simp only[List.length_cons] at hl
   by_cases hc:c=37
   ·subst hc
    rcases he:zbt (37::t) with _|_
    ·rw[rwS,if_pos rfl,if_neg (by rw[he];exact Bool.false_ne_true)] at h
     injection h with h1 _
     exact absurd h1 (by decide)
    ·obtain⟨a,b,r,rfl⟩:=zbK he
     rcases hu:zav (zcn (37::a::b::r)) with _|_
     ·rw[rwS,if_pos rfl,if_pos he,zcM hu,if_pos rfl,zbH] at h
      obtain⟨s,m,e,⟨h1,h1'⟩,h2,_,_⟩:=ih r _ x (by simp at hl;omega) h
      refine⟨zc5 (zcn (37::a::b::r))++s,m,by rw[e];simp,⟨?_,?_⟩,h2,(fun e=>by cases e),(fun t e=>by cases e)⟩
      ·simp only[List.mem_append,not_or];exact⟨zkE _,h1⟩
      ·exact Cn.append (fun o r'=>zft _ _ _ _ _ (zcM hu)) h1'
     ·rw[rwS,if_pos rfl,if_pos he,za1 (by rw[hu];rfl) (za8 hu),if_pos rfl,zbH] at h
      obtain⟨s,m,e,⟨h1,h1'⟩,h2,_,_⟩:=ih r _ x (by simp at hl;omega) h
      refine⟨[zcn (37::a::b::r)]++s,m,by rw[e];simp,⟨?_,(Cn.one (za8 hu)).append h1'⟩,h2,(fun e=>by cases e),(fun t e=>by cases e)⟩
      simp only[List.mem_append,List.mem_cons,List.not_mem_nil,or_false,not_or]
      refine⟨fun e=>?_,h1⟩
      rw[←e] at hu
      exact absurd hu (by decide)
   ·rcases hp:zaT c zap with _|_
    ·rw[rwS,if_neg hc,zfM rfl hp,if_neg (by decide)] at h
     injection h with h1 _
     exact absurd h1 (by decide)
    ·rw[rwS,if_neg hc,za1 rfl hp,if_pos rfl] at h
     obtain⟨s,m,e,⟨h1,h1'⟩,h2,_,_⟩:=ih t _ x (by omega) h
     by_cases h47:c=47
     ·subst h47
      refine⟨[],s::m,by rw[e,zb8];simp,⟨by simp,Cn.nil _⟩,?_,(fun e=>by cases e),(fun t e=>⟨rfl,by simp⟩)⟩
      intro q hq
      rcases List.mem_cons.1 hq with rfl|hq
      ·exact⟨h1,h1'⟩
      ·exact h2 q hq
     ·refine⟨[c]++s,m,by rw[e];simp,⟨?_,(Cn.one hp).append h1'⟩,h2,(fun e=>by cases e),(fun t e=>by injection e with e _;exact absurd e h47)⟩
      simp only[List.mem_append,List.mem_cons,List.not_mem_nil,or_false,not_or]
      exact⟨fun e=>h47 e.symm,h1⟩
theorem zrn (P:List UInt8→Prop) (h0:P []):∀(n:Nat) (m l:List (List UInt8)),(jn m).length≤n→m≠[]→(∀s∈m,47∉s∧P s)→(∀s∈l,zgC s∧P s)→∃k,k≠[]∧(∀s∈k,zgC s∧P s)∧zcv (jn m) (jn l)=jn k:=by
 intro n
 induction n with
 | zero=>
  intro m l hn hm _ _
  cases m with
  | nil=>exact absurd rfl hm
  | cons s m=>rw[zb8] at hn;simp at hn
 | succ n ih=>
  intro m l hn hm hmp hl
  cases m with
  | nil=>exact absurd rfl hm
  | cons s m=>
   have hdl:∀s∈l.dropLast,zgC s∧P s:=fun s hs=>hl s (List.dropLast_subset l hs)
   have hs:=hmp s (by simp)
   have hmp':∀s∈m,47∉s∧P s:=fun s hs=>hmp s (by simp[hs])
   have hr:=zqF m
   have hnil:∀l:List (List UInt8),(∀s∈l,zgC s∧P s)→∃k,k≠[]∧(∀s∈k,zgC s∧P s)∧zcv [47] (jn l)=jn k:=by
    intro l hl
    refine⟨l++[[]],by simp,?_,?_⟩
    ·intro s hs
     rcases List.mem_append.1 hs with hs|hs
     ·exact hl s hs
     ·simp at hs;subst hs;exact⟨⟨by simp,by simp,by simp⟩,h0⟩
    ·have:=ziL [] [] (jn l) ⟨by simp,by simp,by simp⟩ (.inl rfl)
     rw[zaM (by simp)]
     simp only[List.append_nil] at this
     rw[this,zez,zlr]
   rw[zb8] at hn ⊢
   simp only[List.length_cons,List.length_append] at hn
   rw[zaM (by simp)]
   by_cases h2:s=[46]
   ·subst h2
    rw[step_one (jn m) _ hr]
    by_cases hm0:m=[]
    ·subst hm0
     simp only[zkr,if_true]
     exact hnil l hl
    ·have:jn m≠[]:=by
      cases m with
      | nil=>exact absurd rfl hm0
      | cons q m=>rw[zb8];simp
     simp only[this,if_false]
     exact ih m l (by simp at hn;omega) hm0 hmp' hl
   ·by_cases h3:s=[46,46]
    ·subst h3
     rw[step_two (jn m) _ hr]
     simp only
     rw[zo1 l (fun s hs=>(hl s hs).1)]
     by_cases hm0:m=[]
     ·subst hm0
      simp only[zkr,if_true]
      exact hnil _ hdl
     ·have:jn m≠[]:=by
       cases m with
       | nil=>exact absurd rfl hm0
       | cons q m=>rw[zb8];simp
      simp only[this,if_false]
      exact ih m _ (by simp at hn;omega) hm0 hmp' hdl
    ·rw[ziL s (jn m) _ ⟨hs.1,h2,h3⟩ hr,←zlr]
     have hl2:∀s'∈l++[s],zgC s'∧P s':=by
      intro s' hs'
      rcases List.mem_append.1 hs' with hs' | hs'
      ·exact hl s' hs'
      ·simp at hs';subst hs';exact⟨⟨hs.1,h2,h3⟩,hs.2⟩
     by_cases hm0:m=[]
     ·subst hm0
      exact⟨l++[s],by simp,hl2,by rw[zkr,zez]⟩
     ·exact ih m _ (by omega) hm0 hmp' hl2
def zhM (l:List UInt8):Prop:=∃m,m≠[]∧(∀s∈m,zgC s∧Cn zap s)∧l=jn m
theorem zn7 (l:List UInt8) (hl:l=[]∨∃t,l=47::t) (hn:(zaj l zap).1=0):zhM (zcD (zaj l zap).2):=by
 have e:zaj l zap=(0,(zaj l zap).2):=by rw[←hn]
 have hlen:=zeM e
 have hr:rwS (zcb zap) 0 l []=(0,(zaj l zap).2):=by
  have e2:=e
  unfold zaj zfk at e2
  rw[if_neg (by omega)] at e2
  rw[e2]
  unfold zaj zfk
  rw[if_neg (by omega)]
 obtain⟨s,m,k1,k2,k3,k4,k5⟩:=zp4 l.length l [] _ (Nat.le_refl _) hr
 rw[List.nil_append] at k1
 rw[k1]
 rcases hl with rfl|⟨t,rfl⟩
 ·obtain⟨rfl,rfl⟩:=k4 rfl
  refine⟨[[]],by simp,?_,?_⟩
  ·intro q hq
   simp at hq;subst hq
   exact⟨⟨by simp,by simp,by simp⟩,Cn.nil _⟩
  ·unfold zcD;rfl
 ·obtain⟨rfl,hm⟩:=k5 t rfl
  rw[List.nil_append]
  obtain⟨k,q1,q2,q3⟩:=zrn (Cn zap) (Cn.nil _) (jn m).length m [] (Nat.le_refl _) hm k3 (by simp)
  refine⟨k,q1,q2,?_⟩
  unfold zcD
  have:zaV (jn m)=jn k:=q3
  rw[this,if_neg]
  cases k with
  | nil=>exact absurd rfl q1
  | cons a k=>rw[zb8];simp
theorem zhM.form {l:List UInt8} (h:zhM l):∃r,l=47::r:=by
 obtain⟨m,hm,_,rfl⟩:=h
 cases m with
 | nil=>exact absurd rfl hm
 | cons s m=>exact⟨_,zb8 s m⟩
theorem zhM.dots {l:List UInt8} (h:zhM l):zaV l=l:=by
 obtain⟨m,hm,hs,rfl⟩:=h
 have:=zkN m [] (fun s h=>(hs s h).1)
 simpa[zaV] using this
theorem zhM.norm {l:List UInt8} (h:zhM l) (hl:l.length≤16384):zaj l zap=(0,l):=by
 obtain⟨m,hm,hs,rfl⟩:=h
 exact(Cn.jn pl47 m fun s h=>(hs s h).2).norm hl
theorem zhM.slash {l:List UInt8} (h:zhM l):zcD l=l:=by
 obtain⟨r,hr⟩:=h.form
 unfold zcD
 rw[h.dots,if_neg (by rw[hr];simp)]
end Go.Proofs.YtnnipcgblooemaaGreatDoor
namespace Go.Proofs.YtnnipcgblooemaaGreatDoor
open Go.RowKit Sx
theorem znR {P:Program} {w w':World} {name:String} {k:IntKind} {zs:List Int} (h:Lib.TabIs P w name k zs) (hk:∀k,k<w.heap.size→w'.heap[k]? = w.heap[k]?):Lib.TabIs P w' name k zs:=by
 unfold Lib.TabIs World.var? at *
 cases hg:P.globalNamed name with
 | none=>simp[hg] at h
 | some g=>
  simp only[hg,Option.bind_some] at h ⊢
  have hlt:g<w.heap.size:=by
   rcases Nat.lt_or_ge g w.heap.size with h' | h'
   ·exact h'
   ·rw[Array.getElem?_eq_none h'] at h;simp at h
  rw[hk g hlt]
  exact h
instance tabsN : Tabs Tryz.prog := ⟨fun w => w.ShapedOpen Tryz.prog ∧ Lib.TabIs Tryz.prog w "internal/strconv.uint64pow10" .u64 Lib.pow10Tab, fun _ _ h hk _ => ⟨zg1 h.1 hk, znR h.2 hk⟩⟩
instance tabsN_shp:Shp Tryz.prog:=⟨fun _ h=>h.1⟩
instance tabsN_pow:Pow Tryz.prog:=⟨fun _ h=>h.2⟩
end Go.Proofs.YtnnipcgblooemaaGreatDoor
namespace Go.Proofs.YtnnipcgblooemaaGreatDoor
open Go.RowKit Sx
structure CanW (u:UrlP):Prop where
 host:zaL u.host=(0,u.host)
 port:∃n:Nat,u.port=n∧n≤65535∧n≠443
 path:zhM u.path
 query:zaj u.query zag=(0,u.query)
 frag:zaj u.frag zag=(0,u.frag)
 noq:u.hq=false→u.query=[]
 nof:u.hf=false→u.frag=[]
 len:(zcA u).length≤4096
def zdx (u:UrlP):UriP:=⟨zct,zjf u.host u.port,u.path,u.query,u.frag,true,true,u.hq,u.hf⟩
theorem zf7 (u:UrlP):zfD (zdx u)=zcA u:=by
 obtain⟨h,p,pa,q,f,hq,hf⟩:=u
 unfold zfD zdx zcA zd2 zct
 cases hq<;>cases hf<;>simp
theorem qk256:∀n:Fin 256,(okB zap (UInt8.ofNat n.val)=true→zbe (UInt8.ofNat n.val) [63,35]=false)∧(okB zag (UInt8.ofNat n.val)=true→UInt8.ofNat n.val≠35):=by decide +kernel
theorem zmn (c:UInt8):(okB zap c=true→zbe c [63,35]=false)∧(okB zag c=true→c≠35):=by
 have:=qk256 ⟨c.toNat,UInt8.toNat_lt c⟩
 simpa using this
theorem dg256:∀n:Fin 256,zal (UInt8.ofNat n.val)=true→zbe (UInt8.ofNat n.val) [47,63,35,64]=false:=by decide +kernel
theorem dg_facts (c:UInt8) (h:zal c=true):zbe c [47,63,35,64]=false:=by
 have:=dg256 ⟨c.toNat,UInt8.toNat_lt c⟩
 simp only[UInt8.ofNat_toNat] at this
 exact this h
theorem ziE {h:List UInt8} {n:Nat} (hh:zaL h=(0,h)):∀c∈zjf h n,zbe c [47,63,35,64]=false:=by
 intro c hc
 have hb:∀c∈h,zbe c [47,63,35,64]=false:=by
  intro c hc
  have:=zmW c (zf9 (by rw[hh]) c hc)
  unfold zbe at this ⊢
  simp only[List.contains_cons,List.contains_nil,Bool.or_false,Bool.or_eq_false_iff] at this ⊢
  exact⟨this.2.2.1,this.2.2.2.1,this.2.2.2.2,this.2.1⟩
 unfold zjf at hc
 split at hc
 ·exact hb c hc
 ·rw[zi9] at hc
  simp only[List.mem_append,List.mem_cons,List.not_mem_nil,or_false] at hc
  rcases hc with (hc|hc)|hc
  ·exact hb c hc
  ·subst hc;decide
  ·exact dg_facts c (List.all_eq_true.1 (zlJ n n (Nat.le_refl _)).1 c hc)
theorem zqT {c:UInt8} (h:zbe c [47,63,35,64]=false):zbe c [47,63,35]=false∧c≠64:=by
 unfold zbe at h ⊢
 simp only[List.contains_cons,List.contains_nil,Bool.or_false,Bool.or_eq_false_iff] at h ⊢
 refine⟨⟨h.1,h.2.1,h.2.2.1⟩,?_⟩
 have:=h.2.2.2
 simpa using this
theorem zb2 (u:UrlP):u.path.length≤(zcA u).length:=by
 unfold zcA zd2
 split<;>simp only[List.length_append]<;>omega
theorem CanW.split {u:UrlP} (h:CanW u):zaw (zcA u)=(0,zdx u):=by
 obtain⟨n,hn,_,_⟩:=h.port
 rw[←zf7]
 have hl:=h.len
 refine ziM (zdx u) rfl (by show zbU zct=true;decide) (by show ∀c∈zct,_;decide) rfl ?_ ?_ ?_ ?_ h.noq h.nof (by rw[zf7];omega)
 ·intro c hc
  have hc':c∈zjf u.host u.port:=hc
  rw[hn] at hc'
  exact(zqT (ziE h.host c hc')).1
 ·exact .inr h.path.form
 ·intro c hc
  have h3:=zb2 u
  have:=List.all_eq_true.1 (zcK (h.path.norm (by omega))) c hc
  exact(zmn c).1 this
 ·intro hm
  have:=List.all_eq_true.1 (zcK h.query) 35 hm
  exact(zmn 35).2 this rfl
theorem CanW.back {u:UrlP} (h:CanW u):zfj (zcA u)=(0,u):=by
 obtain⟨n,hn,hn1,hn2⟩:=h.port
 have hl:=h.len
 have hpl:=zb2 u
 have ho:zay (zdx u)=(0,u.host,n):=by
  have e1:eqL zct zct=true:=by decide
  have h64:(64:UInt8)∉zjf u.host n:=fun hm=>(zqT (ziE h.host 64 hm)).2 rfl
  unfold zay zdx
  simp only[e1]
  rw[hn,zb3 64 _ h64]
  simp only
  rw[hp_fmt h.host hn1 hn2]
  simp
 have hr:zb9 (zdx u)=(0,⟨[],0,u.path,u.query,u.frag,u.hq,u.hf⟩):=by
  unfold zb9 zdx
  simp only
  rw[h.path.norm (by omega),h.query,h.frag]
  simp only
  rw[h.path.slash]
  simp
 unfold zfj
 rw[if_neg (by omega),h.split]
 simp only
 unfold webO
 rw[ho,hr]
 simp only
 have hu:zhR u.host n ⟨[],0,u.path,u.query,u.frag,u.hq,u.hf⟩=u:=by
  obtain⟨a,b,c,d,e,f,g⟩:=u
  simp only at hn
  subst hn;rfl
 rw[hu]
 unfold webF
 rw[if_neg (by omega)]
 simp;omega
theorem CanW.valid {u:UrlP} (h:CanW u):zcU u=true:=by
 unfold zcU
 rw[h.back];simp
theorem zgY (s:List UInt8) (h:(zaw s).2.ha=true):(zaw s).2.path=[]∨∃r,(zaw s).2.path=47::r:=by
 unfold zaw at h ⊢
 split at h
 ·cases h
 ·rename_i h1
  split at h
  ·cases h
  ·rename_i h2
   rw[if_neg h1,if_neg h2]
   simp only at h ⊢
   unfold zbC
   rw[if_pos h]
   have ea:zbh (zd9 s)=zau ((zd9 s).drop 2):=by unfold zbh;rw[if_pos h]
   rw[ea]
   generalize (zd9 s).drop 2=l
   unfold zau
   rcases zbs 47 l with ⟨_,h3,_⟩|⟨k,_,hk,h3,h4⟩
   ·rw[h3];left;simp
   ·rw[h3];right
    have e:(l.take k).length=k:=by rw[List.length_take];omega
    simp only[e]
    rw[List.drop_eq_getElem_cons hk]
    rw[List.getElem?_eq_getElem hk] at h4
    injection h4 with h4
    exact⟨_,by rw[h4]⟩
theorem CanW.of {s:List UInt8} {u:UrlP} (h:zfj s=(0,u)):CanW u:=by
 unfold zfj at h
 split at h
 ·injection h with h1 _;cases h1
 ·split at h
  ·rename_i h1;injection h with h2 _;exact absurd h2 h1
  ·rename_i h0 h1
   simp only[Decidable.not_not] at h1
   have hj:=zh5 s h1
   have hpf:=zgY s
   have hqq:(zaw s).2.hq=false→(zaw s).2.query=[]:=by
    unfold zaw
    split
    ·intro _;rfl
    ·split
     ·intro _;rfl
     ·intro h1;simp only at h1 ⊢;exact((zcc 63 _).2.2 h1).2
   have hff:(zaw s).2.hf=false→(zaw s).2.frag=[]:=by
    unfold zaw
    split
    ·intro _;rfl
    ·split
     ·intro _;rfl
     ·intro h1;simp only at h1 ⊢;exact((zcc 35 _).2.2 h1).2
   generalize (zaw s).2=p at *
   unfold webO at h
   split at h
   ·rename_i h2;injection h with h3 _;exact absurd h3 h2
   ·rename_i h2
    simp only[Decidable.not_not] at h2
    split at h
    ·rename_i h3;injection h with h4 _;exact absurd h4 h3
    ·rename_i h3
     simp only[Decidable.not_not] at h3
     unfold webF at h
     split at h
     ·injection h with h4 _;cases h4
     ·rename_i h4
      injection h with _ h
      subst h
      have ho:p.ha=true∧hpE p.auth=(0,(zay p).2.1,(zay p).2.2):=by
       unfold zay at h2 ⊢
       split at h2
       ·cases h2
       ·rename_i g1;rw[if_neg g1]
        split at h2
        ·cases h2
        ·rename_i g2;rw[if_neg g2]
         split at h2
         ·cases h2
         ·rename_i g3;rw[if_neg g3]
          split at h2
          ·cases h2
          ·rename_i g4;rw[if_neg g4]
           exact⟨by simpa using g3,by rw[←h2]⟩
      obtain⟨k1,k2,k3,_,_⟩:=zjd ho.2
      have hr:(zaj p.path zap).1=0∧(zaj p.query zag).1=0∧(zaj p.frag zag).1=0∧(zb9 p).2=⟨[],0,zcD (zaj p.path zap).2,(zaj p.query zag).2,(zaj p.frag zag).2,p.hq,p.hf⟩:=by
       unfold zb9 at h3 ⊢
       split at h3
       ·rename_i g;exact absurd h3 g
       ·rename_i g1;rw[if_neg g1]
        split at h3
        ·rename_i g;exact absurd h3 g
        ·rename_i g2;rw[if_neg g2]
         split at h3
         ·rename_i g;exact absurd h3 g
         ·rename_i g3;rw[if_neg g3]
          exact⟨by simpa using g1,by simpa using g2,by simpa using g3,rfl⟩
      obtain⟨r1,r2,r3,r4⟩:=hr
      rw[r4] at h4 ⊢
      have e2:zaj p.query zag=(0,(zaj p.query zag).2):=by rw[←r2]
      have e3:zaj p.frag zag=(0,(zaj p.frag zag).2):=by rw[←r3]
      refine⟨k1,⟨(zay p).2.2,rfl,k2,k3⟩,zn7 p.path (hpf ho.1) r1,(zbJ _ _ _ e2).1,(zbJ _ _ _ e3).1,?_,?_,by omega⟩
      ·intro hq
       show (zaj p.query zag).2=[]
       rw[hqq hq];rfl
      ·intro hf
       show (zaj p.frag zag).2=[]
       rw[hff hf];rfl
theorem CanW.rel {b u:UrlP} (hb:CanW b) (hu:CanW u):relW b (zcA u)=(0,u):=by
 unfold relW
 rw[hb.valid,hu.split]
 have hres:zgH (zaw (zcA b)).2 (zdx u)=zdx u:=by
  unfold zgH
  rw[if_pos (show (zdx u).hs=true from rfl)]
  show ({ zdx u with path:=zaV u.path }:UriP)=zdx u
  rw[hu.path.dots];rfl
 simp only
 rw[hres,zf7,hu.back]
 have e1:eqL (zdx u).scheme zct=true:=by show eqL zct zct=true;decide
 rw[e1];simp
end Go.Proofs.YtnnipcgblooemaaGreatDoor
namespace Go.Proofs.YtnnipcgblooemaaGreatDoor
def zei:List UInt8:=[119,101,98]
def zhP:List UInt8:=[100,105,100,46,106,115,111,110]
def wkD:List UInt8:=[46,119,101,108,108,45,107,110,111,119,110]
def wkP:List UInt8:=47::(wkD++47::zhP)
def dwA (m i:List UInt8):Int×List UInt8×Nat :=
 if m≠zei then (100,[],0)
 else if (zca (zbo m i)).1≠0 then ((zca (zbo m i)).1,[],0)
 else hpE (zaR (zar 58 i).1).2
def okS (x:List UInt8):Bool:=!(decide ((zaR x).2=[])||decide ((zaR x).2=[46])||decide ((zaR x).2=[46,46]))
def segF (x:List UInt8):List UInt8:=47::zbX (zaR x).2 []
def zcy (l:List (List UInt8)):List UInt8:=l.flatMap segF
def zfA (l:List (List UInt8)):List UInt8:=if l=[] then wkP else zcy l++47::zhP
def toU (m i:List UInt8):UrlP:=⟨(dwA m i).2.1,(dwA m i).2.2,zfA (zah 58 i).tail,[],[],false,false⟩
def toE (m i:List UInt8):Int×UrlP :=
 if (dwA m i).1≠0 then ((dwA m i).1,zdt)
 else if (zah 58 i).tail.all okS=false then (110,zdt)
 else if 4096<(zcA (toU m i)).length then (5,zdt)
 else (0,toU m i)
def okI (x:List UInt8):Bool:=decide ((zaj x []).1=0)&&!decide (x=[])
def zk0 (x:List UInt8):List UInt8:=58::zcO (zaj x []).2
def zcY (l:List (List UInt8)):List UInt8:=l.flatMap zk0
def hpI (h:List UInt8) (p:Int):List UInt8:=if p=0 then h else h++([37,51,65]++Lib.itoa p)
def zdv (u:UrlP):List (List UInt8):=(zah 47 u.path).tail
def zeP (u:UrlP):List UInt8:=hpI u.host u.port++(if u.path=wkP then [] else zcY (zdv u).dropLast)
def zdq (u:UrlP):Int×List UInt8×List UInt8 :=
 if zcU u=false then (8,[],[])
 else if u.hq=true∨u.hf=true∨¬(zdv u).getLastD []=zhP then (6,[],[])
 else if ¬u.path=wkP∧((zdv u).dropLast=[]∨(zdv u).dropLast.all okI=false) then (110,[],[])
 else if 4096<(zbo zei (zeP u)).length then (5,[],[])
 else (0,zei,zeP u)
def ze1 (m i:List UInt8):Int×List UInt8×List UInt8:=if (toE m i).1≠0 then ((toE m i).1,[],[]) else zdq (toE m i).2
def upB (c:UInt8):Bool:=zav c||c==37
theorem zdm (c:UInt8) (d k:List UInt8):zbX (c::d) k=(if zaT c k=true then [c] else zc5 c)++zbX d k:=by simp[zbX]
theorem up256:∀n:Fin 256,(zbn (UInt8.ofNat n.val)=true→zav (UInt8.ofNat n.val)=true)∧(zav (UInt8.ofNat n.val)=true→UInt8.ofNat n.val≠37∧UInt8.ofNat n.val≠47):=by decide +kernel
theorem ziI (c:UInt8):(zbn c=true→zav c=true)∧(zav c=true→c≠37∧c≠47):=by
 have:=up256 ⟨c.toNat,UInt8.toNat_lt c⟩
 simpa using this
theorem zln (also:List UInt8):∀(n:Nat) (l out:List UInt8),l.length≤n→l.all upB=true→(dcL l).1=0→rwS (zcb also) 0 l out=(0,out++zbX (dcL l).2 []):=by
 intro n
 induction n with
 | zero=>
  intro l out hl _ _
  obtain rfl:l=[]:=List.eq_nil_of_length_eq_zero (by omega)
  simp[rwS,dcL,zbX]
 | succ n ih=>
  intro l out hl hb hd
  cases l with
  | nil=>simp[rwS,dcL,zbX]
  | cons c t=>
   simp only[List.length_cons] at hl
   by_cases hc:c=37
   ·subst hc
    rcases he:zbt (37::t) with _|_
    ·rw[zgc he] at hd;exact absurd hd (by decide)
    ·obtain⟨a,b,r,rfl⟩:=zbK he
     have hd':(dcL r).1=0:=by rw[←(zec he).1];exact hd
     have hb':r.all upB=true:=by
      simp only[List.all_cons,Bool.and_eq_true] at hb
      exact hb.2.2.2
     rw[(zec he).2 hd',zdm,zcG]
     rcases hu:zav (zcn (37::a::b::r)) with _|_
     ·rw[rwS,if_pos rfl,if_pos he,zcM hu,if_pos rfl,zbH]
      have:=ih r (out++zc5 (zcn (37::a::b::r))) (by simp at hl;omega) hb' hd'
      show rwS (zcb also) 0 r _=_
      rw[this]
      simp
     ·rw[rwS,if_pos rfl,if_pos he,za1 (by rw[hu];rfl) (za8 hu),if_pos rfl,zbH]
      have:=ih r (out++[zcn (37::a::b::r)]) (by simp at hl;omega) hb' hd'
      show rwS (zcb also) 0 r _=_
      rw[this]
      simp
   ·simp only[List.all_cons,Bool.and_eq_true] at hb
    have hu:zav c=true:=by
     have:=hb.1
     unfold upB at this
     rw[Bool.or_eq_true] at this
     rcases this with h|h
     ·exact h
     ·exact absurd (by simpa using h) hc
    have hd':(dcL t).1=0:=by rw[←(zdG hc).1];exact hd
    rw[(zdG hc).2 hd',zdm,zcG,hu,if_pos rfl]
    rw[rwS,if_neg hc,za1 rfl (za8 hu),if_pos rfl]
    have:=ih t (out++[c]) (by omega) hb.2 hd'
    show rwS (zcb also) 0 t _=_
    rw[this]
    simp
theorem zcH {l:List UInt8} (hl:l.length≤16384):(zaj l []).1=0↔(zaR l).1=0∧l.all upB=true:=by
 constructor
 ·intro h
  have e:zaj l []=(0,(zaj l []).2):=by rw[←h]
  obtain⟨a,h1,_⟩:=(zbJ _ _ _ e).2.1
  refine⟨by rw[h1],?_⟩
  rw[List.all_eq_true]
  intro c hc
  have:=List.all_eq_true.1 (zil e) c hc
  unfold okB at this
  rw[zcG] at this
  unfold upB
  simp only[Bool.or_eq_true] at this ⊢
  rcases this with (h|h)|h
  ·exact .inr h
  ·exact .inl ((ziI c).1 h)
  ·exact .inl h
 ·rintro⟨h1,h2⟩
  rw[zbW hl] at h1
  have:=zln [] l.length l [] (Nat.le_refl _) h2 h1
  unfold zaj zfk
  rw[if_neg (by omega),this]
theorem zhp {l:List UInt8} (h:(zaj l []).1=0):(zaj l []).2=zbX (zaR l).2 []:=by
 have e:zaj l []=(0,(zaj l []).2):=by rw[←h]
 have hl:=zeM e
 obtain⟨h1,h2⟩:=(zcH hl).1 h
 have:=zln [] l.length l [] (Nat.le_refl _) h2 (by rw[←zbW hl];exact h1)
 unfold zaj zfk
 rw[if_neg (by omega),this,zbW hl];rfl
theorem zfS:∀d:List UInt8,zcO (zbX d [])=zbf d
 | []=>rfl
 | c::d=>by
  rw[zdm,zcX,zfS d,zcG,zix,zcu]
theorem zjq:∀d:List UInt8,dcL (zbX d [])=(0,d)
 | []=>rfl
 | c::d=>by
  have ih:=zjq d
  rw[zdm,zcG]
  by_cases h:zav c=true
  ·rw[if_pos h]
   have d1:=zdG (c:=c) (t:=zbX d []) ((ziI c).2 h).1
   rw[ih] at d1
   have e2:=d1.2 rfl
   show dcL (c::zbX d [])=_
   have:dcL (c::zbX d [])=((dcL (c::zbX d [])).1,(dcL (c::zbX d [])).2):=rfl
   rw[this,d1.1,e2]
  ·rw[if_neg h]
   have he:=zlE c (zbX d [])
   have d1:=zec (a:=zdp (c.toNat / 16)) (b:=zdp (c.toNat % 16)) (r:=zbX d []) he.1
   have e:zc5 c++zbX d []=37::zdp (c.toNat / 16)::zdp (c.toNat % 16)::zbX d []:=rfl
   rw[e]
   rw[ih] at d1
   have e2:=d1.2 rfl
   have hv:zcn (37::zdp (c.toNat / 16)::zdp (c.toNat % 16)::zbX d [])=c:=he.2
   rw[hv] at e2
   have:dcL (37::zdp (c.toNat / 16)::zdp (c.toNat % 16)::zbX d [])=((dcL (37::zdp (c.toNat / 16)::zdp (c.toNat % 16)::zbX d [])).1,(dcL (37::zdp (c.toNat / 16)::zdp (c.toNat % 16)::zbX d [])).2):=rfl
   rw[this,d1.1,e2]
theorem Cn.enc (keep:List UInt8):∀d:List UInt8,Cn keep (zbX d [])
 | []=>Cn.nil keep
 | c::d=>by
  rw[zdm,zcG]
  by_cases h:zav c=true
  ·rw[if_pos h]
   exact(Cn.one (za8 h)).append (Cn.enc keep d)
  ·rw[if_neg h]
   exact Cn.append (fun o r'=>zft _ _ _ _ _ (zcM (by simpa using h))) (Cn.enc keep d)
theorem znc:∀d:List UInt8,(47:UInt8)∉zbX d []
 | []=>by simp[zbX]
 | c::d=>by
  rw[zdm,zcG,List.mem_append,not_or]
  refine⟨?_,znc d⟩
  by_cases h:zav c=true
  ·rw[if_pos h]
   simpa using fun e=>((ziI c).2 h).2 e.symm
  ·rw[if_neg h];exact zkE c
theorem zq1 (d:List UInt8):d.length≤(zbX d []).length:=by
 induction d with
 | nil=>simp[zbX]
 | cons c d ih=>
  rw[zdm,List.length_append,List.length_cons]
  split
  ·simp;omega
  ·rw[zeR];omega
theorem ziO {x:List UInt8} (hc:Cn zap x) (hl:x.length≤16384) (hu:x.all upB=true):(zaR x).1=0∧zbX (zaR x).2 []=x:=by
 have hn:=hc.norm hl
 obtain⟨a,h1,_⟩:=(zbJ _ _ _ hn).2.1
 have hd:(zaR x).1=0:=by rw[h1]
 refine⟨hd,?_⟩
 have h2:=zln zap x.length x [] (Nat.le_refl _) hu (by rw[←zbW hl];exact hd)
 have h3:=hc [] []
 simp only[List.append_nil,List.nil_append] at h3 h2
 rw[h2] at h3
 have h4:rwS (zcb zap) 0 [] x=(0,x):=by cases x<;>rfl
 rw[h4] at h3
 injection h3 with _ h3
 rw[zbW hl];exact h3
theorem zem:∀(m:List (List UInt8)),(∀x∈m,(47:UInt8)∉x)→zah 47 (jn m)=[]::m
 | [],_=>rfl
 | x::m,h=>by
  have hx:=h x (by simp)
  rw[zb8,zaE,if_pos rfl]
  congr 1
  have ih:=zem m (fun y hy=>h y (by simp[hy]))
  cases m with
  | nil=>rw[zkr,List.append_nil,zaX,zb3 47 x hx];simp
  | cons y m=>
   rw[zb8] at ih ⊢
   rw[zaE,if_pos rfl] at ih
   injection ih with _ ih
   rw[zaX,zaS 47 x _ hx,if_pos rfl,ih]
theorem zfl {u:UrlP} (h:zcU u=true):CanW u:=by
 unfold zcU at h
 simp only[Bool.and_eq_true,decide_eq_true_eq] at h
 exact CanW.of (s:=zcA u) (Prod.ext h.1 h.2)
theorem zq4 {m i:List UInt8} {h:List UInt8} {n:Nat} (hd:dwA m i=(0,h,n)):m=zei∧idE i=(0,(idE i).2)∧(zbo m i).length≤4096∧hpE (zaR (zar 58 i).1).2=(0,h,n):=by
 unfold dwA at hd
 split at hd
 ·injection hd with h1 _;cases h1
 ·rename_i g1
  simp only[ne_eq,Decidable.not_not] at g1
  split at hd
  ·rename_i g2;injection hd with h1 _;exact absurd h1 g2
  ·rename_i g2
   simp only[ne_eq,Decidable.not_not] at g2
   have e:zca (zbo m i)=(0,(zca (zbo m i)).2.1,(zca (zbo m i)).2.2):=by rw[←g2]
   obtain⟨k1,l,k2,k3,k4⟩:=znt e
   refine⟨g1,?_,k4,hd⟩
   have hml:(zca (zbo m i)).2.1=m∧l=i:=by
    have hm:zbP m=true:=by rw[g1];decide
    have h58:∀{m:List UInt8},zbP m=true→(58:UInt8)∉m:=fun hm=>by
     unfold zbP at hm
     simp only[Bool.and_eq_true] at hm
     exact zgn (fun x hx=>(zd7 x).1 (List.all_eq_true.1 hm.1 x hx)) (by decide)
    have c1:=zaS 58 m i (h58 hm)
    have c2:=zaS 58 _ l (h58 k1)
    have e1:(zbo m i).drop 4=m++58::i:=by simp[zbo,zbF]
    have e2:(zbo (zca (zbo m i)).2.1 l).drop 4=(zca (zbo m i)).2.1++58::l:=by simp[zbo,zbF]
    rw[←e1,k2,e2,c2] at c1
    injection c1 with c1 c3
    injection c3 with c3 _
    exact⟨c1,c3⟩
   rw[←hml.2,k3]
theorem zly {i:List UInt8} (h:idE i=(0,(idE i).2)) (hl:i.length≤16384):(∀q∈zah 58 i,(zaR q).1=0∧q.length≤i.length):=by
 obtain⟨p,ps,hs⟩:=zaG 58 i
 have hp:=zev i p ps hl hs
 intro q hq
 refine⟨?_,zc2 58 i q hq⟩
 rw[h] at hp
 split at hp
 ·cases hp
 ·rename_i g1
  simp only[Decidable.not_not] at g1
  rw[hs] at hq
  exact g1 q hq
theorem zhC (c:UInt8) (l:List UInt8):(zar c l).1=(zah c l).headD []:=by
 rw[zaX]
 split
 ·rfl
 ·rename_i h
  exact((zcc c l).2.2 (by simpa using h)).1
theorem cut_mem (c:UInt8) (l:List UInt8):(zar c l).1∈zah c l:=by
 rw[zhC]
 obtain⟨p,ps,e⟩:=zaG c l
 rw[e];simp
theorem zjh {m i:List UInt8} (h1:m=zei) (h2:(zca (zbo m i)).1=0):(zaR (zar 58 i).1).1=0∧(∀q∈zah 58 i,(zaR q).1=0):=by
 have e:zca (zbo m i)=(0,(zca (zbo m i)).2.1,(zca (zbo m i)).2.2):=by rw[←h2]
 have key:idE i=(0,(idE i).2)∧(zbo m i).length≤4096:=by
  have hx:dwA m i=((dwA m i).1,(dwA m i).2.1,(dwA m i).2.2):=rfl
  obtain⟨k1,l,k2,k3,k4⟩:=znt e
  refine⟨?_,k4⟩
  have hm:zbP m=true:=by rw[h1];decide
  have h58:∀{m:List UInt8},zbP m=true→(58:UInt8)∉m:=fun hm=>by
   unfold zbP at hm
   simp only[Bool.and_eq_true] at hm
   exact zgn (fun x hx=>(zd7 x).1 (List.all_eq_true.1 hm.1 x hx)) (by decide)
  have c1:=zaS 58 m i (h58 hm)
  have c2:=zaS 58 _ l (h58 k1)
  have e1:(zbo m i).drop 4=m++58::i:=by simp[zbo,zbF]
  have e2:(zbo (zca (zbo m i)).2.1 l).drop 4=(zca (zbo m i)).2.1++58::l:=by simp[zbo,zbF]
  rw[←e1,k2,e2,c2] at c1
  injection c1 with c1 c3
  injection c3 with c3 _
  rw[←c3,k3]
 have hl:i.length≤(zbo m i).length:=by simp[zbo];omega
 have:=zly key.1 (by omega)
 exact⟨(this _ (cut_mem 58 i)).1,fun q hq=>(this q hq).1⟩
theorem idb256:∀n:Fin 256,((UInt8.ofNat n.val=46∨lbB (UInt8.ofNat n.val)=true)→idB (UInt8.ofNat n.val)=true)∧(zal (UInt8.ofNat n.val)=true→idB (UInt8.ofNat n.val)=true∧UInt8.ofNat n.val≠58):=by decide +kernel
theorem zkv (c:UInt8):((c=46∨lbB c=true)→idB c=true)∧(zal c=true→idB c=true∧c≠58):=by
 have:=idb256 ⟨c.toNat,UInt8.toNat_lt c⟩
 simp only[UInt8.ofNat_toNat] at this
 exact this
theorem zeQ:∀l:List UInt8,(∀c∈l,idB c=true)→zbf l=l
 | [],_=>rfl
 | c::l,h=>by
  rw[zcu,if_pos (h c (by simp)),zeQ l (fun x hx=>h x (by simp[hx]))];rfl
theorem zhA (a b:List UInt8):zbf (a++b)=zbf a++zbf b:=by simp[zbf]
theorem zey (l:List UInt8):(zbf l).length≤3*l.length:=by
 induction l with
 | nil=>simp[zbf]
 | cons c l ih=>
  rw[zcu,List.length_append,List.length_cons]
  split
  ·simp;omega
  ·rw[zeR];omega
theorem zm3 {h:List UInt8} {n:Nat} (hh:zaL h=(0,h)):zbf (zjf h n)=hpI h n:=by
 have hb:∀c∈h,idB c=true:=fun c hc=>(zkv c).1 (zf9 (by rw[hh]) c hc)
 unfold zjf hpI
 by_cases h0:(n:Int)=0
 ·rw[if_pos h0,if_pos h0,zeQ h hb]
 ·rw[if_neg h0,if_neg h0,zhA,zhA,zeQ h hb,zi9,zeQ (Lib.decDigits n) (fun c hc=>((zkv c).2 (List.all_eq_true.1 (zlJ n n (Nat.le_refl _)).1 c hc)).1)]
  have:zbf [58]=[37,51,65]:=by decide
  rw[this];simp
theorem zqP (h:List UInt8) (p:Int) (h0:-9223372036854775808≤p) (h1:p≤9223372036854775807):(hpI h p).length≤h.length+24:=by
 have:=Lib.itoa_length_le p h0 h1
 unfold hpI
 split
 ·omega
 ·simp only[List.length_append,List.length_cons,List.length_nil];omega
theorem zg4:∀l:List (List UInt8),l.all okI=true→zcY l=js (l.map fun x=>zbf (zaR x).2)
 | [],_=>rfl
 | x::l,h=>by
  simp only[List.all_cons,Bool.and_eq_true] at h
  have ih:=zg4 l h.2
  unfold zcY js at ih ⊢
  rw[List.flatMap_cons,ih,List.map_cons,List.flatMap_cons]
  have hx:=h.1
  unfold okI at hx
  simp only[Bool.and_eq_true,decide_eq_true_eq] at hx
  show zk0 x++_=(58::zbf (zaR x).2)++_
  unfold zk0
  rw[zhp hx.1,zfS]
theorem zmU {h:List UInt8} (hh:zaL h=(0,h)):h≠[]:=by
 rintro rfl
 exact absurd hh (by decide)
theorem idE_of {hp:List UInt8} {d:List UInt8} (ds:List (List UInt8)) (h1:hp=zbf d) (h2:hp≠[]) (h3:∀q∈ds,q≠[]) (hl:(hp++js (ds.map zbf)).length≤16384):idE (hp++js (ds.map zbf))=(0,hp++js (ds.map zbf)):=by
 subst h1
 have hs:zah 58 (zbf d++js (ds.map zbf))=zbf d::ds.map zbf:=zgF _ _ (zdV _) (fun x hx=>by
  obtain⟨q,_,rfl⟩:=List.mem_map.1 hx
  exact zdV _)
 have hlen:∀q∈d::ds,(zbf q).length≤16384:=by
  intro q hq
  rw[List.length_append] at hl
  rcases List.mem_cons.1 hq with rfl|hq
  ·omega
  ·have:=zf6 (ds.map zbf) (zbf q) (List.mem_map_of_mem hq)
   omega
 have hdec:∀q∈d::ds,zaR (zbf q)=(0,q):=fun q hq=>by rw[zbW (hlen q hq),zeT]
 rw[zev _ (zbf d) (ds.map zbf) hl hs]
 have c1:∀q∈zbf d::ds.map zbf,(zaR q).1=0:=by
  intro q hq
  have:q∈(d::ds).map zbf:=hq
  obtain⟨q',k1,rfl⟩:=List.mem_map.1 this
  rw[hdec q' k1]
 have c2:(zbf d::ds.map zbf).all (fun q=>q.all ppB)=true:=by
  rw[List.all_eq_true]
  intro q hq
  have:q∈(d::ds).map zbf:=hq
  obtain⟨q',k1,rfl⟩:=List.mem_map.1 this
  exact zm8 _
 have c3:¬(zbf d::ds.map zbf).getLastD []=[]:=by
  intro e
  have e2:=zex zbf d ds
  rw[List.map_cons] at e2
  rw[e2,zm9] at e
  rcases List.eq_nil_or_concat ds with rfl|⟨l',z,rfl⟩
  ·rw[show ([d]:List (List UInt8)).getLastD []=d from rfl] at e
   exact h2 (by rw[e];rfl)
  ·rw[List.concat_eq_append] at e h3
   have:(d::(l'++[z])).getLastD []=z:=by
    show ((d::l')++[z]).getLastD []=z
    simp only[List.getLastD_eq_getLast?,List.getLast?_append,List.getLast?_singleton];rfl
   rw[this] at e
   exact h3 z (by simp) e
 rw[if_neg (by simpa using c1),if_neg (by rw[c2];simp),if_neg c3]
 have e1:zbG (zbf d)=zbf d:=by unfold zbG;rw[hdec d (by simp)]
 have e2:jnc (ds.map zbf)=js (ds.map zbf):=by
  rw[zkq,List.map_map]
  congr 1
  apply List.map_congr_left
  intro q hq
  show zbG (zbf q)=zbf q
  unfold zbG;rw[hdec q (by simp[hq])]
 rw[e1,e2]
theorem zjG {m:List (List UInt8)} (hm:m≠[]) {z:List UInt8} (h:m.getLastD []=z):m=m.dropLast++[z]:=by
 rcases List.eq_nil_or_concat m with rfl|⟨l',y,rfl⟩
 ·exact absurd rfl hm
 ·rw[List.concat_eq_append] at h ⊢
  have:(l'++[y]).getLastD []=y:=by simp[List.getLastD_eq_getLast?]
  rw[this] at h
  subst h
  simp
theorem zes (a b:List (List UInt8)):jn (a++b)=jn a++jn b:=by simp[jn]
theorem zoI {l:List (List UInt8)}:zfA l=(if l=[] then wkP else zcy l++47::zhP):=rfl
theorem from_to {u:UrlP} {i:List UInt8} (h:zdq u=(0,zei,i)):toE zei i=(0,u):=by
 unfold zdq at h
 split at h
 ·cases h
 ·rename_i g1
  simp only[Bool.not_eq_false] at g1
  split at h
  ·cases h
  ·rename_i g2
   simp only[not_or,Bool.not_eq_true,Decidable.not_not] at g2
   obtain⟨gq,gf,gl⟩:=g2
   split at h
   ·cases h
   ·rename_i g3
    split at h
    ·cases h
    ·rename_i g4
     injection h with _ h
     injection h with _ h
     subst h
     have hc:=zfl g1
     obtain⟨n,hn,hn1,hn2⟩:=hc.port
     obtain⟨m,hm,hms,hp⟩:=hc.path
     have hsp:zdv u=m:=by
      unfold zdv
      rw[hp,zem m (fun x hx=>(hms x hx).1.1)];rfl
     rw[hsp] at gl g3
     have hml:=zjG hm gl
     have hplen:∀x∈m,x.length≤4096:=by
      intro x hx
      have h1:=zb2 u
      have h2:=hc.len
      have h3:x.length≤(jn m).length:=by
       obtain⟨a,b,rfl⟩:=List.append_of_mem hx
       rw[zes,zb8];simp;omega
      rw[hp] at h1
      omega
     have hE:=zm3 (h:=u.host) (n:=n) hc.host
     have key:∃segs:List (List UInt8),zeP u=hpI u.host n++js ((segs.map fun x=>(zaR x).2).map zbf)∧segs.all okI=true∧(∀x∈segs,x∈m)∧zfA (segs.map fun x=>zbf (zaR x).2)=u.path:=by
      by_cases hw:u.path=wkP
      ·refine⟨[],?_,rfl,by simp,?_⟩
       ·unfold zeP;rw[if_pos hw,hn];rfl
       ·rw[hw];rfl
      ·have g3':¬m.dropLast=[]∧m.dropLast.all okI=true:=by
        refine⟨fun e=>g3 ⟨hw,.inl e⟩,?_⟩
        cases e:m.dropLast.all okI with
        | true=>rfl
        | false=>exact absurd ⟨hw,.inr e⟩ g3
       refine⟨m.dropLast,?_,g3'.2,fun x hx=>List.dropLast_subset m hx,?_⟩
       ·unfold zeP
        rw[if_neg hw,hn,hsp,zg4 _ g3'.2,List.map_map];rfl
       ·rw[zoI,if_neg (by rw[List.map_eq_nil_iff];exact g3'.1),hp]
        conv=>rhs;rw[hml,zes]
        have:∀l:List (List UInt8),l.all okI=true→(∀x∈l,x∈m)→zcy (l.map fun x=>zbf (zaR x).2)=jn l:=by
         intro l
         induction l with
         | nil=>intro _ _;rfl
         | cons x l ih=>
          intro ha hb
          simp only[List.all_cons,Bool.and_eq_true] at ha
          have ih:=ih ha.2 (fun y hy=>hb y (by simp[hy]))
          have hx:=ha.1
          unfold okI at hx
          simp only[Bool.and_eq_true,decide_eq_true_eq] at hx
          have hxl:=hplen x (hb x (by simp))
          have hup:=((zcH (l:=x) (by omega)).1 hx.1).2
          have hse:=(ziO (hms x (hb x (by simp))).2 (by omega) hup).2
          unfold zcy at ih ⊢
          rw[List.map_cons,List.flatMap_cons,ih,zb8]
          unfold segF
          have hel:(zbf (zaR x).2).length≤16384:=by
           have k1:=zey (zaR x).2
           have k2:=zq1 (zaR x).2
           rw[hse] at k2
           omega
          rw[zbW hel,zeT]
          simp only
          rw[hse];rfl
        rw[this m.dropLast g3'.2 (fun x hx=>List.dropLast_subset m hx)]
        simp[jn]
     obtain⟨segs,hid,hok,hmem,hpath⟩:=key
     have hdn:∀x∈segs,(zaR x).2≠[]∧zbX (zaR x).2 []=x∧x.length≤4096:=by
      intro x hx
      have h1:=List.all_eq_true.1 hok x hx
      unfold okI at h1
      simp only[Bool.and_eq_true,decide_eq_true_eq,Bool.not_eq_true',decide_eq_false_iff_not] at h1
      have hxl:=hplen x (hmem x hx)
      have hup:=((zcH (l:=x) (by omega)).1 h1.1).2
      have hse:=(ziO (hms x (hmem x hx)).2 (by omega) hup).2
      refine⟨fun e=>h1.2 ?_,hse,hxl⟩
      rw[e] at hse
      rw[←hse];rfl
     have hil:(zeP u).length≤4096:=by
      have:(zbo zei (zeP u)).length=(zeP u).length+8:=by simp[zbo,zbF,zei]
      omega
     have hne:hpI u.host n≠[]:=by
      have:=zmU hc.host
      unfold hpI
      split
      ·exact this
      ·simp[this]
     have hie:idE (zeP u)=(0,zeP u):=by
      rw[hid]
      refine idE_of (d:=zjf u.host n) _ hE.symm hne ?_ (by rw[←hid];omega)
      intro q hq
      obtain⟨x,hx,rfl⟩:=List.mem_map.1 hq
      exact(hdn x hx).1
     have hdid:zca (zbo zei (zeP u))=(0,zei,zeP u):=zlH (by decide) hie (by omega)
     have h58:(58:UInt8)∉hpI u.host n:=by rw[←hE];exact zdV _
     have hsplit:zah 58 (zeP u)=hpI u.host n::(segs.map fun x=>(zaR x).2).map zbf:=by
      rw[hid]
      exact zgF _ _ h58 (fun x hx=>by
       obtain⟨q,_,rfl⟩:=List.mem_map.1 hx
       exact zdV _)
     have hdw:dwA zei (zeP u)=(0,u.host,n):=by
      unfold dwA
      rw[if_neg (by simp),hdid,if_neg (by simp),zhC,hsplit]
      show hpE (zaR (hpI u.host n)).2=_
      have hl2:(hpI u.host n).length≤16384:=by
       rw[hid,List.length_append] at hil
       omega
      rw[zbW hl2,←hE,zeT]
      exact hp_fmt hc.host hn1 hn2
     have htl:(zah 58 (zeP u)).tail=segs.map fun x=>zbf (zaR x).2:=by
      rw[hsplit,List.tail_cons,List.map_map];rfl
     have hU:toU zei (zeP u)=u:=by
      unfold toU
      rw[hdw,htl,hpath]
      have e1:=hc.noq gq
      have e2:=hc.nof gf
      cases u
      simp only at hn gq gf e1 e2 ⊢
      rw[hn,gq,gf,e1,e2]
     have hall:(zah 58 (zeP u)).tail.all okS=true:=by
      rw[htl,List.all_map,List.all_eq_true]
      intro x hx
      obtain⟨k1,k2,k3⟩:=hdn x hx
      show okS (zbf (zaR x).2)=true
      have hel:(zbf (zaR x).2).length≤16384:=by
       have k4:=zey (zaR x).2
       have k5:=zq1 (zaR x).2
       rw[k2] at k5
       omega
      unfold okS
      rw[zbW hel,zeT]
      simp only
      have hs:=(hms x (hmem x hx)).1
      have n1:¬(zaR x).2=[46]:=fun e=>hs.2.1 (by rw[←k2,e];decide)
      have n2:¬(zaR x).2=[46,46]:=fun e=>hs.2.2 (by rw[←k2,e];decide)
      simp[k1,n1,n2]
     have hlen:=hc.len
     unfold toE
     rw[hdw,hall,hU,if_neg (by simp),if_neg (by simp),if_neg (by omega)]
theorem zi2:zgC wkD∧zgC zhP:=by
 refine⟨⟨by decide,by decide,by decide⟩,⟨by decide,by decide,by decide⟩⟩
theorem cn_wk:Cn zap wkD∧Cn zap zhP:=by
 have e1:zbX wkD []=wkD:=by decide
 have e2:zbX zhP []=zhP:=by decide
 exact⟨by have:=Cn.enc zap wkD;rwa [e1] at this,by have:=Cn.enc zap zhP;rwa [e2] at this⟩
theorem segsF_jn (l:List (List UInt8)):zcy l=jn (l.map fun x=>zbX (zaR x).2 []):=by
 unfold zcy jn segF
 rw[List.flatMap_map]
theorem zl0 {m i:List UInt8} {u:UrlP} (h:toE m i=(0,u)):CanW u∧u.hq=false∧u.hf=false∧dwA m i=(0,u.host,(dwA m i).2.2)∧u.port=(dwA m i).2.2∧u=toU m i:=by
 unfold toE at h
 split at h
 ·rename_i g;injection h with h1 _;exact absurd h1 g
 ·rename_i g1
  simp only[Decidable.not_not] at g1
  split at h
  ·cases h
  ·rename_i g2
   simp only[Bool.not_eq_false] at g2
   split at h
   ·cases h
   ·rename_i g3
    injection h with _ h
    subst h
    have hd:dwA m i=(0,(dwA m i).2.1,(dwA m i).2.2):=by rw[←g1]
    obtain⟨k1,k2,k3,k4⟩:=zq4 hd
    obtain⟨a1,a2,a3,_,_⟩:=zjd k4
    refine⟨⟨a1,⟨_,rfl,a2,a3⟩,?_,?_,?_,fun _=>rfl,fun _=>rfl,by omega⟩,rfl,rfl,hd,rfl,rfl⟩
    ·show zhM (zfA (zah 58 i).tail)
     rw[zoI]
     by_cases ht:(zah 58 i).tail=[]
     ·rw[if_pos ht]
      refine⟨[wkD,zhP],by simp,?_,by decide⟩
      intro s hs
      simp only[List.mem_cons,List.not_mem_nil,or_false] at hs
      rcases hs with rfl|rfl
      ·exact⟨zi2.1,cn_wk.1⟩
      ·exact⟨zi2.2,cn_wk.2⟩
     ·rw[if_neg ht]
      refine⟨((zah 58 i).tail.map fun x=>zbX (zaR x).2 [])++[zhP],by simp,?_,?_⟩
      ·intro s hs
       rcases List.mem_append.1 hs with hs|hs
       ·obtain⟨x,hx,rfl⟩:=List.mem_map.1 hs
        have:=List.all_eq_true.1 g2 x hx
        unfold okS at this
        simp only[Bool.not_eq_true',Bool.or_eq_false_iff,decide_eq_false_iff_not] at this
        refine⟨⟨znc _,fun e=>this.1.2 ?_,fun e=>this.2 ?_⟩,Cn.enc _ _⟩
        ·have h1:=zjq (zaR x).2
         rw[e] at h1
         exact congrArg Prod.snd (h1.symm.trans (by decide:dcL [46]=(0,[46])))
        ·have h1:=zjq (zaR x).2
         rw[e] at h1
         exact congrArg Prod.snd (h1.symm.trans (by decide:dcL [46,46]=(0,[46,46])))
       ·simp only[List.mem_cons,List.not_mem_nil,or_false] at hs
        subst hs
        exact⟨zi2.2,cn_wk.2⟩
      ·rw[segsF_jn,zes];simp[jn]
    ·show zaj [] zag=(0,[]);decide
    ·show zaj [] zag=(0,[]);decide
theorem zm0 {u:UrlP} {r:List UInt8×List UInt8} (h:zdq u=(0,r)):r.1=zei∧zdq u=(0,zei,r.2)∧r.2=zeP u:=by
 have h':=h
 unfold zdq at h
 split at h
 ·cases h
 ·split at h
  ·cases h
  ·split at h
   ·cases h
   ·split at h
    ·cases h
    ·injection h with _ h
     subst h
     exact⟨rfl,h',rfl⟩
theorem from_err {u:UrlP} (h:(zdq u).1≠0):(zdq u).2=([],[]):=by
 unfold zdq at h ⊢
 split
 ·rfl
 ·rename_i g1;rw[if_neg g1] at h
  split
  ·rfl
  ·rename_i g2;rw[if_neg g2] at h
   split
   ·rfl
   ·rename_i g3;rw[if_neg g3] at h
    split
    ·rfl
    ·rename_i g4;rw[if_neg g4] at h;exact absurd rfl h
theorem to_err {m i:List UInt8} (h:(toE m i).1≠0):(toE m i).2=zdt:=by
 unfold toE at h ⊢
 split
 ·rfl
 ·rename_i g1;rw[if_neg g1] at h
  split
  ·rfl
  ·rename_i g2;rw[if_neg g2] at h
   split
   ·rfl
   ·rename_i g3;rw[if_neg g3] at h;exact absurd rfl h
theorem can_ok {m i:List UInt8} {r:List UInt8×List UInt8} (h:ze1 m i=(0,r)):toE r.1 r.2=(0,(toE m i).2)∧zdq (toE m i).2=(0,r)∧ze1 r.1 r.2=(0,r)∧(toE m i).1=0∧r.1=zei:=by
 unfold ze1 at h
 split at h
 ·rename_i g;injection h with h1 _;exact absurd h1 g
 ·rename_i g
  simp only[Decidable.not_not] at g
  obtain⟨k1,k2,_⟩:=zm0 h
  have h3:=from_to k2
  have h4:toE r.1 r.2=(0,(toE m i).2):=by rw[k1];exact h3
  refine⟨h4,h,?_,g,k1⟩
  unfold ze1
  rw[h4,if_neg (by simp)]
  exact h
theorem rwD_len:∀(n:Nat) (l o:List UInt8),l.length≤n→(rwS zcf 0 l o).2.length≤o.length+l.length:=by
 intro n
 induction n with
 | zero=>
  intro l o hl
  obtain rfl:l=[]:=List.eq_nil_of_length_eq_zero (by omega)
  simp[rwS]
 | succ n ih=>
  intro l o hl
  cases l with
  | nil=>simp[rwS]
  | cons c t=>
   simp only[List.length_cons] at hl
   by_cases hc:c=37
   ·rcases he:zbt (c::t) with _|_
    ·rw[rwS,if_pos hc,if_neg (by rw[he];simp)];simp
    ·obtain⟨a,b,r,rfl⟩:=zbK he
     rw[zo7 hc a b r rfl he]
     have:=ih r (o++[zcn (c::a::b::r)]) (by simp at hl;omega)
     simp at this ⊢;omega
   ·rw[zo6 hc]
    have:=ih t (o++[c]) (by omega)
    simp at this ⊢;omega
theorem zc7 (l:List UInt8):(zaR l).2.length≤l.length:=by
 unfold zaR zfk
 split
 ·simp
 ·have h:=rwD_len l.length l [] (Nat.le_refl _)
  simpa using h
end Go.Proofs.YtnnipcgblooemaaGreatDoor
namespace Go.Proofs.YtnnipcgblooemaaGreatDoor
open Nat renaming reduceAdd → z6, reduceSub → z7, reduceLeDiff → z8, reduceLT → j6, reduceMul → j7, reduceEqDiff → j8
open Int renaming reduceToNat → j9, reduceAdd → x0, reduceSub → x5, reduceMul → x6, reduceNeg → x7, reduceLT → x8, reduceLE → x9, reduceEq → y3, reduceNe → y4
open Go.RowKit Sx
set_option maxHeartbeats 1000000 in
theorem zhZ (b:Nat) (w:World) (h0:w.cell? ⟨b,0,none⟩=some (.pointer (some ⟨b,0,none⟩))) :
  Calls Tryz.prog 202 #[.pointer (some ⟨b,0,none⟩)] w fun e w'=>e=.returned (.tuple #[])∧w'=w:=by
 obtain⟨j,hj,_⟩:=Option.map_eq_some_iff.1 (show ((Tryz.prog).info? 146).map (·.size)=some 2 by kernel_rfl)
 have t1:(Tryz.prog).underlying 144=some (.pointer 146):=by kernel_rfl
 go_enter Tryz.func202,Tryz.ntmps202
 go_wp2
 rw[Lib.run_neq_ptr_same w _ t1 hj]
 go_wp2
 go_end0
 exact⟨rfl,rfl⟩
set_option maxHeartbeats 1000000 in
theorem zhE (T:TypeId) (b:Nat) (w:World) (h0:w.cell? ⟨b,0,none⟩=some (.pointer none)) (hsh:w.shape? b=some (T,2)) (hfz:w.frozen? ⟨b,0,none⟩=false) (hT:liesAt Tryz.prog (Tryz.prog).depth T (2 / (Tryz.prog).cellsOf T) 0 146 1=true) :
  Calls Tryz.prog 202 #[.pointer (some ⟨b,0,none⟩)] w fun e w'=>e=.returned (.tuple #[])∧w'=w.setCell ⟨b,0,none⟩ (.pointer (some ⟨b,0,none⟩)):=by
 obtain⟨j,hj,hjs⟩:=Option.map_eq_some_iff.1 (show ((Tryz.prog).info? 146).map (·.size)=some 2 by kernel_rfl)
 have t1:(Tryz.prog).underlying 144=some (.pointer 146):=by kernel_rfl
 have t2:(Tryz.prog).underlying 193=some .unsafePointer:=by kernel_rfl
 go_enter Tryz.func202,Tryz.ntmps202
 go_wp2
 rw[Lib.run_to_unsafe w ⟨b,0,none⟩ t1 t2 hj (by rw[hjs];decide) hsh (Nat.zero_lt_succ 1)]
 simp only[Result.andThen]
 rw[Oper.upon_value]
 go_wp2
 rw[run_callFunc_extern Tryz.func209 (by kernel_rfl) (by kernel_rfl) (by kernel_rfl) (e:=Extern.AbiNoEscape.same) (by kernel_rfl)]
 rw[Lib.run_noEscape]
 simp only[Result.andThen]
 rw[Oper.upon_value]
 go_wp2
 rw[Lib.run_from_unsafe w ⟨b,0,none⟩ t2 t1 hj hsh hT]
 simp only[Result.andThen]
 rw[Oper.upon_value]
 go_wp2
 go_end0
 exact⟨rfl,rfl⟩
theorem zcC {α:Type} {l:List α} {b:Nat} {x:α} (h:l[b]? = some x):b<l.length:=by
 rcases Nat.lt_or_ge b l.length with h0|h0
 ·exact h0
 ·rw[List.getElem?_eq_none h0] at h;cases h
theorem set_same {α:Type} {l:List α} {b:Nat} {x:α} (h:l[b]? = some x):l.set b x=l:=by
 apply List.ext_getElem?
 intro i
 rw[List.getElem?_set]
 split
 ·rename_i e;subst e;rw[if_pos (zcC h),h]
 ·rfl
theorem MemOk.kill {objs:List OB} {G:Gh} {I:Imm} {w w':World} (h:MemOk G I objs w) (r:Nat) {row:Option Nat} (hrow:∀k,row=some k→G.own r=some k) (hg:w.grownBy w' row):MemOk G I (objs.set r .dead) w':=by
 have hne:∀b g,b≠r→G.own b=some g→some g≠row:=fun b g hb h1 e=>hb (h.inj b r g h1 (hrow g e.symm))
 have hold:∀(b:Nat) ob,(objs.set r .dead)[b]? = some ob→(ob=.dead∨(b≠r∧objs[b]? = some ob)):=by
  intro b ob hb
  rw[List.getElem?_set] at hb
  split at hb
  ·split at hb
   ·injection hb with hb;exact .inl hb.symm
   ·cases hb
  ·rename_i e;exact .inr ⟨fun e'=>e e'.symm,hb⟩
 refine⟨fun g o v hi=>?_,fun b T cs hb=>?_,fun b E sz gen n xs hb=>?_,fun b es hb=>?_,h.inj,fun b g hb=>Nat.lt_of_lt_of_le (h.lt b g hb) hg.size,h.apart,fun b hb=>h.fresh b (by simpa using hb)⟩
 ·rw[←h.imm g o v hi]
  exact zeV (hg.block g (World.block_lt_of_cell? (h:=h.imm g o v hi)) (fun e=>h.apart r g o v (hrow g e.symm) hi))
 ·rcases hold b _ hb with h1|⟨h1,h2⟩
  ·cases h1
  ·obtain⟨g,ys,k1,k2,k3⟩:=h.box b T cs h2
   exact⟨g,ys,k1,(hg.block g (h.lt b g (zaC k1)) (hne b g h1 (zaC k1))).trans k2,k3⟩
 ·rcases hold b _ hb with h1|⟨h1,h2⟩
  ·cases h1
  ·obtain⟨v,ys,k1,k2,k3,k4,k5⟩:=h.row b E sz gen n xs h2
   refine⟨v,ys,k1,World.ownsRow.kept k2 hg ?_,k3,k4,k5⟩
   rcases hv:v.ownBlock with _|g
   ·exact .inl rfl
   ·have:=hne b g h1 (by rw[zbS k5 k1,hv])
    first|exact .inr this|exact .inr (fun e=>this e.symm)
 ·rcases hold b _ hb with h1|⟨h1,h2⟩
  ·cases h1
  ·obtain⟨g,en,ck,k1,k2,k3⟩:=h.map b es h2
   exact⟨g,en,ck,k1,(hg.block g (h.lt b g (zaC k1)) (hne b g h1 (zaC k1))).trans k2,k3⟩
section
variable [Tabs Tryz.prog] {objs:List OB} {K:List OB→AV→Prop}
def BT (T:TypeId):Prop:=liesAt Tryz.prog (Tryz.prog).depth T (2 / (Tryz.prog).cellsOf T) 0 146 1=true
theorem zhD (T:TypeId) (b:Nat) (x y:AV) (hT:BT T) (hb:objs[b]? = some (.box T [x,y])) (hx:x=.o (.pointer none)∨x=.p b 0) (hk:K (objs.set b (.box T [.p b 0,y])) (.tup [])):zad Tryz.prog 202 [.p b 0] objs K:=by
 intro C _ G I w hin hm ys hd
 simp only[zao] at hd
 obtain⟨v,_,rfl,hv,rfl⟩:=hd
 simp only[Den] at hv
 obtain⟨g,hg,rfl⟩:=hv
 obtain⟨g',zs,k1,k2,k3,k4⟩:=hm.box b T _ hb
 obtain rfl:g=g':=Option.some.inj (hg.symm.trans k1)
 simp only[zao] at k3
 obtain⟨z1,_,rfl,d1,z2,_,rfl,d2,rfl⟩:=k3
 have hcell:w.cell? ⟨g,0,none⟩=some z1:=by rw[cell_of_row w g 0 _ T (0,0) k2];rfl
 rcases hx with rfl|rfl
 ·simp only[Den] at d1;subst d1
  refine(zhE T g w hcell (by simp[World.shape?,k2]) (by simp[World.frozen?,k2]) hT).mono ?_
  rintro e w' ⟨rfl,rfl⟩
  obtain⟨s1,s2⟩:=setbox hin hm b g 0 T [.o (.pointer none),y] [.p b 0] [.pointer (some ⟨g,0,none⟩)] hb hg (zao.cons (by simp only[Den];exact⟨g,hg,rfl⟩) zao.nil) (by simp[Value.oneCell']) (by simp)
  exact⟨_,_,.tup [],G,I,rfl,hk,Gh.le.refl G,Imm.le.refl I,s1,s2,by simp only[Den];exact⟨[],rfl,zao.nil⟩⟩
 ·simp only[Den] at d1
  obtain⟨g2,e2,rfl⟩:=d1
  obtain rfl:g=g2:=Option.some.inj (hg.symm.trans e2)
  refine(zhZ g w hcell).mono ?_
  rintro e w' ⟨rfl,rfl⟩
  rw[set_same hb] at hk
  exact⟨_,objs,.tup [],G,I,rfl,hk,Gh.le.refl G,Imm.le.refl I,hin,hm,by simp only[Den];exact⟨[],rfl,zao.nil⟩⟩
end
theorem zeS (w:World):w.grownBy w.drew none:=by
 have h:=Below.drew (Below.refl w.heap.size w)
 exact⟨h.os,h.tape,h.output,h.size,fun k hk _=>h.block k hk⟩
theorem zkz {w w':World} (h:w.grownBy w' none) (g n:Nat):w.grownBy (w'.freeze ⟨g,0,none⟩ n) (some g):=by
 unfold World.freeze
 split
 ·exact⟨h.os,h.tape,h.output,h.size,fun k hk _=>h.block k hk (by simp)⟩
 ·refine⟨h.os,h.tape,h.output,by simpa using h.size,fun k hk hne=>?_⟩
  rw[Array.getElem?_modify,if_neg (by rintro rfl;exact hne rfl)]
  exact h.block k hk (by simp)
theorem zhw {w w':World} (h:w.grownBy w' none) (o:Obj) (row:Option Nat):w.grownBy (w'.alloc o) row :=
 ⟨h.os,h.tape,h.output,by simp;have:=h.size;omega,fun k hk _=>(Below.heap_alloc w' o k (Nat.lt_of_lt_of_le hk h.size)).trans (h.block k hk (by simp))⟩
set_option maxHeartbeats 1000000 in
theorem zkU (b g cap:Nat) (l:List UInt8) (p:Value) (cur:Array Value) (T:TypeId) (w:World) (h0:l≠[]) (hbk:w.heap[b]? = some (.cells #[p,.slice (some ⟨g,0,none⟩) l.length cap] T (0,0))) (hg:w.heap[g]? = some (.cells cur 5 (0,0)))
  (hnc:l.length≤cap) (hcm:cap≤maxLen) (hcs:cur.size=cap) (hcell:∀j x,l[j]? = some x→w.cell? ((⟨g,0,none⟩:Addr).add j)=some (.int .u8 x.toNat)) :
  Calls Tryz.prog 158 #[.pointer (some ⟨b,0,none⟩)] w fun e w'=>e=.returned (.string ⟨l.toArray⟩)∧w.grownBy w' (some g):=by
 have hl0:l.length≠0:=by simpa using h0
 have c1:w.drew.cell? ⟨b,1,none⟩=some (.slice (some ⟨g,0,none⟩) l.length cap):=by
  have:w.drew.heap[b]? = some (.cells #[p,.slice (some ⟨g,0,none⟩) l.length cap] T (0,0)):=hbk
  rw[Lib.cell_of_heap this];rfl
 have hSD:(Builtin.unsafeSliceData_ #[29] 176 #[.slice (some ⟨g,0,none⟩) l.length cap]).run Tryz.prog w.drew=.ok (.pointer (some ⟨g,0,none⟩)) w.drew :=
  Lib.run_unsafeSliceData_row _ _ _ _ _ _ (by omega)
 have hUS:(Builtin.unsafeString_ #[176,3] 9 #[.pointer (some ⟨g,0,none⟩),.int .i64 l.length]).run Tryz.prog w.drew=.ok (.string ⟨l.toArray⟩) (w.drew.freeze ⟨g,0,none⟩ l.length):=by
  refine Lib.run_unsafeString_row w.drew _ _ _ 5 (by kernel_rfl) (by kernel_rfl) g cur.size (by have hg':w.drew.heap[g]? = some (.cells cur 5 (0,0)):=hg;simp[World.shape?,hg']) l h0 (by omega) (by unfold maxLen at hcm;omega) ?_
  intro j x hx
  exact hcell j x hx
 clear hl0
 have mixed:(Tryz.prog).follows .mixedOrders=true:=by kernel_rfl
 go_enter Tryz.func158,Tryz.ntmps158
 go_wp2
 go_region_o
 all_goals (go_wp2;go_ret;exact⟨rfl,zkz (zeS w) g _⟩)
set_option maxHeartbeats 1000000 in
theorem zhH (b:Nat) (p:Value) (T:TypeId) (w:World) (hbk:w.heap[b]? = some (.cells #[p,.slice none 0 0] T (0,0))) :
  Calls Tryz.prog 158 #[.pointer (some ⟨b,0,none⟩)] w fun e w'=>e=.returned (.string ⟨#[]⟩)∧w.grownBy w' none:=by
 have hUS:∀(W:World) (q:Option Addr),(Builtin.unsafeString_ #[176,3] 9 #[.pointer q,.int .i64 0]).run Tryz.prog W=.ok (.string .empty) W:=fun W q=>Lib.run_unsafeString_none W _ _ _ q
 have c1:w.drew.cell? ⟨b,1,none⟩=some (.slice none 0 0):=by
  have:w.drew.heap[b]? = some (.cells #[p,.slice none 0 0] T (0,0)):=hbk
  rw[Lib.cell_of_heap this];rfl
 have hSD:(Builtin.unsafeSliceData_ #[29] 176 #[.slice none 0 0]).run Tryz.prog w.drew=.ok (.pointer none) w.drew:=rfl
 have mixed:(Tryz.prog).follows .mixedOrders=true:=by kernel_rfl
 go_enter Tryz.func158,Tryz.ntmps158
 go_wp2
 go_region_o
 all_goals (go_wp2;go_ret;exact⟨rfl,zeS w⟩)
set_option maxHeartbeats 1000000 in
theorem zh0 (b g:Nat) (p:Value) (cur:Array Value) (T:TypeId) (w:World) (hbk:w.heap[b]? = some (.cells #[p,.slice (some ⟨g,0,none⟩) 0 0] T (0,0))) (hg:w.heap[g]? = some (.cells cur 5 (0,0))) :
  Calls Tryz.prog 158 #[.pointer (some ⟨b,0,none⟩)] w fun e w'=>e=.returned (.string ⟨#[]⟩)∧w.grownBy w' (some g):=by
 have hUS:∀(W:World) (q:Option Addr),(Builtin.unsafeString_ #[176,3] 9 #[.pointer q,.int .i64 0]).run Tryz.prog W=.ok (.string .empty) W:=fun W q=>Lib.run_unsafeString_none W _ _ _ q
 have hlt:b<w.heap.size:=by
  rcases Nat.lt_or_ge b w.heap.size with h' | h'
  ·exact h'
  ·simp[Array.getElem?_eq_none h'] at hbk
 have c1:w.drew.cell? ⟨b,1,none⟩=some (.slice (some ⟨g,0,none⟩) 0 0):=by
  have:w.drew.heap[b]? = some (.cells #[p,.slice (some ⟨g,0,none⟩) 0 0] T (0,0)):=hbk
  rw[Lib.cell_of_heap this];rfl
 have hSD:(Builtin.unsafeSliceData_ #[29] 176 #[.slice (some ⟨g,0,none⟩) 0 0]).run Tryz.prog w.drew=.ok (.pointer (some ⟨w.drew.heap.size,0,none⟩)) (w.drew.alloc (.view ⟨g,0,none⟩ 5)) :=
  Lib.run_unsafeSliceData_zero w.drew _ _ 5 (by kernel_rfl) ⟨g,0,none⟩ 0 (5,cur.size) (by have hg':w.drew.heap[g]? = some (.cells cur 5 (0,0)):=hg;simp[World.shape?,hg'])
 have c2:(w.drew.alloc (.view ⟨g,0,none⟩ 5)).cell? ⟨b,1,none⟩=some (.slice (some ⟨g,0,none⟩) 0 0):=by
  have:(w.drew.alloc (.view ⟨g,0,none⟩ 5)).heap[b]? = _:=(Lib.alloc_old w.drew _ b hlt).trans hbk
  rw[Lib.cell_of_heap this];rfl
 have c3:(w.alloc (.view ⟨g,0,none⟩ 5)).drew.cell? ⟨b,1,none⟩=some (.slice (some ⟨g,0,none⟩) 0 0):=c2
 have c0:w.cell? ⟨b,1,none⟩=some (.slice (some ⟨g,0,none⟩) 0 0):=c1
 have mixed:(Tryz.prog).follows .mixedOrders=true:=by kernel_rfl
 go_enter Tryz.func158,Tryz.ntmps158
 go_wp2
 go_region_o
 all_goals (go_wp2;go_ret;exact⟨rfl,zhw (zeS w) _ _⟩)
set_option maxHeartbeats 1000000 in
theorem zkT (b g cap:Nat) (p:Value) (T:TypeId) (w:World) (hc0:cap≠0) (hbk:w.heap[b]? = some (.cells #[p,.slice (some ⟨g,0,none⟩) 0 cap] T (0,0))) :
  Calls Tryz.prog 158 #[.pointer (some ⟨b,0,none⟩)] w fun e w'=>e=.returned (.string ⟨#[]⟩)∧w.grownBy w' none:=by
 have hUS:∀(W:World) (q:Option Addr),(Builtin.unsafeString_ #[176,3] 9 #[.pointer q,.int .i64 0]).run Tryz.prog W=.ok (.string .empty) W:=fun W q=>Lib.run_unsafeString_none W _ _ _ q
 have c1:w.drew.cell? ⟨b,1,none⟩=some (.slice (some ⟨g,0,none⟩) 0 cap):=by
  have:w.drew.heap[b]? = some (.cells #[p,.slice (some ⟨g,0,none⟩) 0 cap] T (0,0)):=hbk
  rw[Lib.cell_of_heap this];rfl
 have hSD:(Builtin.unsafeSliceData_ #[29] 176 #[.slice (some ⟨g,0,none⟩) 0 cap]).run Tryz.prog w.drew=.ok (.pointer (some ⟨g,0,none⟩)) w.drew :=
  Lib.run_unsafeSliceData_row _ _ _ _ _ _ hc0
 clear hc0
 have mixed:(Tryz.prog).follows .mixedOrders=true:=by kernel_rfl
 go_enter Tryz.func158,Tryz.ntmps158
 go_wp2
 go_region_o
 all_goals (go_wp2;go_ret;exact⟨rfl,zeS w⟩)
theorem zi1 {w w':World} (h:w.grownBy w' none) (row:Option Nat):w.grownBy w' row:=⟨h.os,h.tape,h.output,h.size,fun k hk _=>h.block k hk (by simp)⟩
def zdr (objs:List OB) (b:Nat) (T:TypeId) (l:List UInt8):Prop :=
 (objs[b]? = some (.box T [.o (.pointer none),.nil])∧l=[])∨∃r gen,objs[b]? = some (.box T [.p b 0,.orow r gen])∧objs[r]? = some (.orow 5 1 gen l.length (byA l))
def zfX (objs:List OB) (b:Nat):Option Nat :=
 match objs[b]? with
 | some (.box _ [_,.orow r _])=>some r
 | _=>none
def zgD (objs:List OB) (b:Nat) (objs':List OB):Prop:=objs.length≤objs'.length∧(∀(j:Nat) ob,objs[j]? = some ob→j≠b→zfX objs b≠some j→objs'[j]? = some ob∧zfX objs' b≠some j)
theorem zgD.refl (objs:List OB) (b:Nat):zgD objs b objs:=⟨Nat.le_refl _,fun j ob h _ h2=>⟨h,h2⟩⟩
theorem zgD.trans {o1 o2 o3:List OB} {b:Nat} (h:zgD o1 b o2) (k:zgD o2 b o3):zgD o1 b o3 :=
 ⟨Nat.le_trans h.1 k.1,fun j ob h1 h2 h3=>by
  obtain⟨a1,a2⟩:=h.2 j ob h1 h2 h3
  exact k.2 j ob a1 h2 a2⟩
theorem zdr.lt {objs:List OB} {b:Nat} {T:TypeId} {l:List UInt8} (h:zdr objs b T l):b<objs.length∧∀r,zfX objs b=some r→r<objs.length:=by
 rcases h with ⟨h,_⟩|⟨r,gen,h,h2⟩
 ·refine⟨zcC h,fun r hr=>?_⟩
  unfold zfX at hr;rw[h] at hr;cases hr
 ·refine⟨zcC h,fun r' hr=>?_⟩
  unfold zfX at hr;rw[h] at hr;injection hr with hr;subst hr;exact zcC h2
theorem zdr.app {objs:List OB} {b:Nat} {T:TypeId} {l:List UInt8} (h:zdr objs b T l) (more:List OB):zdr (objs++more) b T l∧zfX (objs++more) b=zfX objs b:=by
 have hlt:=h.lt.1
 have e:(objs++more)[b]? = objs[b]?:=List.getElem?_append_left hlt
 refine⟨?_,by unfold zfX;rw[e]⟩
 rcases h with ⟨h,h2⟩|⟨r,gen,h,h2⟩
 ·exact .inl ⟨by rw[e];exact h,h2⟩
 ·exact .inr ⟨r,gen,by rw[e];exact h,by rw[List.getElem?_append_left (zcC h2)];exact h2⟩
theorem zgD.behind {objs more objs':List OB} {b:Nat} {T:TypeId} {l:List UInt8} (h:zdr objs b T l) (k:zgD (objs++more) b objs'):∀(j:Nat) ob,more[j]? = some ob→objs'[objs.length+j]? = some ob:=by
 intro j ob hj
 have h1:=h.lt
 refine(k.2 (objs.length+j) ob (by rw[List.getElem?_append_right (by omega)];simpa using hj) (by omega) ?_).1
 rw[(h.app more).2]
 intro e
 have:=h1.2 _ e
 omega
theorem zgD.drop {objs more objs':List OB} {b:Nat} {T:TypeId} {l:List UInt8} (h:zdr objs b T l) (k:zgD (objs++more) b objs'):zgD objs b objs':=by
 refine⟨by have:=k.1;simp at this;omega,fun j ob h1 h2 h3=>k.2 j ob (by rw[List.getElem?_append_left (zcC h1)];exact h1) h2 (by rw[(h.app more).2];exact h3)⟩
theorem ziD (a b:List UInt8):byA (a++b)=byA a++byA b:=by simp[byA]
section
variable [Tabs Tryz.prog] {objs:List OB} {K:List OB→AV→Prop}
theorem zgQ (T:TypeId) (b:Nat) (l0 l:List UInt8) (hT:BT T) (hb:zdr objs b T l0) (hl:l0.length+l.length≤140737488355328) (hk:∀objs',zdr objs' b T (l0++l)→zgD objs b objs'→K objs' (.tup [.i .i64 l.length,.o .nilIface])) :
  zad Tryz.prog 188 [.p b 0,.s l] objs K:=by
 rcases hb with ⟨hb,rfl⟩|⟨r,gen,hb,hr⟩
 ·have hlt:=zcC hb
  refine zcR is_strings_Builder_WriteString fun C _=>?_
  simp only[c_strings_Builder_WriteString,sxZ,z6,z7,z8,j6,j7,j8,j9,x0,x5,x6,x7,x8,x9,y3,y4,reduceCtorEq,↓reduceIte]
  refine zaf (zhD T b _ _ hT hb (.inl rfl) ?_)
  have e1:(objs.set b (OB.box T [.p b 0,.nil]))[b]? = some (.box T [.p b 0,.nil]):=List.getElem?_set_self hlt
  simp only[e1,sxZ,z6,z7,z8,j6,j7,j8,j9,x0,x5,x6,x7,x8,x9,y3,y4,reduceCtorEq,↓reduceIte]
  refine⟨by simpa using hl,?_⟩
  have e2:(objs.set b (OB.box T [.p b 0,.nil])++[OB.orow 5 1 0 l.length (byA l)])[b]? = some (.box T [.p b 0,.nil]):=by
   rw[List.getElem?_append_left (by simpa using hlt)];exact e1
  simp only[e2,sxZ,z6,z7,z8,j6,j7,j8,j9,x0,x5,x6,x7,x8,x9,y3,y4,reduceCtorEq,↓reduceIte]
  have e3:(objs.set b (OB.box T [.p b 0,.nil])++[OB.orow 5 1 0 l.length (byA l)]).set b (OB.box T [.p b 0,.orow objs.length 0])=objs.set b (OB.box T [.p b 0,.orow objs.length 0])++[OB.orow 5 1 0 l.length (byA l)]:=by
   rw[List.set_append_left _ _ (by simpa using hlt),List.set_set]
  rw[e3]
  refine hk _ (.inr ⟨objs.length,0,?_,?_⟩) ⟨by simp,fun j ob h1 h2 h3=>⟨?_,?_⟩⟩
  ·rw[List.getElem?_append_left (by simpa using hlt)];exact List.getElem?_set_self hlt
  ·rw[List.getElem?_append_right (by simp)];simp
  ·rw[List.getElem?_append_left (by simpa using zcC h1),List.getElem?_set_ne (fun e=>h2 e.symm)];exact h1
  ·unfold zfX
   rw[List.getElem?_append_left (by simpa using hlt),List.getElem?_set_self hlt]
   have:=zcC h1
   simp;omega
 ·have hlt:=zcC hb
  have hrl:=zcC hr
  have hne:b≠r:=by rintro rfl;rw[hb] at hr;cases hr
  refine zcR is_strings_Builder_WriteString fun C _=>?_
  simp only[c_strings_Builder_WriteString,sxZ,z6,z7,z8,j6,j7,j8,j9,x0,x5,x6,x7,x8,x9,y3,y4,reduceCtorEq,↓reduceIte]
  refine zaf (zhD T b _ _ hT hb (.inr rfl) ?_)
  rw[set_same hb]
  simp only[hb,hr,sxZ,z6,z7,z8,j6,j7,j8,j9,x0,x5,x6,x7,x8,x9,y3,y4,reduceCtorEq,↓reduceIte]
  refine⟨by omega,?_⟩
  have e2:(objs.set r (OB.orow 5 1 (gen+1) (l0.length+l.length) (byA l0++byA l)))[b]? = some (.box T [.p b 0,.orow r gen]):=by
   rw[List.getElem?_set_ne (fun e=>hne e.symm)];exact hb
  simp only[e2,sxZ,z6,z7,z8,j6,j7,j8,j9,x0,x5,x6,x7,x8,x9,y3,y4,reduceCtorEq,↓reduceIte]
  refine hk _ (.inr ⟨r,gen+1,?_,?_⟩) ⟨by simp,fun j ob h1 h2 h3=>⟨?_,?_⟩⟩
  ·exact List.getElem?_set_self (by simpa using hlt)
  ·rw[List.getElem?_set_ne hne,List.getElem?_set_self hrl,ziD,List.length_append]
  ·have h4:j≠r:=by
    rintro rfl
    exact h3 (by unfold zfX;rw[hb])
   rw[List.getElem?_set_ne (fun e=>h2 e.symm),List.getElem?_set_ne (fun e=>h4 e.symm)];exact h1
  ·unfold zfX at h3 ⊢
   rw[hb] at h3
   rw[List.getElem?_set_self (by simpa using hlt)]
   exact h3
theorem zhI (T:TypeId) (b:Nat) (l:List UInt8) (hb:zdr objs b T l) (hk:∀objs',zgD objs b objs'→K objs' (.s l)) :
  zad Tryz.prog 158 [.p b 0] objs K:=by
 intro C _ G I w hin hm ys hd
 simp only[zao] at hd
 obtain⟨v,_,rfl,hv,rfl⟩:=hd
 simp only[Den] at hv
 obtain⟨g,hg,rfl⟩:=hv
 have same:∀w',w.grownBy w' none→∀x:List UInt8,K objs (.s x)→∃(y:Value) (objs':List OB) (r:AV) (G':Gh) (I':Imm),Ending.returned (.string ⟨x.toArray⟩)=.returned y∧K objs' r∧G.le G'∧Imm.le I I'∧In C G' I' w'∧MemOk G' I' objs' w'∧Den G' I' r y :=
  fun w' hgr x hx=>⟨_,objs,.s x,G,I,rfl,hx,Gh.le.refl G,Imm.le.refl I,hin.evolve hgr (by simp),hm.evolve hgr,by simp[Den]⟩
 rcases hb with ⟨hb,rfl⟩|⟨r,gen,hb,hr⟩
 ·obtain⟨g',zs,k1,k2,k3,k4⟩:=hm.box b T _ hb
  obtain rfl:g=g':=Option.some.inj (hg.symm.trans k1)
  simp only[zao] at k3
  obtain⟨z1,_,rfl,d1,z2,_,rfl,d2,rfl⟩:=k3
  simp only[Den] at d2;subst d2
  refine(zhH g z1 T w k2).mono ?_
  rintro e w' ⟨rfl,hgr⟩
  exact same w' hgr [] (hk objs (zgD.refl _ _))
 ·obtain⟨g',zs,k1,k2,k3,k4⟩:=hm.box b T _ hb
  obtain rfl:g=g':=Option.some.inj (hg.symm.trans k1)
  simp only[zao] at k3
  obtain⟨z1,_,rfl,d1,z2,_,rfl,d2,rfl⟩:=k3
  simp only[Den] at d2
  obtain⟨gn,u,q1,q2,q3,q4⟩:=d2
  obtain⟨u',vs,m1,m2,m3,m4,m5⟩:=hm.row r _ _ _ _ _ hr
  rw[q1] at m1;injection m1 with m1;injection m1 with m1 m6
  have hz:=q3 m1.symm
  subst m1 m6 hz
  have hne:b≠r:=by rintro rfl;rw[hb] at hr;cases hr
  have kill:∀w' row,(∀k,row=some k→G.own r=some k)→w.grownBy w' row→∀x:List UInt8,(x=l)→∃(y:Value) (objs':List OB) (r':AV) (G':Gh) (I':Imm),Ending.returned (.string ⟨x.toArray⟩)=.returned y∧K objs' r'∧G.le G'∧Imm.le I I'∧In C G' I' w'∧MemOk G' I' objs' w'∧Den G' I' r' y:=by
   rintro w' row hrow hgr x rfl
   refine⟨_,objs.set r .dead,.s x,G,I,rfl,hk _ ⟨by simp,fun j ob h1 h2 h3=>⟨?_,?_⟩⟩,Gh.le.refl G,Imm.le.refl I,hin.evolve hgr (fun k hk=>hin.blk r k (hrow k hk)),MemOk.kill hm r hrow hgr,by simp[Den]⟩
   ·have h4:j≠r:=by
     rintro rfl
     exact h3 (by unfold zfX;rw[hb])
    rw[List.getElem?_set_ne (fun e=>h4 e.symm)];exact h1
   ·unfold zfX at h3 ⊢
    rw[hb] at h3
    rw[List.getElem?_set_ne (fun e=>hne e.symm),hb];exact h3
  have hown:=zbS m5 q1
  have hvs:=zcS m3
  rcases m2.2 with ⟨rfl,hl0⟩|⟨gr,cap,cur,rfl,_,hgc,hnc,hcm,hcs,htake⟩
  ·have hl:l=[]:=List.eq_nil_of_length_eq_zero hl0
   subst hl
   refine(zhH g z1 T w k2).mono ?_
   rintro e w' ⟨rfl,hgr⟩
   exact kill w' none (by simp) hgr [] rfl
  ·have hrow:∀k,some gr=some k→G.own r=some k:=by
    intro k hk'
    injection hk' with hk';subst hk'
    rw[hown];rfl
   by_cases hl:l=[]
   ·subst hl
    by_cases hc:cap=0
    ·subst hc
     refine(zh0 g gr z1 cur T w k2 hgc).mono ?_
     rintro e w' ⟨rfl,hgr⟩
     exact kill w' (some gr) hrow hgr [] rfl
    ·refine(zkT g gr cap z1 T w hc k2).mono ?_
     rintro e w' ⟨rfl,hgr⟩
     exact kill w' (some gr) hrow (zi1 hgr _) [] rfl
   ·refine(zkU g gr cap l z1 cur T w hl k2 hgc hnc hcm (by omega) ?_).mono ?_
    ·intro j x hx
     exact m2.cells (g:=gr) rfl j (.int .u8 x.toNat) (by rw[hvs];simp[hx])
    ·rintro e w' ⟨rfl,hgr⟩
     exact kill w' (some gr) hrow hgr l rfl
end
end Go.Proofs.YtnnipcgblooemaaGreatDoor
namespace Go.Proofs.YtnnipcgblooemaaGreatDoor
open Go.RowKit Sx
theorem zk5 (G:Gh) (I:Imm):∀l:List (List UInt8),zao G I (l.map .s) (sv l)
 | []=>zao.nil
 | x::l=>by
  show zao G I (AV.s x::l.map .s) (.string (S x)::sv l)
  exact zao.cons (by simp[Den]) (zk5 G I l)
theorem zlM {P:Program} [Tabs P] {f:FuncId} {args:List AV} {vs:List Value} {objs:List OB} {K:List OB→AV→Prop} (l:List (List UInt8)) (hne:0<l.length) (hk:K objs (.row l.length (l.map .s))) (ha:zow args=some vs)
  (h:∀w,Calls P f vs.toArray w fun e w'=>∃v,e=.returned v∧zfN w' w.heap.size v l∧Qb w w'):zad P f args objs K:=by
 intro C _ G I w hin hm ys hd
 rw[(zco G I args vs ha ys).1 hd]
 refine(h w).mono ?_
 rintro e w' ⟨v,rfl,hr,hb⟩
 obtain⟨g,cap,rfl,h1,h2,h3⟩:=hr.form hne
 have hg:w.grownBy w' none:=⟨hb.os,hb.tape,hb.output,Below.size hb,fun k hk _=>Below.block hb k hk⟩
 obtain⟨I',s1,s2,s3,s4⟩:=zke hin hm hg g l.length cap (l.map .s) (sv l) h1 h3 (zk5 G I l) (zoR l) (fun j u hj=>by
  have hjl:j<l.length:=by
   have:=(List.getElem?_eq_some_iff.1 hj).1
   rwa [zjJ] at this
  rw[hr.cell j hjl,←sv_get l j hjl];exact hj)
 exact⟨_,objs,.row l.length (l.map .s),G,I',rfl,hk,Gh.le.refl G,s1,s2,s3,s4⟩
section
variable [Tabs Tryz.prog] {objs:List OB} {K:List OB→AV→Prop}
theorem ziX (s:List UInt8) (c:UInt8) (hs:s.length≤1000000) (hk:K objs (.row (zah c s).length ((zah c s).map .s))):zad Tryz.prog 79 [.s s,.i .u8 c.toNat] objs K :=
 zlM (vs:=[.string (S s),.int .u8 c.toNat]) _ (zbx c s) hk rfl (fun w=>zeJ (S s) c w (by rw[zac];exact hs))
end
end Go.Proofs.YtnnipcgblooemaaGreatDoor
namespace Go.Proofs.YtnnipcgblooemaaGreatDoor
open Nat renaming reduceAdd → z6, reduceSub → z7, reduceLeDiff → z8, reduceLT → j6, reduceMul → j7, reduceEqDiff → j8
open Int renaming reduceToNat → j9, reduceAdd → x0, reduceSub → x5, reduceMul → x6, reduceNeg → x7, reduceLT → x8, reduceLE → x9, reduceEq → y3, reduceNe → y4
open Go.RowKit Sx
theorem zoV (c:UInt8):∀(n:Nat) (s:List UInt8),s.length≤n→Lib.splitK [c] 0 (Lib.count s [c]) s=zah c s:=by
 intro n
 induction n with
 | zero=>
  intro s hs
  obtain rfl:s=[]:=List.eq_nil_of_length_eq_zero (by omega)
  rfl
 | succ n ih=>
  intro s hs
  rcases zbs c s with ⟨h1,h2,_⟩|⟨k,h1,h2,h3,_⟩
  ·rw[Lib.count_miss (by rw[zdl];exact h1),zaX,h2];rfl
  ·have hi:Lib.index s [c]=k:=by rw[zdl];exact h1
   rw[Lib.count_hit (by simp) hi,Nat.add_comm,zaX,h3,if_pos rfl]
   show (if (Lib.index s [c]==-1)=true then _ else _)=_
   rw[hi,if_neg (by simp)]
   have:=ih (s.drop (k+1)) (by rw[List.length_drop];omega)
   simp only[Int.toNat_natCast,Nat.add_zero,List.length_cons,List.length_nil,Nat.zero_add]
   rw[this]
theorem zk6 (c:UInt8) (s:List UInt8):(Lib.splitB (S [c]) 0 (Lib.countB (S s) (S [c])) (S s)).map Value.string=sv (zah c s):=by
 have h:=Lib.splitB_data (S [c]) 0 (Lib.countB (S s) (S [c])) (S s)
 have h2:Lib.splitK [c] 0 (Lib.count s [c]) s=zah c s:=zoV c s.length s (Nat.le_refl _)
 have h3:(Lib.splitB (S [c]) 0 (Lib.countB (S s) (S [c])) (S s)).map (·.data.toList)=zah c s:=h.trans h2
 rw[←h3]
 unfold sv
 rw[List.map_map]
 apply List.map_congr_left
 intro x _
 simp[S]
theorem zoW (c:UInt8) (s:List UInt8):Lib.countB (S s) (S [c])+1=(zah c s).length:=by
 have key:∀(n:Nat) (s:List UInt8),s.length≤n→Lib.count s [c]+1=(zah c s).length:=by
  intro n
  induction n with
  | zero=>
   intro s hs
   obtain rfl:s=[]:=List.eq_nil_of_length_eq_zero (by omega)
   rfl
  | succ n ih=>
   intro s hs
   rcases zbs c s with ⟨h1,h2,_⟩|⟨k,h1,h2,h3,_⟩
   ·rw[Lib.count_miss (by rw[zdl];exact h1),zaX,h2];rfl
   ·have hi:Lib.index s [c]=k:=by rw[zdl];exact h1
    rw[Lib.count_hit (by simp) hi,zaX,h3,if_pos rfl]
    have:=ih (s.drop (k+1)) (by rw[List.length_drop];omega)
    simp only[List.length_cons,List.length_nil,Nat.zero_add]
    omega
 exact key s.length s (Nat.le_refl _)
theorem dec_err (l:List UInt8) (h:(zaR l).1≠0):(zaR l).2=[]:=by
 unfold zaR zfk at h ⊢
 split
 ·rfl
 ·rename_i g;rw[if_neg g] at h;exact zdg _ _ _ _ h
theorem bt_path [Tabs Tryz.prog]:BT 148:=by unfold BT;kernel_rfl
theorem bt_id [Tabs Tryz.prog]:BT 152:=by unfold BT;kernel_rfl
theorem isFn_pw:IsFn Tryz.prog 157:=⟨_,Tryz.func157,by kernel_rfl,of_decide_eq_true (by kernel_rfl)⟩
theorem isFn_iw:IsFn Tryz.prog 161:=⟨_,Tryz.func161,by kernel_rfl,of_decide_eq_true (by kernel_rfl)⟩
section
variable [Tabs Tryz.prog] {objs:List OB} {K:List OB→AV→Prop}
theorem zl4 [Shp Tryz.prog] (s:List UInt8) (c:UInt8) (hs:s.length≤100000) (hk:K objs (.row (zah c s).length ((zah c s).map .s))):zad Tryz.prog 155 [.s s,.s [c]] objs K:=by
 intro C _ G I w hin hm ys hd
 have hT:=hin.tab (P:=Tryz.prog)
 rw[(zco G I [.s s,.s [c]] [.string (S s),.string (S [c])] rfl ys).1 hd]
 refine(Tryz.strings_Split_shaped (S s) (S [c]) w (Shp.sh w hT) (by rw[zac];omega) (by rw[zac];simp)).mono ?_
 rintro e w' ⟨rfl,rfl⟩
 have hn:=zoW c s
 have hc:=zk6 c s
 have hsl:=zc9 c s
 have hg:w.grownBy (w.alloc (.cells ((Lib.splitB (S [c]) 0 (Lib.countB (S s) (S [c])) (S s)).map Value.string).toArray 9)) none:=zhw (World.grownBy.refl w _) _ _
 obtain⟨I',s1,s2,s3,s4⟩:=zke hin hm hg w.heap.size (zah c s).length (zah c s).length ((zah c s).map .s) (sv (zah c s)) (Nat.le_refl _) (Nat.le_refl _) (zk5 G I _) (zoR _) (fun j u hj=>by
  rw[World.cell?_alloc_new,hc];simpa using hj)
 rw[hn]
 exact⟨_,objs,.row (zah c s).length ((zah c s).map .s),G,I',rfl,hk,Gh.le.refl G,s1,s2,s3,s4⟩
/-- each: the calls in their order, up to the first error -/
theorem each_k (l:List (List UInt8)) (hl:l.length≤1000000) (f:Nat) (fs cs:List AV) (hf:IsFn Tryz.prog f) (J:Nat→List OB→Prop) (h0:J 0 objs)
  (step:∀(i:Nat) (hi:i<l.length) o,J i o→zad Tryz.prog f (fs++[.s l[i]]++cs) o fun o' r=>(r=.i .i64 0∧J (i+1) o')∨∃e:Int,r=.i .i64 e∧e≠0∧K o' (.i .i64 e))
  (hend:∀o,J l.length o→K o (.i .i64 0)):zad Tryz.prog 156 [.row l.length (l.map .s),.fn f fs cs] objs K:=by
 refine zcR is_didweb_each fun C _=>?_
 simp only[c_didweb_each,sxZ,z6,z7,z8,j6,j7,j8,j9,x0,x5,x6,x7,x8,x9,y3,y4,reduceCtorEq,↓reduceIte]
 refine zbg (fun n objs tm=>∃i:Nat,i≤l.length∧n=l.length - i∧J i objs∧tm.length=21∧tm[8]? = some (.row l.length (l.map .s))∧tm[1]? = some (.fn f fs cs)∧tm[9]? = some (.i .i64 l.length)∧tm[10]? = some (.i .i64 i)) l.length ⟨0,Nat.zero_le _,rfl,h0,rfl,rfl,rfl,rfl,rfl⟩ ?_
 rintro n o tm ⟨i,hi,rfl,hJ,hlen,t8,t1,t9,t10⟩
 by_cases hlt:(i:Int)<l.length
 ·have hlt':i<l.length:=by omega
  have hg:(l.map AV.s)[i]? = some (.s l[i]):=by simp[hlt']
  simp only[sxZ,z6,z7,z8,j6,j7,j8,j9,x0,x5,x6,x7,x8,x9,y3,y4,reduceCtorEq,↓reduceIte,List.getElem?_set,hlen,t8,t1,t9,t10,hlt,Nat.mul_one,Int.toNat_natCast,hg,List.length_map]
  refine⟨by omega,?_⟩
  refine kcallv hf ((step i hlt' o hJ).mono ?_)
  rintro o' r (⟨rfl,hJ'⟩|⟨e,rfl,he,hK⟩)
  ·simp only[sxZ,z6,z7,z8,j6,j7,j8,j9,x0,x5,x6,x7,x8,x9,y3,y4,reduceCtorEq,↓reduceIte,List.getElem?_set,hlen,t8,t1,t9,t10]
   exact⟨⟨by omega,by omega⟩,l.length - (i+1),by omega,i+1,by omega,rfl,hJ',rfl⟩
  ·simp only[he,sxZ,z6,z7,z8,j6,j7,j8,j9,x0,x5,x6,x7,x8,x9,y3,y4,reduceCtorEq,↓reduceIte,List.getElem?_set,hlen,t8,t1,t9,t10]
   exact hK
 ·obtain rfl:i=l.length:=by omega
  simp only[sxZ,z6,z7,z8,j6,j7,j8,j9,x0,x5,x6,x7,x8,x9,y3,y4,reduceCtorEq,↓reduceIte,List.getElem?_set,hlen,t8,t1,t9,t10,hlt]
  exact hend o hJ
theorem pwAdd_k (b:Nat) (l x:List UInt8) (hb:zdr objs b 148 l) (hx:x.length≤16384) (hl:l.length≤1000000000) (h0:okS x=false→K objs (.i .i64 110))
  (h1:okS x=true→∀objs',zdr objs' b 148 (l++segF x)→zgD objs b objs'→K objs' (.i .i64 0)):zad Tryz.prog 157 [.p b 0,.s x] objs K:=by
 refine zcR is_didweb_pathWriter_add fun C _=>?_
 simp only[c_didweb_pathWriter_add,sxZ,z6,z7,z8,j6,j7,j8,j9,x0,x5,x6,x7,x8,x9,y3,y4,reduceCtorEq,↓reduceIte]
 refine zaf (zhm x ?_)
 have he:=dec_err x
 have hdl:=zc7 x
 have hd0:=zc7 x
 unfold okS at h0 h1
 unfold segF at h1
 generalize zaR x=q at *
 obtain⟨e,d⟩:=q
 simp only at he hdl h0 h1 hd0 ⊢
 by_cases c1:e=0
 ·subst c1
  by_cases c2:d=[]
  ·simp only[c2,sxZ,z6,z7,z8,j6,j7,j8,j9,x0,x5,x6,x7,x8,x9,y3,y4,reduceCtorEq,↓reduceIte]
   exact h0 (by rw[c2];rfl)
  ·by_cases c3:d=[46]
   ·simp only[c3,sxZ,z6,z7,z8,j6,j7,j8,j9,x0,x5,x6,x7,x8,x9,y3,y4,reduceCtorEq,↓reduceIte]
    exact h0 (by rw[c3];decide)
   ·by_cases c4:d=[46,46]
    ·have n1:¬([46,46]:List UInt8)=[46]:=by decide
     simp only[c4,n1,sxZ,z6,z7,z8,j6,j7,j8,j9,x0,x5,x6,x7,x8,x9,y3,y4,reduceCtorEq,↓reduceIte]
     exact h0 (by rw[c4];decide)
    ·simp only[c2,c3,c4,sxZ,z6,z7,z8,j6,j7,j8,j9,x0,x5,x6,x7,x8,x9,y3,y4,reduceCtorEq,↓reduceIte]
     refine zbM (zj9 d [] (by omega) ⟨rfl,rfl⟩) ?_
     have hel:=zc6 d []
     simp only[sxZ,z6,z7,z8,j6,j7,j8,j9,x0,x5,x6,x7,x8,x9,y3,y4,reduceCtorEq,↓reduceIte]
     refine⟨by omega,?_⟩
     refine zaf (zgQ _ b l _ bt_path hb (by simp only[List.length_cons];omega) fun objs' k1 k2=>?_)
     simp only[sxZ,z6,z7,z8,j6,j7,j8,j9,x0,x5,x6,x7,x8,x9,y3,y4,reduceCtorEq,↓reduceIte]
     exact h1 (by simp[c2,c3,c4]) objs' k1 k2
 ·have hd:=he c1
  subst hd
  simp only[c1,sxZ,z6,z7,z8,j6,j7,j8,j9,x0,x5,x6,x7,x8,x9,y3,y4,reduceCtorEq,↓reduceIte]
  exact h0 rfl
theorem iwAdd_k [Shp Tryz.prog] (b:Nat) (l x:List UInt8) (hb:zdr objs b 152 l) (hx:x.length≤16384) (hl:l.length≤1000000000) (h0:okI x=false→K objs (.i .i64 110))
  (h1:okI x=true→∀objs',zdr objs' b 152 (l++zk0 x)→zgD objs b objs'→K objs' (.i .i64 0)):zad Tryz.prog 161 [.p b 0,.s x] objs K:=by
 refine zcR is_didweb_idWriter_add fun C _=>?_
 simp only[c_didweb_idWriter_add,sxZ,z6,z7,z8,j6,j7,j8,j9,x0,x5,x6,x7,x8,x9,y3,y4,reduceCtorEq,↓reduceIte]
 refine zaf (zhk x [] ?_)
 have hnl:=(zdF x []).1
 unfold okI at h0 h1
 unfold zk0 at h1
 generalize zaj x []=q at *
 obtain⟨e,d⟩:=q
 simp only at h0 h1 hnl ⊢
 by_cases c1:e=0
 ·subst c1
  by_cases c2:x=[]
  ·simp only[c2,sxZ,z6,z7,z8,j6,j7,j8,j9,x0,x5,x6,x7,x8,x9,y3,y4,reduceCtorEq,↓reduceIte]
   exact h0 (by rw[c2];rfl)
  ·simp only[c2,sxZ,z6,z7,z8,j6,j7,j8,j9,x0,x5,x6,x7,x8,x9,y3,y4,reduceCtorEq,↓reduceIte]
   refine zbM (zg6 d _ 126 (by omega) (by decide) (by decide) ⟨rfl,rfl⟩) ?_
   have htl:=zfR d
   unfold zcO at htl h1
   simp only[sxZ,z6,z7,z8,j6,j7,j8,j9,x0,x5,x6,x7,x8,x9,y3,y4,reduceCtorEq,↓reduceIte]
   refine⟨by omega,?_⟩
   refine zaf (zgQ _ b l _ bt_id hb (by simp only[List.length_cons];omega) fun objs' k1 k2=>?_)
   simp only[sxZ,z6,z7,z8,j6,j7,j8,j9,x0,x5,x6,x7,x8,x9,y3,y4,reduceCtorEq,↓reduceIte]
   exact h1 (by simp[c2]) objs' k1 k2
 ·simp only[c1,sxZ,z6,z7,z8,j6,j7,j8,j9,x0,x5,x6,x7,x8,x9,y3,y4,reduceCtorEq,↓reduceIte]
  exact h0 (by simp[c1])
theorem zqG [Pow Tryz.prog] (b:Nat) (h:List UInt8) (p:Int) (hb:zdr objs b 152 []) (hh:h.length≤1000000) (h0:-9223372036854775808≤p) (h1:p≤9223372036854775807)
  (hk:∀objs',zdr objs' b 152 (hpI h p)→zgD objs b objs'→K objs' (.tup [])):zad Tryz.prog 160 [.p b 0,zdY h p] objs K:=by
 refine zcR is_didweb_idWriter_start fun C _=>?_
 have hil:=Lib.itoa_length_le p h0 h1
 unfold hpI at hk
 simp only[c_didweb_idWriter_start,zdY,gn1,sxZ,z6,z7,z8,j6,j7,j8,j9,x0,x5,x6,x7,x8,x9,y3,y4,reduceCtorEq,↓reduceIte]
 refine zaf (zgQ _ b [] h bt_id (hb.app _).1 (by simp;omega) fun o k1 k2=>?_)
 have e1:=k2.behind hb 0 _ rfl
 rw[Nat.add_zero] at e1
 rw[List.nil_append] at k1
 by_cases c1:p=0
 ·subst c1
  simp only[e1,sxZ,z6,z7,z8,j6,j7,j8,j9,x0,x5,x6,x7,x8,x9,y3,y4,reduceCtorEq,↓reduceIte]
  exact hk o (by simpa using k1) (k2.drop hb)
 ·simp only[c1,e1,sxZ,z6,z7,z8,j6,j7,j8,j9,x0,x5,x6,x7,x8,x9,y3,y4,reduceCtorEq,↓reduceIte]
  refine zbM (itoa_k p h0 h1 ⟨rfl,rfl⟩) ?_
  simp only[sxZ,z6,z7,z8,j6,j7,j8,j9,x0,x5,x6,x7,x8,x9,y3,y4,reduceCtorEq,↓reduceIte]
  refine⟨by omega,?_⟩
  refine zaf (zgQ _ b h _ bt_id k1 (by simp only[List.length_cons];omega) fun o' k3 k4=>?_)
  simp only[sxZ,z6,z7,z8,j6,j7,j8,j9,x0,x5,x6,x7,x8,x9,y3,y4,reduceCtorEq,↓reduceIte]
  rw[if_neg c1] at hk
  exact hk o' k3 ((k2.drop hb).trans k4)
theorem znd [Shp Tryz.prog] (m i:List UInt8) (hm:m.length≤200000000000) (hi:i.length≤200000000000) (hk:K objs (.tup [zdY (dwA m i).2.1 (dwA m i).2.2,.i .i64 (dwA m i).1])):zad Tryz.prog 99 [.agg [.s m,.s i]] objs K:=by
 refine zaU is_didweb_Authority rfl fun C _=>?_
 unfold dwA at hk
 by_cases c0:m=zei
 ·subst c0
  simp only[zei,c_didweb_Authority,sxZ,z6,z7,z8,j6,j7,j8,j9,x0,x5,x6,x7,x8,x9,y3,y4,reduceCtorEq,↓reduceIte]
  refine zaf (zdD _ _ (by decide) (by omega) ?_)
  simp only[sxZ,z6,z7,z8,j6,j7,j8,j9,x0,x5,x6,x7,x8,x9,y3,y4,reduceCtorEq,↓reduceIte]
  refine zaf (zhB _ (by simp only[zbo,zbF,List.length_append,List.length_cons,List.length_nil,maxLen];omega) ?_)
  simp only[ne_eq,not_true_eq_false,if_false] at hk
  have hf:=zjh (m:=zei) (i:=i) rfl
  have hw:zei=[119,101,98]:=rfl
  rw[hw] at hf
  simp only[hw] at hk
  generalize zca (zbo [119,101,98] i)=q at *
  obtain⟨e,d1,d2⟩:=q
  simp only at hf hk ⊢
  by_cases c1:e=0
  ·subst c1
   obtain⟨hf,_⟩:=hf rfl
   simp only[not_true_eq_false,if_false] at hk
   simp only[sxZ,z6,z7,z8,j6,j7,j8,j9,x0,x5,x6,x7,x8,x9,y3,y4,reduceCtorEq,↓reduceIte]
   refine zaf (sCut_k i 58 (by unfold maxLen;omega) ?_)
   simp only[sxZ,z6,z7,z8,j6,j7,j8,j9,x0,x5,x6,x7,x8,x9,y3,y4,reduceCtorEq,↓reduceIte]
   refine zaf (zhm _ ?_)
   simp only[hf,sxZ,z6,z7,z8,j6,j7,j8,j9,x0,x5,x6,x7,x8,x9,y3,y4,reduceCtorEq,↓reduceIte]
   have hl1:=zc7 (zar 58 i).1
   have hl2:=(za5 58 i).1
   refine zaf (zmY _ (by unfold maxLen;omega) ?_)
   simp only[zdY,sxZ,z6,z7,z8,j6,j7,j8,j9,x0,x5,x6,x7,x8,x9,y3,y4,reduceCtorEq,↓reduceIte]
   exact hk
  ·simp only[c1,not_false_eq_true,if_true] at hk
   simp only[c1,sxZ,z6,z7,z8,j6,j7,j8,j9,x0,x5,x6,x7,x8,x9,y3,y4,reduceCtorEq,↓reduceIte]
   exact hk
 ·have c0':¬m=[119,101,98]:=c0
  rw[if_pos c0] at hk
  simp only[c0',c_didweb_Authority,sxZ,z6,z7,z8,j6,j7,j8,j9,x0,x5,x6,x7,x8,x9,y3,y4,reduceCtorEq,↓reduceIte]
  exact hk
end
theorem zgG (l:List (List UInt8)):((l.map AV.s).take l.length).drop 1=l.tail.map AV.s:=by
 rw[List.take_of_length_le (by simp),←List.map_drop,List.drop_one]
theorem segF_len (x:List UInt8):(segF x).length≤1+3*x.length:=by
 unfold segF
 have h1:=zc6 (zaR x).2 []
 have h2:=zc7 x
 simp only[List.length_cons];omega
theorem zdK:∀l:List (List UInt8),(zcy l).length≤3*(l.flatMap fun x=>1::x).length
 | []=>by simp[zcy]
 | x::l=>by
  have ih:=zdK l
  have h:=segF_len x
  unfold zcy at ih ⊢
  rw[List.flatMap_cons,List.flatMap_cons,List.length_append,List.length_append,List.length_cons]
  omega
theorem zjL (c:UInt8):∀(s:List UInt8),((zah c s).flatMap fun x=>(1:UInt8)::x).length=s.length+1
 | []=>rfl
 | x::t=>by
  have ih:=zjL c t
  rw[zaE]
  split
  ·rw[List.flatMap_cons];simp only[List.length_append,List.length_cons,List.length_nil] at ih ⊢;omega
  ·obtain⟨p,ps,e⟩:=zaG c t
   rw[e] at ih ⊢
   simp only[List.flatMap_cons,List.length_append,List.length_cons] at ih ⊢
   omega
theorem zfp (c:UInt8) (s:List UInt8):((zah c s).tail.flatMap fun x=>(1:UInt8)::x).length≤s.length:=by
 have h:=zjL c s
 obtain⟨p,ps,e⟩:=zaG c s
 rw[e] at h ⊢
 simp only[List.flatMap_cons,List.length_append,List.length_cons,List.tail_cons] at h ⊢
 omega
theorem zfo {l:List (List UInt8)} (i:Nat) (f:List UInt8→List UInt8):(l.take i).flatMap f++(l.drop i).flatMap f=l.flatMap f:=by
 rw[←List.flatMap_append,List.take_append_drop]
theorem zh8 {l:List (List UInt8)} {i:Nat} (h:i<l.length):zcy (l.take (i+1))=zcy (l.take i)++segF l[i]:=by
 unfold zcy
 rw[List.take_succ_eq_append_getElem h,List.flatMap_append];simp
theorem znU {l:List (List UInt8)} {i:Nat} (h:i<l.length):zcY (l.take (i+1))=zcY (l.take i)++zk0 l[i]:=by
 unfold zcY
 rw[List.take_succ_eq_append_getElem h,List.flatMap_append];simp
theorem zjv {p:List UInt8→Bool} {l:List (List UInt8)} {i:Nat} (h:i<l.length):(l.take (i+1)).all p=((l.take i).all p&&p l[i]):=by
 rw[List.take_succ_eq_append_getElem h,List.all_append];simp
theorem zhK {p:List UInt8→Bool} {l:List (List UInt8)} {i:Nat} (h:i<l.length) (hp:p l[i]=false):l.all p=false:=by
 rw[Bool.eq_false_iff]
 intro e
 rw[List.all_eq_true.1 e _ (List.getElem_mem h)] at hp;cases hp
theorem zfn {m i:List UInt8} (hi:i.length≤13000) (c0:(dwA m i).1=0):zcm (toU m i):=by
 have hd:dwA m i=(0,(dwA m i).2.1,(dwA m i).2.2):=by rw[←c0]
 obtain⟨_,_,_,k4⟩:=zq4 hd
 obtain⟨_,a2,_,a4,_⟩:=zjd k4
 have h1:=zdK (zah 58 i).tail
 have h2:=zfp 58 i
 refine⟨by show (dwA m i).2.1.length≤_;omega,by show _≤(((dwA m i).2.2:Nat):Int);omega,by show (((dwA m i).2.2:Nat):Int)≤_;omega,?_,by show (0:Nat)≤_;omega,by show (0:Nat)≤_;omega⟩
 show (zfA _).length≤_
 unfold zfA
 split
 ·decide
 ·simp only[List.length_append,List.length_cons,zhP,List.length_nil];omega
theorem zi7 (l:List (List UInt8)):l.length≤(l.flatMap fun x=>(1:UInt8)::x).length:=by
 induction l with
 | nil=>simp
 | cons x l ih=>simp only[List.flatMap_cons,List.length_append,List.length_cons];omega
theorem segI_len (x:List UInt8):(zk0 x).length≤1+3*x.length:=by
 unfold zk0
 have h1:=zfR (zaj x []).2
 have h2:=(zdF x []).1
 simp only[List.length_cons];omega
theorem zg3:∀l:List (List UInt8),(zcY l).length≤3*(l.flatMap fun x=>(1:UInt8)::x).length
 | []=>by simp[zcY]
 | x::l=>by
  have ih:=zg3 l
  have h:=segI_len x
  unfold zcY at ih ⊢
  rw[List.flatMap_cons,List.flatMap_cons,List.length_append,List.length_append,List.length_cons]
  omega
theorem znz {u:UrlP} (h:zcU u=true):∃init z,zdv u=init++[z]:=by
 obtain⟨m,hm,hms,hp⟩:=(zfl h).path
 have hsp:zdv u=m:=by
  unfold zdv
  rw[hp,zem m (fun x hx=>(hms x hx).1.1)];rfl
 rw[hsp]
 rcases List.eq_nil_or_concat m with rfl|⟨l',y,rfl⟩
 ·exact absurd rfl hm
 ·exact⟨l',y,by simp⟩
section
variable [Tabs Tryz.prog] {objs:List OB} {K:List OB→AV→Prop}
theorem eachF_k (b:Nat) (l:List (List UInt8)) (hb:zdr objs b 148 []) (hl:(l.flatMap fun x=>(1:UInt8)::x).length≤16384) (h0:l.all okS=false→∀o,zgD objs b o→K o (.i .i64 110))
  (h1:l.all okS=true→∀o,zdr o b 148 (zcy l)→zgD objs b o→K o (.i .i64 0)) :
  zad Tryz.prog 156 [.row l.length (l.map .s),.fn 157 [.p b 0] []] objs K:=by
 have hmem:∀x∈l,x.length+1≤(l.flatMap fun x=>(1:UInt8)::x).length:=by
  intro x hx
  obtain⟨p,q,rfl⟩:=List.append_of_mem hx
  simp only[List.flatMap_append,List.flatMap_cons,List.length_append,List.length_cons];omega
 have hlen:l.length≤(l.flatMap fun x=>(1:UInt8)::x).length:=by
  clear hb h0 h1 hl hmem
  induction l with
  | nil=>simp
  | cons x l ih=>simp only[List.flatMap_cons,List.length_append,List.length_cons];omega
 refine each_k l (by omega) _ _ _ isFn_pw (fun i o=>zdr o b 148 (zcy (l.take i))∧zgD objs b o∧(l.take i).all okS=true) ⟨by simpa[zcy] using hb,zgD.refl _ _,by simp⟩ ?_ ?_
 ·rintro i hi o ⟨k1,k2,k3⟩
  have hx:=hmem l[i] (List.getElem_mem hi)
  have hs:(zcy (l.take i)).length≤1000000000:=by
   have h2:=zdK (l.take i)
   have h3:=congrArg List.length (zfo (l:=l) i fun x=>(1:UInt8)::x)
   rw[List.length_append] at h3
   omega
  refine pwAdd_k b (zcy (l.take i)) l[i] k1 (by omega) hs (fun e=>?_) (fun e o' k4 k5=>?_)
  ·exact .inr ⟨110,rfl,by decide,h0 (zhK hi e) o k2⟩
  ·refine .inl ⟨rfl,by rw[zh8 hi];exact k4,k2.trans k5,by rw[zjv hi,k3,e];rfl⟩
 ·rintro o ⟨k1,k2,k3⟩
  rw[List.take_length] at k1 k3
  exact h1 k3 o k1 k2
theorem zq3 [Shp Tryz.prog] [Pow Tryz.prog] (m i:List UInt8) (hm:m.length≤13000) (hi:i.length≤13000) (hk:K objs (.tup [zaQ (toE m i).2,.i .i64 (toE m i).1])):zad Tryz.prog 129 [.agg [.s m,.s i]] objs K:=by
 refine zaU is_didweb_ToURL rfl fun C _=>?_
 simp only[c_didweb_ToURL,sxZ,z6,z7,z8,j6,j7,j8,j9,x0,x5,x6,x7,x8,x9,y3,y4,reduceCtorEq,↓reduceIte]
 refine zaf (znd m i (by omega) (by omega) ?_)
 unfold toE at hk
 by_cases c0:(dwA m i).1=0
 ·simp only[c0,ne_eq,not_true_eq_false,if_false] at hk
  simp only[c0,zdY,sxZ,z6,z7,z8,j6,j7,j8,j9,x0,x5,x6,x7,x8,x9,y3,y4,reduceCtorEq,↓reduceIte]
  refine zaf (zl4 i 58 (by omega) ?_)
  have hpos:=zbx 58 i
  have htail:=zfp 58 i
  simp only[sxZ,z6,z7,z8,j6,j7,j8,j9,x0,x5,x6,x7,x8,x9,y3,y4,reduceCtorEq,↓reduceIte,Nat.mul_one,zgG]
  refine⟨by omega,?_⟩
  have hsh:=zfn hi c0
  have hlen:(zah 58 i).length - 1=(zah 58 i).tail.length:=by simp
  have hU:toU m i=⟨(dwA m i).2.1,(dwA m i).2.2,zfA (zah 58 i).tail,[],[],false,false⟩:=rfl
  rw[hlen]
  generalize (zah 58 i).tail=segs at *
  by_cases ht:segs=[]
  ·subst ht
   rw[show ([]:List (List UInt8)).all okS=true from rfl] at hk
   simp only[Bool.true_eq_false,if_false] at hk
   rw[show zfA []=wkP from rfl] at hU
   rw[hU] at hsh hk
   generalize hu:(⟨(dwA m i).2.1,(dwA m i).2.2,wkP,[],[],false,false⟩:UrlP)=u at hsh hk
   have e0:¬(0:Int)<((0:Nat):Int):=by omega
   simp only[e0,sxZ,z6,z7,z8,j6,j7,j8,j9,x0,x5,x6,x7,x8,x9,y3,y4,reduceCtorEq,↓reduceIte]
   refine zaf (show zad _ _ [zaQ ⟨(dwA m i).2.1,(dwA m i).2.2,wkP,[],[],false,false⟩] _ _ from hu▸zdJ u hsh ?_)
   by_cases c1:(4096:Int)<(zcA u).length
   ·have c1':4096<(zcA u).length:=by omega
    rw[if_pos c1'] at hk
    simp only[c1,sxZ,z6,z7,z8,j6,j7,j8,j9,x0,x5,x6,x7,x8,x9,y3,y4,reduceCtorEq,↓reduceIte]
    exact hk
   ·have c1':¬4096<(zcA u).length:=by omega
    rw[if_neg c1'] at hk
    simp only[c1,sxZ,z6,z7,z8,j6,j7,j8,j9,x0,x5,x6,x7,x8,x9,y3,y4,reduceCtorEq,↓reduceIte]
    subst hu
    exact hk
  ·have e0:(0:Int)<(segs.length:Nat):=by
    have:=List.length_pos_iff.2 ht
    omega
   rw[show zfA segs=zcy segs++47::zhP by unfold zfA;rw[if_neg ht]] at hU
   have hsl:=zdK segs
   rw[hU] at hsh hk
   simp only[e0,sxZ,z6,z7,z8,j6,j7,j8,j9,x0,x5,x6,x7,x8,x9,y3,y4,reduceCtorEq,↓reduceIte]
   refine zaf (eachF_k 4 segs (.inl ⟨rfl,rfl⟩) (by omega) (fun hbad o k2=>?_) (fun hok o k1 k2=>?_))
   ·have o1:=(k2.2 1 _ rfl (by decide) (fun e=>by cases (show (none:Option Nat)=some _ from e))).1
    have ol:1<o.length:=zcC o1
    rw[hbad] at hk
    simp only[o1,ol,sxZ,z6,z7,z8,j6,j7,j8,j9,x0,x5,x6,x7,x8,x9,y3,y4,reduceCtorEq,↓reduceIte,List.getElem?_set]
    exact hk
   ·rw[hok] at hk
    simp only[Bool.true_eq_false,if_false] at hk
    simp only[sxZ,z6,z7,z8,j6,j7,j8,j9,x0,x5,x6,x7,x8,x9,y3,y4,reduceCtorEq,↓reduceIte]
    refine zaf (zhI _ 4 (zcy segs) k1 fun o' k3=>?_)
    have k4:=k2.trans k3
    have o1:=(k4.2 1 _ rfl (by decide) (fun e=>by cases (show (none:Option Nat)=some _ from e))).1
    have o3:=(k4.2 3 _ rfl (by decide) (fun e=>by cases (show (none:Option Nat)=some _ from e))).1
    have ol1:1<o'.length:=zcC o1
    have ol3:3<o'.length:=zcC o3
    have hpa:zcy segs++[47]++[100,105,100,46,106,115,111,110]=zcy segs++47::zhP:=by simp[zhP]
    simp only[o1,o3,ol1,ol3,sxZ,z6,z7,z8,j6,j7,j8,j9,x0,x5,x6,x7,x8,x9,y3,y4,reduceCtorEq,↓reduceIte,List.getElem?_set,List.length_set]
    refine⟨by omega,?_⟩
    simp only[hpa]
    refine⟨by omega,?_⟩
    refine zaf (zdJ _ hsh ?_)
    generalize hu:(⟨(dwA m i).2.1,(dwA m i).2.2,zcy segs++47::zhP,[],[],false,false⟩:UrlP)=u at hsh hk ⊢
    by_cases c1:(4096:Int)<(zcA u).length
    ·have c1':4096<(zcA u).length:=by omega
     rw[if_pos c1'] at hk
     simp only[c1,o1,o3,ol1,ol3,sxZ,z6,z7,z8,j6,j7,j8,j9,x0,x5,x6,x7,x8,x9,y3,y4,reduceCtorEq,↓reduceIte,List.getElem?_set,List.length_set]
     exact hk
    ·have c1':¬4096<(zcA u).length:=by omega
     rw[if_neg c1'] at hk
     simp only[c1,o1,o3,ol1,ol3,sxZ,z6,z7,z8,j6,j7,j8,j9,x0,x5,x6,x7,x8,x9,y3,y4,reduceCtorEq,↓reduceIte,List.getElem?_set,List.length_set]
     subst hu
     exact hk
 ·simp only[c0,ne_eq,not_false_eq_true,if_true] at hk
  simp only[c0,zdY,sxZ,z6,z7,z8,j6,j7,j8,j9,x0,x5,x6,x7,x8,x9,y3,y4,reduceCtorEq,↓reduceIte]
  exact hk
theorem eachI_k [Shp Tryz.prog] (b:Nat) (l0:List UInt8) (l:List (List UInt8)) (hb:zdr objs b 152 l0) (hl0:l0.length≤100000000) (hl:(l.flatMap fun x=>(1:UInt8)::x).length≤16384) (h0:l.all okI=false→∀o,zgD objs b o→K o (.i .i64 110))
  (h1:l.all okI=true→∀o,zdr o b 152 (l0++zcY l)→zgD objs b o→K o (.i .i64 0)) :
  zad Tryz.prog 156 [.row l.length (l.map .s),.fn 161 [.p b 0] []] objs K:=by
 have hmem:∀x∈l,x.length+1≤(l.flatMap fun x=>(1:UInt8)::x).length:=by
  intro x hx
  obtain⟨p,q,rfl⟩:=List.append_of_mem hx
  simp only[List.flatMap_append,List.flatMap_cons,List.length_append,List.length_cons];omega
 have hlen:l.length≤(l.flatMap fun x=>(1:UInt8)::x).length:=by
  clear hb h0 h1 hl hmem
  induction l with
  | nil=>simp
  | cons x l ih=>simp only[List.flatMap_cons,List.length_append,List.length_cons];omega
 refine each_k l (by omega) _ _ _ isFn_iw (fun i o=>zdr o b 152 (l0++zcY (l.take i))∧zgD objs b o∧(l.take i).all okI=true) ⟨by simpa[zcY] using hb,zgD.refl _ _,by simp⟩ ?_ ?_
 ·rintro i hi o ⟨k1,k2,k3⟩
  have hx:=hmem l[i] (List.getElem_mem hi)
  have hs:(l0++zcY (l.take i)).length≤1000000000:=by
   have h2:=zg3 (l.take i)
   have h3:=congrArg List.length (zfo (l:=l) i fun x=>(1:UInt8)::x)
   rw[List.length_append] at h3 ⊢
   omega
  refine iwAdd_k b (l0++zcY (l.take i)) l[i] k1 (by omega) hs (fun e=>?_) (fun e o' k4 k5=>?_)
  ·exact .inr ⟨110,rfl,by decide,h0 (zhK hi e) o k2⟩
  ·refine .inl ⟨rfl,by rw[znU hi,←List.append_assoc];exact k4,k2.trans k5,by rw[zjv hi,k3,e];rfl⟩
 ·rintro o ⟨k1,k2,k3⟩
  rw[List.take_length] at k1 k3
  exact h1 k3 o k1 k2
set_option maxHeartbeats 1000000 in
theorem zlF [Shp Tryz.prog] [Pow Tryz.prog] (u:UrlP) (hu:zcm u) (hk:K objs (.tup [.agg [.s (zdq u).2.1,.s (zdq u).2.2],.i .i64 (zdq u).1])):zad Tryz.prog 130 [zaQ u] objs K:=by
 refine zaU is_didweb_FromURL rfl fun C _=>?_
 simp only[c_didweb_FromURL,zaQ,sxZ,z6,z7,z8,j6,j7,j8,j9,x0,x5,x6,x7,x8,x9,y3,y4,reduceCtorEq,↓reduceIte]
 refine zaf (wValid_k u hu ?_)
 unfold zdq at hk
 by_cases c0:zcU u=true
 ·obtain⟨init,z,hseg⟩:=znz c0
  have hlen:=zjE c0
  have hpl:=zb2 u
  have hsum:=zfp 47 u.path
  have hst:(zah 47 u.path).tail=init++[z]:=hseg
  have hln:(zah 47 u.path).length - 1=init.length+1:=by
   have:=congrArg List.length hst
   simpa using this
  have hpos:=zbx 47 u.path
  rw[hst] at hsum
  have hid:zeP u=hpI u.host u.port++(if u.path=wkP then [] else zcY init):=by
   unfold zeP;rw[hseg];simp
  have hhl:u.host.length≤1000000:=hu.1
  simp only[c0,Bool.true_eq_false,if_false,hseg,List.getLastD_concat,List.dropLast_concat,hid] at hk
  simp only[c0,sxZ,z6,z7,z8,j6,j7,j8,j9,x0,x5,x6,x7,x8,x9,y3,y4,reduceCtorEq,↓reduceIte]
  refine zaf (zl4 u.path 47 (by omega) ?_)
  simp only[sxZ,z6,z7,z8,j6,j7,j8,j9,x0,x5,x6,x7,x8,x9,y3,y4,reduceCtorEq,↓reduceIte,Nat.mul_one,zgG,hst,hln]
  have hls:=zi7 (init++[z])
  rw[List.length_append,List.length_singleton] at hls
  refine⟨by omega,by omega,?_⟩
  have e1:((init.length+1:Nat):Int) - 1=init.length:=by omega
  have hz:((init++[z]).map AV.s)[init.length]? = some (.s z):=by simp
  have htk:((init++[z]).map AV.s).take init.length=init.map AV.s:=by simp
  have hsi:(init.flatMap fun x=>(1:UInt8)::x).length≤16384:=by
   rw[List.flatMap_append,List.length_append] at hsum
   omega
  simp only[e1]
  cases hq:u.hq with
  | true=>
   simp only[hq,true_or,if_true] at hk
   simp only[sxZ,z6,z7,z8,j6,j7,j8,j9,x0,x5,x6,x7,x8,x9,y3,y4,reduceCtorEq,↓reduceIte]
   exact hk
  | false=>
   cases hf:u.hf with
   | true=>
    simp only[hf,true_or,or_true,if_true] at hk
    simp only[sxZ,z6,z7,z8,j6,j7,j8,j9,x0,x5,x6,x7,x8,x9,y3,y4,reduceCtorEq,↓reduceIte]
    exact hk
   | false=>
    simp only[sxZ,z6,z7,z8,j6,j7,j8,j9,x0,x5,x6,x7,x8,x9,y3,y4,reduceCtorEq,↓reduceIte,Int.toNat_natCast,Nat.mul_one,hz]
    refine⟨by simp;omega,?_⟩
    by_cases c1:z=zhP
    ·simp only[hq,hf,c1,Bool.false_eq_true,not_true_eq_false,or_self,if_false] at hk
     have c1':¬¬z=[100,105,100,46,106,115,111,110]:=fun h=>h c1
     simp only[c1',sxZ,z6,z7,z8,j6,j7,j8,j9,x0,x5,x6,x7,x8,x9,y3,y4,reduceCtorEq,↓reduceIte]
     have eu:zaQ u=.agg [.s u.host,.i .i64 u.port,.s u.path,.s u.query,.s u.frag,.b false,.b false]:=by unfold zaQ;rw[hq,hf]
     refine zaf ?_
     rw[←eu]
     refine zjD u ?_
     simp only[zdY,sxZ,z6,z7,z8,j6,j7,j8,j9,x0,x5,x6,x7,x8,x9,y3,y4,reduceCtorEq,↓reduceIte]
     refine zaf (zqG 2 u.host u.port (.inl ⟨rfl,rfl⟩) hhl hu.2.1 hu.2.2.1 fun o k1 k2=>?_)
     have o0:=(k2.2 0 _ rfl (by decide) (fun e=>by cases (show (none:Option Nat)=some _ from e))).1
     have o1:=(k2.2 1 _ rfl (by decide) (fun e=>by cases (show (none:Option Nat)=some _ from e))).1
     have hhp:=zqP u.host u.port hu.2.1 hu.2.2.1
     by_cases c2:u.path=wkP
     ·simp only[c2,not_true_eq_false,false_and,if_false,if_true,List.append_nil] at hk
      have c2':¬¬wkP=[47,46,119,101,108,108,45,107,110,111,119,110,47,100,105,100,46,106,115,111,110]:=fun h=>h rfl
      simp only[c2,c2',o0,o1,sxZ,z6,z7,z8,j6,j7,j8,j9,x0,x5,x6,x7,x8,x9,y3,y4,reduceCtorEq,↓reduceIte]
      refine zaf (zhI _ 2 _ k1 fun o' k3=>?_)
      have p1:=((k2.trans k3).2 1 _ rfl (by decide) (fun e=>by cases (show (none:Option Nat)=some _ from e))).1
      have ol1:1<o'.length:=zcC p1
      have g1:∀x:OB,(o'++[x])[1]? = o'[1]?:=fun x=>List.getElem?_append_left ol1
      have s1:∀x y:OB,(o'++[x]).set 1 y=o'.set 1 y++[x]:=fun x y=>List.set_append_left _ _ ol1
      have g2:∀x y:OB,(o'.set 1 y++[x])[1]? = some y:=fun x y=>by rw[List.getElem?_append_left (by simpa using ol1),List.getElem?_set_self ol1]
      simp only[gn1,sn1,g1,s1,g2,p1,sxZ,z6,z7,z8,j6,j7,j8,j9,x0,x5,x6,x7,x8,x9,y3,y4,reduceCtorEq,↓reduceIte]
      refine zaf (zdD _ _ (by decide) (by omega) ?_)
      have hw:zei=[119,101,98]:=rfl
      rw[hw] at hk
      by_cases c3:(4096:Int)<(zbo [119,101,98] (hpI u.host u.port)).length
      ·have c3':4096<(zbo [119,101,98] (hpI u.host u.port)).length:=by omega
       rw[if_pos c3'] at hk
       simp only[c3,gn1,sn1,g1,s1,g2,p1,sxZ,z6,z7,z8,j6,j7,j8,j9,x0,x5,x6,x7,x8,x9,y3,y4,reduceCtorEq,↓reduceIte]
       exact hk
      ·have c3':¬4096<(zbo [119,101,98] (hpI u.host u.port)).length:=by omega
       rw[if_neg c3'] at hk
       simp only[c3,gn1,sn1,g1,s1,g2,p1,sxZ,z6,z7,z8,j6,j7,j8,j9,x0,x5,x6,x7,x8,x9,y3,y4,reduceCtorEq,↓reduceIte]
       exact hk
     ·have c2':¬u.path=[47,46,119,101,108,108,45,107,110,111,119,110,47,100,105,100,46,106,115,111,110]:=c2
      by_cases c4:init=[]
      ·subst c4
       simp only[c2,not_false_eq_true,true_and,true_or,if_true] at hk
       have ol1:=zcC o1
       have ez:((0:Nat):Int)=0:=rfl
       simp only[c2',o0,o1,ol1,ez,sxZ,z6,z7,z8,j6,j7,j8,j9,x0,x5,x6,x7,x8,x9,y3,y4,reduceCtorEq,↓reduceIte,List.getElem?_set]
       exact hk
      ·have c4':¬((init.length:Nat):Int)=0:=by
        have:=List.length_pos_iff.2 c4
        omega
       simp only[c2,c4,not_false_eq_true,true_and,false_or,if_false] at hk
       simp only[c2',c4',o0,o1,sxZ,z6,z7,z8,j6,j7,j8,j9,x0,x5,x6,x7,x8,x9,y3,y4,reduceCtorEq,↓reduceIte,Int.toNat_natCast,Nat.mul_one,htk]
       refine⟨by omega,?_⟩
       refine zaf (eachI_k 2 _ init k1 (by omega) hsi (fun hbad o' k5=>?_) (fun hok o' k4 k5=>?_))
       ·have p1:=((k2.trans k5).2 1 _ rfl (by decide) (fun e=>by cases (show (none:Option Nat)=some _ from e))).1
        have ol1:=zcC p1
        rw[hbad] at hk
        simp only[p1,ol1,sxZ,z6,z7,z8,j6,j7,j8,j9,x0,x5,x6,x7,x8,x9,y3,y4,reduceCtorEq,↓reduceIte,List.getElem?_set]
        exact hk
       ·rw[hok] at hk
        simp only[Bool.true_eq_false,if_false] at hk
        simp only[sxZ,z6,z7,z8,j6,j7,j8,j9,x0,x5,x6,x7,x8,x9,y3,y4,reduceCtorEq,↓reduceIte]
        have hsl:=zg3 init
        refine zaf (zhI _ 2 _ k4 fun o2 k6=>?_)
        have p1:=(((k2.trans k5).trans k6).2 1 _ rfl (by decide) (fun e=>by cases (show (none:Option Nat)=some _ from e))).1
        have ol1:1<o2.length:=zcC p1
        have g1:∀x:OB,(o2++[x])[1]? = o2[1]?:=fun x=>List.getElem?_append_left ol1
        have s1:∀x y:OB,(o2++[x]).set 1 y=o2.set 1 y++[x]:=fun x y=>List.set_append_left _ _ ol1
        have g2:∀x y:OB,(o2.set 1 y++[x])[1]? = some y:=fun x y=>by rw[List.getElem?_append_left (by simpa using ol1),List.getElem?_set_self ol1]
        simp only[gn1,sn1,g1,s1,g2,p1,sxZ,z6,z7,z8,j6,j7,j8,j9,x0,x5,x6,x7,x8,x9,y3,y4,reduceCtorEq,↓reduceIte]
        refine zaf (zdD _ _ (by decide) (by rw[List.length_append];omega) ?_)
        have hw:zei=[119,101,98]:=rfl
        rw[hw] at hk
        by_cases c3:(4096:Int)<(zbo [119,101,98] (hpI u.host u.port++zcY init)).length
        ·have c3':4096<(zbo [119,101,98] (hpI u.host u.port++zcY init)).length:=by omega
         rw[if_pos c3'] at hk
         simp only[c3,gn1,sn1,g1,s1,g2,p1,sxZ,z6,z7,z8,j6,j7,j8,j9,x0,x5,x6,x7,x8,x9,y3,y4,reduceCtorEq,↓reduceIte]
         exact hk
        ·have c3':¬4096<(zbo [119,101,98] (hpI u.host u.port++zcY init)).length:=by omega
         rw[if_neg c3'] at hk
         simp only[c3,gn1,sn1,g1,s1,g2,p1,sxZ,z6,z7,z8,j6,j7,j8,j9,x0,x5,x6,x7,x8,x9,y3,y4,reduceCtorEq,↓reduceIte]
         exact hk
    ·simp only[hq,hf,c1,Bool.false_eq_true,not_false_eq_true,or_true,if_true] at hk
     have c1':¬z=[100,105,100,46,106,115,111,110]:=c1
     simp only[c1',sxZ,z6,z7,z8,j6,j7,j8,j9,x0,x5,x6,x7,x8,x9,y3,y4,reduceCtorEq,↓reduceIte]
     exact hk
 ·simp only[c0,sxZ,z6,z7,z8,j6,j7,j8,j9,x0,x5,x6,x7,x8,x9,y3,y4,reduceCtorEq,↓reduceIte]
  simp only[c0,if_true] at hk
  exact hk
theorem dwCan_k [Shp Tryz.prog] [Pow Tryz.prog] (m i:List UInt8) (hm:m.length≤13000) (hi:i.length≤13000) (hk:K objs (.tup [.agg [.s (ze1 m i).2.1,.s (ze1 m i).2.2],.i .i64 (ze1 m i).1])):zad Tryz.prog 98 [.agg [.s m,.s i]] objs K:=by
 refine zaU is_didweb_Canonical rfl fun C _=>?_
 simp only[c_didweb_Canonical,sxZ,z6,z7,z8,j6,j7,j8,j9,x0,x5,x6,x7,x8,x9,y3,y4,reduceCtorEq,↓reduceIte]
 refine zaf (zq3 m i hm hi ?_)
 unfold ze1 at hk
 have hz:=to_err (m:=m) (i:=i)
 have hsh:(toE m i).1=0→zcm (toE m i).2:=fun h=>by
  have e:toE m i=(0,(toE m i).2):=by rw[←h]
  obtain⟨_,_,_,k4,_,k6⟩:=zl0 e
  rw[k6];exact zfn hi (by rw[k4])
 generalize toE m i=q at *
 obtain⟨e,u⟩:=q
 simp only at hz hsh hk ⊢
 by_cases c0:e=0
 ·subst c0
  simp only[ne_eq,not_true_eq_false,if_false] at hk
  simp only[zaQ,sxZ,z6,z7,z8,j6,j7,j8,j9,x0,x5,x6,x7,x8,x9,y3,y4,reduceCtorEq,↓reduceIte]
  refine zaf (zlF u (hsh rfl) ?_)
  simp only[sxZ,z6,z7,z8,j6,j7,j8,j9,x0,x5,x6,x7,x8,x9,y3,y4,reduceCtorEq,↓reduceIte]
  exact hk
 ·have:=hz c0
  subst this
  simp only[c0,ne_eq,not_false_eq_true,if_true] at hk
  simp only[c0,zaQ,sxZ,z6,z7,z8,j6,j7,j8,j9,x0,x5,x6,x7,x8,x9,y3,y4,reduceCtorEq,↓reduceIte]
  exact hk
end
def jn2:List (List UInt8)→List UInt8
 | []=>[]
 | p::ps=>zbG p++jnc ps
theorem jn2_snoc (xs:List (List UInt8)) (q:List UInt8):jn2 (xs++[q])=(if xs=[] then [] else jn2 xs++[58])++zbG q:=by
 cases xs with
 | nil=>simp[jn2,jnc]
 | cons p ps=>simp[jn2,jnc]
theorem idE_list (d:List UInt8) (hl:d.length≤16384):idE d=if ¬(∀q∈zah 58 d,(zaR q).1=0) then (2,[]) else if (zah 58 d).all (fun q=>q.all ppB)=false then (1,[]) else if (zah 58 d).getLastD []=[] then (3,[]) else (0,jn2 (zah 58 d)):=by
 obtain⟨p,ps,h⟩:=zaG 58 d
 rw[zev d p ps hl h,h];rfl
theorem zna (l:List UInt8):(zbf l).length≤3*l.length:=by
 induction l with
 | nil=>exact Nat.le_refl _
 | cons c l ih=>
  rw[zcu,List.length_append,List.length_cons]
  split<;>simp only[zeR,List.length_cons,List.length_nil]<;>omega
theorem pp_iff (c:UInt8):ppB c=(c==37||idB c):=rfl
theorem zrH {xs:List (List UInt8)} {p:List UInt8→Prop} (h:∀j (hj:j<xs.length),p xs[j]):∀q∈xs,p q:=by
 intro x hx
 obtain⟨j,hj,rfl⟩:=List.mem_iff_getElem.1 hx
 exact h j hj
theorem zqZ (l:List UInt8) (c:UInt8):zbf (l++[c])=zbf l++(if idB c=true then [c] else zc5 c):=by simp[zbf]
theorem dcL_len (l:List UInt8) (h:(dcL l).1=0):(dcL l).2.length≤l.length:=by
 have key:∀(n:Nat) (l:List UInt8),l.length≤n→(dcL l).1=0→(dcL l).2.length≤l.length:=by
  intro n
  induction n with
  | zero=>
   intro l hl h
   obtain rfl:l=[]:=List.eq_nil_of_length_eq_zero (by omega)
   exact Nat.le_refl _
  | succ n ih=>
   intro l hl h
   cases l with
   | nil=>exact Nat.le_refl _
   | cons c t=>
    by_cases hc:c=37
    ·subst hc
     rcases he:zbt (37::t) with _|_
     ·rw[zgc he] at h;cases h
     ·obtain⟨a,b,r,rfl⟩:=zbK he
      have d:=zec he
      rw[d.1] at h
      have:=ih r (by simp at hl ⊢;omega) h
      rw[d.2 h]
      simp;omega
    ·have d:=zdG (c:=c) (t:=t) hc
     rw[d.1] at h
     have:=ih t (by simp at hl;omega) h
     rw[d.2 h]
     simp;omega
 exact key l.length l (Nat.le_refl _) h
section
variable [Tabs Tryz.prog] {objs:List OB} {K:List OB→AV→Prop}
theorem zmm (c:UInt8) (hk:K objs (.b (zal c))):zad Tryz.prog 78 [.i .u8 c.toNat] objs K :=
 conv (vs:=[.int .u8 c.toNat]) rfl rfl (fun w=>(za6 c w).mono (by rintro e w' ⟨rfl,rfl⟩;exact⟨rfl,Qb.refl _⟩)) hk
theorem rAlpha_k (c:UInt8) (hk:K objs (.b (za4 c))):zad Tryz.prog 77 [.i .u8 c.toNat] objs K :=
 conv (vs:=[.int .u8 c.toNat]) rfl rfl (fun w=>(za7 c w).mono (by rintro e w' ⟨rfl,rfl⟩;exact⟨rfl,Qb.refl _⟩)) hk
theorem rIn_k (c:UInt8) (s:List UInt8) (hs:s.length≤maxLen) (hk:K objs (.b (zbe c s))):zad Tryz.prog 49 [.i .u8 c.toNat,.s s] objs K :=
 conv (vs:=[.int .u8 c.toNat,.string (S s)]) rfl rfl (fun w=>(zb7 c (S s) w (by rw[zac];exact hs)).mono (by rintro e w' ⟨rfl,rfl⟩;exact⟨rfl,Qb.refl _⟩)) hk
theorem zpA (c:UInt8) (hk:K objs (.s (zc5 c))):zad Tryz.prog 75 [.i .u8 c.toNat] objs K :=
 conv (vs:=[.int .u8 c.toNat]) rfl rfl (fun w=>zd4 c w) hk
theorem zj3 (c:UInt8) (hk:K objs (.b (idB c))):zad Tryz.prog 87 [.i .u8 c.toNat] objs K:=by
 refine zaU is_ref10_plain rfl fun C _=>?_
 unfold idB at hk
 simp only[c_ref10_plain,sxZ,z6,z7,z8,j6,j7,j8,j9,x0,x5,x6,x7,x8,x9,y3,y4,reduceCtorEq,↓reduceIte]
 refine zaf (rAlpha_k c ?_)
 by_cases h1:za4 c=true
 ·simp only[h1,Bool.true_or] at hk
  simp only[h1,sxZ,z6,z7,z8,j6,j7,j8,j9,x0,x5,x6,x7,x8,x9,y3,y4,reduceCtorEq,↓reduceIte]
  exact hk
 ·simp only[h1,sxZ,z6,z7,z8,j6,j7,j8,j9,x0,x5,x6,x7,x8,x9,y3,y4,reduceCtorEq,↓reduceIte]
  refine zaf (zmm c ?_)
  by_cases h2:zal c=true
  ·simp only[h1,h2,Bool.true_or,Bool.or_true,Bool.false_or] at hk
   simp only[h2,sxZ,z6,z7,z8,j6,j7,j8,j9,x0,x5,x6,x7,x8,x9,y3,y4,reduceCtorEq,↓reduceIte]
   exact hk
  ·simp only[h1,h2,Bool.false_or] at hk
   simp only[h2,sxZ,z6,z7,z8,j6,j7,j8,j9,x0,x5,x6,x7,x8,x9,y3,y4,reduceCtorEq,↓reduceIte]
   refine zaf (rIn_k c _ (by decide) ?_)
   simp only[sxZ,z6,z7,z8,j6,j7,j8,j9,x0,x5,x6,x7,x8,x9,y3,y4,reduceCtorEq,↓reduceIte]
   exact hk
set_option maxHeartbeats 4000000 in
theorem zn5 (s:List UInt8) (hs:s.length≤1000000) (hk:K objs (.b (zbP s))):zad Tryz.prog 86 [.s s] objs K:=by
 refine zaU is_ref10_method rfl fun C _=>?_
 unfold zbP at hk
 simp only[c_ref10_method,sxZ,z6,z7,z8,j6,j7,j8,j9,x0,x5,x6,x7,x8,x9,y3,y4,reduceCtorEq,↓reduceIte]
 refine zbg (fun n objs tm=>∃i:Nat,i≤s.length∧n=s.length - i∧objs=[]∧(∀j (h:j<s.length),j<i→meB s[j]=true)∧tm.length=29∧tm[0]? = some (.s s)∧tm[3]? = some (.i .i64 i)) s.length ⟨0,Nat.zero_le _,rfl,rfl,fun j h h0=>absurd h0 (by omega),rfl,rfl,rfl⟩ ?_
 rintro n _ tm ⟨i,hi,rfl,rfl,hall,hlen,t0,t3⟩
 by_cases hlt:(i:Int)<s.length
 ·have hlt':i<s.length:=by omega
  have hg:=zdB hlt'
  have hfin:meB s[i]=false→K objs (.b false):=fun h=>by
   rw[zjw hlt' h] at hk;exact hk
  have hnext:meB s[i]=true→∀j (h:j<s.length),j<i+1→meB s[j]=true:=by
   intro h j hj hji
   rcases Nat.lt_or_ge j i with h1|h1
   ·exact hall j hj h1
   ·have:j=i:=by omega
    subst this;exact h
  simp only[sxZ,z6,z7,z8,j6,j7,j8,j9,x0,x5,x6,x7,x8,x9,y3,y4,reduceCtorEq,↓reduceIte,List.getElem?_set,hlen,t0,t3,hlt]
  refine⟨by omega,?_⟩
  rw[hg]
  generalize s[i]=c at *
  refine zaf (zmm c ?_)
  by_cases hd:zal c=true
  ·have hm:meB c=true:=by unfold meB;rw[hd];rfl
   simp only[hd,sxZ,z6,z7,z8,j6,j7,j8,j9,x0,x5,x6,x7,x8,x9,y3,y4,reduceCtorEq,↓reduceIte,List.getElem?_set,hlen,t0,t3]
   exact⟨⟨by omega,by omega⟩,s.length - (i+1),by omega,i+1,by omega,rfl,hnext hm,rfl⟩
  ·simp only[Bool.not_eq_true] at hd
   have hm:=zp8 c hd
   by_cases h97:((c.toNat:Nat):Int)<97
   ·have hm2:meB c=false:=by rw[hm,decide_eq_false (by omega)];rfl
    simp only[hd,hg,h97,sxZ,z6,z7,z8,j6,j7,j8,j9,x0,x5,x6,x7,x8,x9,y3,y4,reduceCtorEq,↓reduceIte,List.getElem?_set,hlen,t0,t3]
    exact⟨⟨by omega,by omega⟩,hfin hm2⟩
   ·by_cases h122:(122:Int)<((c.toNat:Nat):Int)
    ·have hm2:meB c=false:=by rw[hm,decide_eq_false (p:=c.toNat≤122) (by omega),Bool.and_false]
     simp only[hd,hg,h97,h122,sxZ,z6,z7,z8,j6,j7,j8,j9,x0,x5,x6,x7,x8,x9,y3,y4,reduceCtorEq,↓reduceIte,List.getElem?_set,hlen,t0,t3]
     exact⟨⟨by omega,by omega⟩,⟨by omega,by omega⟩,hfin hm2⟩
    ·have hm2:meB c=true:=by rw[hm,decide_eq_true (by omega),decide_eq_true (by omega)];rfl
     simp only[hd,hg,h97,h122,sxZ,z6,z7,z8,j6,j7,j8,j9,x0,x5,x6,x7,x8,x9,y3,y4,reduceCtorEq,↓reduceIte,List.getElem?_set,hlen,t0,t3]
     exact⟨⟨by omega,by omega⟩,⟨by omega,by omega⟩,⟨by omega,by omega⟩,s.length - (i+1),by omega,i+1,by omega,rfl,hnext hm2,rfl⟩
 ·have hie:i=s.length:=by omega
  subst hie
  have ha:s.all meB=true:=znG fun j h=>hall j h h
  rw[ha] at hk
  simp only[sxZ,z6,z7,z8,j6,j7,j8,j9,x0,x5,x6,x7,x8,x9,y3,y4,reduceCtorEq,↓reduceIte,List.getElem?_set,hlen,t0,t3,hlt]
  have e:decide (¬s=[])=(true&&!s.isEmpty):=by cases s<;>simp
  rw[e]
  exact hk
set_option maxHeartbeats 4000000 in
theorem zd3 (s:List UInt8) (hs:s.length≤1000000) (hk:K objs (.s (zbf s))):zad Tryz.prog 88 [.s s] objs K:=by
 refine zaU is_ref10_Escaped rfl fun C _=>?_
 simp only[c_ref10_Escaped,sxZ,z6,z7,z8,j6,j7,j8,j9,x0,x5,x6,x7,x8,x9,y3,y4,reduceCtorEq,↓reduceIte]
 refine zbg (fun n objs tm=>∃i:Nat,i≤s.length∧n=s.length - i∧objs=[]∧tm.length=29∧tm[0]? = some (.s s)∧tm[3]? = some (.s (zbf (s.take i)))∧tm[4]? = some (.i .i64 i)) s.length ⟨0,Nat.zero_le _,rfl,rfl,rfl,rfl,rfl,rfl⟩ ?_
 rintro n _ tm ⟨i,hi,rfl,rfl,hlen,t0,t3,t4⟩
 have hacc:=zna (s.take i)
 rw[List.length_take] at hacc
 by_cases hlt:(i:Int)<s.length
 ·have hlt':i<s.length:=by omega
  have hg:=zdB hlt'
  have hsn:zbf (s.take (i+1))=zbf (s.take i)++(if idB s[i]=true then [s[i]] else zc5 s[i]):=by
   rw[List.take_succ_eq_append_getElem hlt',zqZ]
  have hsl:(s.take (i+1)).drop i=[s[i]]:=by
   rw[List.take_succ_eq_append_getElem hlt',List.drop_append_of_le_length (by rw[List.length_take];omega)]
   simp
  generalize s[i]=c at *
  simp only[sxZ,z6,z7,z8,j6,j7,j8,j9,x0,x5,x6,x7,x8,x9,y3,y4,reduceCtorEq,↓reduceIte,List.getElem?_set,hlen,t0,t3,t4,hlt,hg]
  refine⟨by omega,?_⟩
  refine zaf (zj3 c ?_)
  by_cases h:idB c=true
  ·rw[if_pos h] at hsn
   simp only[sxZ,z6,z7,z8,j6,j7,j8,j9,x0,x5,x6,x7,x8,x9,y3,y4,reduceCtorEq,↓reduceIte,List.getElem?_set,hlen,t0,t3,t4,h,hg,hsl]
   exact⟨⟨by omega,by omega⟩,⟨by omega,by omega,by omega⟩,by omega,⟨by omega,by omega⟩,s.length - (i+1),by omega,i+1,by omega,rfl,by rw[hsn],rfl⟩
  ·rw[if_neg h] at hsn
   simp only[sxZ,z6,z7,z8,j6,j7,j8,j9,x0,x5,x6,x7,x8,x9,y3,y4,reduceCtorEq,↓reduceIte,List.getElem?_set,hlen,t0,t3,t4,h,hg]
   refine⟨by omega,?_⟩
   refine zaf (zpA c ?_)
   simp only[sxZ,z6,z7,z8,j6,j7,j8,j9,x0,x5,x6,x7,x8,x9,y3,y4,reduceCtorEq,↓reduceIte,List.getElem?_set,hlen,t0,t3,t4,h,hg,zeR]
   exact⟨by omega,⟨by omega,by omega⟩,s.length - (i+1),by omega,i+1,by omega,rfl,by rw[hsn],rfl⟩
 ·have hie:i=s.length:=by omega
  subst hie
  rw[List.take_length] at t3
  simp only[sxZ,z6,z7,z8,j6,j7,j8,j9,x0,x5,x6,x7,x8,x9,y3,y4,reduceCtorEq,↓reduceIte,List.getElem?_set,hlen,t0,t3,t4,hlt]
  exact hk
set_option maxHeartbeats 8000000 in
theorem zgl (s:List UInt8) (hs:s.length≤maxLen) (hk:K objs (.tup [.agg [.s (zca s).2.1,.s (zca s).2.2],.i .i64 (zca s).1])):zad Tryz.prog 59 [.s s] objs K:=by
 have hm:maxLen=2 ^ 63 - 1:=rfl
 refine zaU is_ref10_ParseDID rfl fun C _=>?_
 unfold zca at hk
 by_cases c0:(4096:Int)<↑s.length
 ·have c0':4096<s.length:=by omega
  simp only[c0',if_true] at hk
  simp only[c0,c_ref10_ParseDID,sxZ,z6,z7,z8,j6,j7,j8,j9,x0,x5,x6,x7,x8,x9,y3,y4,reduceCtorEq,↓reduceIte]
  exact hk
 ·have c0':¬4096<s.length:=by omega
  simp only[c0',if_false] at hk
  simp only[c0,c_ref10_ParseDID,sxZ,z6,z7,z8,j6,j7,j8,j9,x0,x5,x6,x7,x8,x9,y3,y4,reduceCtorEq,↓reduceIte]
  refine zaf (zbI s zbF hs ?_)
  by_cases c1:Lib.hasPrefix s zbF=true
  ·have h4:4≤s.length:=zd5 c1
   have hdl:(s.drop 4).length≤s.length:=by rw[List.length_drop];omega
   simp only[c1,sxZ,z6,z7,z8,j6,j7,j8,j9,x0,x5,x6,x7,x8,x9,y3,y4,reduceCtorEq,↓reduceIte] at hk ⊢
   refine⟨by omega,?_⟩
   generalize s.drop 4=r at *
   refine zaf (za3 r [58] (by omega) (by decide) ?_)
   have c58:=zeB 58 r
   have hil:=zjc r [58]
   by_cases h58:zaA r [58]<r.length
   ·have e58:=c58.1 h58
    rw[e58] at hk
    have hne:¬((zaA r [58]:Nat):Int)=((r.length:Nat):Int):=by omega
    have htl:(r.take (zaA r [58])).length≤r.length:=by rw[List.length_take];omega
    have hdl2:(r.drop (zaA r [58]+1)).length≤r.length:=by rw[List.length_drop];omega
    simp only[hne,sxZ,z6,z7,z8,j6,j7,j8,j9,x0,x5,x6,x7,x8,x9,y3,y4,reduceCtorEq,↓reduceIte] at hk ⊢
    refine⟨⟨by omega,by omega⟩,?_⟩
    refine zaf (zn5 _ (by omega) ?_)
    by_cases c2:zbP (r.take (zaA r [58]))=true
    ·simp only[c2,sxZ,z6,z7,z8,j6,j7,j8,j9,x0,x5,x6,x7,x8,x9,y3,y4,reduceCtorEq,↓reduceIte] at hk ⊢
     refine⟨⟨by omega,by omega⟩,⟨by omega,by omega⟩,?_⟩
     refine zaf (ziX _ 58 (by omega) ?_)
     have hid:=idE_list (r.drop (zaA r [58]+1)) (by omega)
     have hxl:=zc9 58 (r.drop (zaA r [58]+1))
     have hxp:=zbx 58 (r.drop (zaA r [58]+1))
     have hxs:∀q∈zah 58 (r.drop (zaA r [58]+1)),q.length≤4096:=fun q hq=>by
      have:=zc2 58 _ q hq;omega
     generalize idE (r.drop (zaA r [58]+1))=ie at hk hid
     generalize zah 58 (r.drop (zaA r [58]+1))=xs at hid hxl hxp hxs ⊢
     have hb:zaA r [58]≤r.length:=hil
     clear c58 e58 hil hne
     generalize zaA r [58]=ix at *
     simp only[sxZ,z6,z7,z8,j6,j7,j8,j9,x0,x5,x6,x7,x8,x9,y3,y4,reduceCtorEq,↓reduceIte]
     refine zbg (fun n objs tm=>∃i:Nat,i≤xs.length∧n=xs.length - i∧objs=[.box 93 [.s [],.s []]]∧(∀j (h:j<xs.length),j<i→(zaR xs[j]).1=0)∧tm.length=113∧tm[0]? = some (.s r)∧tm[2]? = some (.p 0 0)∧tm[4]? = some (.i .i64 ix)∧tm[5]? = some (.row xs.length (xs.map .s))∧tm[46]? = some (.row xs.length (xs.map .s))∧tm[47]? = some (.i .i64 xs.length)∧tm[48]? = some (.i .i64 i)) xs.length ⟨0,Nat.zero_le _,rfl,rfl,fun j h h0=>absurd h0 (by omega),rfl,rfl,rfl,rfl,rfl,rfl,rfl,rfl⟩ ?_
     rintro n _ tm ⟨i,hi,rfl,rfl,hall,hlen,t0,t2,t4,t5,t46,t47,t48⟩
     by_cases hlt:(i:Int)<xs.length
     ·have hlt':i<xs.length:=by omega
      have hx:(xs.map AV.s)[i]? = some (.s xs[i]):=by simp
      have hni:(zaR xs[i]).1≠0→K objs (.tup [.agg [.s [],.s []],.i .i64 2]):=fun h=>by
       rw[if_pos (fun h2=>h (h2 _ (List.getElem_mem hlt')))] at hid
       rw[hid] at hk
       simp only[sxZ,z6,z7,z8,j6,j7,j8,j9,x0,x5,x6,x7,x8,x9,y3,y4,reduceCtorEq,↓reduceIte] at hk
       exact hk
      have hnext:(zaR xs[i]).1=0→∀j (h:j<xs.length),j<i+1→(zaR xs[j]).1=0:=by
       intro h j hj hji
       rcases Nat.lt_or_ge j i with h1|h1
       ·exact hall j hj h1
       ·have:j=i:=by omega
        subst this;exact h
      clear hk
      generalize xs[i]=q at *
      simp only[sxZ,z6,z7,z8,j6,j7,j8,j9,x0,x5,x6,x7,x8,x9,y3,y4,reduceCtorEq,↓reduceIte,List.getElem?_set,hlen,t0,t2,t4,t5,t46,t47,t48,hlt]
      refine⟨⟨by omega,by simp⟩,?_⟩
      rw[Nat.mul_one,hx]
      simp only[sxZ,z6,z7,z8,j6,j7,j8,j9,x0,x5,x6,x7,x8,x9,y3,y4,reduceCtorEq,↓reduceIte,List.getElem?_set,hlen,t0,t2,t4,t5,t46,t47,t48]
      refine zaf (zda q ?_)
      by_cases hd:(zaR q).1=0
      ·simp only[sxZ,z6,z7,z8,j6,j7,j8,j9,x0,x5,x6,x7,x8,x9,y3,y4,reduceCtorEq,↓reduceIte,List.getElem?_set,hlen,t0,t2,t4,t5,t46,t47,t48,hd]
       exact⟨⟨by omega,by omega⟩,xs.length - (i+1),by omega,i+1,by omega,rfl,hnext hd,rfl⟩
      ·simp only[sxZ,z6,z7,z8,j6,j7,j8,j9,x0,x5,x6,x7,x8,x9,y3,y4,reduceCtorEq,↓reduceIte,List.getElem?_set,hlen,t0,t2,t4,t5,t46,t47,t48,hd]
       exact hni hd
     ·have hie:i=xs.length:=by omega
      subst hie
      have hdec:∀q∈xs,(zaR q).1=0:=zrH fun j h=>hall j h h
      rw[if_neg (fun h=>h hdec)] at hid
      simp only[sxZ,z6,z7,z8,j6,j7,j8,j9,x0,x5,x6,x7,x8,x9,y3,y4,reduceCtorEq,↓reduceIte,List.getElem?_set,hlen,t0,t2,t4,t5,t46,t47,t48,hlt]
      refine zbg (fun n objs tm=>∃i:Nat,∃acc:List UInt8,i≤xs.length∧n=xs.length - i∧objs=[.box 93 [.s [],.s []]]∧(∀j (h:j<xs.length),j<i→xs[j].all ppB=true)∧acc=jn2 (xs.take i)∧acc.length≤i*20000∧tm.length=113∧tm[0]? = some (.s r)∧tm[2]? = some (.p 0 0)∧tm[4]? = some (.i .i64 ix)∧tm[5]? = some (.row xs.length (xs.map .s))∧tm[10]? = some (.s acc)∧tm[61]? = some (.row xs.length (xs.map .s))∧tm[62]? = some (.i .i64 xs.length)∧tm[63]? = some (.i .i64 i)) xs.length ⟨0,[],Nat.zero_le _,rfl,rfl,fun j h h0=>absurd h0 (by omega),rfl,by simp,(by simp only[sxZ,z6,z7,z8,j6,j7,j8,j9,x0,x5,x6,x7,x8,x9,y3,y4,reduceCtorEq,↓reduceIte,List.getElem?_set,hlen];try rfl),(by simp only[sxZ,z6,z7,z8,j6,j7,j8,j9,x0,x5,x6,x7,x8,x9,y3,y4,reduceCtorEq,↓reduceIte,List.getElem?_set,hlen,t0];try rfl),(by simp only[sxZ,z6,z7,z8,j6,j7,j8,j9,x0,x5,x6,x7,x8,x9,y3,y4,reduceCtorEq,↓reduceIte,List.getElem?_set,hlen,t2];try rfl),(by simp only[sxZ,z6,z7,z8,j6,j7,j8,j9,x0,x5,x6,x7,x8,x9,y3,y4,reduceCtorEq,↓reduceIte,List.getElem?_set,hlen,t4];try rfl),(by simp only[sxZ,z6,z7,z8,j6,j7,j8,j9,x0,x5,x6,x7,x8,x9,y3,y4,reduceCtorEq,↓reduceIte,List.getElem?_set,hlen,t5];try rfl),(by simp only[sxZ,z6,z7,z8,j6,j7,j8,j9,x0,x5,x6,x7,x8,x9,y3,y4,reduceCtorEq,↓reduceIte,List.getElem?_set,hlen];try rfl),(by simp only[sxZ,z6,z7,z8,j6,j7,j8,j9,x0,x5,x6,x7,x8,x9,y3,y4,reduceCtorEq,↓reduceIte,List.getElem?_set,hlen];try rfl),(by simp only[sxZ,z6,z7,z8,j6,j7,j8,j9,x0,x5,x6,x7,x8,x9,y3,y4,reduceCtorEq,↓reduceIte,List.getElem?_set,hlen];try rfl),(by simp only[sxZ,z6,z7,z8,j6,j7,j8,j9,x0,x5,x6,x7,x8,x9,y3,y4,reduceCtorEq,↓reduceIte,List.getElem?_set,hlen];try rfl)⟩ ?_
      clear hall hlt t0 t2 t4 t5 t46 t47 t48 hlen tm
      rintro n _ tm ⟨i,acc,hi,rfl,rfl,hall,hacc,hal,hlen,t0,t2,t4,t5,t10,t61,t62,t63⟩
      by_cases hlt:(i:Int)<xs.length
      ·have hlt':i<xs.length:=by omega
       have hx:(xs.map AV.s)[i]? = some (.s xs[i]):=by simp
       have hql:xs[i].length≤4096:=hxs _ (List.getElem_mem hlt')
       have hni:xs[i].all ppB=false→K objs (.tup [.agg [.s [],.s []],.i .i64 1]):=fun h=>by
        have:(xs.all fun q=>q.all ppB)=false:=by
         rw[Bool.eq_false_iff]
         intro e
         have:=List.all_eq_true.1 e _ (List.getElem_mem hlt')
         rw[h] at this;cases this
        rw[if_pos this] at hid
        rw[hid] at hk
        simp only[sxZ,z6,z7,z8,j6,j7,j8,j9,x0,x5,x6,x7,x8,x9,y3,y4,reduceCtorEq,↓reduceIte] at hk
        exact hk
       have hnext:xs[i].all ppB=true→∀j (h:j<xs.length),j<i+1→xs[j].all ppB=true:=by
        intro h j hj hji
        rcases Nat.lt_or_ge j i with h1|h1
        ·exact hall j hj h1
        ·have:j=i:=by omega
         subst this;exact h
       have htk:jn2 (xs.take (i+1))=(if xs.take i=[] then [] else acc++[58])++zbG xs[i]:=by
        rw[List.take_succ_eq_append_getElem hlt',jn2_snoc,hacc]
       have htn:xs.take i=[]↔i=0:=by
        rw[List.take_eq_nil_iff]
        constructor
        ·rintro(h|h)
         ·exact h
         ·rw[h] at hxp;simp at hxp
        ·exact fun h=>.inl h
       have hdq:=hdec _ (List.getElem_mem hlt')
       have hdl3:(zaR xs[i]).2.length≤4096:=by
        have h2:(zaR xs[i]).2.length≤xs[i].length:=by
         rw[zbW (by omega)] at hdq ⊢
         exact dcL_len _ hdq
        omega
       have hpl:(zbf (zaR xs[i]).2).length≤13000:=by
        have h1:=zna (zaR xs[i]).2
        omega
       clear hk hid hall hacc hxs hdec
       have hpe:zbG xs[i]=zbf (zaR xs[i]).2:=rfl
       generalize xs[i]=q at *
       simp only[sxZ,z6,z7,z8,j6,j7,j8,j9,x0,x5,x6,x7,x8,x9,y3,y4,reduceCtorEq,↓reduceIte,List.getElem?_set,hlen,t0,t2,t4,t5,t10,t61,t62,t63,hlt]
       refine⟨⟨by omega,by simp⟩,?_⟩
       rw[Nat.mul_one,hx]
       simp only[sxZ,z6,z7,z8,j6,j7,j8,j9,x0,x5,x6,x7,x8,x9,y3,y4,reduceCtorEq,↓reduceIte,List.getElem?_set,hlen,t0,t2,t4,t5,t10,t61,t62,t63]
       refine zbg (fun n objs tm=>∃k:Nat,k≤q.length∧n=q.length - k∧objs=[.box 93 [.s [],.s []]]∧(∀j (h:j<q.length),j<k→ppB q[j]=true)∧tm.length=113∧tm[0]? = some (.s r)∧tm[2]? = some (.p 0 0)∧tm[4]? = some (.i .i64 ix)∧tm[5]? = some (.row xs.length (xs.map .s))∧tm[10]? = some (.s acc)∧tm[11]? = some (.i .i64 i)∧tm[12]? = some (.s q)∧tm[13]? = some (.i .i64 k)∧tm[61]? = some (.row xs.length (xs.map .s))∧tm[62]? = some (.i .i64 xs.length)∧tm[63]? = some (.i .i64 i)) q.length ⟨0,Nat.zero_le _,rfl,rfl,fun j h h0=>absurd h0 (by omega),(by simp only[sxZ,z6,z7,z8,j6,j7,j8,j9,x0,x5,x6,x7,x8,x9,y3,y4,reduceCtorEq,↓reduceIte,List.getElem?_set,hlen];try rfl),(by simp only[sxZ,z6,z7,z8,j6,j7,j8,j9,x0,x5,x6,x7,x8,x9,y3,y4,reduceCtorEq,↓reduceIte,List.getElem?_set,hlen,t0];try rfl),(by simp only[sxZ,z6,z7,z8,j6,j7,j8,j9,x0,x5,x6,x7,x8,x9,y3,y4,reduceCtorEq,↓reduceIte,List.getElem?_set,hlen,t2];try rfl),(by simp only[sxZ,z6,z7,z8,j6,j7,j8,j9,x0,x5,x6,x7,x8,x9,y3,y4,reduceCtorEq,↓reduceIte,List.getElem?_set,hlen,t4];try rfl),(by simp only[sxZ,z6,z7,z8,j6,j7,j8,j9,x0,x5,x6,x7,x8,x9,y3,y4,reduceCtorEq,↓reduceIte,List.getElem?_set,hlen,t5];try rfl),(by simp only[sxZ,z6,z7,z8,j6,j7,j8,j9,x0,x5,x6,x7,x8,x9,y3,y4,reduceCtorEq,↓reduceIte,List.getElem?_set,hlen,t10];try rfl),(by simp only[sxZ,z6,z7,z8,j6,j7,j8,j9,x0,x5,x6,x7,x8,x9,y3,y4,reduceCtorEq,↓reduceIte,List.getElem?_set,hlen];try rfl),(by simp only[sxZ,z6,z7,z8,j6,j7,j8,j9,x0,x5,x6,x7,x8,x9,y3,y4,reduceCtorEq,↓reduceIte,List.getElem?_set,hlen];try rfl),(by simp only[sxZ,z6,z7,z8,j6,j7,j8,j9,x0,x5,x6,x7,x8,x9,y3,y4,reduceCtorEq,↓reduceIte,List.getElem?_set,hlen];try rfl),(by simp only[sxZ,z6,z7,z8,j6,j7,j8,j9,x0,x5,x6,x7,x8,x9,y3,y4,reduceCtorEq,↓reduceIte,List.getElem?_set,hlen,t61];try rfl),(by simp only[sxZ,z6,z7,z8,j6,j7,j8,j9,x0,x5,x6,x7,x8,x9,y3,y4,reduceCtorEq,↓reduceIte,List.getElem?_set,hlen,t62];try rfl),(by simp only[sxZ,z6,z7,z8,j6,j7,j8,j9,x0,x5,x6,x7,x8,x9,y3,y4,reduceCtorEq,↓reduceIte,List.getElem?_set,hlen,t63];try rfl)⟩ ?_
       clear hx t0 t2 t4 t5 t10 t61 t62 t63 hlen tm
       rintro n _ tm ⟨k,hk1,rfl,rfl,hall,hlen,t0,t2,t4,t5,t10,t11,t12,t13,t61,t62,t63⟩
       by_cases hkl:(k:Int)<q.length
       ·have hkl':k<q.length:=by omega
        have hg:=zdB hkl'
        have hbad:ppB q[k]=false→K objs (.tup [.agg [.s [],.s []],.i .i64 1]):=fun h=>hni (zjw hkl' h)
        have hgood:ppB q[k]=true→∀j (h:j<q.length),j<k+1→ppB q[j]=true:=by
         intro h j hj hji
         rcases Nat.lt_or_ge j k with h1|h1
         ·exact hall j hj h1
         ·have:j=k:=by omega
          subst this;exact h
        generalize q[k]=c at *
        have hpp:=pp_iff c
        simp only[sxZ,z6,z7,z8,j6,j7,j8,j9,x0,x5,x6,x7,x8,x9,y3,y4,reduceCtorEq,↓reduceIte,List.getElem?_set,hlen,t0,t2,t4,t5,t10,t11,t12,t13,t61,t62,t63,hkl,hg]
        refine⟨by omega,?_⟩
        refine zaf (zj3 c ?_)
        by_cases hid:idB c=true
        ·simp only[sxZ,z6,z7,z8,j6,j7,j8,j9,x0,x5,x6,x7,x8,x9,y3,y4,reduceCtorEq,↓reduceIte,List.getElem?_set,hlen,t0,t2,t4,t5,t10,t11,t12,t13,t61,t62,t63,hg,hid]
         have hpt:ppB c=true:=by rw[hpp,hid,Bool.or_true]
         exact⟨⟨by omega,by omega⟩,q.length - (k+1),by omega,k+1,by omega,rfl,hgood hpt,rfl⟩
        ·simp only[Bool.not_eq_true] at hid
         rw[hid,Bool.or_false] at hpp
         by_cases h37:c=37
         ·have e37:((c.toNat:Nat):Int)=37:=by rw[h37];rfl
          have hpt:ppB c=true:=by rw[hpp,h37];rfl
          simp only[sxZ,z6,z7,z8,j6,j7,j8,j9,x0,x5,x6,x7,x8,x9,y3,y4,reduceCtorEq,↓reduceIte,List.getElem?_set,hlen,t0,t2,t4,t5,t10,t11,t12,t13,t61,t62,t63,hg,hid,e37]
          exact⟨⟨by omega,by omega⟩,⟨by omega,by omega⟩,q.length - (k+1),by omega,k+1,by omega,rfl,hgood hpt,rfl⟩
         ·have e37:¬((c.toNat:Nat):Int)=37:=fun e=>h37 (UInt8.toNat_inj.1 (by have:(37:UInt8).toNat=37:=rfl;omega))
          have hpf:ppB c=false:=by rw[hpp];simpa using h37
          simp only[sxZ,z6,z7,z8,j6,j7,j8,j9,x0,x5,x6,x7,x8,x9,y3,y4,reduceCtorEq,↓reduceIte,List.getElem?_set,hlen,t0,t2,t4,t5,t10,t11,t12,t13,t61,t62,t63,hg,hid,e37]
          exact⟨⟨by omega,by omega⟩,hbad hpf⟩
       ·have hqa:q.all ppB=true:=znG fun j h=>hall j h (by omega)
        simp only[sxZ,z6,z7,z8,j6,j7,j8,j9,x0,x5,x6,x7,x8,x9,y3,y4,reduceCtorEq,↓reduceIte,List.getElem?_set,hlen,t0,t2,t4,t5,t10,t11,t12,t13,t61,t62,t63,hkl]
        refine zaf (zda q ?_)
        by_cases hi0:i=0
        ·subst hi0
         have hgt:¬(0:Int)<((0:Nat):Int):=by decide
         rw[if_pos (htn.2 rfl)] at htk
         have hac:acc.length≤0:=by omega
         obtain rfl:acc=[]:=List.eq_nil_of_length_eq_zero (by omega)
         simp only[sxZ,z6,z7,z8,j6,j7,j8,j9,x0,x5,x6,x7,x8,x9,y3,y4,reduceCtorEq,↓reduceIte,List.getElem?_set,hlen,t0,t2,t4,t5,t10,t11,t12,t13,t61,t62,t63,hgt]
         refine zaf (zd3 _ (by omega) ?_)
         simp only[sxZ,z6,z7,z8,j6,j7,j8,j9,x0,x5,x6,x7,x8,x9,y3,y4,reduceCtorEq,↓reduceIte,List.getElem?_set,hlen,t0,t2,t4,t5,t10,t11,t12,t13,t61,t62,t63]
         exact⟨by omega,⟨by omega,by omega⟩,xs.length - 1,by omega,1,_,by omega,rfl,hnext hqa,by rw[htk,hpe];rfl,by omega,rfl,rfl⟩
        ·have hgt:(0:Int)<((i:Nat):Int):=by omega
         rw[if_neg (fun h=>hi0 (htn.1 h))] at htk
         simp only[sxZ,z6,z7,z8,j6,j7,j8,j9,x0,x5,x6,x7,x8,x9,y3,y4,reduceCtorEq,↓reduceIte,List.getElem?_set,hlen,t0,t2,t4,t5,t10,t11,t12,t13,t61,t62,t63,hgt]
         have hib:i*20000≤100000000:=by omega
         refine⟨by omega,?_⟩
         refine zaf (zd3 _ (by omega) ?_)
         simp only[sxZ,z6,z7,z8,j6,j7,j8,j9,x0,x5,x6,x7,x8,x9,y3,y4,reduceCtorEq,↓reduceIte,List.getElem?_set,hlen,t0,t2,t4,t5,t10,t11,t12,t13,t61,t62,t63]
         exact⟨by omega,⟨by omega,by omega⟩,xs.length - (i+1),by omega,i+1,_,by omega,rfl,hnext hqa,by rw[htk,hpe],by simp only[List.length_append,List.length_cons,List.length_nil];omega,rfl,rfl⟩
      ·have hie:i=xs.length:=by omega
       subst hie
       have hal2:(xs.all fun q=>q.all ppB)=true:=List.all_eq_true.2 (zrH fun j h=>hall j h h)
       rw[if_neg (by rw[hal2];simp)] at hid
       have hlast:xs.getLastD []=xs[xs.length - 1]:=zeg xs [] hxp
       have hxn:(xs.map AV.s)[((xs.length:Int) - 1).toNat*1]? = some (.s xs[xs.length - 1]):=by
        rw[show ((xs.length:Int) - 1).toNat*1=xs.length - 1 by omega,List.getElem?_map,List.getElem?_eq_getElem (by omega)];rfl
       rw[List.take_length] at hacc
       simp only[sxZ,z6,z7,z8,j6,j7,j8,j9,x0,x5,x6,x7,x8,x9,y3,y4,reduceCtorEq,↓reduceIte,List.getElem?_set,hlen,t0,t2,t4,t5,t10,t61,t62,t63,hlt]
       refine⟨⟨by omega,by omega⟩,⟨by omega,by omega,by simp⟩,?_⟩
       rw[hxn]
       rw[hlast] at hid
       by_cases hz:xs[xs.length - 1]=[]
       ·rw[if_pos hz] at hid
        rw[hid] at hk
        simp only[sxZ,z6,z7,z8,j6,j7,j8,j9,x0,x5,x6,x7,x8,x9,y3,y4,reduceCtorEq,↓reduceIte,List.getElem?_set,hlen,t0,t2,t4,t5,t10,t61,t62,t63,hz] at hk ⊢
        exact hk
       ·rw[if_neg hz] at hid
        rw[hid] at hk
        simp only[sxZ,z6,z7,z8,j6,j7,j8,j9,x0,x5,x6,x7,x8,x9,y3,y4,reduceCtorEq,↓reduceIte] at hk
        simp only[sxZ,z6,z7,z8,j6,j7,j8,j9,x0,x5,x6,x7,x8,x9,y3,y4,reduceCtorEq,↓reduceIte,List.getElem?_set,hlen,t0,t2,t4,t5,t10,t61,t62,t63,hz]
        refine⟨⟨by omega,by omega⟩,?_⟩
        rw[hacc]
        exact hk
    ·simp only[c2,sxZ,z6,z7,z8,j6,j7,j8,j9,x0,x5,x6,x7,x8,x9,y3,y4,reduceCtorEq,↓reduceIte] at hk ⊢
     exact hk
   ·have e58:=c58.2 h58
    rw[e58] at hk
    have hne:((zaA r [58]:Nat):Int)=((r.length:Nat):Int):=by omega
    simp only[hne,sxZ,z6,z7,z8,j6,j7,j8,j9,x0,x5,x6,x7,x8,x9,y3,y4,reduceCtorEq,↓reduceIte] at hk ⊢
    exact hk
  ·simp only[c1,sxZ,z6,z7,z8,j6,j7,j8,j9,x0,x5,x6,x7,x8,x9,y3,y4,reduceCtorEq,↓reduceIte] at hk ⊢
   exact hk
end
section
variable [Tabs Tryz.prog] {objs:List OB} {K:List OB→AV→Prop}
end
end Go.Proofs.YtnnipcgblooemaaGreatDoor
namespace Go.Proofs.YtnnipcgblooemaaGreatDoor
open Go.RowKit Sx
theorem from_len {u:UrlP} {r:List UInt8×List UInt8} (h:zdq u=(0,r)):r.2.length≤4096:=by
 unfold zdq at h
 split at h
 ·cases h
 ·split at h
  ·cases h
  ·split at h
   ·cases h
   ·split at h
    ·cases h
    ·rename_i g
     injection h with _ h
     subst h
     have:(zbo zei (zeP u)).length=(zeP u).length+8:=by simp[zbo,zbF,zei]
     show (zeP u).length≤_
     omega
theorem zoQ {m i:List UInt8} (hi:i.length≤13000) (h:(toE m i).1=0):zcm (toE m i).2:=by
 have e:toE m i=(0,(toE m i).2):=by rw[←h]
 obtain⟨_,_,_,k4,_,k6⟩:=zl0 e
 rw[k6];exact zfn hi (by rw[k4])
section
variable [Tabs Tryz.prog] [Shp Tryz.prog] [Pow Tryz.prog] {objs:List OB} {K:List OB→AV→Prop}
end
end Go.Proofs.YtnnipcgblooemaaGreatDoor
namespace Go.Proofs.YtnnipcgblooemaaGreatDoor
open Nat renaming reduceAdd → z6, reduceSub → z7, reduceLeDiff → z8, reduceLT → j6, reduceMul → j7, reduceEqDiff → j8
open Int renaming reduceToNat → j9, reduceAdd → x0, reduceSub → x5, reduceMul → x6, reduceNeg → x7, reduceLT → x8, reduceLE → x9, reduceEq → y3, reduceNe → y4
open Go.RowKit Sx
theorem dw_err {m i:List UInt8} (h:(dwA m i).1≠0):(dwA m i).2=([],0):=by
 unfold dwA at h ⊢
 split
 ·rfl
 ·rename_i g1;rw[if_neg g1] at h
  split
  ·rfl
  ·rename_i g2;rw[if_neg g2] at h
   exact hp_err h
def rowDw (m i:List UInt8):AV:=if m=zei∧(zca (zbo m i)).1=0 then .row (zah 58 i).length ((zah 58 i).map .s) else .nil
theorem dw_parts {m i:List UInt8} (h:(dwA m i).1=0):m=zei∧(zca (zbo m i)).1=0∧∀q∈zah 58 i,(zaR q).1=0:=by
 unfold dwA at h
 split at h
 ·cases h
 ·rename_i g1
  simp only[ne_eq,Decidable.not_not] at g1
  split at h
  ·rename_i g2;exact absurd h g2
  ·rename_i g2
   simp only[ne_eq,Decidable.not_not] at g2
   exact⟨g1,g2,(zjh g1 g2).2⟩
theorem zhh:∀l:List (List UInt8),zaK (l.map AV.s)=true
 | []=>rfl
 | x::l=>by simp only[List.map_cons,zaK,AV.plain,zhh l,Bool.and_self]
theorem zo2 {u:UrlP} (h:zcU u=true):∀x∈zdv u,x.length≤4096∧((x.all upB=false∨(zaR x).2=[])→okI x=false)∧(x.all upB=true→(zaR x).2≠[]→okI x=true∧zk0 x=58::zbf (zaR x).2):=by
 have hc:=zfl h
 obtain⟨m,hm,hms,hp⟩:=hc.path
 have hsp:zdv u=m:=by
  unfold zdv
  rw[hp,zem m (fun x hx=>(hms x hx).1.1)];rfl
 rw[hsp]
 intro x hx
 have hl:x.length≤4096:=by
  have h1:=zb2 u
  have h2:=hc.len
  have h3:x.length≤(jn m).length:=by
   obtain⟨a,b,rfl⟩:=List.append_of_mem hx
   rw[zes,zb8];simp;omega
  rw[hp] at h1
  omega
 have hcn:=(hms x hx).2
 have hd0:(zaR x).1=0:=by
  have hn:=hcn.norm (by omega)
  obtain⟨a,h1,_⟩:=(zbJ _ _ _ hn).2.1
  rw[h1]
 refine⟨hl,fun h1=>?_,fun h1 h2=>?_⟩
 ·unfold okI
  cases hx0:decide ((zaj x []).1=0) with
  | false=>rfl
  | true=>
   rw[decide_eq_true_eq,zcH (by omega)] at hx0
   rcases h1 with h1|h1
   ·rw[h1] at hx0;exact absurd hx0.2 (by decide)
   ·have:=(ziO hcn (by omega) hx0.2).2
    rw[h1] at this
    rw[←this];rfl
 ·have hn:(zaj x []).1=0:=(zcH (by omega)).2 ⟨hd0,h1⟩
  have hne:x≠[]:=by
   rintro rfl
   exact h2 rfl
  refine⟨by unfold okI;rw[hn];simp[hne],?_⟩
  unfold zk0
  rw[zhp hn,zfS]
def znK (u:UrlP) (l:List (List UInt8)):List UInt8:=hpI u.host u.port++(if u.path=wkP then [] else l.flatMap fun x=>58::zbf (zaR x).2)
theorem zkX (u:UrlP) (l:List (List UInt8)) (x:List UInt8):znK u (l++[x])=if u.path=wkP then znK u l else znK u l++58::zbf (zaR x).2:=by
 unfold znK
 split
 ·rfl
 ·rw[List.flatMap_append];simp
theorem zgR (u:UrlP) (l:List (List UInt8)):(znK u l).length≤(hpI u.host u.port).length+3*(l.flatMap fun x=>(1:UInt8)::x).length:=by
 unfold znK
 rw[List.length_append]
 split
 ·simp
 ·have:(l.flatMap fun x=>58::zbf (zaR x).2).length≤3*(l.flatMap fun x=>(1:UInt8)::x).length:=by
   induction l with
   | nil=>simp
   | cons x l ih=>
    have h1:=zey (zaR x).2
    have h2:=zc7 x
    simp only[List.flatMap_cons,List.length_append,List.length_cons];omega
  omega
theorem zl2:∀l:List (List UInt8),(∀x∈l,okI x=true∧zk0 x=58::zbf (zaR x).2)→(l.flatMap fun x=>58::zbf (zaR x).2)=zcY l
 | [],_=>rfl
 | x::l,h=>by
  unfold zcY
  rw[List.flatMap_cons,List.flatMap_cons,(h x (by simp)).2,zl2 l (fun y hy=>h y (by simp[hy]))];rfl
theorem zjx {u:UrlP} {l:List (List UInt8)} (h:∀x∈l,okI x=true∧zk0 x=58::zbf (zaR x).2):znK u l=hpI u.host u.port++(if u.path=wkP then [] else zcY l):=by
 unfold znK
 rw[zl2 l h]
theorem okS_is (x:List UInt8):okS x=!(decide ((zaR x).2=[])||decide ((zaR x).2=[46])||decide ((zaR x).2=[46,46])):=rfl
section
variable [Tabs Tryz.prog] {objs:List OB} {K:List OB→AV→Prop}
theorem zie (m i:List UInt8) (hm:m.length≤13000) (hi:i.length≤13000) (hk:K objs (.tup [rowDw m i,zdY (dwA m i).2.1 (dwA m i).2.2,.i .i64 (dwA m i).1])):zad Tryz.prog 91 [.agg [.s m,.s i]] objs K:=by
 have hmx:maxLen=2 ^ 63 - 1:=rfl
 refine zaU is_ref11_first rfl fun C _=>?_
 unfold dwA rowDw at hk
 by_cases c0:m=zei
 ·subst c0
  have hw:zei=[119,101,98]:=rfl
  simp only[ne_eq,not_true_eq_false,if_false,true_and] at hk
  simp only[hw] at hk
  simp only[hw,c_ref11_first,sxZ,z6,z7,z8,j6,j7,j8,j9,x0,x5,x6,x7,x8,x9,y3,y4,reduceCtorEq,↓reduceIte]
  refine zaf (zc0 _ _ (by decide) (by omega) ?_)
  simp only[sxZ,z6,z7,z8,j6,j7,j8,j9,x0,x5,x6,x7,x8,x9,y3,y4,reduceCtorEq,↓reduceIte]
  refine zaf (zgl _ (by simp only[zbo,zbF,List.length_append,List.length_cons,List.length_nil];omega) ?_)
  have hf:=zjh (m:=zei) (i:=i) rfl
  rw[hw] at hf
  generalize zca (zbo [119,101,98] i)=q at *
  obtain⟨e,d1,d2⟩:=q
  simp only at hf hk ⊢
  by_cases c1:e=0
  ·subst c1
   simp only[not_true_eq_false,if_false,if_true] at hk
   simp only[sxZ,z6,z7,z8,j6,j7,j8,j9,x0,x5,x6,x7,x8,x9,y3,y4,reduceCtorEq,↓reduceIte]
   refine zaf (ziX i 58 (by omega) ?_)
   have hpos:=zbx 58 i
   have hcs:=zhC 58 i
   have hl2:=(za5 58 i).1
   obtain⟨p,ps,hs⟩:=zaG 58 i
   rw[hs] at hcs
   simp only[List.headD_cons] at hcs
   rw[hcs] at hk hl2
   rw[hs] at hk ⊢
   simp only[sxZ,z6,z7,z8,j6,j7,j8,j9,x0,x5,x6,x7,x8,x9,y3,y4,reduceCtorEq,↓reduceIte]
   refine⟨by simp,?_⟩
   refine zaf (zda p ?_)
   have hl1:=zc7 p
   simp only[sxZ,z6,z7,z8,j6,j7,j8,j9,x0,x5,x6,x7,x8,x9,y3,y4,reduceCtorEq,↓reduceIte]
   refine zaf (zjX _ (by omega) ?_)
   have e1:=zhh ps
   simp only[List.length_cons,List.map_cons,zdY] at hk
   simp only[zdY,e1,sxZ,z6,z7,z8,j6,j7,j8,j9,x0,x5,x6,x7,x8,x9,y3,y4,reduceCtorEq,↓reduceIte]
   exact hk
  ·simp only[c1,not_false_eq_true,if_true,if_false] at hk
   simp only[c1,sxZ,z6,z7,z8,j6,j7,j8,j9,x0,x5,x6,x7,x8,x9,y3,y4,reduceCtorEq,↓reduceIte]
   exact hk
 ·have c0':¬m=[119,101,98]:=c0
  simp only[c0,ne_eq,not_false_eq_true,if_true,false_and,if_false] at hk
  simp only[c0',c_ref11_first,sxZ,z6,z7,z8,j6,j7,j8,j9,x0,x5,x6,x7,x8,x9,y3,y4,reduceCtorEq,↓reduceIte]
  exact hk
theorem zpu (m i:List UInt8) (hm:m.length≤13000) (hi:i.length≤13000) (hk:K objs (.tup [zdY (dwA m i).2.1 (dwA m i).2.2,.i .i64 (dwA m i).1])):zad Tryz.prog 61 [.agg [.s m,.s i]] objs K:=by
 refine zaU is_ref11_Authority rfl fun C _=>?_
 simp only[c_ref11_Authority,sxZ,z6,z7,z8,j6,j7,j8,j9,x0,x5,x6,x7,x8,x9,y3,y4,reduceCtorEq,↓reduceIte]
 refine zaf (zie m i hm hi ?_)
 simp only[zdY,sxZ,z6,z7,z8,j6,j7,j8,j9,x0,x5,x6,x7,x8,x9,y3,y4,reduceCtorEq,↓reduceIte]
 exact hk
set_option maxHeartbeats 1000000 in
theorem zn2 (m i:List UInt8) (hm:m.length≤13000) (hi:i.length≤13000) (hk:K objs (.tup [zaQ (toE m i).2,.i .i64 (toE m i).1])):zad Tryz.prog 89 [.agg [.s m,.s i]] objs K:=by
 refine zaU is_ref11_ToURL rfl fun C _=>?_
 simp only[c_ref11_ToURL,sxZ,z6,z7,z8,j6,j7,j8,j9,x0,x5,x6,x7,x8,x9,y3,y4,reduceCtorEq,↓reduceIte]
 refine zaf (zie m i hm hi ?_)
 unfold toE at hk
 by_cases c0:(dwA m i).1=0
 ·obtain⟨p1,p2,p3⟩:=dw_parts c0
  have hrow:rowDw m i=.row (zah 58 i).length ((zah 58 i).map .s):=by unfold rowDw;rw[if_pos ⟨p1,p2⟩]
  have hsh:=zfn hi c0
  have hpos:=zbx 58 i
  have htail:=zfp 58 i
  have hlen:(zah 58 i).length - 1=(zah 58 i).tail.length:=by simp
  have hlen2:(zah 58 i).length=(zah 58 i).tail.length+1:=by rw[←hlen];omega
  have hp3:∀q∈(zah 58 i).tail,(zaR q).1=0:=fun q hq=>p3 q (List.mem_of_mem_tail hq)
  simp only[c0,ne_eq,not_true_eq_false,if_false] at hk
  simp only[c0,hrow,zdY,sxZ,z6,z7,z8,j6,j7,j8,j9,x0,x5,x6,x7,x8,x9,y3,y4,reduceCtorEq,↓reduceIte,Nat.mul_one,zgG]
  refine⟨by omega,?_⟩
  have hU:toU m i=⟨(dwA m i).2.1,(dwA m i).2.2,zfA (zah 58 i).tail,[],[],false,false⟩:=rfl
  rw[hlen]
  generalize (zah 58 i).tail=segs at *
  have hmem:∀x∈segs,x.length+1≤(segs.flatMap fun x=>(1:UInt8)::x).length:=by
   intro x hx
   obtain⟨p,q,rfl⟩:=List.append_of_mem hx
   simp only[List.flatMap_append,List.flatMap_cons,List.length_append,List.length_cons];omega
  have hls:=zi7 segs
  refine zbg (fun n objs tm=>∃j:Nat,j≤segs.length∧n=segs.length - j∧objs=[.box 93 [.s m,.s i],.box 39 [.s [],.i .i64 0,.s [],.s [],.s [],.b false,.b false],.box 59 [.s (dwA m i).2.1,.i .i64 (dwA m i).2.2]]∧(segs.take j).all okS=true ∧
   tm.length=68∧tm[2]? = some (.p 1 0)∧tm[4]? = some (.row (zah 58 i).length ((zah 58 i).map .s))∧tm[5]? = some (.p 2 0)∧tm[7]? = some (.s (zcy (segs.take j)))∧tm[24]? = some (.row segs.length (segs.map .s))∧tm[25]? = some (.i .i64 segs.length)∧tm[26]? = some (.i .i64 j)) segs.length
   ⟨0,Nat.zero_le _,rfl,rfl,by simp,rfl,rfl,rfl,rfl,rfl,rfl,rfl,rfl⟩ ?_
  rintro n o tm ⟨j,hj,rfl,rfl,hok,hl,t2,t4,t5,t7,t24,t25,t26⟩
  by_cases hlt:(j:Int)<segs.length
  ·have hlt':j<segs.length:=by omega
   have hg:(segs.map AV.s)[j]? = some (.s segs[j]):=by simp[hlt']
   have hx:=hmem segs[j] (List.getElem_mem hlt')
   have hdl:=zc7 segs[j]
   have hsf:(zcy (segs.take j)).length≤100000:=by
    have h2:=zdK (segs.take j)
    have h3:=congrArg List.length (zfo (l:=segs) j fun x=>(1:UInt8)::x)
    rw[List.length_append] at h3
    omega
   have hnext:=zh8 hlt'
   have hallt:okS segs[j]=true→(segs.take (j+1)).all okS=true:=fun e=>by rw[zjv hlt',hok,e];rfl
   have hbad:okS segs[j]=false→segs.all okS=false:=zhK hlt'
   rw[okS_is] at hallt hbad
   unfold segF at hnext
   simp only[sxZ,z6,z7,z8,j6,j7,j8,j9,x0,x5,x6,x7,x8,x9,y3,y4,reduceCtorEq,↓reduceIte,List.getElem?_set,hl,t2,t4,t5,t7,t24,t25,t26,hlt,Nat.mul_one,Int.toNat_natCast,hg,List.length_map]
   refine⟨by omega,?_⟩
   refine zaf (zda segs[j] ?_)
   generalize (zaR segs[j]).2=d at *
   generalize (zaR segs[j]).1=e
   by_cases c2:d=[]
   ·rw[hbad (by rw[c2];rfl)] at hk
    simp only[c2,sxZ,z6,z7,z8,j6,j7,j8,j9,x0,x5,x6,x7,x8,x9,y3,y4,reduceCtorEq,↓reduceIte,List.getElem?_set,hl,t2,t4,t5,t7,t24,t25,t26]
    exact hk
   ·by_cases c3:d=[46]
    ·rw[hbad (by rw[c3];decide)] at hk
     simp only[c3,sxZ,z6,z7,z8,j6,j7,j8,j9,x0,x5,x6,x7,x8,x9,y3,y4,reduceCtorEq,↓reduceIte,List.getElem?_set,hl,t2,t4,t5,t7,t24,t25,t26]
     exact hk
    ·by_cases c4:d=[46,46]
     ·have n1:¬([46,46]:List UInt8)=[46]:=by decide
      rw[hbad (by rw[c4];decide)] at hk
      simp only[c4,n1,sxZ,z6,z7,z8,j6,j7,j8,j9,x0,x5,x6,x7,x8,x9,y3,y4,reduceCtorEq,↓reduceIte,List.getElem?_set,hl,t2,t4,t5,t7,t24,t25,t26]
      exact hk
     ·simp only[c2,c3,c4,sxZ,z6,z7,z8,j6,j7,j8,j9,x0,x5,x6,x7,x8,x9,y3,y4,reduceCtorEq,↓reduceIte,List.getElem?_set,hl,t2,t4,t5,t7,t24,t25,t26]
      refine zaf (znY d [] (by omega) (by decide) ?_)
      have hel:=zc6 d []
      simp only[sxZ,z6,z7,z8,j6,j7,j8,j9,x0,x5,x6,x7,x8,x9,y3,y4,reduceCtorEq,↓reduceIte,List.getElem?_set,hl,t2,t4,t5,t7,t24,t25,t26]
      refine⟨by omega,by omega,⟨by omega,by omega⟩,segs.length - (j+1),by omega,j+1,by omega,rfl,hallt (by simp[c2,c3,c4]),by rw[hnext],rfl⟩
  ·obtain rfl:j=segs.length:=by omega
   rw[List.take_length] at hok t7
   rw[hok] at hk
   simp only[Bool.true_eq_false,if_false] at hk
   have hsl:=zdK segs
   by_cases ht:segs=[]
   ·subst ht
    have e1:((zah 58 i).length:Int)=1:=by rw[hlen2];rfl
    rw[show zfA []=wkP from rfl] at hU
    rw[hU] at hsh hk
    generalize hu:(⟨(dwA m i).2.1,(dwA m i).2.2,wkP,[],[],false,false⟩:UrlP)=u at hsh hk
    have ez:¬((0:Nat):Int)<((0:Nat):Int):=by omega
    have hwk:([47,46,119,101,108,108,45,107,110,111,119,110]++[47,100,105,100,46,106,115,111,110]:List UInt8)=wkP:=by decide
    simp only[sxZ,z6,z7,z8,j6,j7,j8,j9,x0,x5,x6,x7,x8,x9,y3,y4,reduceCtorEq,↓reduceIte,List.getElem?_set,hl,t2,t4,t5,t7,t24,t25,t26,hlt,ez,e1,hwk]
    refine zaf (show zad _ _ [zaQ ⟨(dwA m i).2.1,(dwA m i).2.2,wkP,[],[],false,false⟩] _ _ from hu▸zcE u hsh ?_)
    by_cases c1:(4096:Int)<(zcA u).length
    ·have c1':4096<(zcA u).length:=by omega
     rw[if_pos c1'] at hk
     simp only[c1,sxZ,z6,z7,z8,j6,j7,j8,j9,x0,x5,x6,x7,x8,x9,y3,y4,reduceCtorEq,↓reduceIte,List.getElem?_set,hl,t2,t4,t5,t7,t24,t25,t26]
     exact hk
    ·have c1':¬4096<(zcA u).length:=by omega
     rw[if_neg c1'] at hk
     simp only[c1,sxZ,z6,z7,z8,j6,j7,j8,j9,x0,x5,x6,x7,x8,x9,y3,y4,reduceCtorEq,↓reduceIte,List.getElem?_set,hl,t2,t4,t5,t7,t24,t25,t26]
     subst hu
     exact hk
   ·have hp:=List.length_pos_iff.2 ht
    have e1:¬((zah 58 i).length:Int)=1:=by omega
    rw[show zfA segs=zcy segs++47::zhP by unfold zfA;rw[if_neg ht]] at hU
    rw[hU] at hsh hk
    have hpa:zcy segs++[47,100,105,100,46,106,115,111,110]=zcy segs++47::zhP:=rfl
    simp only[sxZ,z6,z7,z8,j6,j7,j8,j9,x0,x5,x6,x7,x8,x9,y3,y4,reduceCtorEq,↓reduceIte,List.getElem?_set,hl,t2,t4,t5,t7,t24,t25,t26,hlt,e1,hpa]
    refine⟨by omega,?_⟩
    refine zaf (zcE _ hsh ?_)
    generalize hu:(⟨(dwA m i).2.1,(dwA m i).2.2,zcy segs++47::zhP,[],[],false,false⟩:UrlP)=u at hsh hk ⊢
    by_cases c1:(4096:Int)<(zcA u).length
    ·have c1':4096<(zcA u).length:=by omega
     rw[if_pos c1'] at hk
     simp only[c1,sxZ,z6,z7,z8,j6,j7,j8,j9,x0,x5,x6,x7,x8,x9,y3,y4,reduceCtorEq,↓reduceIte,List.getElem?_set,hl,t2,t4,t5,t7,t24,t25,t26]
     exact hk
    ·have c1':¬4096<(zcA u).length:=by omega
     rw[if_neg c1'] at hk
     simp only[c1,sxZ,z6,z7,z8,j6,j7,j8,j9,x0,x5,x6,x7,x8,x9,y3,y4,reduceCtorEq,↓reduceIte,List.getElem?_set,hl,t2,t4,t5,t7,t24,t25,t26]
     subst hu
     exact hk
 ·have hz:=dw_err c0
  simp only[c0,ne_eq,not_false_eq_true,if_true] at hk
  simp only[c0,zdY,sxZ,z6,z7,z8,j6,j7,j8,j9,x0,x5,x6,x7,x8,x9,y3,y4,reduceCtorEq,↓reduceIte]
  exact hk
end
theorem zkW {p:UInt8→Bool} {x:List UInt8} {k:Nat} (h:k<x.length):(x.take (k+1)).all p=((x.take k).all p&&p x[k]):=by
 rw[List.take_succ_eq_append_getElem h,List.all_append];simp
theorem znH {p:UInt8→Bool} {x:List UInt8} {k:Nat} (h:k<x.length) (hp:p x[k]=false):x.all p=false:=by
 rw[Bool.eq_false_iff]
 intro e
 rw[List.all_eq_true.1 e _ (List.getElem_mem h)] at hp;cases hp
section
variable [Tabs Tryz.prog] {objs:List OB} {K:List OB→AV→Prop}
theorem zmk (c:UInt8) (hk:K objs (.b (zav c))):zad Tryz.prog 53 [.i .u8 c.toNat] objs K :=
 zrv (vs:=[.int .u8 c.toNat]) rfl rfl (fun w=>zaY c w) hk
set_option maxHeartbeats 2000000 in
theorem zj2 (u:UrlP) (hu:zcm u) (hk:K objs (.tup [.agg [.s (zdq u).2.1,.s (zdq u).2.2],.i .i64 (zdq u).1])):zad Tryz.prog 90 [zaQ u] objs K:=by
 refine zaU is_ref11_FromURL rfl fun C _=>?_
 simp only[c_ref11_FromURL,zaQ,sxZ,z6,z7,z8,j6,j7,j8,j9,x0,x5,x6,x7,x8,x9,y3,y4,reduceCtorEq,↓reduceIte]
 refine zaf (zo3 u hu ?_)
 unfold zdq at hk
 by_cases c0:zcU u=true
 ·obtain⟨init,z,hseg⟩:=znz c0
  have hsf:=zo2 c0
  have hlen:=zjE c0
  have hpl:=zb2 u
  have hsum:=zfp 47 u.path
  have hst:(zah 47 u.path).tail=init++[z]:=hseg
  have hln:(zah 47 u.path).length - 1=init.length+1:=by
   have:=congrArg List.length hst
   simpa using this
  have hpos:=zbx 47 u.path
  rw[hst] at hsum
  rw[hseg] at hsf
  have hid:zeP u=hpI u.host u.port++(if u.path=wkP then [] else zcY init):=by
   unfold zeP;rw[hseg];simp
  have hhl:u.host.length≤1000000:=hu.1
  simp only[c0,Bool.true_eq_false,if_false,hseg,List.getLastD_concat,List.dropLast_concat,hid] at hk
  simp only[c0,sxZ,z6,z7,z8,j6,j7,j8,j9,x0,x5,x6,x7,x8,x9,y3,y4,reduceCtorEq,↓reduceIte]
  refine zaf (ziX u.path 47 (by omega) ?_)
  simp only[sxZ,z6,z7,z8,j6,j7,j8,j9,x0,x5,x6,x7,x8,x9,y3,y4,reduceCtorEq,↓reduceIte,Nat.mul_one,zgG,hst,hln]
  have hls:=zi7 (init++[z])
  rw[List.length_append,List.length_singleton] at hls
  refine⟨by omega,?_⟩
  have e1:((init.length+1:Nat):Int) - 1=init.length:=by omega
  have hz:((init++[z]).map AV.s)[init.length]? = some (.s z):=by simp
  have htk:((init++[z]).map AV.s).take init.length=init.map AV.s:=by simp
  have hsi:(init.flatMap fun x=>(1:UInt8)::x).length≤16384:=by
   rw[List.flatMap_append,List.length_append] at hsum
   omega
  cases hq:u.hq with
  | true=>
   simp only[hq,true_or,if_true] at hk
   simp only[sxZ,z6,z7,z8,j6,j7,j8,j9,x0,x5,x6,x7,x8,x9,y3,y4,reduceCtorEq,↓reduceIte]
   exact hk
  | false=>
   cases hf:u.hf with
   | true=>
    simp only[hf,true_or,or_true,if_true] at hk
    simp only[sxZ,z6,z7,z8,j6,j7,j8,j9,x0,x5,x6,x7,x8,x9,y3,y4,reduceCtorEq,↓reduceIte]
    exact hk
   | false=>
    simp only[sxZ,z6,z7,z8,j6,j7,j8,j9,x0,x5,x6,x7,x8,x9,y3,y4,reduceCtorEq,↓reduceIte,e1,Int.toNat_natCast,Nat.mul_one,hz]
    refine⟨by omega,by simp;omega,?_⟩
    by_cases c1:z=zhP
    ·simp only[hq,hf,c1,Bool.false_eq_true,not_true_eq_false,or_self,if_false] at hk
     have c1':¬¬z=[100,105,100,46,106,115,111,110]:=fun h=>h c1
     simp only[c1',sxZ,z6,z7,z8,j6,j7,j8,j9,x0,x5,x6,x7,x8,x9,y3,y4,reduceCtorEq,↓reduceIte,e1,Int.toNat_natCast,Nat.mul_one,htk]
     refine⟨by omega,by omega,?_⟩
     by_cases c4:init=[]
     ·subst c4
      have ez:((0:Nat):Int)=0:=rfl
      by_cases c2:u.path=wkP
      ·-- a well-known path has a segment ahead of its last one
       exfalso
       have:=congrArg List.length hst
       rw[c2] at this
       have hw:(zah 47 wkP).tail.length=2:=by decide
       rw[hw] at this
       simp at this
      ·simp only[c2,not_false_eq_true,true_and,true_or,if_true] at hk
       simp only[ez,sxZ,z6,z7,z8,j6,j7,j8,j9,x0,x5,x6,x7,x8,x9,y3,y4,reduceCtorEq,↓reduceIte]
       exact hk
     ·have c4':¬((init.length:Nat):Int)=0:=by
       have:=List.length_pos_iff.2 c4
       omega
      simp only[c4,false_or] at hk
      have hil:=Lib.itoa_length_le u.port hu.2.1 hu.2.2.1
      have hhp:=zqP u.host u.port hu.2.1 hu.2.2.1
      have hall:(¬u.path=wkP∧init.all okI=false)↔init.all okI=false:=by
       refine⟨fun h=>h.2,fun h=>⟨fun e=>?_,h⟩⟩
       have hw:(zah 47 wkP).tail=[wkD]++[zhP]:=by decide
       rw[e,hw] at hst
       obtain⟨h1,_⟩:=List.append_inj' hst (by simp)
       rw[←h1] at h
       exact absurd h (by decide)
      simp only[hall] at hk
      have hmem:∀x∈init,x.length+1≤(init.flatMap fun x=>(1:UInt8)::x).length:=by
       intro x hx
       obtain⟨p,q,rfl⟩:=List.append_of_mem hx
       simp only[List.flatMap_append,List.flatMap_cons,List.length_append,List.length_cons];omega
      have hls2:=zi7 init
      have hacc0:znK u []=hpI u.host u.port:=by unfold znK;simp
      by_cases cp:u.port=0
      ·have hp0:hpI u.host u.port=u.host:=by unfold hpI;rw[if_pos cp]
       rw[hp0] at hacc0
       simp only[c4',cp,sxZ,z6,z7,z8,j6,j7,j8,j9,x0,x5,x6,x7,x8,x9,y3,y4,reduceCtorEq,↓reduceIte]
       refine zbg (fun n objs tm=>∃j:Nat,j≤init.length∧n=init.length - j∧objs=[.box 39 [.s u.host,.i .i64 u.port,.s u.path,.s u.query,.s u.frag,.b false,.b false],.box 93 [.s [],.s []]]∧(∀x∈init.take j,okI x=true∧zk0 x=58::zbf (zaR x).2) ∧
        tm.length=105∧tm[1]? = some (.p 0 0)∧tm[2]? = some (.p 1 0)∧tm[5]? = some (.s (znK u (init.take j)))∧tm[56]? = some (.row init.length (init.map .s))∧tm[57]? = some (.i .i64 init.length)∧tm[58]? = some (.i .i64 j)) init.length
        ⟨0,Nat.zero_le _,rfl,by rw[cp],by simp,rfl,rfl,rfl,by rw[List.take_zero,hacc0];rfl,rfl,rfl,rfl⟩ ?_
       rintro n o tm ⟨j,hj,rfl,rfl,hgood,hl,t1,t2,t5,t56,t57,t58⟩
       by_cases hlt:(j:Int)<init.length
       ·have hlt':j<init.length:=by omega
        have hg:(init.map AV.s)[j]? = some (.s init[j]):=by simp[hlt']
        have hx:=hmem init[j] (List.getElem_mem hlt')
        obtain⟨f1,f2,f3⟩:=hsf init[j] (List.mem_append_left _ (List.getElem_mem hlt'))
        have hbad:okI init[j]=false→init.all okI=false:=zhK hlt'
        have hacl:=zgR u (init.take j)
        have h3:=congrArg List.length (zfo (l:=init) j fun x=>(1:UInt8)::x)
        rw[List.length_append] at h3
        have hsn:init.take (j+1)=init.take j++[init[j]]:=List.take_succ_eq_append_getElem hlt'
        simp only[sxZ,z6,z7,z8,j6,j7,j8,j9,x0,x5,x6,x7,x8,x9,y3,y4,reduceCtorEq,↓reduceIte,List.getElem?_set,hl,t1,t2,t5,t56,t57,t58,hlt,Nat.mul_one,Int.toNat_natCast,hg,List.length_map]
        refine⟨by omega,?_⟩
        generalize init[j]=x at *
        refine zbg (fun n objs tm=>∃k:Nat,k≤x.length∧n=x.length - k∧objs=[.box 39 [.s u.host,.i .i64 u.port,.s u.path,.s u.query,.s u.frag,.b false,.b false],.box 93 [.s [],.s []]]∧(x.take k).all upB=true ∧
         tm.length=105∧tm[1]? = some (.p 0 0)∧tm[2]? = some (.p 1 0)∧tm[5]? = some (.s (znK u (init.take j)))∧tm[56]? = some (.row init.length (init.map .s))∧tm[57]? = some (.i .i64 init.length)∧tm[58]? = some (.i .i64 j)∧tm[7]? = some (.s x)∧tm[8]? = some (.i .i64 k)) x.length
         ⟨0,Nat.zero_le _,rfl,rfl,by simp,by simp only[List.length_set,hl],by simp only[sxZ,z6,z7,z8,j6,j7,j8,j9,x0,x5,x6,x7,x8,x9,y3,y4,reduceCtorEq,↓reduceIte,List.getElem?_set,hl,t1],by simp only[sxZ,z6,z7,z8,j6,j7,j8,j9,x0,x5,x6,x7,x8,x9,y3,y4,reduceCtorEq,↓reduceIte,List.getElem?_set,hl,t2],by simp only[sxZ,z6,z7,z8,j6,j7,j8,j9,x0,x5,x6,x7,x8,x9,y3,y4,reduceCtorEq,↓reduceIte,List.getElem?_set,hl,t5],by simp only[sxZ,z6,z7,z8,j6,j7,j8,j9,x0,x5,x6,x7,x8,x9,y3,y4,reduceCtorEq,↓reduceIte,List.getElem?_set,hl,t56],by simp only[sxZ,z6,z7,z8,j6,j7,j8,j9,x0,x5,x6,x7,x8,x9,y3,y4,reduceCtorEq,↓reduceIte,List.getElem?_set,hl,t57],by simp only[sxZ,z6,z7,z8,j6,j7,j8,j9,x0,x5,x6,x7,x8,x9,y3,y4,reduceCtorEq,↓reduceIte,List.getElem?_set,hl,t58],by simp only[sxZ,z6,z7,z8,j6,j7,j8,j9,x0,x5,x6,x7,x8,x9,y3,y4,reduceCtorEq,↓reduceIte,List.getElem?_set,hl],by simp only[sxZ,z6,z7,z8,j6,j7,j8,j9,x0,x5,x6,x7,x8,x9,y3,y4,reduceCtorEq,↓reduceIte,List.getElem?_set,hl];rfl⟩ ?_
        clear t1 t2 t5 t56 t57 t58 hl
        rintro n o tm ⟨k,hk1,rfl,rfl,hall2,hl,t1,t2,t5,t56,t57,t58,t7,t8⟩
        by_cases hkx:(k:Int)<x.length
        ·have hkx':k<x.length:=by omega
         have hgx:=zdB hkx'
         have hub:upB x[k]=(zav x[k]||x[k]==37):=rfl
         have hno:upB x[k]=false→okI x=false:=fun e=>f2 (.inl (znH hkx' e))
         have hyes:upB x[k]=true→(x.take (k+1)).all upB=true:=fun e=>by rw[zkW hkx',hall2,e];rfl
         simp only[sxZ,z6,z7,z8,j6,j7,j8,j9,x0,x5,x6,x7,x8,x9,y3,y4,reduceCtorEq,↓reduceIte,List.getElem?_set,hl,t1,t2,t5,t7,t8,t56,t57,t58,hkx,Int.toNat_natCast]
         refine⟨by omega,?_⟩
         rw[hgx]
         refine zaf (zmk x[k] ?_)
         by_cases hu1:zav x[k]=true
         ·simp only[hu1,sxZ,z6,z7,z8,j6,j7,j8,j9,x0,x5,x6,x7,x8,x9,y3,y4,reduceCtorEq,↓reduceIte,List.getElem?_set,hl,t1,t2,t5,t7,t8,t56,t57,t58]
          exact⟨⟨by omega,by omega⟩,x.length - (k+1),by omega,k+1,by omega,rfl,hyes (by rw[hub,hu1];rfl),rfl⟩
         ·simp only[Bool.not_eq_true] at hu1
          by_cases h37:((x[k].toNat:Nat):Int)=37
          ·have h37':x[k]=37:=UInt8.toNat_inj.1 (by show x[k].toNat=37;omega)
           simp only[hu1,hgx,h37,sxZ,z6,z7,z8,j6,j7,j8,j9,x0,x5,x6,x7,x8,x9,y3,y4,reduceCtorEq,↓reduceIte,List.getElem?_set,hl,t1,t2,t5,t7,t8,t56,t57,t58,Int.toNat_natCast]
           exact⟨by omega,⟨by omega,by omega⟩,x.length - (k+1),by omega,k+1,by omega,rfl,hyes (by rw[hub,h37'];rfl),rfl⟩
          ·have h37':¬x[k]=37:=fun e=>h37 (by rw[e];rfl)
           rw[hbad (hno (by rw[hub,hu1];simpa using h37'))] at hk
           simp only[hu1,hgx,h37,sxZ,z6,z7,z8,j6,j7,j8,j9,x0,x5,x6,x7,x8,x9,y3,y4,reduceCtorEq,↓reduceIte,List.getElem?_set,hl,t1,t2,t5,t7,t8,t56,t57,t58,Int.toNat_natCast]
           exact⟨by omega,hk⟩
        ·obtain rfl:k=x.length:=by omega
         rw[List.take_length] at hall2
         simp only[sxZ,z6,z7,z8,j6,j7,j8,j9,x0,x5,x6,x7,x8,x9,y3,y4,reduceCtorEq,↓reduceIte,List.getElem?_set,hl,t1,t2,t5,t7,t8,t56,t57,t58,hkx]
         refine zaf (zda x ?_)
         have hdl:=zc7 x
         have hsnoc:=zkX u (init.take j) x
         have hgd:(zaR x).2≠[]→∀y∈init.take (j+1),okI y=true∧zk0 y=58::zbf (zaR y).2:=fun e y hy=>by
          rw[hsn] at hy
          rcases List.mem_append.1 hy with hy|hy
          ·exact hgood y hy
          ·simp only[List.mem_cons,List.not_mem_nil,or_false] at hy
           subst hy;exact f3 hall2 e
         rw[←hsn] at hsnoc
         generalize (zaR x).1=e at *
         by_cases hd0:(zaR x).2=[]
         ·rw[hbad (f2 (.inr hd0))] at hk
          simp only[hd0,sxZ,z6,z7,z8,j6,j7,j8,j9,x0,x5,x6,x7,x8,x9,y3,y4,reduceCtorEq,↓reduceIte,List.getElem?_set,hl,t1,t2,t5,t7,t8,t56,t57,t58]
          exact hk
         ·have hgd2:=hgd hd0
          by_cases c2:u.path=wkP
          ·have c2':u.path=[47,46,119,101,108,108,45,107,110,111,119,110,47,100,105,100,46,106,115,111,110]:=c2
           rw[if_pos c2] at hsnoc
           rw[←hsnoc] at t5
           have c3':¬¬u.path=[47,46,119,101,108,108,45,107,110,111,119,110,47,100,105,100,46,106,115,111,110]:=fun h=>h c2'
           simp only[hd0,c3',sxZ,z6,z7,z8,j6,j7,j8,j9,x0,x5,x6,x7,x8,x9,y3,y4,reduceCtorEq,↓reduceIte,List.getElem?_set,hl,t1,t2,t5,t7,t8,t56,t57,t58]
           exact⟨⟨by omega,by omega⟩,init.length - (j+1),by omega,j+1,by omega,rfl,hgd2,rfl,rfl⟩
          ·have c2':¬u.path=[47,46,119,101,108,108,45,107,110,111,119,110,47,100,105,100,46,106,115,111,110]:=c2
           rw[if_neg c2] at hsnoc
           have hel:=zey (zaR x).2
           generalize (zaR x).2=d at *
           simp only[hd0,c2',sxZ,z6,z7,z8,j6,j7,j8,j9,x0,x5,x6,x7,x8,x9,y3,y4,reduceCtorEq,↓reduceIte,List.getElem?_set,hl,t1,t2,t5,t7,t8,t56,t57,t58]
           refine zaf (zd3 d (by omega) ?_)
           simp only[sxZ,z6,z7,z8,j6,j7,j8,j9,x0,x5,x6,x7,x8,x9,y3,y4,reduceCtorEq,↓reduceIte,List.getElem?_set,hl,t1,t2,t5,t7,t8,t56,t57,t58]
           exact⟨by omega,by omega,⟨by omega,by omega⟩,init.length - (j+1),by omega,j+1,by omega,rfl,hgd2,by rw[hsnoc],rfl⟩
       ·obtain rfl:j=init.length:=by omega
        rw[List.take_length] at hgood t5
        rw[zjx hgood] at t5
        have hok:init.all okI=true:=List.all_eq_true.2 fun x hx=>(hgood x hx).1
        rw[hok] at hk
        simp only[Bool.true_eq_false,if_false] at hk
        have hal:=zgR u init
        rw[zjx hgood] at hal
        generalize (hpI u.host u.port++if u.path=wkP then [] else zcY init)=l at *
        simp only[sxZ,z6,z7,z8,j6,j7,j8,j9,x0,x5,x6,x7,x8,x9,y3,y4,reduceCtorEq,↓reduceIte,List.getElem?_set,hl,t1,t2,t5,t56,t57,t58,hlt]
        refine zaf (zc0 _ _ (by decide) (by omega) ?_)
        have hw:zei=[119,101,98]:=rfl
        rw[hw] at hk
        by_cases c3:(4096:Int)<(zbo [119,101,98] l).length
        ·have c3':4096<(zbo [119,101,98] l).length:=by omega
         rw[if_pos c3'] at hk
         simp only[c3,sxZ,z6,z7,z8,j6,j7,j8,j9,x0,x5,x6,x7,x8,x9,y3,y4,reduceCtorEq,↓reduceIte,List.getElem?_set,hl,t1,t2,t5,t56,t57,t58]
         exact hk
        ·have c3':¬4096<(zbo [119,101,98] l).length:=by omega
         rw[if_neg c3'] at hk
         simp only[c3,sxZ,z6,z7,z8,j6,j7,j8,j9,x0,x5,x6,x7,x8,x9,y3,y4,reduceCtorEq,↓reduceIte,List.getElem?_set,hl,t1,t2,t5,t56,t57,t58]
         exact hk
      ·have hp0:hpI u.host u.port=u.host++([37,51,65]++Lib.itoa u.port):=by unfold hpI;rw[if_neg cp]
       rw[hp0] at hacc0
       simp only[c4',cp,sxZ,z6,z7,z8,j6,j7,j8,j9,x0,x5,x6,x7,x8,x9,y3,y4,reduceCtorEq,↓reduceIte]
       refine zaf (zha u.port hu.2.1 hu.2.2.1 ?_)
       simp only[sxZ,z6,z7,z8,j6,j7,j8,j9,x0,x5,x6,x7,x8,x9,y3,y4,reduceCtorEq,↓reduceIte]
       refine⟨by omega,by omega,?_⟩
       refine zbg (fun n objs tm=>∃j:Nat,j≤init.length∧n=init.length - j∧objs=[.box 39 [.s u.host,.i .i64 u.port,.s u.path,.s u.query,.s u.frag,.b false,.b false],.box 93 [.s [],.s []]]∧(∀x∈init.take j,okI x=true∧zk0 x=58::zbf (zaR x).2) ∧
        tm.length=105∧tm[1]? = some (.p 0 0)∧tm[2]? = some (.p 1 0)∧tm[5]? = some (.s (znK u (init.take j)))∧tm[56]? = some (.row init.length (init.map .s))∧tm[57]? = some (.i .i64 init.length)∧tm[58]? = some (.i .i64 j)) init.length
        ⟨0,Nat.zero_le _,rfl,rfl,by simp,rfl,rfl,rfl,by rw[List.take_zero,hacc0];rfl,rfl,rfl,rfl⟩ ?_
       rintro n o tm ⟨j,hj,rfl,rfl,hgood,hl,t1,t2,t5,t56,t57,t58⟩
       by_cases hlt:(j:Int)<init.length
       ·have hlt':j<init.length:=by omega
        have hg:(init.map AV.s)[j]? = some (.s init[j]):=by simp[hlt']
        have hx:=hmem init[j] (List.getElem_mem hlt')
        obtain⟨f1,f2,f3⟩:=hsf init[j] (List.mem_append_left _ (List.getElem_mem hlt'))
        have hbad:okI init[j]=false→init.all okI=false:=zhK hlt'
        have hacl:=zgR u (init.take j)
        have h3:=congrArg List.length (zfo (l:=init) j fun x=>(1:UInt8)::x)
        rw[List.length_append] at h3
        have hsn:init.take (j+1)=init.take j++[init[j]]:=List.take_succ_eq_append_getElem hlt'
        simp only[sxZ,z6,z7,z8,j6,j7,j8,j9,x0,x5,x6,x7,x8,x9,y3,y4,reduceCtorEq,↓reduceIte,List.getElem?_set,hl,t1,t2,t5,t56,t57,t58,hlt,Nat.mul_one,Int.toNat_natCast,hg,List.length_map]
        refine⟨by omega,?_⟩
        generalize init[j]=x at *
        refine zbg (fun n objs tm=>∃k:Nat,k≤x.length∧n=x.length - k∧objs=[.box 39 [.s u.host,.i .i64 u.port,.s u.path,.s u.query,.s u.frag,.b false,.b false],.box 93 [.s [],.s []]]∧(x.take k).all upB=true ∧
         tm.length=105∧tm[1]? = some (.p 0 0)∧tm[2]? = some (.p 1 0)∧tm[5]? = some (.s (znK u (init.take j)))∧tm[56]? = some (.row init.length (init.map .s))∧tm[57]? = some (.i .i64 init.length)∧tm[58]? = some (.i .i64 j)∧tm[7]? = some (.s x)∧tm[8]? = some (.i .i64 k)) x.length
         ⟨0,Nat.zero_le _,rfl,rfl,by simp,by simp only[List.length_set,hl],by simp only[sxZ,z6,z7,z8,j6,j7,j8,j9,x0,x5,x6,x7,x8,x9,y3,y4,reduceCtorEq,↓reduceIte,List.getElem?_set,hl,t1],by simp only[sxZ,z6,z7,z8,j6,j7,j8,j9,x0,x5,x6,x7,x8,x9,y3,y4,reduceCtorEq,↓reduceIte,List.getElem?_set,hl,t2],by simp only[sxZ,z6,z7,z8,j6,j7,j8,j9,x0,x5,x6,x7,x8,x9,y3,y4,reduceCtorEq,↓reduceIte,List.getElem?_set,hl,t5],by simp only[sxZ,z6,z7,z8,j6,j7,j8,j9,x0,x5,x6,x7,x8,x9,y3,y4,reduceCtorEq,↓reduceIte,List.getElem?_set,hl,t56],by simp only[sxZ,z6,z7,z8,j6,j7,j8,j9,x0,x5,x6,x7,x8,x9,y3,y4,reduceCtorEq,↓reduceIte,List.getElem?_set,hl,t57],by simp only[sxZ,z6,z7,z8,j6,j7,j8,j9,x0,x5,x6,x7,x8,x9,y3,y4,reduceCtorEq,↓reduceIte,List.getElem?_set,hl,t58],by simp only[sxZ,z6,z7,z8,j6,j7,j8,j9,x0,x5,x6,x7,x8,x9,y3,y4,reduceCtorEq,↓reduceIte,List.getElem?_set,hl],by simp only[sxZ,z6,z7,z8,j6,j7,j8,j9,x0,x5,x6,x7,x8,x9,y3,y4,reduceCtorEq,↓reduceIte,List.getElem?_set,hl];rfl⟩ ?_
        clear t1 t2 t5 t56 t57 t58 hl
        rintro n o tm ⟨k,hk1,rfl,rfl,hall2,hl,t1,t2,t5,t56,t57,t58,t7,t8⟩
        by_cases hkx:(k:Int)<x.length
        ·have hkx':k<x.length:=by omega
         have hgx:=zdB hkx'
         have hub:upB x[k]=(zav x[k]||x[k]==37):=rfl
         have hno:upB x[k]=false→okI x=false:=fun e=>f2 (.inl (znH hkx' e))
         have hyes:upB x[k]=true→(x.take (k+1)).all upB=true:=fun e=>by rw[zkW hkx',hall2,e];rfl
         simp only[sxZ,z6,z7,z8,j6,j7,j8,j9,x0,x5,x6,x7,x8,x9,y3,y4,reduceCtorEq,↓reduceIte,List.getElem?_set,hl,t1,t2,t5,t7,t8,t56,t57,t58,hkx,Int.toNat_natCast]
         refine⟨by omega,?_⟩
         rw[hgx]
         refine zaf (zmk x[k] ?_)
         by_cases hu1:zav x[k]=true
         ·simp only[hu1,sxZ,z6,z7,z8,j6,j7,j8,j9,x0,x5,x6,x7,x8,x9,y3,y4,reduceCtorEq,↓reduceIte,List.getElem?_set,hl,t1,t2,t5,t7,t8,t56,t57,t58]
          exact⟨⟨by omega,by omega⟩,x.length - (k+1),by omega,k+1,by omega,rfl,hyes (by rw[hub,hu1];rfl),rfl⟩
         ·simp only[Bool.not_eq_true] at hu1
          by_cases h37:((x[k].toNat:Nat):Int)=37
          ·have h37':x[k]=37:=UInt8.toNat_inj.1 (by show x[k].toNat=37;omega)
           simp only[hu1,hgx,h37,sxZ,z6,z7,z8,j6,j7,j8,j9,x0,x5,x6,x7,x8,x9,y3,y4,reduceCtorEq,↓reduceIte,List.getElem?_set,hl,t1,t2,t5,t7,t8,t56,t57,t58,Int.toNat_natCast]
           exact⟨by omega,⟨by omega,by omega⟩,x.length - (k+1),by omega,k+1,by omega,rfl,hyes (by rw[hub,h37'];rfl),rfl⟩
          ·have h37':¬x[k]=37:=fun e=>h37 (by rw[e];rfl)
           rw[hbad (hno (by rw[hub,hu1];simpa using h37'))] at hk
           simp only[hu1,hgx,h37,sxZ,z6,z7,z8,j6,j7,j8,j9,x0,x5,x6,x7,x8,x9,y3,y4,reduceCtorEq,↓reduceIte,List.getElem?_set,hl,t1,t2,t5,t7,t8,t56,t57,t58,Int.toNat_natCast]
           exact⟨by omega,hk⟩
        ·obtain rfl:k=x.length:=by omega
         rw[List.take_length] at hall2
         simp only[sxZ,z6,z7,z8,j6,j7,j8,j9,x0,x5,x6,x7,x8,x9,y3,y4,reduceCtorEq,↓reduceIte,List.getElem?_set,hl,t1,t2,t5,t7,t8,t56,t57,t58,hkx]
         refine zaf (zda x ?_)
         have hdl:=zc7 x
         have hsnoc:=zkX u (init.take j) x
         have hgd:(zaR x).2≠[]→∀y∈init.take (j+1),okI y=true∧zk0 y=58::zbf (zaR y).2:=fun e y hy=>by
          rw[hsn] at hy
          rcases List.mem_append.1 hy with hy|hy
          ·exact hgood y hy
          ·simp only[List.mem_cons,List.not_mem_nil,or_false] at hy
           subst hy;exact f3 hall2 e
         rw[←hsn] at hsnoc
         generalize (zaR x).1=e at *
         by_cases hd0:(zaR x).2=[]
         ·rw[hbad (f2 (.inr hd0))] at hk
          simp only[hd0,sxZ,z6,z7,z8,j6,j7,j8,j9,x0,x5,x6,x7,x8,x9,y3,y4,reduceCtorEq,↓reduceIte,List.getElem?_set,hl,t1,t2,t5,t7,t8,t56,t57,t58]
          exact hk
         ·have hgd2:=hgd hd0
          by_cases c2:u.path=wkP
          ·have c2':u.path=[47,46,119,101,108,108,45,107,110,111,119,110,47,100,105,100,46,106,115,111,110]:=c2
           rw[if_pos c2] at hsnoc
           rw[←hsnoc] at t5
           have c3':¬¬u.path=[47,46,119,101,108,108,45,107,110,111,119,110,47,100,105,100,46,106,115,111,110]:=fun h=>h c2'
           simp only[hd0,c3',sxZ,z6,z7,z8,j6,j7,j8,j9,x0,x5,x6,x7,x8,x9,y3,y4,reduceCtorEq,↓reduceIte,List.getElem?_set,hl,t1,t2,t5,t7,t8,t56,t57,t58]
           exact⟨⟨by omega,by omega⟩,init.length - (j+1),by omega,j+1,by omega,rfl,hgd2,rfl,rfl⟩
          ·have c2':¬u.path=[47,46,119,101,108,108,45,107,110,111,119,110,47,100,105,100,46,106,115,111,110]:=c2
           rw[if_neg c2] at hsnoc
           have hel:=zey (zaR x).2
           generalize (zaR x).2=d at *
           simp only[hd0,c2',sxZ,z6,z7,z8,j6,j7,j8,j9,x0,x5,x6,x7,x8,x9,y3,y4,reduceCtorEq,↓reduceIte,List.getElem?_set,hl,t1,t2,t5,t7,t8,t56,t57,t58]
           refine zaf (zd3 d (by omega) ?_)
           simp only[sxZ,z6,z7,z8,j6,j7,j8,j9,x0,x5,x6,x7,x8,x9,y3,y4,reduceCtorEq,↓reduceIte,List.getElem?_set,hl,t1,t2,t5,t7,t8,t56,t57,t58]
           exact⟨by omega,by omega,⟨by omega,by omega⟩,init.length - (j+1),by omega,j+1,by omega,rfl,hgd2,by rw[hsnoc],rfl⟩
       ·obtain rfl:j=init.length:=by omega
        rw[List.take_length] at hgood t5
        rw[zjx hgood] at t5
        have hok:init.all okI=true:=List.all_eq_true.2 fun x hx=>(hgood x hx).1
        rw[hok] at hk
        simp only[Bool.true_eq_false,if_false] at hk
        have hal:=zgR u init
        rw[zjx hgood] at hal
        generalize (hpI u.host u.port++if u.path=wkP then [] else zcY init)=l at *
        simp only[sxZ,z6,z7,z8,j6,j7,j8,j9,x0,x5,x6,x7,x8,x9,y3,y4,reduceCtorEq,↓reduceIte,List.getElem?_set,hl,t1,t2,t5,t56,t57,t58,hlt]
        refine zaf (zc0 _ _ (by decide) (by omega) ?_)
        have hw:zei=[119,101,98]:=rfl
        rw[hw] at hk
        by_cases c3:(4096:Int)<(zbo [119,101,98] l).length
        ·have c3':4096<(zbo [119,101,98] l).length:=by omega
         rw[if_pos c3'] at hk
         simp only[c3,sxZ,z6,z7,z8,j6,j7,j8,j9,x0,x5,x6,x7,x8,x9,y3,y4,reduceCtorEq,↓reduceIte,List.getElem?_set,hl,t1,t2,t5,t56,t57,t58]
         exact hk
        ·have c3':¬4096<(zbo [119,101,98] l).length:=by omega
         rw[if_neg c3'] at hk
         simp only[c3,sxZ,z6,z7,z8,j6,j7,j8,j9,x0,x5,x6,x7,x8,x9,y3,y4,reduceCtorEq,↓reduceIte,List.getElem?_set,hl,t1,t2,t5,t56,t57,t58]
         exact hk
    ·simp only[hq,hf,c1,Bool.false_eq_true,not_false_eq_true,or_true,if_true] at hk
     have c1':¬z=[100,105,100,46,106,115,111,110]:=c1
     simp only[c1',sxZ,z6,z7,z8,j6,j7,j8,j9,x0,x5,x6,x7,x8,x9,y3,y4,reduceCtorEq,↓reduceIte]
     exact hk
 ·simp only[c0,sxZ,z6,z7,z8,j6,j7,j8,j9,x0,x5,x6,x7,x8,x9,y3,y4,reduceCtorEq,↓reduceIte]
  simp only[c0,if_true] at hk
  exact hk
theorem rdwCan_k (m i:List UInt8) (hm:m.length≤13000) (hi:i.length≤13000) (hk:K objs (.tup [.agg [.s (ze1 m i).2.1,.s (ze1 m i).2.2],.i .i64 (ze1 m i).1])):zad Tryz.prog 60 [.agg [.s m,.s i]] objs K:=by
 refine zaU is_ref11_Canonical rfl fun C _=>?_
 simp only[c_ref11_Canonical,sxZ,z6,z7,z8,j6,j7,j8,j9,x0,x5,x6,x7,x8,x9,y3,y4,reduceCtorEq,↓reduceIte]
 refine zaf (zn2 m i hm hi ?_)
 unfold ze1 at hk
 have hz:=to_err (m:=m) (i:=i)
 have hsh:(toE m i).1=0→zcm (toE m i).2:=fun h=>zoQ hi h
 generalize toE m i=q at *
 obtain⟨e,u⟩:=q
 simp only at hz hsh hk ⊢
 by_cases c0:e=0
 ·subst c0
  simp only[ne_eq,not_true_eq_false,if_false] at hk
  simp only[zaQ,sxZ,z6,z7,z8,j6,j7,j8,j9,x0,x5,x6,x7,x8,x9,y3,y4,reduceCtorEq,↓reduceIte]
  refine zaf (zj2 u (hsh rfl) ?_)
  simp only[sxZ,z6,z7,z8,j6,j7,j8,j9,x0,x5,x6,x7,x8,x9,y3,y4,reduceCtorEq,↓reduceIte]
  exact hk
 ·have:=hz c0
  subst this
  simp only[c0,ne_eq,not_false_eq_true,if_true] at hk
  simp only[c0,zaQ,sxZ,z6,z7,z8,j6,j7,j8,j9,x0,x5,x6,x7,x8,x9,y3,y4,reduceCtorEq,↓reduceIte]
  exact hk
end
end Go.Proofs.YtnnipcgblooemaaGreatDoor
namespace Go.Proofs.YtnnipcgblooemaaGreatDoor
open Go.RowKit Sx
section
variable [Tabs Tryz.prog] [Shp Tryz.prog] [Pow Tryz.prog]
end
end Go.Proofs.YtnnipcgblooemaaGreatDoor
namespace Go.Proofs.YtnnipcgblooemaaGreatDoor
open Go.RowKit
def zdo:List UInt8:=[97,99,99,116,58]
def zcp:List UInt8:=[33,36,38,39,40,41,42,43,44,59,61]
def zhj:List UInt8→Bool
 | []=>true
 | c::_=>c.toNat==37
def zbp (l:List UInt8):Int×List UInt8×List UInt8 :=
 if 4096<l.length then (5,[],[])
 else if l.length<5∨eqL (l.take 5) zdo=false then (60,[],[])
 else if (zar 64 (l.drop 5)).2.2=false then (6,[],[])
 else if (zaj (zar 64 (l.drop 5)).1 zcp).1≠0∨zhj (zaj (zar 64 (l.drop 5)).1 zcp).2=true then (80,[],[])
 else if (zaL (zar 64 (l.drop 5)).2.1).1≠0 then ((zaL (zar 64 (l.drop 5)).2.1).1,[],[])
 else (0,(zaj (zar 64 (l.drop 5)).1 zcp).2,(zaL (zar 64 (l.drop 5)).2.1).2)
def zbc (u h:List UInt8):Value:=.agg #[.string (S u),.string (S h)]
def zaH (r:Int×List UInt8×List UInt8):Value:=.tuple #[zbc r.2.1 r.2.2,.int .i64 r.1]
def fmtA (u h:List UInt8):List UInt8:=zdo++u++[64]++h
theorem zck (s:ByteArray) (w:World) (hs:s.size≤maxLen) :
  Calls Tryz.prog 117 #[.string s] w fun e w'=>e=.returned (zeY (zar 64 s.data.toList))∧Qb w w':=by
 go_enter Tryz.func117,Tryz.ntmps117
 go_wp2_with fail
 refine(zbi s 64 _ hs).mono ?_
 rintro e w1 ⟨rfl,hq1⟩
 unfold zeY
 go_wp2_with fail
 go_ret3
 exact⟨rfl,hq1⟩
theorem zlR (u h:List UInt8) (w:World) (hu:u.length≤9000000000000000000) (hh:h.length≤100000000000000000) :
  Calls Tryz.prog 93 #[zbc u h] w fun e w'=>e=.returned (.string (S (fmtA u h)))∧Qb w w':=by
 unfold zbc
 go_enter Tryz.func93,Tryz.ntmps93
 go_wp2_with fail
 go_ret
 exact⟨zeo (S_eq (by unfold fmtA zdo;simp[ByteArray.data_append])),(Qb.refl w).alloc _⟩
theorem zj5 (u h:List UInt8) (w:World) (hu:u.length≤9000000000000000000) (hh:h.length≤100000000000000000) :
  Calls Tryz.prog 30 #[zbc u h] w fun e w'=>e=.returned (.string (S (fmtA u h)))∧Qb w w':=by
 unfold zbc
 go_enter Tryz.func30,Tryz.ntmps30
 go_wp2_with fail
 go_ret
 exact⟨zeo (S_eq (by unfold fmtA zdo;simp[ByteArray.data_append])),(Qb.refl w).alloc _⟩
set_option maxHeartbeats 2000000 in
theorem zos (s:ByteArray) (w:World) (hs:s.size≤maxLen) :
  Calls Tryz.prog 92 #[.string s] w fun e w'=>e=.returned (zaH (zbp s.data.toList))∧Qb w w':=by
 unfold maxLen at hs
 by_cases h0:4096<s.size
 ·have HF:Hid (zbp s.data.toList=(5,[],[])):=Lib.hid (by unfold zbp;rw[if_pos (by rw[zaa];exact h0)])
  go_enter Tryz.func92,Tryz.ntmps92
  go_wp2_with fail
  exact bodyPost_ret (v:=zaH (5,[],[])) (by simp[results,Tryz.results92,go_sem,zaH,zbc]) rfl ⟨by rw[HF.out],(Qb.refl w).alloc _⟩
 have h0':s.size≤4096:=by omega
 by_cases h5:s.size<5
 ·have HF:Hid (zbp s.data.toList=(60,[],[])):=Lib.hid (by unfold zbp;rw[if_neg (by rw[zaa];omega),if_pos (.inl (by rw[zaa];exact h5))])
  clear h0
  go_enter Tryz.func92,Tryz.ntmps92
  go_wp2_with fail
  exact bodyPost_ret (v:=zaH (60,[],[])) (by simp[results,Tryz.results92,go_sem,zaH,zbc]) rfl ⟨by rw[HF.out],(Qb.refl w).alloc _⟩
 have h5':5≤s.size:=by omega
 have HX5:=Lib.hid (zbb s 5)
 have hxl:(s.extract 0 5).data.toList=s.data.toList.take 5:=by rw[HX5.out]
 have HXD:=Lib.hid (zaB s 5)
 have HE:Hid (zbp s.data.toList=if eqL (s.data.toList.take 5) zdo=false then (60,[],[]) else if (zar 64 (s.data.toList.drop 5)).2.2=false then (6,[],[])
   else if (zaj (zar 64 (s.data.toList.drop 5)).1 zcp).1≠0∨zhj (zaj (zar 64 (s.data.toList.drop 5)).1 zcp).2=true then (80,[],[])
   else if (zaL (zar 64 (s.data.toList.drop 5)).2.1).1≠0 then ((zaL (zar 64 (s.data.toList.drop 5)).2.1).1,[],[])
   else (0,(zaj (zar 64 (s.data.toList.drop 5)).1 zcp).2,(zaL (zar 64 (s.data.toList.drop 5)).2.1).2)):=Lib.hid (by
  unfold zbp;rw[if_neg (by rw[zaa];omega)]
  have:∀p:Prop,(s.data.toList.length<5∨p)=p:=fun p=>by rw[zaa];exact propext ⟨fun h=>h.resolve_left h5,.inr⟩
  simp only[this])
 have hdl:(s.data.toList.drop 5).length≤4096:=by rw[List.length_drop,zaa];omega
 generalize s.data.toList.drop 5=d at *
 obtain⟨p,q,b,hcut⟩:∃p q b,zar 64 d=(p,q,b):=⟨_,_,_,rfl⟩
 obtain⟨ne,u,hn⟩:∃ne u,zaj p zcp=(ne,u):=⟨_,_,rfl⟩
 obtain⟨he,h,hh⟩:∃he h,zaL q=(he,h):=⟨_,_,rfl⟩
 have HC:=Lib.hid hcut
 have HN:=Lib.hid hn
 have HH:=Lib.hid hh
 have hlens:=za5 64 d
 rw[hcut] at hlens
 have hpl:p.length≤4096:=by have:=hlens.1;simp at this;omega
 have hql:q.length≤4096:=by have:=hlens.2;simp at this;omega
 have HI:Hid (zaA d [64]=p.length):=Lib.hid (by rw[zbD,hcut])
 have HIX:Hid (zaA d ({ data:=#[64] }:ByteArray).data.toList=p.length):=HI
 have hE2:∀x,eqL (s.data.toList.take 5) zdo=x→zbp s.data.toList=if x=false then (60,[],[]) else if b=false then (6,[],[]) else if ne≠0∨zhj u=true then (80,[],[]) else if he≠0 then (he,[],[]) else (0,u,h):=fun x hx=>by
  rw[HE.out,hcut];simp only;rw[hn,hh,hx]
 have HE2:=Lib.hid hE2
 have hcl:=zcc 64 d
 rw[hcut] at hcl
 simp only at hcl
 have HCL:=Lib.hid hcl
 have hi:=zbs 64 d
 rw[hcut] at hi
 have HCI:=Lib.hid hi
 clear hcut hn hh hE2 HE hlens h0 h5 hcl hi
 rcases hx:eqL (s.data.toList.take 5) zdo with _|_
 ·have HEQ:Hid (eqL (s.extract 0 5).data.toList ({ data:=#[97,99,99,116,58] }:ByteArray).data.toList=false):=Lib.hid (by rw[hxl];exact hx)
  have HX:=Lib.hid hx
  clear hx hxl
  have HF:Hid (zbp s.data.toList=(60,[],[])):=Lib.hid (by rw[HE2.out _ HX.out];rfl)
  go_enter Tryz.func92,Tryz.ntmps92
  go_wp2_with fail
  refine(zbq _ _ _ (by unfold maxLen;rw[HX5.out,zac,List.length_take];omega) (by decide)).mono ?_
  rintro e w1 ⟨rfl,hqe⟩
  rw[show eqL (s.extract 0 5).data.toList ({ data:=#[97,99,99,116,58] }:ByteArray).data.toList=false from HEQ.out]
  have hk:=(Obk.new w _ _).qb hqe
  have hc0:=hk.cell 0
  have hc1:=hk.cell 1
  have hf0:=hk.frozen 0
  have hf1:=hk.frozen 1
  simp at hc0 hc1
  go_wp2_with fail
  exact bodyPost_ret (v:=zaH (60,[],[])) (by simp[results,Tryz.results92,go_sem,hc0,hc1,hf0,hf1,zaH,zbc]) rfl ⟨by rw[HF.out],((((Qb.refl w).alloc _).trans hqe).set (Nat.le_refl _) _).set (Nat.le_refl _) _⟩
 ·have HEQ:Hid (eqL (s.extract 0 5).data.toList ({ data:=#[97,99,99,116,58] }:ByteArray).data.toList=true):=Lib.hid (by rw[hxl];exact hx)
  have HX:=Lib.hid hx
  clear hx hxl
  rcases b with _|_
  ·have hpd:p.length=d.length:=by rw[(HCL.out.2.2 rfl).1]
   have HF:Hid (zbp s.data.toList=(6,[],[])):=Lib.hid (by rw[HE2.out _ HX.out];rfl)
   go_enter Tryz.func92,Tryz.ntmps92
   go_wp2_with fail
   refine(zbq _ _ _ (by unfold maxLen;rw[HX5.out,zac,List.length_take];omega) (by decide)).mono ?_
   rintro e w1 ⟨rfl,hqe⟩
   rw[show eqL (s.extract 0 5).data.toList ({ data:=#[97,99,99,116,58] }:ByteArray).data.toList=true from HEQ.out]
   go_wp2_with fail
   rw[HXD.out]
   refine(zck _ _ (by unfold maxLen;rw[zac];omega)).mono ?_
   rintro e w2 ⟨rfl,hq2⟩
   rw[zab,HC.out]
   unfold zeY
   have hk:=(Obk.new w _ _).qb (hqe.trans hq2)
   have hc0:=hk.cell 0
   have hc1:=hk.cell 1
   have hf0:=hk.frozen 0
   have hf1:=hk.frozen 1
   simp at hc0 hc1
   go_wp2_with fail
   exact bodyPost_ret (v:=zaH (6,[],[])) (by simp[results,Tryz.results92,go_sem,hc0,hc1,hf0,hf1,zaH,zbc]) rfl ⟨by rw[HF.out],((((Qb.refl w).alloc _).trans (hqe.trans hq2)).set (Nat.le_refl _) _).set (Nat.le_refl _) _⟩
  ·have hpd:=HCL.out.2.1 rfl
   have hpq:p=d.take p.length∧q=d.drop (p.length+1):=by
    rcases HCI.out with ⟨_,h2,_⟩|⟨k,_,hk,h2,_⟩
    ·injection h2 with _ h2;injection h2 with _ h2;cases h2
    ·injection h2 with h2 h3;injection h3 with h3 _
     have:p.length=k:=by rw[h2,List.length_take];omega
     rw[this];exact⟨h2,h3⟩
   have hxp:=zbb (S d) p.length
   rw[zab,←hpq.1] at hxp
   have hxq:=zaB (S d) (p.length+1)
   rw[zab,zac,←hpq.2] at hxq
   have HXP:=Lib.hid hxp
   have HXQ:=Lib.hid hxq
   have hpi:(p.length:Int)+1≤(d.length:Int):=by omega
   have hb1:((p.length:Int)==(d.length:Int))=false:=by rw[beq_eq_false_iff_ne];omega
   clear hpd hpq hxp hxq
   by_cases hne:ne=0
   ·subst hne
    rcases u with _|⟨c,t⟩
    ·have HF:Hid (zbp s.data.toList=(80,[],[])):=Lib.hid (by rw[HE2.out _ HX.out];rfl)
     go_enter Tryz.func92,Tryz.ntmps92
     go_wp2_with fail
     refine(zbq _ _ _ (by unfold maxLen;rw[HX5.out,zac,List.length_take];omega) (by decide)).mono ?_
     rintro e w1 ⟨rfl,hqe⟩
     rw[show eqL (s.extract 0 5).data.toList ({ data:=#[97,99,99,116,58] }:ByteArray).data.toList=true from HEQ.out]
     go_wp2_with fail
     rw[HXD.out]
     refine(zck _ _ (by unfold maxLen;rw[zac];omega)).mono ?_
     rintro e w2 ⟨rfl,hq2⟩
     rw[zab,HC.out]
     unfold zeY
     go_wp2_with fail
     refine(zdR _ _ _).mono ?_
     rintro e w3 ⟨rfl,hq3⟩
     rw[zab,show zaj p ({ data:=#[33,36,38,39,40,41,42,43,44,59,61] }:ByteArray).data.toList=_ from HN.out]
     unfold zcZ
     have hk:=(Obk.new w _ _).qb ((hqe.trans hq2).trans hq3)
     have hc0:=hk.cell 0
     have hc1:=hk.cell 1
     have hf0:=hk.frozen 0
     have hf1:=hk.frozen 1
     simp at hc0 hc1
     go_wp2_with fail
     exact bodyPost_ret (v:=zaH (80,[],[])) (by simp[results,Tryz.results92,go_sem,hc0,hc1,hf0,hf1,zaH,zbc]) rfl ⟨by rw[HF.out],((((Qb.refl w).alloc _).trans ((hqe.trans hq2).trans hq3)).set (Nat.le_refl _) _).set (Nat.le_refl _) _⟩
    ·by_cases hc:c.toNat=37
     ·obtain rfl:c=37:=UInt8.toNat_inj.1 hc
      clear hc
      have HF:Hid (zbp s.data.toList=(80,[],[])):=Lib.hid (by rw[HE2.out _ HX.out,if_neg (by simp),if_neg (by simp),if_pos (.inr rfl)])
      go_enter Tryz.func92,Tryz.ntmps92
      go_wp2_with fail
      refine(zbq _ _ _ (by unfold maxLen;rw[HX5.out,zac,List.length_take];omega) (by decide)).mono ?_
      rintro e w1 ⟨rfl,hqe⟩
      rw[show eqL (s.extract 0 5).data.toList ({ data:=#[97,99,99,116,58] }:ByteArray).data.toList=true from HEQ.out]
      go_wp2_with fail
      rw[HXD.out]
      refine(zck _ _ (by unfold maxLen;rw[zac];omega)).mono ?_
      rintro e w2 ⟨rfl,hq2⟩
      rw[zab,HC.out]
      unfold zeY
      go_wp2_with fail
      refine(zdR _ _ _).mono ?_
      rintro e w3 ⟨rfl,hq3⟩
      rw[zab,show zaj p ({ data:=#[33,36,38,39,40,41,42,43,44,59,61] }:ByteArray).data.toList=_ from HN.out]
      unfold zcZ
      have hk:=(Obk.new w _ _).qb ((hqe.trans hq2).trans hq3)
      have hc0:=hk.cell 0
      have hc1:=hk.cell 1
      have hf0:=hk.frozen 0
      have hf1:=hk.frozen 1
      simp at hc0 hc1
      go_wp2_with fail
      exact bodyPost_ret (v:=zaH (80,[],[])) (by simp[results,Tryz.results92,go_sem,hc0,hc1,hf0,hf1,zaH,zbc]) rfl ⟨by rw[HF.out],((((Qb.refl w).alloc _).trans ((hqe.trans hq2).trans hq3)).set (Nat.le_refl _) _).set (Nat.le_refl _) _⟩
     ·have hb:((((S (c::t))[0]'(by rw[zac,List.length_cons];omega)).toNat:Int)==37)=false:=by
       show ((c.toNat:Int)==37)=false
       rw[beq_eq_false_iff_ne];omega
      have hpl2:zhj (c::t)=false:=show (c.toNat==37)=false from by rw[beq_eq_false_iff_ne];exact hc
      have HPL:=Lib.hid hpl2
      clear hc hpl2
      by_cases hhe:he=0
      ·subst hhe
       have HF:Hid (zbp s.data.toList=(0,c::t,h)):=Lib.hid (by rw[HE2.out _ HX.out,if_neg (by simp),if_neg (by simp),if_neg (by rw[HPL.out];simp),if_neg (by simp)])
       go_enter Tryz.func92,Tryz.ntmps92
       go_wp2_with fail
       refine(zbq _ _ _ (by unfold maxLen;rw[HX5.out,zac,List.length_take];omega) (by decide)).mono ?_
       rintro e w1 ⟨rfl,hqe⟩
       rw[show eqL (s.extract 0 5).data.toList ({ data:=#[97,99,99,116,58] }:ByteArray).data.toList=true from HEQ.out]
       go_wp2_with fail
       rw[HXD.out]
       refine(zck _ _ (by unfold maxLen;rw[zac];omega)).mono ?_
       rintro e w2 ⟨rfl,hq2⟩
       rw[zab,HC.out]
       unfold zeY
       go_wp2_with fail
       refine(zdR _ _ _).mono ?_
       rintro e w3 ⟨rfl,hq3⟩
       rw[zab,show zaj p ({ data:=#[33,36,38,39,40,41,42,43,44,59,61] }:ByteArray).data.toList=_ from HN.out]
       unfold zcZ
       go_wp2_with fail
       refine(zcN (S q) _ (by unfold maxLen;rw[zac];omega)).mono ?_
       rintro e w4 ⟨rfl,hq4⟩
       rw[zab,HH.out]
       unfold zcZ
       have hk:=(Obk.new w _ _).qb (((hqe.trans hq2).trans hq3).trans hq4)
       have hc0:=hk.cell 0
       have hc1:=hk.cell 1
       have hf0:=hk.frozen 0
       have hf1:=hk.frozen 1
       simp at hc0 hc1
       go_wp2_with fail
       exact bodyPost_ret (v:=zaH (0,c::t,h)) (by simp[results,Tryz.results92,go_sem,hc0,hc1,hf0,hf1,zaH,zbc]) rfl ⟨by rw[HF.out],((((Qb.refl w).alloc _).trans (((hqe.trans hq2).trans hq3).trans hq4)).set (Nat.le_refl _) _).set (Nat.le_refl _) _⟩
      ·have hb2:(he != 0)=true:=bne_iff_ne.2 hhe
       have HHE:=Lib.hid hhe
       clear hhe
       have HF:Hid (zbp s.data.toList=(he,[],[])):=Lib.hid (by rw[HE2.out _ HX.out,if_neg (by simp),if_neg (by simp),if_neg (by rw[HPL.out];simp),if_pos HHE.out])
       go_enter Tryz.func92,Tryz.ntmps92
       go_wp2_with fail
       refine(zbq _ _ _ (by unfold maxLen;rw[HX5.out,zac,List.length_take];omega) (by decide)).mono ?_
       rintro e w1 ⟨rfl,hqe⟩
       rw[show eqL (s.extract 0 5).data.toList ({ data:=#[97,99,99,116,58] }:ByteArray).data.toList=true from HEQ.out]
       go_wp2_with fail
       rw[HXD.out]
       refine(zck _ _ (by unfold maxLen;rw[zac];omega)).mono ?_
       rintro e w2 ⟨rfl,hq2⟩
       rw[zab,HC.out]
       unfold zeY
       go_wp2_with fail
       refine(zdR _ _ _).mono ?_
       rintro e w3 ⟨rfl,hq3⟩
       rw[zab,show zaj p ({ data:=#[33,36,38,39,40,41,42,43,44,59,61] }:ByteArray).data.toList=_ from HN.out]
       unfold zcZ
       go_wp2_with fail
       refine(zcN (S q) _ (by unfold maxLen;rw[zac];omega)).mono ?_
       rintro e w4 ⟨rfl,hq4⟩
       rw[zab,HH.out]
       unfold zcZ
       have hk:=(Obk.new w _ _).qb (((hqe.trans hq2).trans hq3).trans hq4)
       have hc0:=hk.cell 0
       have hc1:=hk.cell 1
       have hf0:=hk.frozen 0
       have hf1:=hk.frozen 1
       simp at hc0 hc1
       go_wp2_with fail
       exact bodyPost_ret (v:=zaH (he,[],[])) (by simp[results,Tryz.results92,go_sem,hc0,hc1,hf0,hf1,zaH,zbc]) rfl ⟨by rw[HF.out],((((Qb.refl w).alloc _).trans (((hqe.trans hq2).trans hq3).trans hq4)).set (Nat.le_refl _) _).set (Nat.le_refl _) _⟩
   ·have hb2:(ne != 0)=true:=bne_iff_ne.2 hne
    have HNE:=Lib.hid hne
    clear hne
    have HF:Hid (zbp s.data.toList=(80,[],[])):=Lib.hid (by rw[HE2.out _ HX.out,if_neg (by simp),if_neg (by simp),if_pos (.inl HNE.out)])
    go_enter Tryz.func92,Tryz.ntmps92
    go_wp2_with fail
    refine(zbq _ _ _ (by unfold maxLen;rw[HX5.out,zac,List.length_take];omega) (by decide)).mono ?_
    rintro e w1 ⟨rfl,hqe⟩
    rw[show eqL (s.extract 0 5).data.toList ({ data:=#[97,99,99,116,58] }:ByteArray).data.toList=true from HEQ.out]
    go_wp2_with fail
    rw[HXD.out]
    refine(zck _ _ (by unfold maxLen;rw[zac];omega)).mono ?_
    rintro e w2 ⟨rfl,hq2⟩
    rw[zab,HC.out]
    unfold zeY
    go_wp2_with fail
    refine(zdR _ _ _).mono ?_
    rintro e w3 ⟨rfl,hq3⟩
    rw[zab,show zaj p ({ data:=#[33,36,38,39,40,41,42,43,44,59,61] }:ByteArray).data.toList=_ from HN.out]
    unfold zcZ
    have hk:=(Obk.new w _ _).qb ((hqe.trans hq2).trans hq3)
    have hc0:=hk.cell 0
    have hc1:=hk.cell 1
    have hf0:=hk.frozen 0
    have hf1:=hk.frozen 1
    simp at hc0 hc1
    go_wp2_with fail
    exact bodyPost_ret (v:=zaH (80,[],[])) (by simp[results,Tryz.results92,go_sem,hc0,hc1,hf0,hf1,zaH,zbc]) rfl ⟨by rw[HF.out],((((Qb.refl w).alloc _).trans ((hqe.trans hq2).trans hq3)).set (Nat.le_refl _) _).set (Nat.le_refl _) _⟩
set_option maxHeartbeats 2000000 in
theorem zle (s:ByteArray) (w:World) (hs:s.size≤maxLen) :
  Calls Tryz.prog 29 #[.string s] w fun e w'=>e=.returned (zaH (zbp s.data.toList))∧Qb w w':=by
 unfold maxLen at hs
 by_cases h0:4096<s.size
 ·have HF:Hid (zbp s.data.toList=(5,[],[])):=Lib.hid (by unfold zbp;rw[if_pos (by rw[zaa];exact h0)])
  go_enter Tryz.func29,Tryz.ntmps29
  go_wp2_with fail
  exact bodyPost_ret (v:=zaH (5,[],[])) (by simp[results,Tryz.results29,go_sem,zaH,zbc]) rfl ⟨by rw[HF.out],(Qb.refl w).alloc _⟩
 have h0':s.size≤4096:=by omega
 by_cases h5:s.size<5
 ·have HF:Hid (zbp s.data.toList=(60,[],[])):=Lib.hid (by unfold zbp;rw[if_neg (by rw[zaa];omega),if_pos (.inl (by rw[zaa];exact h5))])
  clear h0
  go_enter Tryz.func29,Tryz.ntmps29
  go_wp2_with fail
  exact bodyPost_ret (v:=zaH (60,[],[])) (by simp[results,Tryz.results29,go_sem,zaH,zbc]) rfl ⟨by rw[HF.out],(Qb.refl w).alloc _⟩
 have h5':5≤s.size:=by omega
 have HX5:=Lib.hid (zbb s 5)
 have hxl:(s.extract 0 5).data.toList=s.data.toList.take 5:=by rw[HX5.out]
 have HXD:=Lib.hid (zaB s 5)
 have HE:Hid (zbp s.data.toList=if eqL (s.data.toList.take 5) zdo=false then (60,[],[]) else if (zar 64 (s.data.toList.drop 5)).2.2=false then (6,[],[])
   else if (zaj (zar 64 (s.data.toList.drop 5)).1 zcp).1≠0∨zhj (zaj (zar 64 (s.data.toList.drop 5)).1 zcp).2=true then (80,[],[])
   else if (zaL (zar 64 (s.data.toList.drop 5)).2.1).1≠0 then ((zaL (zar 64 (s.data.toList.drop 5)).2.1).1,[],[])
   else (0,(zaj (zar 64 (s.data.toList.drop 5)).1 zcp).2,(zaL (zar 64 (s.data.toList.drop 5)).2.1).2)):=Lib.hid (by
  unfold zbp;rw[if_neg (by rw[zaa];omega)]
  have:∀p:Prop,(s.data.toList.length<5∨p)=p:=fun p=>by rw[zaa];exact propext ⟨fun h=>h.resolve_left h5,.inr⟩
  simp only[this])
 have hdl:(s.data.toList.drop 5).length≤4096:=by rw[List.length_drop,zaa];omega
 generalize s.data.toList.drop 5=d at *
 obtain⟨p,q,b,hcut⟩:∃p q b,zar 64 d=(p,q,b):=⟨_,_,_,rfl⟩
 obtain⟨ne,u,hn⟩:∃ne u,zaj p zcp=(ne,u):=⟨_,_,rfl⟩
 obtain⟨he,h,hh⟩:∃he h,zaL q=(he,h):=⟨_,_,rfl⟩
 have HC:=Lib.hid hcut
 have HN:=Lib.hid hn
 have HH:=Lib.hid hh
 have hlens:=za5 64 d
 rw[hcut] at hlens
 have hpl:p.length≤4096:=by have:=hlens.1;simp at this;omega
 have hql:q.length≤4096:=by have:=hlens.2;simp at this;omega
 have HI:Hid (zaA d [64]=p.length):=Lib.hid (by rw[zbD,hcut])
 have HIX:Hid (zaA d ({ data:=#[64] }:ByteArray).data.toList=p.length):=HI
 have hE2:∀x,eqL (s.data.toList.take 5) zdo=x→zbp s.data.toList=if x=false then (60,[],[]) else if b=false then (6,[],[]) else if ne≠0∨zhj u=true then (80,[],[]) else if he≠0 then (he,[],[]) else (0,u,h):=fun x hx=>by
  rw[HE.out,hcut];simp only;rw[hn,hh,hx]
 have HE2:=Lib.hid hE2
 have hcl:=zcc 64 d
 rw[hcut] at hcl
 simp only at hcl
 have HCL:=Lib.hid hcl
 have hi:=zbs 64 d
 rw[hcut] at hi
 have HCI:=Lib.hid hi
 clear hcut hn hh hE2 HE hlens h0 h5 hcl hi
 rcases hx:eqL (s.data.toList.take 5) zdo with _|_
 ·have HEQ:Hid (eqL (s.extract 0 5).data.toList ({ data:=#[97,99,99,116,58] }:ByteArray).data.toList=false):=Lib.hid (by rw[hxl];exact hx)
  have HX:=Lib.hid hx
  clear hx hxl
  have HF:Hid (zbp s.data.toList=(60,[],[])):=Lib.hid (by rw[HE2.out _ HX.out];rfl)
  go_enter Tryz.func29,Tryz.ntmps29
  go_wp2_with fail
  refine(zby _ _ _ (by rw[HX5.out,zac,List.length_take];omega) (by decide)).mono ?_
  rintro e w1 ⟨rfl,hqe⟩
  rw[show eqL (s.extract 0 5).data.toList ({ data:=#[97,99,99,116,58] }:ByteArray).data.toList=false from HEQ.out]
  have hk:=(Obk.new w _ _).qb hqe
  have hc0:=hk.cell 0
  have hc1:=hk.cell 1
  have hf0:=hk.frozen 0
  have hf1:=hk.frozen 1
  simp at hc0 hc1
  go_wp2_with fail
  exact bodyPost_ret (v:=zaH (60,[],[])) (by simp[results,Tryz.results29,go_sem,hc0,hc1,hf0,hf1,zaH,zbc]) rfl ⟨by rw[HF.out],((((Qb.refl w).alloc _).trans hqe).set (Nat.le_refl _) _).set (Nat.le_refl _) _⟩
 ·have HEQ:Hid (eqL (s.extract 0 5).data.toList ({ data:=#[97,99,99,116,58] }:ByteArray).data.toList=true):=Lib.hid (by rw[hxl];exact hx)
  have HX:=Lib.hid hx
  clear hx hxl
  rcases b with _|_
  ·have hpd:p.length=d.length:=by rw[(HCL.out.2.2 rfl).1]
   have HF:Hid (zbp s.data.toList=(6,[],[])):=Lib.hid (by rw[HE2.out _ HX.out];rfl)
   have hb1:((p.length:Int)==(d.length:Int))=true:=by rw[beq_iff_eq];omega
   clear hpd
   go_enter Tryz.func29,Tryz.ntmps29
   go_wp2_with fail
   refine(zby _ _ _ (by rw[HX5.out,zac,List.length_take];omega) (by decide)).mono ?_
   rintro e w1 ⟨rfl,hqe⟩
   rw[show eqL (s.extract 0 5).data.toList ({ data:=#[97,99,99,116,58] }:ByteArray).data.toList=true from HEQ.out]
   go_wp2_with fail
   rw[HXD.out]
   refine(zbl _ _ _ (by unfold maxLen;rw[zac];omega) (by decide)).mono ?_
   rintro e w2 ⟨rfl,rfl⟩
   rw[zab,show zaA d ({ data:=#[64] }:ByteArray).data.toList=p.length from HIX.out]
   have hk:=(Obk.new w _ _).qb hqe
   have hc0:=hk.cell 0
   have hc1:=hk.cell 1
   have hf0:=hk.frozen 0
   have hf1:=hk.frozen 1
   simp at hc0 hc1
   go_wp2_with fail
   exact bodyPost_ret (v:=zaH (6,[],[])) (by simp[results,Tryz.results29,go_sem,hc0,hc1,hf0,hf1,zaH,zbc]) rfl ⟨by rw[HF.out],((((Qb.refl w).alloc _).trans hqe).set (Nat.le_refl _) _).set (Nat.le_refl _) _⟩
  ·have hpd:=HCL.out.2.1 rfl
   have hpq:p=d.take p.length∧q=d.drop (p.length+1):=by
    rcases HCI.out with ⟨_,h2,_⟩|⟨k,_,hk,h2,_⟩
    ·injection h2 with _ h2;injection h2 with _ h2;cases h2
    ·injection h2 with h2 h3;injection h3 with h3 _
     have:p.length=k:=by rw[h2,List.length_take];omega
     rw[this];exact⟨h2,h3⟩
   have hxp:=zbb (S d) p.length
   rw[zab,←hpq.1] at hxp
   have hxq:=zaB (S d) (p.length+1)
   rw[zab,zac,←hpq.2] at hxq
   have HXP:=Lib.hid hxp
   have HXQ:=Lib.hid hxq
   have hpi:(p.length:Int)+1≤(d.length:Int):=by omega
   have hb1:((p.length:Int)==(d.length:Int))=false:=by rw[beq_eq_false_iff_ne];omega
   clear hpd hpq hxp hxq
   by_cases hne:ne=0
   ·subst hne
    rcases u with _|⟨c,t⟩
    ·have HF:Hid (zbp s.data.toList=(80,[],[])):=Lib.hid (by rw[HE2.out _ HX.out];rfl)
     go_enter Tryz.func29,Tryz.ntmps29
     go_wp2_with fail
     refine(zby _ _ _ (by rw[HX5.out,zac,List.length_take];omega) (by decide)).mono ?_
     rintro e w1 ⟨rfl,hqe⟩
     rw[show eqL (s.extract 0 5).data.toList ({ data:=#[97,99,99,116,58] }:ByteArray).data.toList=true from HEQ.out]
     go_wp2_with fail
     rw[HXD.out]
     refine(zbl _ _ _ (by unfold maxLen;rw[zac];omega) (by decide)).mono ?_
     rintro e w2 ⟨rfl,rfl⟩
     rw[zab,show zaA d ({ data:=#[64] }:ByteArray).data.toList=p.length from HIX.out]
     go_wp2_with fail
     rw[HXP.out]
     refine(zdO _ _ _ (by decide)).mono ?_
     rintro e w3 ⟨rfl,hq3⟩
     rw[zab,show zaj p ({ data:=#[33,36,38,39,40,41,42,43,44,59,61] }:ByteArray).data.toList=_ from HN.out]
     unfold zcZ
     have hk:=(Obk.new w _ _).qb (hqe.trans hq3)
     have hc0:=hk.cell 0
     have hc1:=hk.cell 1
     have hf0:=hk.frozen 0
     have hf1:=hk.frozen 1
     simp at hc0 hc1
     go_wp2_with fail
     exact bodyPost_ret (v:=zaH (80,[],[])) (by simp[results,Tryz.results29,go_sem,hc0,hc1,hf0,hf1,zaH,zbc]) rfl ⟨by rw[HF.out],((((Qb.refl w).alloc _).trans (hqe.trans hq3)).set (Nat.le_refl _) _).set (Nat.le_refl _) _⟩
    ·by_cases hc:c.toNat=37
     ·obtain rfl:c=37:=UInt8.toNat_inj.1 hc
      clear hc
      have HF:Hid (zbp s.data.toList=(80,[],[])):=Lib.hid (by rw[HE2.out _ HX.out,if_neg (by simp),if_neg (by simp),if_pos (.inr rfl)])
      go_enter Tryz.func29,Tryz.ntmps29
      go_wp2_with fail
      refine(zby _ _ _ (by rw[HX5.out,zac,List.length_take];omega) (by decide)).mono ?_
      rintro e w1 ⟨rfl,hqe⟩
      rw[show eqL (s.extract 0 5).data.toList ({ data:=#[97,99,99,116,58] }:ByteArray).data.toList=true from HEQ.out]
      go_wp2_with fail
      rw[HXD.out]
      refine(zbl _ _ _ (by unfold maxLen;rw[zac];omega) (by decide)).mono ?_
      rintro e w2 ⟨rfl,rfl⟩
      rw[zab,show zaA d ({ data:=#[64] }:ByteArray).data.toList=p.length from HIX.out]
      go_wp2_with fail
      rw[HXP.out]
      refine(zdO _ _ _ (by decide)).mono ?_
      rintro e w3 ⟨rfl,hq3⟩
      rw[zab,show zaj p ({ data:=#[33,36,38,39,40,41,42,43,44,59,61] }:ByteArray).data.toList=_ from HN.out]
      unfold zcZ
      have hk:=(Obk.new w _ _).qb (hqe.trans hq3)
      have hc0:=hk.cell 0
      have hc1:=hk.cell 1
      have hf0:=hk.frozen 0
      have hf1:=hk.frozen 1
      simp at hc0 hc1
      go_wp2_with fail
      exact bodyPost_ret (v:=zaH (80,[],[])) (by simp[results,Tryz.results29,go_sem,hc0,hc1,hf0,hf1,zaH,zbc]) rfl ⟨by rw[HF.out],((((Qb.refl w).alloc _).trans (hqe.trans hq3)).set (Nat.le_refl _) _).set (Nat.le_refl _) _⟩
     ·have hb:((((S (c::t))[0]'(by rw[zac,List.length_cons];omega)).toNat:Int)==37)=false:=by
       show ((c.toNat:Int)==37)=false
       rw[beq_eq_false_iff_ne];omega
      have hpl2:zhj (c::t)=false:=show (c.toNat==37)=false from by rw[beq_eq_false_iff_ne];exact hc
      have HPL:=Lib.hid hpl2
      clear hc hpl2
      by_cases hhe:he=0
      ·subst hhe
       have HF:Hid (zbp s.data.toList=(0,c::t,h)):=Lib.hid (by rw[HE2.out _ HX.out,if_neg (by simp),if_neg (by simp),if_neg (by rw[HPL.out];simp),if_neg (by simp)])
       go_enter Tryz.func29,Tryz.ntmps29
       go_wp2_with fail
       refine(zby _ _ _ (by rw[HX5.out,zac,List.length_take];omega) (by decide)).mono ?_
       rintro e w1 ⟨rfl,hqe⟩
       rw[show eqL (s.extract 0 5).data.toList ({ data:=#[97,99,99,116,58] }:ByteArray).data.toList=true from HEQ.out]
       go_wp2_with fail
       rw[HXD.out]
       refine(zbl _ _ _ (by unfold maxLen;rw[zac];omega) (by decide)).mono ?_
       rintro e w2 ⟨rfl,rfl⟩
       rw[zab,show zaA d ({ data:=#[64] }:ByteArray).data.toList=p.length from HIX.out]
       go_wp2_with fail
       rw[HXP.out]
       refine(zdO _ _ _ (by decide)).mono ?_
       rintro e w3 ⟨rfl,hq3⟩
       rw[zab,show zaj p ({ data:=#[33,36,38,39,40,41,42,43,44,59,61] }:ByteArray).data.toList=_ from HN.out]
       unfold zcZ
       go_wp2_with fail
       rw[HXQ.out]
       refine(zdQ (S q) _ (by rw[zac];omega)).mono ?_
       rintro e w4 ⟨rfl,hq4⟩
       rw[zab,HH.out]
       unfold zcZ
       have hk:=(Obk.new w _ _).qb ((hqe.trans hq3).trans hq4)
       have hc0:=hk.cell 0
       have hc1:=hk.cell 1
       have hf0:=hk.frozen 0
       have hf1:=hk.frozen 1
       simp at hc0 hc1
       go_wp2_with fail
       exact bodyPost_ret (v:=zaH (0,c::t,h)) (by simp[results,Tryz.results29,go_sem,hc0,hc1,hf0,hf1,zaH,zbc]) rfl ⟨by rw[HF.out],((((Qb.refl w).alloc _).trans ((hqe.trans hq3).trans hq4)).set (Nat.le_refl _) _).set (Nat.le_refl _) _⟩
      ·have hb2:(he != 0)=true:=bne_iff_ne.2 hhe
       have HHE:=Lib.hid hhe
       clear hhe
       have HF:Hid (zbp s.data.toList=(he,[],[])):=Lib.hid (by rw[HE2.out _ HX.out,if_neg (by simp),if_neg (by simp),if_neg (by rw[HPL.out];simp),if_pos HHE.out])
       go_enter Tryz.func29,Tryz.ntmps29
       go_wp2_with fail
       refine(zby _ _ _ (by rw[HX5.out,zac,List.length_take];omega) (by decide)).mono ?_
       rintro e w1 ⟨rfl,hqe⟩
       rw[show eqL (s.extract 0 5).data.toList ({ data:=#[97,99,99,116,58] }:ByteArray).data.toList=true from HEQ.out]
       go_wp2_with fail
       rw[HXD.out]
       refine(zbl _ _ _ (by unfold maxLen;rw[zac];omega) (by decide)).mono ?_
       rintro e w2 ⟨rfl,rfl⟩
       rw[zab,show zaA d ({ data:=#[64] }:ByteArray).data.toList=p.length from HIX.out]
       go_wp2_with fail
       rw[HXP.out]
       refine(zdO _ _ _ (by decide)).mono ?_
       rintro e w3 ⟨rfl,hq3⟩
       rw[zab,show zaj p ({ data:=#[33,36,38,39,40,41,42,43,44,59,61] }:ByteArray).data.toList=_ from HN.out]
       unfold zcZ
       go_wp2_with fail
       rw[HXQ.out]
       refine(zdQ (S q) _ (by rw[zac];omega)).mono ?_
       rintro e w4 ⟨rfl,hq4⟩
       rw[zab,HH.out]
       unfold zcZ
       have hk:=(Obk.new w _ _).qb ((hqe.trans hq3).trans hq4)
       have hc0:=hk.cell 0
       have hc1:=hk.cell 1
       have hf0:=hk.frozen 0
       have hf1:=hk.frozen 1
       simp at hc0 hc1
       go_wp2_with fail
       exact bodyPost_ret (v:=zaH (he,[],[])) (by simp[results,Tryz.results29,go_sem,hc0,hc1,hf0,hf1,zaH,zbc]) rfl ⟨by rw[HF.out],((((Qb.refl w).alloc _).trans ((hqe.trans hq3).trans hq4)).set (Nat.le_refl _) _).set (Nat.le_refl _) _⟩
   ·have hb2:(ne != 0)=true:=bne_iff_ne.2 hne
    have HNE:=Lib.hid hne
    clear hne
    have HF:Hid (zbp s.data.toList=(80,[],[])):=Lib.hid (by rw[HE2.out _ HX.out,if_neg (by simp),if_neg (by simp),if_pos (.inl HNE.out)])
    go_enter Tryz.func29,Tryz.ntmps29
    go_wp2_with fail
    refine(zby _ _ _ (by rw[HX5.out,zac,List.length_take];omega) (by decide)).mono ?_
    rintro e w1 ⟨rfl,hqe⟩
    rw[show eqL (s.extract 0 5).data.toList ({ data:=#[97,99,99,116,58] }:ByteArray).data.toList=true from HEQ.out]
    go_wp2_with fail
    rw[HXD.out]
    refine(zbl _ _ _ (by unfold maxLen;rw[zac];omega) (by decide)).mono ?_
    rintro e w2 ⟨rfl,rfl⟩
    rw[zab,show zaA d ({ data:=#[64] }:ByteArray).data.toList=p.length from HIX.out]
    go_wp2_with fail
    rw[HXP.out]
    refine(zdO _ _ _ (by decide)).mono ?_
    rintro e w3 ⟨rfl,hq3⟩
    rw[zab,show zaj p ({ data:=#[33,36,38,39,40,41,42,43,44,59,61] }:ByteArray).data.toList=_ from HN.out]
    unfold zcZ
    have hk:=(Obk.new w _ _).qb (hqe.trans hq3)
    have hc0:=hk.cell 0
    have hc1:=hk.cell 1
    have hf0:=hk.frozen 0
    have hf1:=hk.frozen 1
    simp at hc0 hc1
    go_wp2_with fail
    exact bodyPost_ret (v:=zaH (80,[],[])) (by simp[results,Tryz.results29,go_sem,hc0,hc1,hf0,hf1,zaH,zbc]) rfl ⟨by rw[HF.out],((((Qb.refl w).alloc _).trans (hqe.trans hq3)).set (Nat.le_refl _) _).set (Nat.le_refl _) _⟩
end Go.Proofs.YtnnipcgblooemaaGreatDoor
