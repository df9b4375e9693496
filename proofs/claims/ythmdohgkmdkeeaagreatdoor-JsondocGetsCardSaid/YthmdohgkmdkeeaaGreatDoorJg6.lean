/- The texts that the proofs of these statements reach, in their order, as few files. -/
import Derived.KernelRfl
import Derived.Test.YthmdohgkmdkeeaaGreatDoorProg
import Derived.Test.YthmdohgkmdkeeaaGreatDoorJg5
set_option linter.unusedVariables false
set_option linter.unusedSimpArgs false
set_option maxRecDepth 100000
namespace Go.Proofs.YthmdohgkmdkeeaaGreatDoor
open Nat renaming reduceAdd → z6, reduceSub → z7, reduceLeDiff → z8, reduceLT → j4, reduceMul → j5, reduceEqDiff → j6
open Int renaming reduceToNat → j7, reduceAdd → j8, reduceSub → j9, reduceMul → x0, reduceNeg → x3, reduceLT → x4, reduceLE → x5, reduceEq → x6, reduceNe → x7
open Go.RowKit Sx
section
attribute [local irreducible] run
mutual
def rvJ:RV → JV
 | .mk k t ks its => .mk k t ks (zkn its)
def zkn:List RV → List JV
 | [] => []
 | v :: l => rvJ v :: zkn l
end
theorem zfD:∀ l:List RV,(zkn l).length=l.length
 | [] => by rw [zkn]; rfl
 | v :: l => by rw [zkn,List.length_cons,zfD l,List.length_cons]
mutual
theorem zfF:∀ r:RV,zc3 r=zah (rvJ r)
 | .mk k t ks its => by rw [zc3,rvJ,zah,zgx its,zfD]
theorem zgx:∀ l:List RV,zcF l=zac (zkn l)
 | [] => by rw [zcF,zkn,zac]
 | v :: l => by rw [zcF,zkn,zac,zfF v,zgx l]
end
mutual
def JOk:JV → Prop
 | .mk k t ks its => (Lit.int .i64 k).wf=true ∧ t.length ≤ 140737488351232 ∧ ks.length ≤ 140737488351232 ∧ (∀ k ∈ ks,k.length ≤ 140737488351232) ∧ its.length ≤ 140737488351232 ∧ zhT its
def zhT:List JV → Prop
 | [] => True
 | v :: l => JOk v ∧ zhT l
end
mutual
theorem rv_ok:∀ r:RV,RVok r → JOk (rvJ r)
 | .mk k t ks its,h => by
  rw [RVok] at h
  rw [rvJ,JOk]
  exact ⟨h.1,h.2.1,h.2.2.1,h.2.2.2.1,by rw [zfD]; exact h.2.2.2.2.1,rvs_ok its h.2.2.2.2.2⟩
theorem rvs_ok:∀ l:List RV,zhS l → zhT (zkn l)
 | [],_ => by rw [zkn,zhT]; trivial
 | v :: l,h => by
  rw [zhS] at h
  rw [zkn,zhT]
  exact ⟨rv_ok v h.1,rvs_ok l h.2⟩
end
theorem zlQ:∀ {l:List JV} (h:zhT l) {i:Nat} (hi:i < l.length),JOk l[i]
 | a :: l,h,0,hi => by rw [zhT] at h; exact h.1
 | a :: l,h,i + 1,hi => by rw [zhT] at h; exact zlQ h.2 (by simpa using hi)
theorem JOk.its {v:JV} (h:JOk v) {i:Nat} (hi:i < v.items.length):JOk v.items[i]:=by
 cases v with
 | mk k t ks its => rw [JOk] at h; exact zlQ h.2.2.2.2.2 hi
theorem JOk.lens {v:JV} (h:JOk v):v.keys.length ≤ 140737488351232 ∧ v.items.length ≤ 140737488351232 ∧ v.text.length ≤ 140737488351232 ∧ ∀ k ∈ v.keys,k.length ≤ 140737488351232:=by
 cases v with
 | mk k t ks its => rw [JOk] at h; exact ⟨h.2.2.1,h.2.2.2.2.1,h.2.1,h.2.2.2.1⟩
mutual
/-- not too many keys and items, wherever -/
def JBd:JV → Prop
 | .mk k t ks its => ks.length ≤ 1099511627780 ∧ its.length ≤ 1099511627776 ∧ zhe its
def zhe:List JV → Prop
 | [] => True
 | v :: l => JBd v ∧ zhe l
end
theorem zlV:∀ {l:List JV},(∀ (i:Nat) (h:i < l.length),JBd l[i]) → zhe l
 | [],_ => by rw [zhe]; trivial
 | v :: l,h => by
  rw [zhe]
  exact ⟨h 0 (by simp),zlV fun i hi => by have:=h (i + 1) (by simpa using hi); simpa only [List.getElem_cons_succ] using this⟩
theorem zlW:∀ {l:List JV} (h:zhe l) {i:Nat} (hi:i < l.length),JBd l[i]
 | a :: l,h,0,hi => by rw [zhe] at h; exact h.1
 | a :: l,h,i + 1,hi => by rw [zhe] at h; exact zlW h.2 (by simpa using hi)
theorem JBd.lens {v:JV} (h:JBd v):v.keys.length ≤ 1099511627780 ∧ v.items.length ≤ 1099511627776:=by
 cases v; rw [JBd] at h; exact ⟨h.1,h.2.1⟩
theorem JBd.its {v:JV} (h:JBd v) {i:Nat} (hi:i < v.items.length):JBd v.items[i]:=by
 cases v with
 | mk k t ks its => rw [JBd] at h; exact zlW h.2.2 hi
theorem JBd.of {v:JV} (h1:v.keys.length ≤ 1099511627780) (h2:v.items.length ≤ 1099511627776) (h3:∀ (i:Nat) (h:i < v.items.length),JBd v.items[i]):JBd v:=by
 cases v; rw [JBd]; exact ⟨h1,h2,zlV h3⟩
theorem zcn (v w:JV):zcD v w=(decide (v.kind=w.kind) && (decide (v.text=w.text) && (decide (v.keys=w.keys) && zbr v.items w.items))):=by
 cases v; cases w; rw [zcD]; rfl
theorem ze9:∀ {l m:List JV},l.length ≠ m.length → zbr l m=false
 | [],[],h => absurd rfl h
 | [],_ :: _,_ => by rw [zbr]; all_goals simp
 | _ :: _,[],_ => by rw [zbr]; all_goals simp
 | v :: l,w :: m,h => by rw [zbr,ze9 (l:=l) (m:=m) (by simpa using h)]; simp
theorem zgl:∀ {l m:List JV} {i:Nat} (h1:i < l.length) (h2:i < m.length),zcD l[i] m[i]=false → zbr l m=false
 | v :: l,w :: m,0,_,_,h => by rw [zbr]; simp only [List.getElem_cons_zero] at h; rw [h]; rfl
 | v :: l,w :: m,i + 1,h1,h2,h => by
  rw [zbr,zgl (l:=l) (m:=m) (i:=i) (by simpa using h1) (by simpa using h2) (by simpa using h)]; simp
theorem ze8:∀ {l m:List JV},l.length=m.length → (∀ (i:Nat) (h1:i < l.length) (h2:i < m.length),zcD l[i] m[i]=true) → zbr l m=true
 | [],[],_,_ => by rw [zbr]
 | [],_ :: _,h,_ => by simp at h
 | _ :: _,[],h,_ => by simp at h
 | v :: l,w :: m,h,k => by
  rw [zbr,ze8 (l:=l) (m:=m) (by simpa using h) (fun i h1 h2 => by have:=k (i + 1) (by simpa using h1) (by simpa using h2); simp only [List.getElem_cons_succ] at this; exact this)]
  have:=k 0 (by simp) (by simp)
  simp only [List.getElem_cons_zero] at this
  rw [this]; rfl
mutual
/-- short texts, not too many keys and items, wherever -/
def JKp:JV → Prop
 | .mk k t ks its => ks.length ≤ 1099511627780 ∧ its.length ≤ 1099511627776 ∧ t.length ≤ 300 ∧ (∀ k ∈ ks,k.length ≤ 300) ∧ zjQ its
def zjQ:List JV → Prop
 | [] => True
 | v :: l => JKp v ∧ zjQ l
end
theorem zlT:∀ {l:List JV},(∀ (i:Nat) (h:i < l.length),JKp l[i]) → zjQ l
 | [],_ => by rw [zjQ]; trivial
 | v :: l,h => by
  rw [zjQ]
  exact ⟨h 0 (by simp),zlT fun i hi => by have:=h (i + 1) (by simpa using hi); simpa only [List.getElem_cons_succ] using this⟩
theorem zlU:∀ {l:List JV} (h:zjQ l) {i:Nat} (hi:i < l.length),JKp l[i]
 | a :: l,h,0,hi => by rw [zjQ] at h; exact h.1
 | a :: l,h,i + 1,hi => by rw [zjQ] at h; exact zlU h.2 (by simpa using hi)
theorem JKp.lens {v:JV} (h:JKp v):v.keys.length ≤ 1099511627780 ∧ v.items.length ≤ 1099511627776 ∧ v.text.length ≤ 300 ∧ ∀ k ∈ v.keys,k.length ≤ 300:=by
 cases v; rw [JKp] at h; exact ⟨h.1,h.2.1,h.2.2.1,h.2.2.2.1⟩
theorem JKp.its {v:JV} (h:JKp v) {i:Nat} (hi:i < v.items.length):JKp v.items[i]:=by
 cases v with
 | mk k t ks its => rw [JKp] at h; exact zlU h.2.2.2.2 hi
theorem JKp.of {v:JV} (h1:v.keys.length ≤ 1099511627780) (h2:v.items.length ≤ 1099511627776) (h3:v.text.length ≤ 300) (h4:∀ k ∈ v.keys,k.length ≤ 300) (h5:∀ (i:Nat) (h:i < v.items.length),JKp v.items[i]):JKp v:=by
 cases v; rw [JKp]; exact ⟨h1,h2,h3,h4,zlT h5⟩
mutual
theorem JKp.bd:∀ {v:JV},JKp v → JBd v
 | .mk k t ks its,h => by rw [JKp] at h; rw [JBd]; exact ⟨h.1,h.2.1,zjQ.bd h.2.2.2.2⟩
theorem zjQ.bd:∀ {l:List JV},zjQ l → zhe l
 | [],_ => by rw [zhe]; trivial
 | v :: l,h => by rw [zjQ] at h; rw [zhe]; exact ⟨JKp.bd h.1,zjQ.bd h.2⟩
end
mutual
/-- no slice too long, wherever -/
def JLn:JV → Prop
 | .mk k t ks its => ks.length ≤ 140737488351232 ∧ its.length ≤ 140737488351232 ∧ zmY its
def zmY:List JV → Prop
 | [] => True
 | v :: l => JLn v ∧ zmY l
end
mutual
theorem JOk.ln:∀ {v:JV},JOk v → JLn v
 | .mk k t ks its,h => by rw [JOk] at h; rw [JLn]; exact ⟨h.2.2.1,h.2.2.2.2.1,zhT.ln h.2.2.2.2.2⟩
theorem zhT.ln:∀ {l:List JV},zhT l → zmY l
 | [],_ => by rw [zmY]; trivial
 | v :: l,h => by rw [zhT] at h; rw [zmY]; exact ⟨JOk.ln h.1,zhT.ln h.2⟩
end
mutual
theorem JBd.ln:∀ {v:JV},JBd v → JLn v
 | .mk k t ks its,h => by rw [JBd] at h; rw [JLn]; exact ⟨by omega,by omega,zhe.ln h.2.2⟩
theorem zhe.ln:∀ {l:List JV},zhe l → zmY l
 | [],_ => by rw [zmY]; trivial
 | v :: l,h => by rw [zhe] at h; rw [zmY]; exact ⟨JBd.ln h.1,zhe.ln h.2⟩
end
theorem zlS:∀ {l:List JV} (h:zmY l) {i:Nat} (hi:i < l.length),JLn l[i]
 | a :: l,h,0,hi => by rw [zmY] at h; exact h.1
 | a :: l,h,i + 1,hi => by rw [zmY] at h; exact zlS h.2 (by simpa using hi)
theorem JLn.its {v:JV} (h:JLn v) {i:Nat} (hi:i < v.items.length):JLn v.items[i]:=by
 cases v with
 | mk k t ks its => rw [JLn] at h; exact zlS h.2.2 hi
theorem JLn.lens {v:JV} (h:JLn v):v.keys.length ≤ 140737488351232 ∧ v.items.length ≤ 140737488351232:=by
 cases v with
 | mk k t ks its => rw [JLn] at h; exact ⟨h.1,h.2.1⟩
section
variable [Tabs Tryz.prog]
theorem zhA:∀ (m:Nat) (v:JV) (a d:Int),v.size < m → JOk v → 0 ≤ a → a ≤ 1099511627776 → 0 ≤ d → d ≤ 1099511627776 → ∀ {objs:List OB} {K:List OB → AV → Prop},(∀ n:Int,-1 ≤ n → n ≤ 1099511627776 → (0 ≤ n → JKp v) → K objs (.i .i64 n)) → zad Tryz.prog 26 [.agg (zah v),.i .i64 a,.i .i64 d] objs K:=by
 intro m
 induction m with
 | zero => intro v a d h; omega
 | succ m ih =>
  intro v a d hm hv ha ha2 hd hd2 objs K hk
  obtain ⟨l1,l2,l3,l4⟩:=hv.lens
  refine zaN is_keep_size (by simp only [zao,AV.plain,zaL,Bool.and_self]) fun C _ => ?_
  rw [c_keep_size]
  refine zaa fun Y hY => ?_
  simp only [sxZ,z6,z7,z8,j4,j5,j6,j7,j8,j9,x0,x3,x4,x5,x6,x7,reduceCtorEq,↓reduceIte]
  have e0:OB.box 26 (zah v)=OB.box 26 [.i .i64 v.kind,.s v.text,.row v.keys.length (v.keys.map .s),.row v.items.length (zac v.items)]:=by rw [zai]
  rw [e0]
  subst hY
  refine zaa fun Y hY => ?_
  have bad:∀ (o:List OB) (tm:List AV),True:=fun _ _ => trivial
  by_cases c1:a ≤ 0
  ·simp only [sxZ,z6,z7,z8,j4,j5,j6,j7,j8,j9,x0,x3,x4,x5,x6,x7,reduceCtorEq,↓reduceIte,c1,decide_true]
   exact hk _ (by decide) (by decide) (fun h => absurd h (by decide))
  by_cases c2:d ≤ 0
  ·simp only [sxZ,z6,z7,z8,j4,j5,j6,j7,j8,j9,x0,x3,x4,x5,x6,x7,reduceCtorEq,↓reduceIte,c1,c2,decide_true]
   exact hk _ (by decide) (by decide) (fun h => absurd h (by decide))
  by_cases c3:(300:Int) < v.text.length
  ·simp only [sxZ,z6,z7,z8,j4,j5,j6,j7,j8,j9,x0,x3,x4,x5,x6,x7,reduceCtorEq,↓reduceIte,c1,c2,c3,decide_true]
   exact hk _ (by decide) (by decide) (fun h => absurd h (by decide))
  by_cases c4:(v.items.length:Int) + 4 < v.keys.length
  ·simp only [sxZ,z6,z7,z8,j4,j5,j6,j7,j8,j9,x0,x3,x4,x5,x6,x7,reduceCtorEq,↓reduceIte,c1,c2,c3,c4,decide_true]
   refine ⟨by omega,?_⟩
   exact hk _ (by decide) (by decide) (fun h => absurd h (by decide))
  by_cases c5:a < (v.items.length:Int)
  ·simp only [sxZ,z6,z7,z8,j4,j5,j6,j7,j8,j9,x0,x3,x4,x5,x6,x7,reduceCtorEq,↓reduceIte,c1,c2,c3,c4,c5,decide_true]
   refine ⟨by omega,?_⟩
   exact hk _ (by decide) (by decide) (fun h => absurd h (by decide))
  simp only [sxZ,z6,z7,z8,j4,j5,j6,j7,j8,j9,x0,x3,x4,x5,x6,x7,reduceCtorEq,↓reduceIte,c1,c2,c3,c4,c5,decide_true]
  refine ⟨by omega,?_⟩
  rw [← e0]
  generalize hB:OB.box 26 (zah v)=B
  subst hY
  refine zaa fun Y hY => ?_
  simp only [sxZ,z6,z7,z8,j4,j5,j6,j7,j8,j9,x0,x3,x4,x5,x6,x7,reduceCtorEq,↓reduceIte]
  refine ⟨by omega,?_⟩
  subst hY
  refine zaa fun Y hY => ?_
  rw [← hB,e0]
  simp only [sxZ,z6,z7,z8,j4,j5,j6,j7,j8,j9,x0,x3,x4,x5,x6,x7,reduceCtorEq,↓reduceIte]
  refine zaE (fun n o tm => ∃ i:Nat,i ≤ v.keys.length ∧ n=v.keys.length - i ∧ o=[OB.box 26 (zah v)] ∧ (∀ j x,j < i → v.keys[j]? = some x → x.length ≤ 300) ∧ tm.length=69 ∧ tm[1]? = some (.i .i64 (a - 1)) ∧ tm[2]? = some (.i .i64 d) ∧ tm[3]? = some (.p 0 0) ∧ tm[43]? = some (.row v.keys.length (v.keys.map .s)) ∧ tm[44]? = some (.i .i64 (v.keys.length:Int)) ∧ tm[45]? = some (.i .i64 (i:Int))) v.keys.length ⟨0,Nat.zero_le _,rfl,by rw [e0],(fun j x h => by omega),rfl,rfl,rfl,rfl,rfl,rfl,rfl⟩ ?_
  rintro n _ tm ⟨i,hi,rfl,rfl,hks,hlen,t1,t2,t3,t43,t44,t45⟩
  refine zaa fun Z hZ => ?_
  by_cases hlt:(i:Int) < (v.keys.length:Int)
  ·have hi':i < v.keys.length:=by omega
   have hkk:(v.keys.map AV.s)[i * 1]? = some (.s v.keys[i]):=by rw [Nat.mul_one,List.getElem?_map,List.getElem?_eq_getElem hi']; rfl
   have hk4:=l4 _ (List.getElem_mem hi')
   have hk5:v.keys[i]? = some v.keys[i]:=List.getElem?_eq_getElem hi'
   generalize v.keys[i]=key at hkk hk4 hk5
   simp only [sxZ,z6,z7,z8,j4,j5,j6,j7,j8,j9,x0,x3,x4,x5,x6,x7,reduceCtorEq,↓reduceIte,List.getElem?_set,hlen,t1,t2,t3,t43,t44,t45,hlt]
   subst hZ
   simp only [sxZ,z6,z7,z8,j4,j5,j6,j7,j8,j9,x0,x3,x4,x5,x6,x7,reduceCtorEq,↓reduceIte,List.getElem?_set,hlen,t1,t2,t3,t43,t44,t45,hlt,List.length_map,hkk]
   refine ⟨by omega,?_⟩
   by_cases c6:(300:Int) < key.length
   ·simp only [sxZ,z6,z7,z8,j4,j5,j6,j7,j8,j9,x0,x3,x4,x5,x6,x7,reduceCtorEq,↓reduceIte,List.getElem?_set,hlen,t1,t2,t3,t43,t44,t45,c6]
    exact hk _ (by decide) (by decide) (fun h => absurd h (by decide))
   simp only [sxZ,z6,z7,z8,j4,j5,j6,j7,j8,j9,x0,x3,x4,x5,x6,x7,reduceCtorEq,↓reduceIte,List.getElem?_set,hlen,t1,t2,t3,t43,t44,t45,c6]
   refine ⟨by omega,v.keys.length - (i + 1),by omega,i + 1,by omega,rfl,fun j x hj hx => ?_,rfl⟩
   by_cases e:j=i
   ·subst e
    rw [hk5] at hx; injection hx with hx; rw [← hx]; omega
   ·exact hks j x (by omega) hx
  have hn:i=v.keys.length:=by omega
  have hks2:∀ k ∈ v.keys,k.length ≤ 300:=fun k hk => by
   obtain ⟨j,hj⟩:=List.mem_iff_getElem?.1 hk
   exact hks j k (by have:=(List.getElem?_eq_some_iff.1 hj).1; omega) hj
  simp only [sxZ,z6,z7,z8,j4,j5,j6,j7,j8,j9,x0,x3,x4,x5,x6,x7,reduceCtorEq,↓reduceIte,List.getElem?_set,hlen,t1,t2,t3,t43,t44,t45,hlt]
  subst hZ
  simp only [sxZ,z6,z7,z8,j4,j5,j6,j7,j8,j9,x0,x3,x4,x5,x6,x7,reduceCtorEq,↓reduceIte,List.getElem?_set,hlen,t1,t2,t3,t43,t44,t45,hlt]
  refine zdo (fun t => t.length=69 ∧ t[1]? = some (.i .i64 (a - 1)) ∧ t[2]? = some (.i .i64 d) ∧ t[3]? = some (.p 0 0)) ?_ ?_
  ·simp only [sxZ,z6,z7,z8,j4,j5,j6,j7,j8,j9,x0,x3,x4,x5,x6,x7,reduceCtorEq,↓reduceIte,List.length_set,List.getElem?_set,hlen,t1,t2,t3,and_self]
  clear hlen t1 t2 t3 t43 t44 t45 hlt
  rintro tm ⟨hlen,t1,t2,t3⟩
  subst hY
  refine zaa fun Y hY => ?_
  rw [e0]
  simp only [sxZ,z6,z7,z8,j4,j5,j6,j7,j8,j9,x0,x3,x4,x5,x6,x7,reduceCtorEq,↓reduceIte,List.getElem?_set,hlen,t1,t2,t3]
  rw [← e0]
  refine zaE (fun n o tm => ∃ (i:Nat) (b:Int),i ≤ v.items.length ∧ n=v.items.length - i ∧ o[0]? = some (OB.box 26 (zah v)) ∧ 0 ≤ b ∧ b ≤ 1099511627776 ∧ (∀ (j:Nat) (h:j < v.items.length),j < i → JKp v.items[j]) ∧ tm.length=69 ∧ tm[1]? = some (.i .i64 b) ∧ tm[2]? = some (.i .i64 d) ∧ tm[3]? = some (.p 0 0) ∧ tm[54]? = some (.row v.items.length (zac v.items)) ∧ tm[55]? = some (.i .i64 (v.items.length:Int)) ∧ tm[56]? = some (.i .i64 (i:Int))) v.items.length ⟨0,a - 1,Nat.zero_le _,rfl,rfl,by omega,by omega,fun j _ h => by omega,?_⟩ ?_
  ·simp only [sxZ,z6,z7,z8,j4,j5,j6,j7,j8,j9,x0,x3,x4,x5,x6,x7,reduceCtorEq,↓reduceIte,List.length_set,List.getElem?_set,hlen,t1,t2,t3,Int.cast_ofNat_Int,and_self]
  clear hlen t1 t2 t3
  rintro n o tm ⟨i,b,hi,rfl,ho,hb,hb2,hall,hlen,t1,t2,t3,t54,t55,t56⟩
  refine zaa fun Z hZ => ?_
  by_cases hlt:(i:Int) < (v.items.length:Int)
  ·have hi':i < v.items.length:=by omega
   have hjc:=zcZ hi'
   have hjl:=zav v.items
   have hit:=hv.its hi'
   have hsz:=zbe hi'
   have hall2:JKp v.items[i] → ∀ (j:Nat) (h:j < v.items.length),j < i + 1 → JKp v.items[j]:=by
    intro hs j h1 hj
    by_cases e:j=i
    ·subst e; exact hs
    ·exact hall j h1 (by omega)
   generalize v.items[i]=x at hjc hit hsz hall2
   have hcall:=fun {objs:List OB} {K:List OB → AV → Prop} (h) => ih x b (d - 1) (by omega) hit hb hb2 (by omega) (by omega) (objs:=objs) (K:=K) h
   obtain ⟨q0,q1,q2,q3,hq⟩:∃ q0 q1 q2 q3,zah x=[q0,q1,q2,q3]:=⟨_,_,_,_,zai x⟩
   have hcp:zao [q0,q1,q2,q3]=true:=by rw [← hq]; exact zaL x
   rw [hq] at hjc hcall
   have h0:∀ z,(o ++ [z])[0]? = some (OB.box 26 (zah v)):=fun z => by rw [List.getElem?_append_left (List.getElem?_eq_some_iff.1 ho).1]; exact ho
   simp only [sxZ,z6,z7,z8,j4,j5,j6,j7,j8,j9,x0,x3,x4,x5,x6,x7,reduceCtorEq,↓reduceIte,List.getElem?_set,hlen,t1,t2,t3,t54,t55,t56,hlt]
   subst hZ
   refine zaa fun Z hZ => ?_
   simp only [sxZ,z6,z7,z8,j4,j5,j6,j7,j8,j9,x0,x3,x4,x5,x6,x7,reduceCtorEq,↓reduceIte,List.getElem?_set,hlen]
   subst hZ
   refine zaa fun W hW => ?_
   rw [zaO]
   refine zaa fun Z hZ => ?_
   simp only [sxZ,z6,z7,z8,j4,j5,j6,j7,j8,j9,x0,x3,x4,x5,x6,x7,reduceCtorEq,↓reduceIte,List.getElem?_set,hlen,t1,t2,t3,t54,t55,t56,hlt,hjc]
   refine ⟨by omega,by omega,?_⟩
   simp only [sxZ,z6,z7,z8,j4,j5,j6,j7,j8,j9,x0,x3,x4,x5,x6,x7,reduceCtorEq,↓reduceIte,List.getElem?_set,hlen,gn1,sn1]
   have h1:=h0 (OB.box 26 [q0,q1,q2,q3])
   have h2:(o ++ [OB.box 26 [q0,q1,q2,q3]])[o.length]? = some (OB.box 26 [q0,q1,q2,q3]):=gn1 _ _
   generalize o ++ [OB.box 26 [q0,q1,q2,q3]]=o1 at h1 h2 ⊢
   subst hZ
   refine zaa fun Z hZ => ?_
   simp only [sxZ,z6,z7,z8,j4,j5,j6,j7,j8,j9,x0,x3,x4,x5,x6,x7,reduceCtorEq,↓reduceIte,List.getElem?_set,hlen,t1,t2,h2]
   refine ⟨by omega,?_⟩
   refine zam (hcall fun n hn1 hn2 hn3 => ?_)
   simp only [sxZ,z6,z7,z8,j4,j5,j6,j7,j8,j9,x0,x3,x4,x5,x6,x7,reduceCtorEq,↓reduceIte,List.getElem?_set,hlen]
   subst hZ
   by_cases c7:n < 0
   ·simp only [sxZ,z6,z7,z8,j4,j5,j6,j7,j8,j9,x0,x3,x4,x5,x6,x7,reduceCtorEq,↓reduceIte,List.getElem?_set,hlen,c7]
    exact hk _ (by decide) (by decide) (fun h => absurd h (by decide))
   simp only [sxZ,z6,z7,z8,j4,j5,j6,j7,j8,j9,x0,x3,x4,x5,x6,x7,reduceCtorEq,↓reduceIte,List.getElem?_set,hlen,c7]
   subst hW
   simp only [sxZ,z6,z7,z8,j4,j5,j6,j7,j8,j9,x0,x3,x4,x5,x6,x7,reduceCtorEq,↓reduceIte,List.getElem?_set,hlen,t1,t2,t3,t54,t55,t56]
   exact ⟨by omega,v.items.length - (i + 1),by omega,i + 1,n,by omega,rfl,h1,by omega,hn2,hall2 (hn3 (by omega)),rfl,rfl⟩
  simp only [sxZ,z6,z7,z8,j4,j5,j6,j7,j8,j9,x0,x3,x4,x5,x6,x7,reduceCtorEq,↓reduceIte,List.getElem?_set,hlen,t1,t2,t3,t54,t55,t56,hlt]
  subst hZ
  subst hY
  simp only [sxZ,z6,z7,z8,j4,j5,j6,j7,j8,j9,x0,x3,x4,x5,x6,x7,reduceCtorEq,↓reduceIte,List.getElem?_set,hlen,t1,t2,t3,t54,t55,t56,hlt]
  exact hk _ (by omega) hb2 (fun _ => JKp.of (by omega) (by omega) (by omega) hks2 fun j h => hall j h (by omega))
theorem same14_l:∀ (m:Nat) (v w:JV),v.size < m → JLn v → ∀ {objs:List OB} {K:List OB → AV → Prop},K objs (.b (zcD v w)) → zad Tryz.prog 11 [.agg (zah v),.agg (zah w)] objs K:=by
 intro m
 induction m with
 | zero => intro v w h; omega
 | succ m ih =>
  intro v w hm hv objs K hk
  obtain ⟨l1,l2⟩:=hv.lens
  refine zaN is_ref14_Same (by simp only [zao,AV.plain,zaL,Bool.and_self]) fun C _ => ?_
  rw [c_ref14_Same]
  refine zaa fun Y hY => ?_
  simp only [sxZ,z6,z7,z8,j4,j5,j6,j7,j8,j9,x0,x3,x4,x5,x6,x7,reduceCtorEq,↓reduceIte]
  have e0:OB.box 26 (zah v)=OB.box 26 [.i .i64 v.kind,.s v.text,.row v.keys.length (v.keys.map .s),.row v.items.length (zac v.items)]:=by rw [zai]
  have e1:OB.box 26 (zah w)=OB.box 26 [.i .i64 w.kind,.s w.text,.row w.keys.length (w.keys.map .s),.row w.items.length (zac w.items)]:=by rw [zai]
  rw [e0,e1]
  subst hY
  refine zaa fun Y hY => ?_
  have no:zcD v w=false → K objs (.b false):=fun h => by rw [h] at hk; exact hk
  by_cases c1:v.kind=w.kind
  rotate_left
  ·simp only [sxZ,z6,z7,z8,j4,j5,j6,j7,j8,j9,x0,x3,x4,x5,x6,x7,reduceCtorEq,↓reduceIte,c1,decide_false,Bool.not_false]
   exact no (by rw [zcn,decide_eq_false c1]; rfl)
  by_cases c2:v.text=w.text
  rotate_left
  ·simp only [sxZ,z6,z7,z8,j4,j5,j6,j7,j8,j9,x0,x3,x4,x5,x6,x7,reduceCtorEq,↓reduceIte,c1,c2,decide_false,decide_true,Bool.not_false,Bool.not_true]
   exact no (by rw [zcn,decide_eq_false c2]; simp)
  by_cases c3:v.items.length=w.items.length
  rotate_left
  ·have c3':¬ (v.items.length:Int)=w.items.length:=by omega
   simp only [sxZ,z6,z7,z8,j4,j5,j6,j7,j8,j9,x0,x3,x4,x5,x6,x7,reduceCtorEq,↓reduceIte,c1,c2,c3',decide_false,decide_true,Bool.not_false,Bool.not_true]
   exact no (by rw [zcn,ze9 c3]; simp)
  by_cases c4:v.keys.length=w.keys.length
  rotate_left
  ·have c4':¬ (v.keys.length:Int)=w.keys.length:=by omega
   simp only [sxZ,z6,z7,z8,j4,j5,j6,j7,j8,j9,x0,x3,x4,x5,x6,x7,reduceCtorEq,↓reduceIte,c1,c2,c3,c4',decide_false,decide_true,Bool.not_false,Bool.not_true]
   exact no (by rw [zcn,decide_eq_false (p:=v.keys=w.keys) (fun h => c4 (by rw [h]))]; simp)
  simp only [sxZ,z6,z7,z8,j4,j5,j6,j7,j8,j9,x0,x3,x4,x5,x6,x7,reduceCtorEq,↓reduceIte,c1,c2,c3,c4,decide_false,decide_true,Bool.not_false,Bool.not_true]
  subst hY
  refine zaa fun Y hY => ?_
  simp only [sxZ,z6,z7,z8,j4,j5,j6,j7,j8,j9,x0,x3,x4,x5,x6,x7,reduceCtorEq,↓reduceIte]
  have q1:v.items.length=w.items.length:=c3
  have q2:v.keys.length=w.keys.length:=c4
  refine zaE (fun n o tm => ∃ i:Nat,i ≤ w.items.length ∧ n=w.items.length - i ∧ o=[OB.box 26 [.i .i64 w.kind,.s w.text,.row w.keys.length (v.keys.map .s),.row w.items.length (zac v.items)],OB.box 26 [.i .i64 w.kind,.s w.text,.row w.keys.length (w.keys.map .s),.row w.items.length (zac w.items)]] ∧ (∀ (j:Nat) (h1:j < v.items.length) (h2:j < w.items.length),j < i → zcD v.items[j] w.items[j]=true) ∧ tm.length=74 ∧ tm[2]? = some (.p 0 0) ∧ tm[3]? = some (.p 1 0) ∧ tm[38]? = some (.row w.items.length (zac v.items)) ∧ tm[39]? = some (.i .i64 (w.items.length:Int)) ∧ tm[40]? = some (.i .i64 (i:Int))) w.items.length ⟨0,Nat.zero_le _,rfl,rfl,fun j _ _ h => by omega,rfl,rfl,rfl,rfl,rfl,rfl⟩ ?_
  rintro n _ tm ⟨i,hi,rfl,rfl,hall,hlen,t2,t3,t38,t39,t40⟩
  refine zaa fun Z hZ => ?_
  by_cases hlt:(i:Int) < (w.items.length:Int)
  ·have hw':i < w.items.length:=by omega
   have hv':i < v.items.length:=by omega
   have jv:=zcZ hv'
   have jw:=zcZ hw'
   have jvl:=zav v.items
   have jwl:=zav w.items
   have hit:=hv.its hv'
   have hsz:=zbe hv'
   have hcall:=fun {objs:List OB} {K:List OB → AV → Prop} (h:K objs (.b (zcD v.items[i] w.items[i]))) => ih v.items[i] w.items[i] (by omega) hit (objs:=objs) (K:=K) h
   simp only [sxZ,z6,z7,z8,j4,j5,j6,j7,j8,j9,x0,x3,x4,x5,x6,x7,reduceCtorEq,↓reduceIte,List.getElem?_set,hlen,t2,t3,t38,t39,t40,hlt]
   subst hZ
   refine zaa fun Z hZ => ?_
   simp only [sxZ,z6,z7,z8,j4,j5,j6,j7,j8,j9,x0,x3,x4,x5,x6,x7,reduceCtorEq,↓reduceIte,List.getElem?_set,hlen]
   subst hZ
   refine zaa fun W hW => ?_
   rw [zaO]
   refine zaa fun Z hZ => ?_
   simp only [sxZ,z6,z7,z8,j4,j5,j6,j7,j8,j9,x0,x3,x4,x5,x6,x7,reduceCtorEq,↓reduceIte,List.getElem?_set,hlen,t40]
   subst hZ
   refine zaa fun Z hZ => ?_
   simp only [sxZ,z6,z7,z8,j4,j5,j6,j7,j8,j9,x0,x3,x4,x5,x6,x7,reduceCtorEq,↓reduceIte,List.getElem?_set,hlen,t2,t3,jv,jw]
   refine ⟨⟨by omega,by omega,by omega⟩,by omega,⟨by omega,by omega,by omega⟩,by omega,?_⟩
   refine zcu (hcall ⟨rfl,rfl⟩) ?_
   have hno:=zgl hv' hw'
   have hall2:zcD v.items[i] w.items[i]=true → ∀ (j:Nat) (h1:j < v.items.length) (h2:j < w.items.length),j < i + 1 → zcD v.items[j] w.items[j]=true:=by
    intro hs j h1 h2 hj
    by_cases e:j=i
    ·subst e; exact hs
    ·exact hall j h1 h2 (by omega)
   generalize zcD v.items[i] w.items[i]=sm at hno hall2
   simp only [sxZ,z6,z7,z8,j4,j5,j6,j7,j8,j9,x0,x3,x4,x5,x6,x7,reduceCtorEq,↓reduceIte,List.getElem?_set,hlen,t2,t3]
   subst hZ
   cases sm with
   | false =>
    simp only [sxZ,z6,z7,z8,j4,j5,j6,j7,j8,j9,x0,x3,x4,x5,x6,x7,reduceCtorEq,↓reduceIte,List.getElem?_set,hlen,Bool.not_false,Bool.not_true]
    exact no (by rw [zcn,hno rfl]; simp)
   | true =>
    simp only [sxZ,z6,z7,z8,j4,j5,j6,j7,j8,j9,x0,x3,x4,x5,x6,x7,reduceCtorEq,↓reduceIte,List.getElem?_set,hlen,Bool.not_false,Bool.not_true]
    subst hW
    simp only [sxZ,z6,z7,z8,j4,j5,j6,j7,j8,j9,x0,x3,x4,x5,x6,x7,reduceCtorEq,↓reduceIte,List.getElem?_set,hlen,t2,t3,t38,t39,t40]
    exact ⟨by omega,w.items.length - (i + 1),by omega,i + 1,by omega,rfl,hall2 rfl,rfl⟩
  simp only [sxZ,z6,z7,z8,j4,j5,j6,j7,j8,j9,x0,x3,x4,x5,x6,x7,reduceCtorEq,↓reduceIte,List.getElem?_set,hlen,t2,t3,t38,t39,t40,hlt]
  subst hZ
  simp only [sxZ,z6,z7,z8,j4,j5,j6,j7,j8,j9,x0,x3,x4,x5,x6,x7,reduceCtorEq,↓reduceIte,List.getElem?_set,hlen,t2,t3,t38,t39,t40,hlt]
  refine zdo (fun t => t.length=74 ∧ t[2]? = some (.p 0 0) ∧ t[3]? = some (.p 1 0)) ?_ ?_
  ·simp only [sxZ,z6,z7,z8,j4,j5,j6,j7,j8,j9,x0,x3,x4,x5,x6,x7,reduceCtorEq,↓reduceIte,List.length_set,List.getElem?_set,hlen,t2,t3,and_self]
  have hyes:zbr v.items w.items=true:=ze8 c3 fun j h1 h2 => hall j h1 h2 (by omega)
  clear hlen t2 t3 t38 t39 t40 hlt
  rintro tm ⟨hlen,t2,t3⟩
  subst hY
  refine zaa fun Y hY => ?_
  simp only [sxZ,z6,z7,z8,j4,j5,j6,j7,j8,j9,x0,x3,x4,x5,x6,x7,reduceCtorEq,↓reduceIte,List.getElem?_set,hlen,t2,t3]
  refine zaE (fun n o tm => ∃ i:Nat,i ≤ w.keys.length ∧ n=w.keys.length - i ∧ o=[OB.box 26 [.i .i64 w.kind,.s w.text,.row w.keys.length (v.keys.map .s),.row w.items.length (zac v.items)],OB.box 26 [.i .i64 w.kind,.s w.text,.row w.keys.length (w.keys.map .s),.row w.items.length (zac w.items)]] ∧ (∀ j:Nat,j < i → v.keys[j]? = w.keys[j]?) ∧ tm.length=74 ∧ tm[2]? = some (.p 0 0) ∧ tm[3]? = some (.p 1 0) ∧ tm[58]? = some (.i .i64 (w.keys.length:Int)) ∧ tm[59]? = some (.i .i64 (i:Int))) w.keys.length ⟨0,Nat.zero_le _,rfl,rfl,fun j h => by omega,?_⟩ ?_
  ·simp only [sxZ,z6,z7,z8,j4,j5,j6,j7,j8,j9,x0,x3,x4,x5,x6,x7,reduceCtorEq,↓reduceIte,List.length_set,List.getElem?_set,hlen,t2,t3,Int.cast_ofNat_Int,and_self]
  clear hlen t2 t3 hall hi i
  rintro n _ tm ⟨i,hi,rfl,rfl,hall,hlen,t2,t3,t58,t59⟩
  refine zaa fun Z hZ => ?_
  by_cases hlt:(i:Int) < (w.keys.length:Int)
  ·have hw':i < w.keys.length:=by omega
   have hv':i < v.keys.length:=by omega
   have kv:(v.keys.map AV.s)[i * 1]? = some (.s v.keys[i]):=by rw [Nat.mul_one,List.getElem?_map,List.getElem?_eq_getElem hv']; rfl
   have kw:(w.keys.map AV.s)[i * 1]? = some (.s w.keys[i]):=by rw [Nat.mul_one,List.getElem?_map,List.getElem?_eq_getElem hw']; rfl
   have hne:¬ v.keys[i]=w.keys[i] → ¬ v.keys=w.keys:=fun h e => h (by simp only [e])
   have hall2:v.keys[i]=w.keys[i] → ∀ j:Nat,j < i + 1 → v.keys[j]? = w.keys[j]?:=by
    intro hs j hj
    by_cases e:j=i
    ·subst e; rw [List.getElem?_eq_getElem hv',List.getElem?_eq_getElem hw',hs]
    ·exact hall j (by omega)
   generalize v.keys[i]=x at kv hne hall2
   generalize w.keys[i]=y at kw hne hall2
   simp only [sxZ,z6,z7,z8,j4,j5,j6,j7,j8,j9,x0,x3,x4,x5,x6,x7,reduceCtorEq,↓reduceIte,List.getElem?_set,hlen,t2,t3,t58,t59,hlt]
   subst hZ
   refine zaa fun Z hZ => ?_
   simp only [sxZ,z6,z7,z8,j4,j5,j6,j7,j8,j9,x0,x3,x4,x5,x6,x7,reduceCtorEq,↓reduceIte,List.getElem?_set,hlen]
   subst hZ
   refine zaa fun W hW => ?_
   rw [zaO]
   refine zaa fun Z hZ => ?_
   simp only [sxZ,z6,z7,z8,j4,j5,j6,j7,j8,j9,x0,x3,x4,x5,x6,x7,reduceCtorEq,↓reduceIte,List.getElem?_set,hlen,t59]
   subst hZ
   refine zaa fun Z hZ => ?_
   simp only [sxZ,z6,z7,z8,j4,j5,j6,j7,j8,j9,x0,x3,x4,x5,x6,x7,reduceCtorEq,↓reduceIte,List.getElem?_set,hlen,t2,t3,kv,kw,List.length_map]
   refine ⟨⟨by omega,by omega,by omega⟩,⟨by omega,by omega,by omega⟩,?_⟩
   subst hZ
   by_cases c5:x=y
   rotate_left
   ·simp only [sxZ,z6,z7,z8,j4,j5,j6,j7,j8,j9,x0,x3,x4,x5,x6,x7,reduceCtorEq,↓reduceIte,List.getElem?_set,hlen,c5,decide_false,decide_true,Bool.not_false,Bool.not_true]
    exact no (by rw [zcn,decide_eq_false (hne c5)]; simp)
   ·simp only [sxZ,z6,z7,z8,j4,j5,j6,j7,j8,j9,x0,x3,x4,x5,x6,x7,reduceCtorEq,↓reduceIte,List.getElem?_set,hlen,c5,decide_false,decide_true,Bool.not_false,Bool.not_true]
    subst hW
    simp only [sxZ,z6,z7,z8,j4,j5,j6,j7,j8,j9,x0,x3,x4,x5,x6,x7,reduceCtorEq,↓reduceIte,List.getElem?_set,hlen,t2,t3,t58,t59]
    exact ⟨by omega,w.keys.length - (i + 1),by omega,i + 1,by omega,rfl,hall2 c5,rfl⟩
  simp only [sxZ,z6,z7,z8,j4,j5,j6,j7,j8,j9,x0,x3,x4,x5,x6,x7,reduceCtorEq,↓reduceIte,List.getElem?_set,hlen,t2,t3,t58,t59,hlt]
  subst hZ
  subst hY
  simp only [sxZ,z6,z7,z8,j4,j5,j6,j7,j8,j9,x0,x3,x4,x5,x6,x7,reduceCtorEq,↓reduceIte,List.getElem?_set,hlen,t2,t3,t58,t59,hlt]
  have hkeys:v.keys=w.keys:=List.ext_getElem? fun j => by
   by_cases h:j < i
   ·exact hall j h
   ·rw [List.getElem?_eq_none (by omega),List.getElem?_eq_none (by omega)]
  have:zcD v w=true:=by rw [zcn,hyes,decide_eq_true c1,decide_eq_true c2,decide_eq_true hkeys]; rfl
  rw [← this]
  exact hk
theorem same14_k (m:Nat) (v w:JV) (hm:v.size < m) (h:JOk v) {objs:List OB} {K:List OB → AV → Prop} (hk:K objs (.b (zcD v w))):zad Tryz.prog 11 [.agg (zah v),.agg (zah w)] objs K:=same14_l m v w hm h.ln hk
end
end
section
attribute [local irreducible] run
def zb7 (key:List UInt8):List (List UInt8) → Nat
 | [] => 0
 | k :: l => if k=key then 0 else zb7 key l + 1
theorem zdd {key:List UInt8}:∀ {l:List (List UInt8)},zb7 key l < l.length → l[zb7 key l]? = some key
 | [],h => by simp [zb7] at h
 | k :: l,h => by
  unfold zb7 at h ⊢
  by_cases c:k=key
  ·rw [if_pos c,c]; rfl
  ·rw [if_neg c] at h ⊢
   simpa using zdd (l:=l) (by simpa using h)
theorem zfO {key:List UInt8}:∀ {l:List (List UInt8)} {i:Nat},l[i]? = some key → zb7 key l ≤ i
 | [],i,h => by simp at h
 | k :: l,0,h => by
  simp only [List.getElem?_cons_zero,Option.some.injEq] at h
  unfold zb7; rw [if_pos h]; omega
 | k :: l,i + 1,h => by
  unfold zb7
  split
  ·omega
  ·have:=zfO (l:=l) (i:=i) (by simpa using h)
   omega
def zcy (v:JV) (key:List UInt8):JV × Bool :=
 if v.kind=7 ∧ zb7 key v.keys < v.keys.length then (match v.items[zb7 key v.keys]? with | some x => (x,true) | none => (jvZ,false)) else (jvZ,false)
def zc0 (R:JV × Bool):AV:=.tup [.agg (zah R.1),.b R.2]
theorem zgT {v:JV} {key:List UInt8} (h:¬ v.kind=7):zcy v key=(jvZ,false):=by unfold zcy; rw [if_neg (fun k => h k.1)]
theorem getJ_at {v:JV} {key:List UInt8} {i:Nat} (h:v.kind=7) (hk:v.keys[i]? = some key) (hi:i < v.items.length) (hall:∀ j,j < i → v.keys[j]? ≠ some key ∨ v.items.length ≤ j):zcy v key=(v.items[i],true):=by
 have hl:=(List.getElem?_eq_some_iff.1 hk).1
 have h1:=zfO hk
 have h2:zb7 key v.keys=i:=by
  rcases Nat.lt_or_ge (zb7 key v.keys) i with h3 | h3
  ·have h4:=zdd (l:=v.keys) (key:=key) (by omega)
   rcases hall _ h3 with h5 | h5
   ·exact absurd h4 h5
   ·omega
  ·omega
 unfold zcy
 rw [if_pos ⟨h,by omega⟩,h2,List.getElem?_eq_getElem hi]
theorem getJ_no {v:JV} {key:List UInt8} (hall:∀ j,j < v.keys.length → v.keys[j]? ≠ some key ∨ v.items.length ≤ j):zcy v key=(jvZ,false):=by
 unfold zcy
 split
 ·rename_i h
  have h4:=zdd h.2
  rcases hall _ h.2 with h5 | h5
  ·exact absurd h4 h5
  ·rw [List.getElem?_eq_none h5]
 ·rfl
theorem zms {b:Bool} {G:Gh} {I:Imm} {y:Value} (h:Den G I (.tup [.agg [.i .i64 0,.s [],.nil,.nil],.b b]) y):Den G I (zc0 (jvZ,b)) y:=by
 unfold zc0 jvZ
 rw [zah,zaH]
 simp only [zag,Den] at h ⊢
 obtain ⟨ys,h1,y0,l0,rfl,⟨zs,rfl,⟨z0,m0,rfl,q0,z1,m1,rfl,q1,z2,m2,rfl,q2,z3,m3,rfl,q3,q4⟩,hz⟩,h2⟩:=h
 refine ⟨_,h1,_,_,rfl,⟨_,rfl,⟨_,_,rfl,q0,_,_,rfl,q1,_,_,rfl,?_,_,_,rfl,?_,q4⟩,hz⟩,h2⟩
 ·exact ⟨none,0,[],q2,⟨Nat.le_refl _,fun ad h => by cases h⟩,rfl,by simp,by simp⟩
 ·exact ⟨none,0,[],q3,⟨Nat.le_refl _,fun ad h => by cases h⟩,rfl,by simp,by simp⟩
theorem jres2 {P:Program} [Tabs P] {f:FuncId} {args:List AV} {objs:List OB} {K:List OB → AV → Prop} (r':AV) (hc:zad P f args objs (fun o r => (∀ G I y,Den G I r y → Den G I r' y) ∧ K o r')):zad P f args objs K:=by
 intro C _ G I w hin hm ys hd
 refine (hc C G I w hin hm ys hd).mono ?_
 rintro e w' ⟨y,objs',r,G',I',he,⟨hr,hk⟩,h1,h2,h3,h4,hy⟩
 exact ⟨y,objs',r',G',I',he,hk,h1,h2,h3,h4,hr _ _ _ hy⟩
section
variable [Tabs Tryz.prog] {objs:List OB} {K:List OB → AV → Prop}
theorem zdK (v:JV) (key:List UInt8) (hv:JOk v) (hk:K objs (zc0 (zcy v key))):zad Tryz.prog 15 [.agg (zah v),.s key] objs K:=by
 obtain ⟨l1,l2,l3,l4⟩:=hv.lens
 refine jres2 (zc0 (zcy v key)) ?_
 refine zaN is_ref14_Get (by simp only [zao,AV.plain,zaL,Bool.and_self]) fun C _ => ?_
 have fin:∀ {o:List OB},zcy v key=(jvZ,false) → ((∀ G I y,Den G I (.tup [.agg [.i .i64 0,.s [],.nil,.nil],.b false]) y → Den G I (zc0 (zcy v key)) y) ∧ K objs (zc0 (zcy v key))):=fun {o} h => ⟨fun G I y hy => by rw [h]; exact zms hy,hk⟩
 rw [c_ref14_Get]
 refine zaa fun Y hY => ?_
 simp only [sxZ,z6,z7,z8,j4,j5,j6,j7,j8,j9,x0,x3,x4,x5,x6,x7,reduceCtorEq,↓reduceIte]
 have e0:OB.box 26 (zah v)=OB.box 26 [.i .i64 v.kind,.s v.text,.row v.keys.length (v.keys.map .s),.row v.items.length (zac v.items)]:=by rw [zai]
 rw [e0]
 subst hY
 refine zaa fun Y hY => ?_
 by_cases c1:v.kind=7
 rotate_left
 ·simp only [sxZ,z6,z7,z8,j4,j5,j6,j7,j8,j9,x0,x3,x4,x5,x6,x7,reduceCtorEq,↓reduceIte,c1,decide_false,Bool.not_false]
  exact fin (o:=[]) (zgT c1)
 simp only [sxZ,z6,z7,z8,j4,j5,j6,j7,j8,j9,x0,x3,x4,x5,x6,x7,reduceCtorEq,↓reduceIte,c1,decide_true,Bool.not_true]
 subst hY
 refine zaa fun Y hY => ?_
 simp only [sxZ,z6,z7,z8,j4,j5,j6,j7,j8,j9,x0,x3,x4,x5,x6,x7,reduceCtorEq,↓reduceIte]
 refine zaE (fun n o tm => ∃ i:Nat,i ≤ v.keys.length ∧ n=v.keys.length - i ∧ o=[OB.box 26 [.i .i64 7,.s v.text,.row v.keys.length (v.keys.map .s),.row v.items.length (zac v.items)],OB.box 26 [.i .i64 0,.s [],.nil,.nil]] ∧ (∀ j,j < i → v.keys[j]? ≠ some key ∨ v.items.length ≤ j) ∧ tm.length=38 ∧ tm[1]? = some (.s key) ∧ tm[2]? = some (.p 0 0) ∧ tm[4]? = some (.p 1 0) ∧ tm[13]? = some (.i .i64 (v.keys.length:Int)) ∧ tm[14]? = some (.i .i64 (i:Int))) v.keys.length ⟨0,Nat.zero_le _,rfl,rfl,fun j h => by omega,rfl,rfl,rfl,rfl,rfl,rfl⟩ ?_
 rintro n _ tm ⟨i,hi,rfl,rfl,hall,hlen,t1,t2,t4,t13,t14⟩
 refine zaa fun Z hZ => ?_
 by_cases hlt:(i:Int) < (v.keys.length:Int)
 ·have hi':i < v.keys.length:=by omega
  have kv:(v.keys.map AV.s)[i * 1]? = some (.s v.keys[i]):=by rw [Nat.mul_one,List.getElem?_map,List.getElem?_eq_getElem hi']; rfl
  have kv2:v.keys[i]? = some v.keys[i]:=List.getElem?_eq_getElem hi'
  generalize v.keys[i]=x at kv kv2
  simp only [sxZ,z6,z7,z8,j4,j5,j6,j7,j8,j9,x0,x3,x4,x5,x6,x7,reduceCtorEq,↓reduceIte,List.getElem?_set,hlen,t1,t2,t4,t13,t14,hlt]
  subst hZ
  refine zaa fun Z hZ => ?_
  simp only [sxZ,z6,z7,z8,j4,j5,j6,j7,j8,j9,x0,x3,x4,x5,x6,x7,reduceCtorEq,↓reduceIte,List.getElem?_set,hlen]
  subst hZ
  refine zaa fun W hW => ?_
  rw [zaO]
  refine zaa fun Z hZ => ?_
  simp only [sxZ,z6,z7,z8,j4,j5,j6,j7,j8,j9,x0,x3,x4,x5,x6,x7,reduceCtorEq,↓reduceIte,List.getElem?_set,hlen,t14]
  subst hZ
  refine zaa fun Z hZ => ?_
  have next:(x=key → v.items.length ≤ i) → ∀ j,j < i + 1 → v.keys[j]? ≠ some key ∨ v.items.length ≤ j:=by
   intro h j hj
   by_cases e:j=i
   ·subst e
    by_cases ex:x=key
    ·exact .inr (h ex)
    ·left; rw [kv2]; intro h; injection h with h; exact ex h
   ·exact hall j (by omega)
  by_cases c2:x=key
  ·by_cases c3:(i:Int) < v.items.length
   ·have hi2:i < v.items.length:=by omega
    have hg:=getJ_at c1 (by rw [kv2,c2]) hi2 hall
    have jv:=zcZ hi2
    have jvl:=zav v.items
    have hq:=zai v.items[i]
    rw [hq] at jv
    simp only [sxZ,z6,z7,z8,j4,j5,j6,j7,j8,j9,x0,x3,x4,x5,x6,x7,reduceCtorEq,↓reduceIte,List.getElem?_set,hlen,t1,t2,kv,List.length_map,c2,c3,decide_true]
    refine ⟨by omega,?_⟩
    subst hZ
    simp only [sxZ,z6,z7,z8,j4,j5,j6,j7,j8,j9,x0,x3,x4,x5,x6,x7,reduceCtorEq,↓reduceIte,List.getElem?_set,hlen,t1,t2,t4,jv]
    refine ⟨by omega,by omega,?_⟩
    simp only [pub,AV.plain,zau,zbN,sxZ,z6,z7,z8,j4,j5,j6,j7,j8,j9,x0,x3,x4,x5,x6,x7,reduceCtorEq,↓reduceIte]
    refine ⟨fun G I y hy => ?_,hk⟩
    rw [hg,zc0,hq]
    exact hy
   ·simp only [sxZ,z6,z7,z8,j4,j5,j6,j7,j8,j9,x0,x3,x4,x5,x6,x7,reduceCtorEq,↓reduceIte,List.getElem?_set,hlen,t1,t2,kv,List.length_map,c2,c3,decide_true,decide_false]
    refine ⟨by omega,?_⟩
    subst hZ
    simp only [sxZ,z6,z7,z8,j4,j5,j6,j7,j8,j9,x0,x3,x4,x5,x6,x7,reduceCtorEq,↓reduceIte,List.getElem?_set,hlen,t1,t2,t4]
    subst hW
    simp only [sxZ,z6,z7,z8,j4,j5,j6,j7,j8,j9,x0,x3,x4,x5,x6,x7,reduceCtorEq,↓reduceIte,List.getElem?_set,hlen,t1,t2,t4,t13,t14]
    exact ⟨by omega,v.keys.length - (i + 1),by omega,i + 1,by omega,rfl,next (fun _ => by omega),rfl⟩
  ·simp only [sxZ,z6,z7,z8,j4,j5,j6,j7,j8,j9,x0,x3,x4,x5,x6,x7,reduceCtorEq,↓reduceIte,List.getElem?_set,hlen,t1,t2,kv,List.length_map,c2,decide_false]
   refine ⟨by omega,?_⟩
   subst hZ
   simp only [sxZ,z6,z7,z8,j4,j5,j6,j7,j8,j9,x0,x3,x4,x5,x6,x7,reduceCtorEq,↓reduceIte,List.getElem?_set,hlen,t1,t2,t4]
   subst hW
   simp only [sxZ,z6,z7,z8,j4,j5,j6,j7,j8,j9,x0,x3,x4,x5,x6,x7,reduceCtorEq,↓reduceIte,List.getElem?_set,hlen,t1,t2,t4,t13,t14]
   exact ⟨by omega,v.keys.length - (i + 1),by omega,i + 1,by omega,rfl,next (fun h => absurd h c2),rfl⟩
 simp only [sxZ,z6,z7,z8,j4,j5,j6,j7,j8,j9,x0,x3,x4,x5,x6,x7,reduceCtorEq,↓reduceIte,List.getElem?_set,hlen,t1,t2,t4,t13,t14,hlt]
 subst hZ
 subst hY
 simp only [sxZ,z6,z7,z8,j4,j5,j6,j7,j8,j9,x0,x3,x4,x5,x6,x7,reduceCtorEq,↓reduceIte,List.getElem?_set,hlen,t1,t2,t4,t13,t14,hlt]
 exact fin (o:=[]) (getJ_no fun j hj => hall j (by omega))
theorem zlR (ks:List (List UInt8)) (key:List UInt8) (hl:ks.length ≤ 140737488351232) (hk:K objs (.i .i64 (if zb7 key ks < ks.length then (zb7 key ks:Int) else -1))):zad Tryz.prog 28 [.row ks.length (ks.map .s),.s key] objs K:=by
 refine zaN is_slices_Index__string_string (by simp only [zao,AV.plain,zau,Bool.and_self]) fun C _ => ?_
 rw [c_slices_Index__string_string]
 refine zaa fun Y hY => ?_
 simp only [sxZ,z6,z7,z8,j4,j5,j6,j7,j8,j9,x0,x3,x4,x5,x6,x7,reduceCtorEq,↓reduceIte]
 subst hY
 refine zaa fun Y hY => ?_
 simp only [sxZ,z6,z7,z8,j4,j5,j6,j7,j8,j9,x0,x3,x4,x5,x6,x7,reduceCtorEq,↓reduceIte]
 refine zaE (fun n o tm => ∃ i:Nat,i ≤ ks.length ∧ n=ks.length - i ∧ o=[] ∧ (∀ j,j < i → ks[j]? ≠ some key) ∧ tm.length=19 ∧ tm[0]? = some (.row ks.length (ks.map .s)) ∧ tm[1]? = some (.s key) ∧ tm[7]? = some (.i .i64 (ks.length:Int)) ∧ tm[8]? = some (.i .i64 (i:Int))) ks.length ⟨0,Nat.zero_le _,rfl,rfl,fun j h => by omega,rfl,rfl,rfl,rfl,rfl⟩ ?_
 rintro n _ tm ⟨i,hi,rfl,rfl,hall,hlen,t0,t1,t7,t8⟩
 refine zaa fun Z hZ => ?_
 by_cases hlt:(i:Int) < (ks.length:Int)
 ·have hi':i < ks.length:=by omega
  have kv:(ks.map AV.s)[i * 1]? = some (.s ks[i]):=by rw [Nat.mul_one,List.getElem?_map,List.getElem?_eq_getElem hi']; rfl
  have kv2:ks[i]? = some ks[i]:=List.getElem?_eq_getElem hi'
  generalize ks[i]=x at kv kv2
  simp only [sxZ,z6,z7,z8,j4,j5,j6,j7,j8,j9,x0,x3,x4,x5,x6,x7,reduceCtorEq,↓reduceIte,List.getElem?_set,hlen,t0,t1,t7,t8,hlt]
  subst hZ
  refine zaa fun Z hZ => ?_
  simp only [sxZ,z6,z7,z8,j4,j5,j6,j7,j8,j9,x0,x3,x4,x5,x6,x7,reduceCtorEq,↓reduceIte,List.getElem?_set,hlen]
  subst hZ
  refine zaa fun W hW => ?_
  rw [zaO]
  refine zaa fun Z hZ => ?_
  simp only [sxZ,z6,z7,z8,j4,j5,j6,j7,j8,j9,x0,x3,x4,x5,x6,x7,reduceCtorEq,↓reduceIte,List.getElem?_set,hlen,t8]
  subst hZ
  refine zaa fun Z hZ => ?_
  by_cases c2:key=x
  ·have h2:zb7 key ks=i:=by
    have h1:=zfO (key:=key) (l:=ks) (i:=i) (by rw [kv2,c2])
    rcases Nat.lt_or_ge (zb7 key ks) i with h3 | h3
    ·exact absurd (zdd (by omega)) (hall _ h3)
    ·omega
   rw [if_pos (by omega),h2] at hk
   simp only [sxZ,z6,z7,z8,j4,j5,j6,j7,j8,j9,x0,x3,x4,x5,x6,x7,reduceCtorEq,↓reduceIte,List.getElem?_set,hlen,t0,t1,kv,List.length_map,c2,decide_true]
   refine ⟨by omega,?_⟩
   subst hZ
   simp only [sxZ,z6,z7,z8,j4,j5,j6,j7,j8,j9,x0,x3,x4,x5,x6,x7,reduceCtorEq,↓reduceIte,List.getElem?_set,hlen]
   exact hk
  ·simp only [sxZ,z6,z7,z8,j4,j5,j6,j7,j8,j9,x0,x3,x4,x5,x6,x7,reduceCtorEq,↓reduceIte,List.getElem?_set,hlen,t0,t1,kv,List.length_map,c2,decide_false]
   refine ⟨by omega,?_⟩
   subst hZ
   simp only [sxZ,z6,z7,z8,j4,j5,j6,j7,j8,j9,x0,x3,x4,x5,x6,x7,reduceCtorEq,↓reduceIte,List.getElem?_set,hlen]
   subst hW
   simp only [sxZ,z6,z7,z8,j4,j5,j6,j7,j8,j9,x0,x3,x4,x5,x6,x7,reduceCtorEq,↓reduceIte,List.getElem?_set,hlen,t0,t1,t7,t8]
   refine ⟨by omega,ks.length - (i + 1),by omega,i + 1,by omega,rfl,fun j hj => ?_,rfl⟩
   by_cases e:j=i
   ·subst e
    rw [kv2]; intro h; injection h with h; exact c2 h.symm
   ·exact hall j (by omega)
 simp only [sxZ,z6,z7,z8,j4,j5,j6,j7,j8,j9,x0,x3,x4,x5,x6,x7,reduceCtorEq,↓reduceIte,List.getElem?_set,hlen,t0,t1,t7,t8,hlt]
 subst hZ
 subst hY
 simp only [sxZ,z6,z7,z8,j4,j5,j6,j7,j8,j9,x0,x3,x4,x5,x6,x7,reduceCtorEq,↓reduceIte,List.getElem?_set,hlen,t0,t1,t7,t8,hlt]
 rw [if_neg (fun h => hall _ (by omega) (zdd h))] at hk
 exact hk
end
end
section
attribute [local irreducible] run
theorem zg6 {P:Program} [Tabs P] {f:FuncId} {objs:List OB} {K:List OB → AV → Prop} (h:∀ b,zad P f [.zn b] objs K):zad P f [.row 0 []] objs K:=by
 intro C _ G I w hin hm ys hd
 have hd':=hd
 simp only [zag,Den] at hd'
 obtain ⟨y,l,rfl,⟨a,c,cells,rfl,hq,hc⟩,hl⟩:=hd'
 refine h a.isNone C G I w hin hm _ ?_
 simp only [zag,Den]
 exact ⟨_,_,rfl,⟨a,c,by simp,rfl,by simpa using hq.2⟩,hl⟩
theorem den_nil0 {G:Gh} {I:Imm} {y:Value} (h:Den G I .nil y):Den G I (.row 0 []) y:=by
 simp only [zag,Den] at h ⊢
 exact ⟨none,0,[],h,⟨Nat.le_refl _,fun ad h => by cases h⟩,rfl,by simp,by simp⟩
theorem zeA:∀ (ks:List (List UInt8)) (o:List OB) (d:Nat),ze1 o (d + 1) (ks.map AV.s)=some (ks.map AV.s)
 | [],o,d => by simp only [List.map_nil,ze1]
 | k :: ks,o,d => by simp only [List.map_cons,ze1,pub,AV.plain,if_true,zeA ks o d]
theorem zkU:∀ (l:List JV) (o:List OB) (d:Nat),ze1 o (d + 1) (zac l)=some (zac l)
 | [],o,d => by rw [zaH]; simp only [ze1]
 | v :: l,o,d => by
  rw [zaK,zai]
  simp only [List.cons_append,List.nil_append,ze1,pub,AV.plain,zau,zbN,if_true,zkU l o d]
theorem jc_back {l:List JV} {i:Nat} (hi:i < l.length):List.take (i * 4) (zac l) ++ zah l[i] ++ List.drop (i * 4 + 4) (zac l)=zac l:=by
 rw [← zcZ hi,← List.drop_drop,List.append_assoc,List.take_append_drop,List.take_append_drop]
theorem den_it0 {a b c:AV} {G:Gh} {I:Imm} {y:Value} (h:Den G I (.agg [a,b,c,.nil]) y):Den G I (.agg [a,b,c,.row 0 []]) y:=by
 simp only [Den,zag] at h ⊢
 obtain ⟨zs,rfl,⟨z0,m0,rfl,q0,z1,m1,rfl,q1,z2,m2,rfl,q2,z3,m3,rfl,q3,q4⟩,hz⟩:=h
 exact ⟨_,rfl,⟨_,_,rfl,q0,_,_,rfl,q1,_,_,rfl,q2,_,_,rfl,⟨none,0,[],q3,⟨Nat.le_refl _,fun ad h => by cases h⟩,rfl,by simp,by simp⟩,q4⟩,hz⟩
section
variable [Tabs Tryz.prog] {objs:List OB} {K:List OB → AV → Prop}
theorem cloneS_k (ks:List (List UInt8)) (hl:ks.length ≤ 1099511627780) (hk:K objs (.row ks.length (ks.map .s))):zad Tryz.prog 49 [.row ks.length (ks.map .s)] objs K:=by
 cases ks with
 | nil =>
  refine zg6 fun b => ?_
  refine jres2 (.row 0 []) ?_
  refine zaN is_slices_Clone__string_string rfl fun C _ => ?_
  rw [c_slices_Clone__string_string]
  cases b with
  | true =>
   simp only [sxZ,z6,z7,z8,j4,j5,j6,j7,j8,j9,x0,x3,x4,x5,x6,x7,reduceCtorEq,↓reduceIte,Bool.false_eq_true]
   exact ⟨fun G I y hy => den_nil0 hy,hk⟩
  | false =>
   simp only [sxZ,z6,z7,z8,j4,j5,j6,j7,j8,j9,x0,x3,x4,x5,x6,x7,reduceCtorEq,↓reduceIte,Bool.false_eq_true]
   exact ⟨by decide,fun G I y hy => hy,hk⟩
 | cons k ks =>
  refine zaN is_slices_Clone__string_string (by simp only [zao,AV.plain,zau,Bool.and_self]) fun C _ => ?_
  rw [c_slices_Clone__string_string]
  have hp:∀ (o:List OB) (d:Nat),ze1 o (d + 1) (ks.map AV.s)=some (ks.map AV.s):=fun o d => zeA ks o d
  simp only [List.map_cons,sxZ,z6,z7,z8,j4,j5,j6,j7,j8,j9,x0,x3,x4,x5,x6,x7,reduceCtorEq,↓reduceIte,hp,List.length_map]
  simp only [List.length_cons] at hl
  refine ⟨by omega,⟨by omega,by omega,by omega⟩,?_⟩
  rw [Nat.zero_add]
  exact hk
theorem cloneV_k (v:JV) (l:List JV) (hl:(v :: l).length ≤ 1099511627776) (hk:K (objs ++ [.orow 26 4 1 (v :: l).length (zac (v :: l))]) (.orow objs.length 1)):zad Tryz.prog 50 [.row (v :: l).length (zac (v :: l))] objs K:=by
 have hjl:=zav (v :: l)
 have e0:zac (v :: l)=.i .i64 v.kind :: (.s v.text :: .row v.keys.length (v.keys.map .s) :: .row v.items.length (zac v.items) :: zac l):=by rw [zaK,zai]; rfl
 generalize hX:AV.s v.text :: .row v.keys.length (v.keys.map .s) :: .row v.items.length (zac v.items) :: zac l=X at e0
 rw [e0] at hk hjl ⊢
 generalize (v :: l).length=n at hk hl hjl ⊢
 refine zbP is_slices_Clone__api_Value_api_Value fun C _ => ?_
 rw [c_slices_Clone__api_Value_api_Value]
 simp only [sxZ,z6,z7,z8,j4,j5,j6,j7,j8,j9,x0,x3,x4,x5,x6,x7,reduceCtorEq,↓reduceIte]
 refine ⟨by omega,?_⟩
 simp only [sxZ,z6,z7,z8,j4,j5,j6,j7,j8,j9,x0,x3,x4,x5,x6,x7,reduceCtorEq,↓reduceIte,gn1,sn1]
 rw [Nat.zero_add]
 exact ⟨⟨by simp only [List.length_cons] at hjl; omega,by omega,by omega⟩,hk⟩
theorem zmF (h1:K objs .nil) (h2:K (objs ++ [.orow 26 4 1 0 []]) (.orow objs.length 1)):zad Tryz.prog 50 [.row 0 []] objs K:=by
 refine zg6 fun b => ?_
 refine zbP is_slices_Clone__api_Value_api_Value fun C _ => ?_
 rw [c_slices_Clone__api_Value_api_Value]
 cases b with
 | true =>
  simp only [sxZ,z6,z7,z8,j4,j5,j6,j7,j8,j9,x0,x3,x4,x5,x6,x7,reduceCtorEq,↓reduceIte,Bool.false_eq_true]
  exact h1
 | false =>
  simp only [sxZ,z6,z7,z8,j4,j5,j6,j7,j8,j9,x0,x3,x4,x5,x6,x7,reduceCtorEq,↓reduceIte,Bool.false_eq_true]
  refine ⟨by decide,?_⟩
  simp only [sxZ,z6,z7,z8,j4,j5,j6,j7,j8,j9,x0,x3,x4,x5,x6,x7,reduceCtorEq,↓reduceIte,gn1,sn1]
  exact h2
theorem zmG:∀ (m:Nat) (v:JV),v.size < m → JBd v → ∀ {objs:List OB} {K:List OB → AV → Prop},K objs (.agg (zah v)) → zad Tryz.prog 29 [.agg (zah v)] objs K:=by
 intro m
 induction m with
 | zero => intro v h; omega
 | succ m ih =>
  intro v hm hv objs K hk
  obtain ⟨l1,l2⟩:=hv.lens
  refine jres2 (.agg (zah v)) ?_
  refine zaN is_jsondoc_clone (by simp only [zao,AV.plain,zaL,Bool.and_self]) fun C _ => ?_
  rw [c_jsondoc_clone]
  refine zaa fun Y hY => ?_
  simp only [sxZ,z6,z7,z8,j4,j5,j6,j7,j8,j9,x0,x3,x4,x5,x6,x7,reduceCtorEq,↓reduceIte]
  have e0:OB.box 26 (zah v)=OB.box 26 [.i .i64 v.kind,.s v.text,.row v.keys.length (v.keys.map .s),.row v.items.length (zac v.items)]:=by rw [zai]
  rw [e0]
  subst hY
  refine zaa fun Y hY => ?_
  simp only [sxZ,z6,z7,z8,j4,j5,j6,j7,j8,j9,x0,x3,x4,x5,x6,x7,reduceCtorEq,↓reduceIte]
  refine zam (cloneS_k v.keys l1 ?_)
  simp only [sxZ,z6,z7,z8,j4,j5,j6,j7,j8,j9,x0,x3,x4,x5,x6,x7,reduceCtorEq,↓reduceIte]
  subst hY
  refine zaa fun Y hY => ?_
  have tailA:∀ tm:List AV,tm.length=30 → tm[1]? = some (.p 0 0) → tm[2]? = some (.p 1 0) → run Tryz.prog C [.code Y] [OB.box 26 [.i .i64 v.kind,.s v.text,.row v.keys.length (v.keys.map .s),.orow 2 1],OB.box 26 [.i .i64 0,.s [],.nil,.nil],.orow 26 4 1 v.items.length (zac v.items)] tm (endK [.celln 2 4] fun r => (∀ G I y,Den G I r y → Den G I (.agg (zah v)) y) ∧ K objs (.agg (zah v))):=by
   intro tm hlen t1 t2
   subst hY
   refine zaa fun Y hY => ?_
   simp only [sxZ,z6,z7,z8,j4,j5,j6,j7,j8,j9,x0,x3,x4,x5,x6,x7,reduceCtorEq,↓reduceIte,List.getElem?_set,hlen,t1,t2]
   refine zaE (fun n o tm => ∃ i:Nat,i ≤ v.items.length ∧ n=v.items.length - i ∧ o=[OB.box 26 [.i .i64 v.kind,.s v.text,.row v.keys.length (v.keys.map .s),.orow 2 1],OB.box 26 [.i .i64 0,.s [],.nil,.nil],.orow 26 4 1 v.items.length (zac v.items)] ∧ tm.length=30 ∧ tm[1]? = some (.p 0 0) ∧ tm[2]? = some (.p 1 0) ∧ tm[14]? = some (.i .i64 (v.items.length:Int)) ∧ tm[15]? = some (.i .i64 (i:Int))) v.items.length ⟨0,Nat.zero_le _,rfl,rfl,?_⟩ ?_
   ·simp only [sxZ,z6,z7,z8,j4,j5,j6,j7,j8,j9,x0,x3,x4,x5,x6,x7,reduceCtorEq,↓reduceIte,List.length_set,List.getElem?_set,hlen,t1,t2,Int.cast_ofNat_Int,and_self]
   clear hlen t1 t2
   rintro n _ tm ⟨i,hi,rfl,rfl,hlen,t1,t2,t14,t15⟩
   refine zaa fun Z hZ => ?_
   by_cases hlt:(i:Int) < (v.items.length:Int)
   ·have hi':i < v.items.length:=by omega
    have hjc:=zcZ hi'
    have hjl:=zav v.items
    have hit:=hv.its hi'
    have hsz:=zbe hi'
    have hcall:=fun {objs:List OB} {K:List OB → AV → Prop} (h:K objs (.agg (zah v.items[i]))) => ih v.items[i] (by omega) hit (objs:=objs) (K:=K) h
    simp only [sxZ,z6,z7,z8,j4,j5,j6,j7,j8,j9,x0,x3,x4,x5,x6,x7,reduceCtorEq,↓reduceIte,List.getElem?_set,hlen,t1,t2,t14,t15,hlt]
    subst hZ
    refine zaa fun Z hZ => ?_
    simp only [sxZ,z6,z7,z8,j4,j5,j6,j7,j8,j9,x0,x3,x4,x5,x6,x7,reduceCtorEq,↓reduceIte,List.getElem?_set,hlen]
    subst hZ
    refine zaa fun W hW => ?_
    rw [zaO]
    refine zaa fun Z hZ => ?_
    simp only [sxZ,z6,z7,z8,j4,j5,j6,j7,j8,j9,x0,x3,x4,x5,x6,x7,reduceCtorEq,↓reduceIte,List.getElem?_set,hlen,t15]
    subst hZ
    have hbk:=jc_back hi'
    have hcl:=zcR v.items[i]
    simp only [sxZ,z6,z7,z8,j4,j5,j6,j7,j8,j9,x0,x3,x4,x5,x6,x7,reduceCtorEq,↓reduceIte,List.getElem?_set,hlen,t1,hjc]
    refine ⟨⟨by omega,by omega⟩,by omega,?_⟩
    refine zcu (hcall ⟨rfl,rfl⟩) ?_
    simp only [sxZ,z6,z7,z8,j4,j5,j6,j7,j8,j9,x0,x3,x4,x5,x6,x7,reduceCtorEq,↓reduceIte,List.getElem?_set,hlen,t1,t2]
    refine ⟨by omega,?_⟩
    simp only [sxZ,z6,z7,z8,j4,j5,j6,j7,j8,j9,x0,x3,x4,x5,x6,x7,reduceCtorEq,↓reduceIte,List.getElem?_set,hlen,t1,t2,hbk,hcl]
    refine ⟨by omega,?_⟩
    subst hW
    simp only [sxZ,z6,z7,z8,j4,j5,j6,j7,j8,j9,x0,x3,x4,x5,x6,x7,reduceCtorEq,↓reduceIte,List.getElem?_set,hlen,t1,t2,t14,t15]
    exact ⟨by omega,v.items.length - (i + 1),by omega,i + 1,by omega,rfl,rfl⟩
   simp only [sxZ,z6,z7,z8,j4,j5,j6,j7,j8,j9,x0,x3,x4,x5,x6,x7,reduceCtorEq,↓reduceIte,List.getElem?_set,hlen,t1,t2,t14,t15,hlt]
   subst hZ
   subst hY
   simp only [sxZ,z6,z7,z8,j4,j5,j6,j7,j8,j9,x0,x3,x4,x5,x6,x7,reduceCtorEq,↓reduceIte,List.getElem?_set,hlen,t1,t2,t14,t15,hlt]
   simp only [zau,zkU,pub,sxZ,z6,z7,z8,j4,j5,j6,j7,j8,j9,x0,x3,x4,x5,x6,x7,reduceCtorEq,↓reduceIte]
   refine ⟨fun G I y hy => ?_,hk⟩
   rw [zai]
   exact hy
  simp only [sxZ,z6,z7,z8,j4,j5,j6,j7,j8,j9,x0,x3,x4,x5,x6,x7,reduceCtorEq,↓reduceIte]
  cases hits:v.items with
  | nil =>
   rw [hits] at tailA
   rw [zaH] at tailA ⊢
   refine zmF ?_ ?_
   ·simp only [sxZ,z6,z7,z8,j4,j5,j6,j7,j8,j9,x0,x3,x4,x5,x6,x7,reduceCtorEq,↓reduceIte]
    subst hY
    refine zaa fun Y hY => ?_
    simp only [sxZ,z6,z7,z8,j4,j5,j6,j7,j8,j9,x0,x3,x4,x5,x6,x7,reduceCtorEq,↓reduceIte]
    refine zaE (fun n o tm => n=0 ∧ o=[OB.box 26 [.i .i64 v.kind,.s v.text,.row v.keys.length (v.keys.map .s),.nil],OB.box 26 [.i .i64 0,.s [],.nil,.nil]] ∧ tm.length=30 ∧ tm[1]? = some (.p 0 0) ∧ tm[2]? = some (.p 1 0) ∧ tm[14]? = some (.i .i64 0) ∧ tm[15]? = some (.i .i64 0)) 0 ⟨rfl,rfl,rfl,rfl,rfl,rfl,rfl⟩ ?_
    rintro n _ tm ⟨rfl,rfl,hlen,t1,t2,t14,t15⟩
    refine zaa fun Z hZ => ?_
    simp only [sxZ,z6,z7,z8,j4,j5,j6,j7,j8,j9,x0,x3,x4,x5,x6,x7,reduceCtorEq,↓reduceIte,List.getElem?_set,hlen,t1,t2,t14,t15]
    subst hZ
    subst hY
    simp only [sxZ,z6,z7,z8,j4,j5,j6,j7,j8,j9,x0,x3,x4,x5,x6,x7,reduceCtorEq,↓reduceIte,List.getElem?_set,hlen,t1,t2,t14,t15]
    simp only [zau,pub,sxZ,z6,z7,z8,j4,j5,j6,j7,j8,j9,x0,x3,x4,x5,x6,x7,reduceCtorEq,↓reduceIte]
    refine ⟨fun G I y hy => ?_,hk⟩
    rw [zai,hits,zaH]
    exact den_it0 hy
   ·simp only [sxZ,z6,z7,z8,j4,j5,j6,j7,j8,j9,x0,x3,x4,x5,x6,x7,reduceCtorEq,↓reduceIte]
    exact tailA _ rfl rfl rfl
  | cons a l =>
   rw [hits] at tailA
   refine zam (cloneV_k a l (by rw [← hits]; exact l2) ?_)
   simp only [sxZ,z6,z7,z8,j4,j5,j6,j7,j8,j9,x0,x3,x4,x5,x6,x7,reduceCtorEq,↓reduceIte]
   exact tailA _ rfl rfl rfl
end
end
end Go.Proofs.YthmdohgkmdkeeaaGreatDoor
namespace Go.Proofs.YthmdohgkmdkeeaaGreatDoor
open Go.RowKit Sx
section
attribute [local irreducible] run
structure WfM (σ:Ms) (a:Nat):Prop where
 top:(σ.st=1 ∨ σ.st=2 ∨ σ.st=3 ∨ σ.st=4 ∨ σ.st=5) → σ.stk ≠ []
 obj:(σ.st=2 ∨ σ.st=3 ∨ σ.st=4) → ∀ f r,σ.stk=f :: r → f.obj=true
 len:∀ f ∈ σ.stk,f.ks.length ≤ a ∧ f.its.length ≤ a
 deep:σ.stk.length ≤ 64
 few:σ.nodes ≤ 20000
theorem wf0 (a:Nat):WfM ms0 a:=⟨fun h => by simp [ms0] at h,fun h => by simp [ms0] at h,fun f h => by simp [ms0] at h,by simp [ms0],by simp [ms0]⟩
theorem wf_add {σ:Ms} {a:Nat} (v:JV) (hl:∀ f ∈ σ.stk,f.ks.length ≤ a ∧ f.its.length ≤ a) (hd:σ.stk.length ≤ 64) (hn:σ.nodes ≤ 20000):WfM (zc1 σ v) (a + 1):=by
 unfold zc1
 split
 ·exact ⟨fun h => by simp at h,fun h => by simp at h,fun f h => by simp at h,by simp,hn⟩
 ·rename_i f r hs
  rw [hs] at hl hd
  refine ⟨fun _ => by simp,fun h => by simp at h,fun f' h => ?_,by simpa using hd,hn⟩
  rcases List.mem_cons.1 h with rfl | h
  ·have:=hl f (by simp)
   simp only [List.length_append,List.length_cons,List.length_nil]
   omega
  ·have:=hl f' (by simp [h])
   omega
theorem zfx {σ:Ms} {a:Nat} (h:WfM σ a):WfM (zcI σ) (a + 1):=by
 unfold zcI
 split
 ·exact ⟨h.top,h.obj,fun f hf => by have:=h.len f hf; omega,h.deep,h.few⟩
 ·rename_i f r hs
  refine wf_add _ (fun f' hf => h.len f' (by rw [hs]; exact List.mem_cons_of_mem _ hf)) ?_ h.few
  have:=h.deep
  rw [hs,List.length_cons] at this
  show r.length ≤ 64
  omega
theorem zh3 {σ:Ms} {a:Nat} {t:Tk} (h:WfM σ a) (h0:(zaU σ t).1=0):WfM (zaU σ t).2 (a + 1):=by
 unfold zaU at h0 ⊢
 by_cases c0:vkE t=0
 ·rw [if_pos c0] at h0; cases h0
 rw [if_neg c0] at h0 ⊢
 by_cases c1:vkE t=6 ∨ vkE t=7
 ·rw [if_pos c1] at h0 ⊢
  by_cases c2:64 ≤ σ.stk.length
  ·rw [if_pos c2] at h0; cases h0
  rw [if_neg c2] at h0 ⊢
  by_cases c3:20000 ≤ σ.nodes
  ·rw [if_pos c3] at h0; cases h0
  rw [if_neg c3]
  unfold zby
  refine ⟨fun _ => by simp,fun hs f r hr => ?_,fun f hf => ?_,by simp; omega,by show σ.nodes + 1 ≤ _; omega⟩
  ·injection hr with hr _
   subst hr
   cases hb:decide (vkE t=7)
   ·simp [hb] at hs
   ·rfl
  ·rcases List.mem_cons.1 hf with rfl | hf
   ·simp
   ·have:=h.len f hf; omega
 ·rw [if_neg c1] at h0 ⊢
  by_cases c2:¬ (zhl t).1=0
  ·rw [if_pos c2] at h0; exact absurd h0 c2
  rw [if_neg c2] at h0 ⊢
  by_cases c3:20000 ≤ σ.nodes
  ·rw [if_pos c3] at h0; cases h0
  rw [if_neg c3]
  exact wf_add _ h.len h.deep (by show σ.nodes + 1 ≤ _; omega)
theorem wf_key {σ:Ms} {a:Nat} {t:Tk} (h:WfM σ a) (ho:∀ f r,σ.stk=f :: r → f.obj=true) (h0:(zhz σ t).1=0):WfM (zhz σ t).2 (a + 1):=by
 unfold zhz at h0 ⊢
 split
 ·rename_i hs; rw [hs] at h0; cases h0
 ·rename_i f r hs
  rw [hs] at h0
  simp only at h0
  by_cases c1:¬ t.1=3
  ·rw [if_pos c1] at h0; cases h0
  rw [if_neg c1] at h0 ⊢
  by_cases c2:t.2.1 ∈ f.ks
  ·rw [if_pos c2] at h0; cases h0
  rw [if_neg c2]
  have hd:=h.deep
  rw [hs] at hd
  refine ⟨fun _ => by simp,fun _ f' r' hr => ?_,fun f' hf => ?_,by simpa using hd,h.few⟩
  ·injection hr with hr _
   subst hr
   exact ho f r hs
  ·rcases List.mem_cons.1 hf with rfl | hf
   ·have:=h.len f (by rw [hs]; simp)
    simp only [List.length_append,List.length_cons,List.length_nil]
    omega
   ·have:=h.len f' (by rw [hs]; exact List.mem_cons_of_mem _ hf)
    omega
theorem wf_take {σ:Ms} {a:Nat} {t:Tk} (h:WfM σ a) (h0:(zax σ t).1=0):WfM (zax σ t).2 (a + 1):=by
 have more:∀ f ∈ σ.stk,f.ks.length ≤ a + 1 ∧ f.its.length ≤ a + 1:=fun f hf => by have:=h.len f hf; omega
 unfold zax at h0 ⊢
 by_cases c0:σ.st=0
 ·rw [if_pos c0] at h0 ⊢; exact zh3 h h0
 rw [if_neg c0] at h0 ⊢
 by_cases c1:σ.st=1
 ·rw [if_pos c1] at h0 ⊢
  by_cases d:zeK σ t=true
  ·rw [if_pos d]; exact zfx h
  ·rw [if_neg d] at h0 ⊢; exact zh3 h h0
 rw [if_neg c1] at h0 ⊢
 by_cases c3:σ.st=3
 ·rw [if_pos c3] at h0 ⊢
  by_cases d:zeK σ t=true
  ·rw [if_pos d]; exact zfx h
  ·rw [if_neg d] at h0 ⊢; exact wf_key h (h.obj (.inr (.inl c3))) h0
 rw [if_neg c3] at h0 ⊢
 by_cases c2:σ.st=2
 ·rw [if_pos c2] at h0 ⊢; exact wf_key h (h.obj (.inl c2)) h0
 rw [if_neg c2] at h0 ⊢
 by_cases c4:σ.st=4
 ·rw [if_pos c4] at h0 ⊢
  by_cases d:isP t 58=true
  ·rw [if_pos d]
   exact ⟨fun h => by simp at h,fun h => by simp at h,more,h.deep,h.few⟩
  ·rw [if_neg d] at h0; cases h0
 rw [if_neg c4] at h0 ⊢
 by_cases c5:σ.st=5
 ·rw [if_pos c5] at h0 ⊢
  have hne:=h.top (by omega)
  unfold onM at h0 ⊢
  split
  ·rename_i hs; exact absurd hs hne
  ·rename_i f r hs
   rw [hs] at h0
   simp only at h0
   by_cases d:zeK σ t=true
   ·rw [if_pos d]; exact zfx h
   rw [if_neg d] at h0 ⊢
   by_cases d2:isP t 44=false
   ·rw [if_pos d2] at h0; cases h0
   rw [if_neg d2]
   refine ⟨fun _ => hne,fun hst f' r' hr => ?_,more,h.deep,h.few⟩
   rw [hs] at hr
   injection hr with hr _
   subst hr
   cases hb:f.obj
   ·simp [hb] at hst
   ·rfl
 rw [if_neg c5] at h0 ⊢
 by_cases c6:σ.st=6
 ·rw [if_pos c6] at h0 ⊢
  by_cases d:t.1=1
  ·rw [if_pos d]
   exact ⟨fun h => by simp at h,fun h => by simp at h,more,h.deep,h.few⟩
  ·rw [if_neg d] at h0; cases h0
 ·rw [if_neg c6] at h0; cases h0
end
end Go.Proofs.YthmdohgkmdkeeaaGreatDoor
namespace Go.Proofs.YthmdohgkmdkeeaaGreatDoor
open Nat renaming reduceAdd → z6, reduceSub → z7, reduceLeDiff → z8, reduceLT → j4, reduceMul → j5, reduceEqDiff → j6
open Int renaming reduceToNat → j7, reduceAdd → j8, reduceSub → j9, reduceMul → x0, reduceNeg → x3, reduceLT → x4, reduceLE → x5, reduceEq → x6, reduceNe → x7
open Go.RowKit Sx
section
attribute [local irreducible] run
def tkC (t:Tk):List AV:=[.i .i64 t.1,.s t.2.1,.i .i64 t.2.2]
def zf5 (t:Tk):AV:=.agg (tkC t)
def SlO (E sz n:Nat) (xs:List AV) (X:AV) (L:List (Nat × OB)):Prop :=
 (n=0 ∧ xs=[] ∧ X=.nil ∧ L=[]) ∨ ∃ b g,X=.orow b g ∧ L=[(b,.orow E sz g n xs)]
def MpO (f:Fr) (X:AV) (L:List (Nat × OB)):Prop :=
 (f.obj=false ∧ X=.o (.map none) ∧ L=[]) ∨ (f.obj=true ∧ ∃ b,X=.m b ∧ L=[(b,.mp (f.ks.map fun k => (k,AV.b true)))])
def kdF (f:Fr):Int:=if f.obj=true then 7 else 6
def FrO (f:Fr) (cs:List AV) (L:List (Nat × OB)):Prop :=
 ∃ kx ix mx Lk Li Lm,cs=[.i .i64 (kdF f),.s [],kx,ix,mx] ∧ SlO 9 1 f.ks.length (f.ks.map .s) kx Lk ∧ SlO 26 4 f.its.length (zac f.its) ix Li ∧ MpO f mx Lm ∧ L=Lk ++ (Li ++ Lm)
def StkO (M:List (Nat × OB)):List Fr → List AV → List (Nat × OB) → Prop
 | [],cs,L => cs=[] ∧ L=M
 | f :: r,cs,L => ∃ c0 c1 L0 L1,FrO f c1 L1 ∧ StkO M r c0 L0 ∧ cs=c0 ++ c1 ∧ L=L1 ++ L0
theorem zkf {M:List (Nat × OB)}:∀ {S:List Fr} {cs:List AV} {L:List (Nat × OB)},StkO M S cs L → cs.length=S.length * 5
 | [],cs,L,h => by rw [h.1]; rfl
 | f :: r,cs,L,h => by
  obtain ⟨c0,c1,L0,L1,⟨_,_,_,_,_,_,rfl,_⟩,h2,rfl,_⟩:=h
  rw [List.length_append,zkf h2,List.length_cons]
  simp only [List.length_cons,List.length_nil]
  omega
def StX (M:List (Nat × OB)) (S:List Fr) (X:AV) (L:List (Nat × OB)):Prop :=
 (S=[] ∧ X=.nil ∧ L=M) ∨ ∃ r g cs L',X=.orow r g ∧ StkO M S cs L' ∧ L=(r,.orow 90 5 g S.length cs) :: L'
def prB (st:Int) (X:AV) (nodes:Nat) (r0 r1 r2 r3:AV):OB:=.box 49 [.i .i64 st,X,.i .i64 (nodes:Int),r0,r1,r2,r3]
def PrO (M:List (Nat × OB)) (p:Nat) (σ:Ms) (o:List OB):Prop :=
 ∃ X r0 r1 r2 r3 L,zaQ ((p,prB σ.st X σ.nodes r0 r1 r2 r3) :: L) o ∧ StX M σ.stk X L ∧ zao [r0,r1,r2,r3]=true ∧ ((σ.st=6 ∨ σ.st=7) → [r0,r1,r2,r3]=zah σ.root)
theorem zgC {M:List (Nat × OB)} {p:Nat} {σ:Ms} {f:Fr} {r:List Fr} {o:List OB} (hP:PrO M p σ o) (hs:σ.stk=f :: r):∃ (rr g:Nat) (r0 r1 r2 r3 kx ix mx:AV) (c0:List AV) (L0 Lk Li Lm:List (Nat × OB)),
  zaQ ((p,prB σ.st (.orow rr g) σ.nodes r0 r1 r2 r3) :: (rr,.orow 90 5 g (r.length + 1) (c0 ++ [.i .i64 (kdF f),.s [],kx,ix,mx])) :: (Lk ++ (Li ++ Lm) ++ L0)) o ∧
  SlO 9 1 f.ks.length (f.ks.map .s) kx Lk ∧ SlO 26 4 f.its.length (zac f.its) ix Li ∧ MpO f mx Lm ∧ StkO M r c0 L0 ∧ c0.length=r.length * 5 ∧ zao [r0,r1,r2,r3]=true:=by
 obtain ⟨X,r0,r1,r2,r3,L,hO,hX,hpl,hr⟩:=hP
 rw [hs] at hX
 rcases hX with ⟨h,_⟩ | ⟨rr,g,cs,L',rfl,⟨c0,c1,L0,L1,⟨kx,ix,mx,Lk,Li,Lm,rfl,h1,h2,h3,rfl⟩,h4,rfl,rfl⟩,rfl⟩
 ·cases h
 ·exact ⟨rr,g,r0,r1,r2,r3,kx,ix,mx,c0,L0,Lk,Li,Lm,hO,h1,h2,h3,h4,zkf h4,hpl⟩
theorem zjD {M:List (Nat × OB)} {p:Nat} {st:Int} {nodes:Nat} {root:JV} {f:Fr} {r:List Fr} {o:List OB} {rr g:Nat} {r0 r1 r2 r3 kx ix mx:AV} {c0:List AV} {L0 Lk Li Lm:List (Nat × OB)}
  (hO:zaQ ((p,prB st (.orow rr g) nodes r0 r1 r2 r3) :: (rr,.orow 90 5 g (r.length + 1) (c0 ++ [.i .i64 (kdF f),.s [],kx,ix,mx])) :: (Lk ++ (Li ++ Lm) ++ L0)) o)
  (h1:SlO 9 1 f.ks.length (f.ks.map .s) kx Lk) (h2:SlO 26 4 f.its.length (zac f.its) ix Li) (h3:MpO f mx Lm) (h4:StkO M r c0 L0) (hpl:zao [r0,r1,r2,r3]=true) (h5:¬ (st=6 ∨ st=7)):PrO M p ⟨st,f :: r,nodes,root⟩ o :=
 ⟨_,r0,r1,r2,r3,_,hO,.inr ⟨rr,g,_,_,rfl,⟨c0,_,L0,_,⟨kx,ix,mx,Lk,Li,Lm,rfl,h1,h2,h3,rfl⟩,h4,rfl,rfl⟩,rfl⟩,hpl,fun h => absurd h h5⟩
theorem pr_app {M:List (Nat × OB)} {p:Nat} {σ:Ms} {o:List OB} (hP:PrO M p σ o) (more:List OB):PrO M p σ (o ++ more):=by
 obtain ⟨X,r0,r1,r2,r3,L,hO,hX,hpl,hr⟩:=hP
 exact ⟨X,r0,r1,r2,r3,L,hO.app more,hX,hpl,hr⟩
theorem perm_inK {α:Type} (a b:List α) (x:α):(x :: (a ++ b)).Perm (a ++ x :: b):=List.perm_middle.symm
theorem zgg {M:List (Nat × OB)}:∀ {S:List Fr} {cs:List AV} {L:List (Nat × OB)},StkO M S cs L → ∃ A,L=A ++ M ∧ ∀ M',StkO M' S cs (A ++ M')
 | [],cs,L,h => ⟨[],by rw [h.2]; rfl,fun M' => ⟨h.1,rfl⟩⟩
 | f :: r,cs,L,h => by
  obtain ⟨c0,c1,L0,L1,h1,h2,rfl,rfl⟩:=h
  obtain ⟨A,rfl,hA⟩:=zgg h2
  exact ⟨L1 ++ A,by rw [List.append_assoc],fun M' => ⟨c0,c1,A ++ M',L1,h1,hA M',rfl,by rw [List.append_assoc]⟩⟩
theorem zke {M:List (Nat × OB)} {S:List Fr} {X:AV} {L:List (Nat × OB)} (h:StX M S X L):∃ A,L=A ++ M ∧ ∀ M',StX M' S X (A ++ M'):=by
 rcases h with ⟨h1,h2,h3⟩ | ⟨r,g,cs,L',h1,h2,h3⟩
 ·exact ⟨[],by rw [h3]; rfl,fun M' => .inl ⟨h1,h2,rfl⟩⟩
 ·obtain ⟨A,rfl,hA⟩:=zgg h2
  exact ⟨_ :: A,by rw [h3]; rfl,fun M' => .inr ⟨r,g,cs,A ++ M',h1,hA M',rfl⟩⟩
theorem zds {M:List (Nat × OB)} {p:Nat} {σ:Ms} {o:List OB} (hP:PrO M p σ o):∃ B A,zaQ ((p,B) :: (A ++ M)) o ∧ ∀ M' o',zaQ ((p,B) :: (A ++ M')) o' → PrO M' p σ o':=by
 obtain ⟨X,r0,r1,r2,r3,L,hO,hX,hpl,hr⟩:=hP
 obtain ⟨A,rfl,hA⟩:=zke hX
 exact ⟨_,A,hO,fun M' o' h => ⟨X,r0,r1,r2,r3,_,h,hA M',hpl,hr⟩⟩
theorem zbM {M:List (Nat × OB)} {p:Nat} {σ:Ms} {o:List OB} (hP:PrO M p σ o) {i:Nat} {x:OB} (h:(i,x) ∈ M):o[i]? = some x:=by
 obtain ⟨B,A,hO,_⟩:=zds hP
 exact hO.get (by simp [h])
theorem pr_lt {M:List (Nat × OB)} {p:Nat} {σ:Ms} {o:List OB} (hP:PrO M p σ o) {i:Nat} {x:OB} (h:(i,x) ∈ M):i < o.length:=(List.getElem?_eq_some_iff.1 (zbM hP h)).1
theorem zgD {M:List (Nat × OB)} {p:Nat} {σ:Ms} {o:List OB} (hP:PrO M p σ o) (x:OB):PrO ((o.length,x) :: M) p σ (o ++ [x]):=by
 obtain ⟨B,A,hO,hM⟩:=zds hP
 exact hM _ _ ((hO.new x).perm (perm_inK (_ :: A) M _))
theorem zat {M:List (Nat × OB)} {z:Nat × OB} {p:Nat} {σ:Ms} {o:List OB} (hP:PrO (z :: M) p σ o):PrO M p σ o:=by
 obtain ⟨B,A,hO,hM⟩:=zds hP
 exact hM _ _ (hO.sub (((List.sublist_cons_self z M).append_left A).cons_cons _))
theorem pr_set {M:List (Nat × OB)} {i p:Nat} {x:OB} {σ:Ms} {o:List OB} (hP:PrO ((i,x) :: M) p σ o) (y:OB):PrO ((i,y) :: M) p σ (o.set i y):=by
 obtain ⟨B,A,hO,hM⟩:=zds hP
 exact hM _ _ (zaQ.set (A:=_ :: A) y hO)
theorem c5_at (c0 l:List AV) (n j:Nat) (h:c0.length=n * 5):(c0 ++ l)[n * 5 + j]? = l[j]?:=by
 rw [List.getElem?_append_right (by omega),show n * 5 + j - c0.length=j by omega]
theorem c5_at0 (c0 l:List AV) (n:Nat) (h:c0.length=n * 5):(c0 ++ l)[n * 5]? = l[0]?:=c5_at c0 l n 0 h
section
variable [Tabs Tryz.prog] {objs:List OB} {K:List OB → AV → Prop}
theorem zdu (t:Tk) (c:UInt8) (hk:K objs (.b (isP t c))):zad Tryz.prog 39 [zf5 t,.s [c]] objs K:=by
 refine zaN is_jsondoc_isPunct rfl fun C _ => ?_
 unfold isP at hk
 by_cases c1:t.1=2
 ·by_cases c2:t.2.1=[c]
  ·simp only [c1,c2,decide_true,Bool.and_self] at hk
   simp only [c_jsondoc_isPunct,zf5,tkC,sxZ,z6,z7,z8,j4,j5,j6,j7,j8,j9,x0,x3,x4,x5,x6,x7,reduceCtorEq,↓reduceIte,c1,c2]
   exact hk
  ·simp only [c1,c2,decide_true,decide_false,Bool.and_false] at hk
   simp only [c_jsondoc_isPunct,zf5,tkC,sxZ,z6,z7,z8,j4,j5,j6,j7,j8,j9,x0,x3,x4,x5,x6,x7,reduceCtorEq,↓reduceIte,c1,c2]
   exact hk
 ·simp only [c1,decide_false,Bool.false_and] at hk
  simp only [c_jsondoc_isPunct,zf5,tkC,sxZ,z6,z7,z8,j4,j5,j6,j7,j8,j9,x0,x3,x4,x5,x6,x7,reduceCtorEq,↓reduceIte,c1]
  exact hk
theorem zhh (t:Tk) (hk:K objs (.i .i64 (vkE t))):zad Tryz.prog 60 [zf5 t] objs K:=by
 have e:∀ (o:List OB) (K:List OB → AV → Prop) (c:UInt8),K o (.b (isP t c)) → zad Tryz.prog 39 [.agg [.i .i64 t.1,.s t.2.1,.i .i64 t.2.2],.s [c]] o K:=fun o K c h => zdu t c h
 refine zaN is_jsondoc_valueKind rfl fun C _ => ?_
 unfold vkE zfw trueL zl6 at hk
 rw [c_jsondoc_valueKind]
 refine zaa fun Y hY => ?_
 simp only [zf5,tkC,sxZ,z6,z7,z8,j4,j5,j6,j7,j8,j9,x0,x3,x4,x5,x6,x7,reduceCtorEq,↓reduceIte]
 subst hY
 by_cases c1:t.1=3
 ·rw [if_pos c1] at hk
  simp only [sxZ,z6,z7,z8,j4,j5,j6,j7,j8,j9,x0,x3,x4,x5,x6,x7,reduceCtorEq,↓reduceIte,c1]
  exact hk
 rw [if_neg c1] at hk
 by_cases c2:t.1=4
 ·rw [if_pos c2] at hk
  simp only [sxZ,z6,z7,z8,j4,j5,j6,j7,j8,j9,x0,x3,x4,x5,x6,x7,reduceCtorEq,↓reduceIte,c1,c2]
  exact hk
 rw [if_neg c2] at hk
 simp only [sxZ,z6,z7,z8,j4,j5,j6,j7,j8,j9,x0,x3,x4,x5,x6,x7,reduceCtorEq,↓reduceIte,c1,c2]
 refine zam (e _ _ 91 ?_)
 cases c3:isP t 91
 rotate_left
 ·rw [if_pos c3] at hk
  simp only [sxZ,z6,z7,z8,j4,j5,j6,j7,j8,j9,x0,x3,x4,x5,x6,x7,reduceCtorEq,↓reduceIte]
  exact hk
 rw [if_neg (by rw [c3]; exact Bool.false_ne_true)] at hk
 simp only [sxZ,z6,z7,z8,j4,j5,j6,j7,j8,j9,x0,x3,x4,x5,x6,x7,reduceCtorEq,↓reduceIte]
 refine zam (e _ _ 123 ?_)
 cases c4:isP t 123
 rotate_left
 ·rw [if_pos c4] at hk
  simp only [sxZ,z6,z7,z8,j4,j5,j6,j7,j8,j9,x0,x3,x4,x5,x6,x7,reduceCtorEq,↓reduceIte]
  exact hk
 rw [if_neg (by rw [c4]; exact Bool.false_ne_true)] at hk
 by_cases c5:t.1=5
 rotate_left
 ·rw [if_pos c5] at hk
  simp only [sxZ,z6,z7,z8,j4,j5,j6,j7,j8,j9,x0,x3,x4,x5,x6,x7,reduceCtorEq,↓reduceIte,c5]
  exact hk
 rw [if_neg (fun h => h c5)] at hk
 by_cases c6:t.2.1=[116,114,117,101]
 ·rw [if_pos c6] at hk
  simp only [sxZ,z6,z7,z8,j4,j5,j6,j7,j8,j9,x0,x3,x4,x5,x6,x7,reduceCtorEq,↓reduceIte,c5,c6]
  exact hk
 rw [if_neg c6] at hk
 by_cases c7:t.2.1=[102,97,108,115,101]
 ·rw [if_pos c7] at hk
  have n1:¬ ([102,97,108,115,101]:List UInt8)=[116,114,117,101]:=by decide
  simp only [sxZ,z6,z7,z8,j4,j5,j6,j7,j8,j9,x0,x3,x4,x5,x6,x7,reduceCtorEq,↓reduceIte,c5,c7,n1]
  exact hk
 rw [if_neg c7] at hk
 simp only [sxZ,z6,z7,z8,j4,j5,j6,j7,j8,j9,x0,x3,x4,x5,x6,x7,reduceCtorEq,↓reduceIte,c5,c6,c7]
 exact hk
theorem zj9 {p r g n:Nat} {st:Int} {nodes:Nat} {r0 r1 r2 r3:AV} {cs:List AV} (hb:objs[p]? = some (prB st (.orow r g) nodes r0 r1 r2 r3)) (hr:objs[r]? = some (.orow 90 5 g (n + 1) cs)) (hn:n ≤ 1000000)
  (hk:K objs (.porow r g (n * 5))):zad Tryz.prog 64 [.p p 0] objs K:=by
 refine zbP is_jsondoc_parser_top fun C _ => ?_
 unfold prB at hb
 simp only [c_jsondoc_parser_top,sxZ,z6,z7,z8,j4,j5,j6,j7,j8,j9,x0,x3,x4,x5,x6,x7,reduceCtorEq,↓reduceIte,hb,hr]
 refine ⟨⟨by omega,by omega⟩,⟨by omega,by omega⟩,?_⟩
 rw [show ((n + 1:Nat):Int) - 1=(n:Int) by omega,Int.toNat_natCast]
 exact hk
theorem zeJ {M:List (Nat × OB)} {p:Nat} {σ:Ms} {f:Fr} {r:List Fr} (hP:PrO M p σ objs) (hs:σ.stk=f :: r) (hd:r.length ≤ 1000000) (t:Tk) (hk:∀ o,PrO M p σ o → K o (.b (zeK σ t))):zad Tryz.prog 36 [.p p 0,zf5 t] objs K:=by
 obtain ⟨rr,g,r0,r1,r2,r3,kx,ix,mx,c0,L0,Lk,Li,Lm,hO,h1,h2,h3,h4,h5,h6⟩:=zgC hP hs
 have hO1:=hO.new (.box 51 (tkC t))
 have hP1:=hk _ (pr_app hP [.box 51 (tkC t)])
 refine zbP is_jsondoc_parser_isClose fun C _ => ?_
 rw [c_jsondoc_parser_isClose]
 refine zaa fun Y hY => ?_
 simp only [zf5,sxZ,z6,z7,z8,j4,j5,j6,j7,j8,j9,x0,x3,x4,x5,x6,x7,reduceCtorEq,↓reduceIte]
 generalize objs ++ [OB.box 51 (tkC t)]=o1 at hO1 hP1 ⊢
 have e0:=hO1.get (i:=objs.length) (x:=.box 51 (tkC t)) (by simp)
 have e1:=hO1.get (i:=p) (x:=prB σ.st (.orow rr g) σ.nodes r0 r1 r2 r3) (by simp)
 have e2:=hO1.get (i:=rr) (x:=.orow 90 5 g (r.length + 1) (c0 ++ [.i .i64 (kdF f),.s [],kx,ix,mx])) (by simp)
 have e3:=c5_at0 c0 [.i .i64 (kdF f),.s [],kx,ix,mx] r.length h5
 subst hY
 refine zaa fun Y hY => ?_
 simp only [sxZ,z6,z7,z8,j4,j5,j6,j7,j8,j9,x0,x3,x4,x5,x6,x7,reduceCtorEq,↓reduceIte]
 refine zam (zj9 e1 e2 hd ?_)
 simp only [sxZ,z6,z7,z8,j4,j5,j6,j7,j8,j9,x0,x3,x4,x5,x6,x7,reduceCtorEq,↓reduceIte,e2,Nat.add_zero,e3]
 have ht:∀ c,zad Tryz.prog 39 [zf5 t,.s [c]] o1 (fun o r => o=o1 ∧ r=.b (isP t c)):=fun c => zdu t c ⟨rfl,rfl⟩
 unfold zeK at hP1
 rw [hs] at hP1
 simp only at hP1
 unfold zf5 tkC at ht
 unfold tkC at e0
 cases hf:f.obj
 ·simp only [hf,Bool.false_eq_true,if_false] at hP1
  have hkd:kdF f=6:=by unfold kdF; rw [hf]; rfl
  simp only [sxZ,z6,z7,z8,j4,j5,j6,j7,j8,j9,x0,x3,x4,x5,x6,x7,reduceCtorEq,↓reduceIte,hkd]
  subst hY
  simp only [sxZ,z6,z7,z8,j4,j5,j6,j7,j8,j9,x0,x3,x4,x5,x6,x7,reduceCtorEq,↓reduceIte,e0]
  refine zam ((ht 93).mono ?_)
  rintro o x ⟨rfl,rfl⟩
  simp only [sxZ,z6,z7,z8,j4,j5,j6,j7,j8,j9,x0,x3,x4,x5,x6,x7,reduceCtorEq,↓reduceIte]
  exact hP1
 ·simp only [hf,if_true] at hP1
  have hkd:kdF f=7:=by unfold kdF; rw [hf]; rfl
  simp only [sxZ,z6,z7,z8,j4,j5,j6,j7,j8,j9,x0,x3,x4,x5,x6,x7,reduceCtorEq,↓reduceIte,hkd,e0]
  refine zam ((ht 125).mono ?_)
  rintro o x ⟨rfl,rfl⟩
  simp only [sxZ,z6,z7,z8,j4,j5,j6,j7,j8,j9,x0,x3,x4,x5,x6,x7,reduceCtorEq,↓reduceIte]
  exact hP1
end
end
section
attribute [local irreducible] run
def leS (a b:List UInt8):Bool:=zbt a b || a == b
theorem zc7:∀ (a b c:List UInt8),zbt a b=true → zbt b c=true → zbt a c=true
 | _,[],_,h,_ => by simp [zbt,Op.bytesLess] at h
 | [],_ :: _,[],_,h => by simp [zbt,Op.bytesLess] at h
 | _ :: _,_ :: _,[],_,h => by simp [zbt,Op.bytesLess] at h
 | [],_ :: _,_ :: _,_,_ => by simp [zbt,Op.bytesLess]
 | a :: x,b :: y,c :: z,h,k => by
  simp only [zbt,Op.bytesLess,Bool.or_eq_true,Bool.and_eq_true,decide_eq_true_eq,beq_iff_eq] at h k ⊢
  rcases h with h | ⟨rfl,h⟩
  ·rcases k with k | ⟨rfl,k⟩
   ·exact .inl (UInt8.lt_trans h k)
   ·exact .inl h
  ·rcases k with k | ⟨rfl,k⟩
   ·exact .inl k
   ·exact .inr ⟨rfl,zc7 x y z h k⟩
theorem zeo:∀ (a b:List UInt8),zbt a b=true ∨ a=b ∨ zbt b a=true
 | [],[] => .inr (.inl rfl)
 | [],_ :: _ => .inl rfl
 | _ :: _,[] => .inr (.inr rfl)
 | a :: x,b :: y => by
  simp only [zbt,Op.bytesLess,Bool.or_eq_true,Bool.and_eq_true,decide_eq_true_eq,beq_iff_eq]
  by_cases h1:a < b
  ·exact .inl (.inl h1)
  by_cases h2:b < a
  ·exact .inr (.inr (.inl h2))
  have e:a=b:=UInt8.le_antisymm (UInt8.not_lt.1 h2) (UInt8.not_lt.1 h1)
  subst e
  rcases zeo x y with h | h | h
  ·exact .inl (.inr ⟨rfl,h⟩)
  ·exact .inr (.inl (by rw [h]))
  ·exact .inr (.inr (.inr ⟨rfl,h⟩))
theorem zdX:∀ a:List UInt8,zbt a a=false
 | [] => rfl
 | a :: x => by
  have h0:¬ a < a:=UInt8.lt_irrefl a
  have h:=zdX x
  unfold zbt at h
  simp [zbt,Op.bytesLess,h0,h]
theorem zlm (a b c:List UInt8) (h:leS a b=true) (k:leS b c=true):leS a c=true:=by
 unfold leS at *
 rw [Bool.or_eq_true,beq_iff_eq] at *
 rcases h with h | rfl
 ·rcases k with k | rfl
  ·exact .inl (zc7 _ _ _ h k)
  ·exact .inl h
 ·exact k
theorem zln (a b:List UInt8):(leS a b || leS b a)=true:=by
 unfold leS
 rcases zeo a b with h | rfl | h
 ·rw [h]; rfl
 ·simp
 ·rw [h]; simp
theorem leS_anti (a b:List UInt8) (h:leS a b=true) (k:leS b a=true):a=b:=by
 unfold leS at *
 rw [Bool.or_eq_true,beq_iff_eq] at *
 rcases h with h | h
 ·rcases k with k | k
  ·have:=zc7 _ _ _ h k
   rw [zdX] at this; cases this
  ·exact k.symm
 ·exact h
def zf6:Nat → List (List UInt8) → List (List UInt8)
 | 0,l => l
 | f + 1,l => if l.length < 2 then l else List.merge (zf6 f (l.take (l.length / 2))) (zf6 f (l.drop (l.length / 2))) leS
theorem zbK:∀ (f:Nat) (l:List (List UInt8)),(zf6 f l).Perm l
 | 0,l => List.Perm.refl _
 | f + 1,l => by
  rw [zf6]
  split
  ·exact List.Perm.refl _
  ·refine (List.merge_perm_append _).trans ?_
   refine ((zbK f _).append (zbK f _)).trans ?_
   rw [List.take_append_drop]
theorem zc8:∀ (f:Nat) (l:List (List UInt8)),l.length ≤ f → (zf6 f l).Pairwise (fun a b => leS a b=true)
 | 0,l,h => by
  have:l=[]:=List.eq_nil_of_length_eq_zero (by omega)
  subst this
  exact List.Pairwise.nil
 | f + 1,l,h => by
  rw [zf6]
  split
  ·rename_i h2
   match l,h2 with
   | [],_ => exact List.Pairwise.nil
   | [a],_ => exact List.pairwise_singleton _ _
   | a :: b :: l,h2 => simp at h2; omega
  ·exact List.pairwise_merge zlm zln _ _ (zc8 f _ (by rw [List.length_take]; omega)) (zc8 f _ (by rw [List.length_drop]; omega))
section
variable [Tabs Tryz.prog]
theorem sorted_k:∀ (f:Nat) (l:List (List UInt8)),l.length ≤ f → l.length ≤ 1099511627780 → ∀ {objs:List OB} {K:List OB → AV → Prop},K objs (.row (zf6 f l).length ((zf6 f l).map .s)) → zad Tryz.prog 78 [.row l.length (l.map .s)] objs K:=by
 intro f
 induction f with
 | zero =>
  intro l hl hb objs K hk
  have e:l=[]:=List.eq_nil_of_length_eq_zero (by omega)
  subst e
  refine zaN is_ref15_sorted rfl fun C _ => ?_
  rw [c_ref15_sorted]
  have z:((0:Nat):Int) < 2:=by decide
  simp only [sxZ,z6,z7,z8,j4,j5,j6,j7,j8,j9,x0,x3,x4,x5,x6,x7,reduceCtorEq,↓reduceIte,List.length_nil,List.map_nil,z]
  exact hk
 | succ f ih =>
  intro l hl hb objs K hk
  refine zaN is_ref15_sorted (by simp only [zao,AV.plain,zau,Bool.and_self]) fun C _ => ?_
  rw [c_ref15_sorted]
  refine zaa fun Z hZ => ?_
  simp only [sxZ,z6,z7,z8,j4,j5,j6,j7,j8,j9,x0,x3,x4,x5,x6,x7,reduceCtorEq,↓reduceIte]
  subst hZ
  refine zaa fun Z hZ => ?_
  rw [zf6] at hk
  by_cases c2:l.length < 2
  ·rw [if_pos c2] at hk
   have c2':(l.length:Int) < 2:=by omega
   simp only [sxZ,z6,z7,z8,j4,j5,j6,j7,j8,j9,x0,x3,x4,x5,x6,x7,reduceCtorEq,↓reduceIte,c2',zau]
   exact hk
  rw [if_neg c2] at hk
  have c2':¬ (l.length:Int) < 2:=by omega
  simp only [sxZ,z6,z7,z8,j4,j5,j6,j7,j8,j9,x0,x3,x4,x5,x6,x7,reduceCtorEq,↓reduceIte,c2']
  subst hZ
  refine zaa fun Z hZ => ?_
  have hq:((l.length:Int)).tdiv 2=((l.length / 2:Nat):Int):=(Int.ofNat_tdiv l.length 2).symm
  generalize hh:l.length / 2=h at hk hq
  have ihx:=fun (l':List (List UInt8)) (n:Nat) (xs:List AV) (hn:n=l'.length) (hx:xs=l'.map .s) (h1:l'.length ≤ f) (h2:l'.length ≤ 1099511627780) {objs:List OB} {K:List OB → AV → Prop} (hk:K objs (.row (zf6 f l').length ((zf6 f l').map .s))) => (by subst hn hx; exact ih l' h1 h2 hk:zad Tryz.prog 78 [.row n xs] objs K)
  have hla:(l.take h).length=h:=by rw [List.length_take]; omega
  have hlb:(l.drop h).length=l.length - h:=List.length_drop
  have ha:List.take (h * 1) (l.map AV.s)=(l.take h).map .s:=by rw [Nat.mul_one,List.map_take]
  have hb2:List.drop (h * 1) (List.take (l.length * 1) (l.map AV.s))=(l.drop h).map .s:=by
   rw [Nat.mul_one,Nat.mul_one,List.take_of_length_le (by simp),List.map_drop]
  simp only [sxZ,z6,z7,z8,j4,j5,j6,j7,j8,j9,x0,x3,x4,x5,x6,x7,reduceCtorEq,↓reduceIte,hq,Int.toNat_natCast]
  refine ⟨⟨by omega,by omega⟩,⟨by omega,by omega⟩,?_⟩
  refine kpcall (ihx (l.take h) h _ hla.symm ha (by omega) (by omega) rfl) (by rw [ha]; simp only [zao,AV.plain,zau,Bool.and_self]) (by simp only [AV.plain,zau]) ?_
  simp only [sxZ,z6,z7,z8,j4,j5,j6,j7,j8,j9,x0,x3,x4,x5,x6,x7,reduceCtorEq,↓reduceIte,hq,Int.toNat_natCast]
  refine ⟨⟨by omega,by omega⟩,⟨by omega,by omega⟩,?_⟩
  refine kpcall (ihx (l.drop h) _ _ hlb.symm hb2 (by omega) (by omega) rfl) (by rw [hb2]; simp only [zao,AV.plain,zau,Bool.and_self]) (by simp only [AV.plain,zau]) ?_
  have hra:0 < (zf6 f (l.take h)).length:=by rw [(zbK f _).length_eq]; omega
  have hrb:0 < (zf6 f (l.drop h)).length:=by rw [(zbK f _).length_eq]; omega
  have hls:(zf6 f (l.take h)).length + (zf6 f (l.drop h)).length=l.length:=by rw [(zbK f _).length_eq,(zbK f _).length_eq]; omega
  generalize zf6 f (l.take h)=ra at hk hra hls ⊢
  generalize zf6 f (l.drop h)=rb at hk hrb hls ⊢
  simp only [sxZ,z6,z7,z8,j4,j5,j6,j7,j8,j9,x0,x3,x4,x5,x6,x7,reduceCtorEq,↓reduceIte]
  subst hZ
  refine zaa fun Z hZ => ?_
  simp only [sxZ,z6,z7,z8,j4,j5,j6,j7,j8,j9,x0,x3,x4,x5,x6,x7,reduceCtorEq,↓reduceIte]
  subst hZ
  refine zaa fun Z hZ => ?_
  rw [zaO]
  refine zaE (fun n o tm => ∃ (acc a b:List (List UInt8)) (X:AV),n=a.length + b.length ∧ List.merge ra rb leS=acc ++ List.merge a b leS ∧ acc.length + a.length + b.length=l.length ∧ (acc=[] → a=ra ∧ b=rb) ∧ ((acc=[] ∧ o=[] ∧ X=.nil) ∨ ∃ g,o=[.orow 9 1 g acc.length (acc.map .s)] ∧ X=.orow 0 g) ∧
   tm.length=58 ∧ tm[3]? = some (.row a.length (a.map .s)) ∧ tm[4]? = some (.row b.length (b.map .s)) ∧ tm[5]? = some X) (ra.length + rb.length) ⟨[],ra,rb,.nil,rfl,rfl,by rw [List.length_nil]; omega,fun _ => ⟨rfl,rfl⟩,.inl ⟨rfl,rfl,rfl⟩,rfl,rfl,rfl,rfl⟩ ?_
  rintro n o tm ⟨acc,a,b,X,rfl,hm,hlen2,hin,hX,hlen,t3,t4,t5⟩
  have last:∀ (tm:List AV),(a=[] ∨ b=[]) → tm.length=58 → tm[3]? = some (.row a.length (a.map .s)) → tm[4]? = some (.row b.length (b.map .s)) → tm[5]? = some X → run Tryz.prog C [.code Z] o tm (endK [.tmp 2] fun r => K objs r):=by
   intro tm hab hlen t3 t4 t5
   have hmab:List.merge a b leS=a ++ b:=by
    rcases hab with rfl | rfl
    ·rw [List.nil_merge]; rfl
    ·rw [List.merge_right,List.append_nil]
   rcases hX with ⟨h1,_,_⟩ | ⟨g,rfl,rfl⟩
   ·obtain ⟨rfl,rfl⟩:=hin h1
    rcases hab with rfl | rfl
    ·simp at hra
    ·simp at hrb
   subst hZ
   simp only [sxZ,z6,z7,z8,j4,j5,j6,j7,j8,j9,x0,x3,x4,x5,x6,x7,reduceCtorEq,↓reduceIte,List.getElem?_set,hlen,t3,t4,t5]
   refine ⟨⟨by simp,by omega,by omega⟩,⟨by simp,by omega,by omega⟩,?_⟩
   rw [← List.map_append,← List.map_append,zeA]
   rw [hm,hmab,← List.append_assoc,List.length_append,List.length_append] at hk
   exact hk
  refine zaa fun W hW => ?_
  cases a with
  | nil =>
   have z:¬ (0:Int) < ((0:Nat):Int):=by decide
   simp only [sxZ,z6,z7,z8,j4,j5,j6,j7,j8,j9,x0,x3,x4,x5,x6,x7,reduceCtorEq,↓reduceIte,List.getElem?_set,hlen,t3,List.length_nil,z]
   refine last _ (.inl rfl) ?_ ?_ ?_ ?_
   all_goals simp only [List.length_set,List.getElem?_set,hlen,t3,t4,t5,Nat.reduceEqDiff,if_false,reduceIte]
  | cons x a =>
  cases b with
  | nil =>
   have z:¬ (0:Int) < ((0:Nat):Int):=by decide
   have z2:(0:Int) < ((a.length + 1:Nat):Int):=by omega
   simp only [sxZ,z6,z7,z8,j4,j5,j6,j7,j8,j9,x0,x3,x4,x5,x6,x7,reduceCtorEq,↓reduceIte,List.getElem?_set,hlen,t3,t4,List.length_nil,List.length_cons,z,z2]
   refine last _ (.inr rfl) ?_ ?_ ?_ ?_
   all_goals simp only [List.length_set,List.getElem?_set,hlen,t3,t4,t5,Nat.reduceEqDiff,if_false,reduceIte]
  | cons y b =>
  have z1:(0:Int) < ((b.length + 1:Nat):Int):=by omega
  have z2:(0:Int) < ((a.length + 1:Nat):Int):=by omega
  simp only [sxZ,z6,z7,z8,j4,j5,j6,j7,j8,j9,x0,x3,x4,x5,x6,x7,reduceCtorEq,↓reduceIte,List.getElem?_set,hlen,t3,t4,List.length_cons,z1,z2]
  subst hW
  rw [zaO]
  refine zaa fun W hW => ?_
  simp only [sxZ,z6,z7,z8,j4,j5,j6,j7,j8,j9,x0,x3,x4,x5,x6,x7,reduceCtorEq,↓reduceIte,List.getElem?_set,hlen,t3,t4,List.map_cons,List.length_cons]
  refine ⟨⟨by omega,by simp⟩,⟨by omega,by simp⟩,?_⟩
  have hxa:List.drop 1 (List.take ((a.length + 1) * 1) (AV.s x :: a.map AV.s))=a.map .s:=by
   rw [Nat.mul_one,List.take_of_length_le (by simp)]; rfl
  have hxb:List.drop 1 (List.take ((b.length + 1) * 1) (AV.s y :: b.map AV.s))=b.map .s:=by
   rw [Nat.mul_one,List.take_of_length_le (by simp)]; rfl
  have hla1:a.length + 1 - 1=a.length:=rfl
  have hlb1:b.length + 1 - 1=b.length:=rfl
  simp only [List.length_cons] at hlen2
  subst hW
  cases hle:(zbt x y || x == y) with
  | true =>
   have hm2:List.merge ra rb leS=(acc ++ [x]) ++ List.merge a (y :: b) leS:=by
    rw [hm,List.cons_merge_cons,if_pos (show leS x y=true from hle),List.append_assoc]; rfl
   rcases hX with ⟨h1,rfl,rfl⟩ | ⟨g,rfl,rfl⟩
   ·simp only [sxZ,z6,z7,z8,j4,j5,j6,j7,j8,j9,x0,x3,x4,x5,x6,x7,reduceCtorEq,↓reduceIte,List.getElem?_set,hlen,t3,t5,hle,List.map_cons,List.length_cons]
    refine ⟨⟨by omega,by simp⟩,by omega,_,?_,acc ++ [x],a,y :: b,_,rfl,hm2,by simp only [List.length_append,List.length_cons,List.length_nil] at hlen2 ⊢; omega,fun h => by simp at h,.inr ⟨_,by rw [h1]; rfl,rfl⟩,by rw [hxa]; rfl,t4,rfl⟩
    ·show _ < _; simp only [List.length_cons]; omega
   ·simp only [sxZ,z6,z7,z8,j4,j5,j6,j7,j8,j9,x0,x3,x4,x5,x6,x7,reduceCtorEq,↓reduceIte,List.getElem?_set,hlen,t3,t5,hle,List.map_cons,List.length_cons]
    refine ⟨⟨by omega,by simp⟩,⟨by omega,by omega⟩,by omega,_,?_,acc ++ [x],a,y :: b,_,rfl,hm2,by simp only [List.length_append,List.length_cons,List.length_nil] at hlen2 ⊢; omega,fun h => by simp at h,.inr ⟨_,by rw [List.map_append,List.length_append]; rfl,rfl⟩,by rw [hxa]; rfl,t4,rfl⟩
    ·show _ < _; simp only [List.length_cons]; omega
  | false =>
   have hm2:List.merge ra rb leS=(acc ++ [y]) ++ List.merge (x :: a) b leS:=by
    rw [hm,List.cons_merge_cons,if_neg (show ¬ leS x y=true from by unfold leS; rw [hle]; exact Bool.false_ne_true),List.append_assoc]; rfl
   rcases hX with ⟨h1,rfl,rfl⟩ | ⟨g,rfl,rfl⟩
   ·simp only [sxZ,z6,z7,z8,j4,j5,j6,j7,j8,j9,x0,x3,x4,x5,x6,x7,reduceCtorEq,↓reduceIte,List.getElem?_set,hlen,t4,t5,hle,List.map_cons,List.length_cons]
    refine ⟨⟨by omega,by simp⟩,by omega,_,?_,acc ++ [y],x :: a,b,_,rfl,hm2,by simp only [List.length_append,List.length_cons,List.length_nil] at hlen2 ⊢; omega,fun h => by simp at h,.inr ⟨_,by rw [h1]; rfl,rfl⟩,t3,by rw [hxb]; rfl,rfl⟩
    ·show _ < _; simp only [List.length_cons]; omega
   ·simp only [sxZ,z6,z7,z8,j4,j5,j6,j7,j8,j9,x0,x3,x4,x5,x6,x7,reduceCtorEq,↓reduceIte,List.getElem?_set,hlen,t4,t5,hle,List.map_cons,List.length_cons]
    refine ⟨⟨by omega,by simp⟩,⟨by omega,by omega⟩,by omega,_,?_,acc ++ [y],x :: a,b,_,rfl,hm2,by simp only [List.length_append,List.length_cons,List.length_nil] at hlen2 ⊢; omega,fun h => by simp at h,.inr ⟨_,by rw [List.map_append,List.length_append]; rfl,rfl⟩,t3,by rw [hxb]; rfl,rfl⟩
    ·show _ < _; simp only [List.length_cons]; omega
end
end
section
attribute [local irreducible] run
def zfV (ks:List (List UInt8)):Bool:=decide ks.Nodup && ks.all zct
theorem zd1:∀ {s:List (List UInt8)},s.Pairwise (fun a b => leS a b=true) → (∀ j a b,s[j]? = some a → s[j + 1]? = some b → a ≠ b) → s.Nodup
 | [],_,_ => List.nodup_nil
 | a :: s,h,k => by
  rw [List.pairwise_cons] at h
  rw [List.nodup_cons]
  refine ⟨fun hm => ?_,zd1 h.2 fun j x y hx hy => k (j + 1) x y (by simpa using hx) (by simpa using hy)⟩
  cases s with
  | nil => cases hm
  | cons b s =>
   have hab:=k 0 a b rfl rfl
   rcases List.mem_cons.1 hm with e | hm
   ·exact hab e
   ·have h1:=h.1 b (by simp)
    have h2:=(List.pairwise_cons.1 h.2).1 a hm
    exact hab (leS_anti _ _ h1 h2)
section
variable [Tabs Tryz.prog] {objs:List OB} {K:List OB → AV → Prop}
theorem zhM (l:List (List UInt8)) (hb:l.length ≤ 1099511627780) (ht:∀ k ∈ l,k.length ≤ 140737488351232) (hk:K objs (.b (zfV l))):zad Tryz.prog 76 [.row l.length (l.map .s)] objs K:=by
 refine zaN is_ref15_different (by simp only [zao,AV.plain,zau,Bool.and_self]) fun C _ => ?_
 rw [c_ref15_different]
 refine zaa fun Z hZ => ?_
 simp only [sxZ,z6,z7,z8,j4,j5,j6,j7,j8,j9,x0,x3,x4,x5,x6,x7,reduceCtorEq,↓reduceIte]
 subst hZ
 refine zaa fun Z hZ => ?_
 simp only [sxZ,z6,z7,z8,j4,j5,j6,j7,j8,j9,x0,x3,x4,x5,x6,x7,reduceCtorEq,↓reduceIte]
 refine zam (sorted_k l.length l (Nat.le_refl _) hb ?_)
 have hp:=zbK l.length l
 have hso:=zc8 l.length l (Nat.le_refl _)
 generalize zf6 l.length l=s at hp hso ⊢
 have hsl:=hp.length_eq
 have hst:∀ k ∈ s,k.length ≤ 140737488351232:=fun k hk => ht k (hp.mem_iff.1 hk)
 have no:(∃ k ∈ s,zct k=false) ∨ ¬ s.Nodup → zfV l=false:=by
  intro h
  unfold zfV
  rcases h with ⟨k,h1,h2⟩ | h
  ·have:l.all zct=false:=by
    rw [List.all_eq_false]
    exact ⟨k,hp.mem_iff.1 h1,by rw [h2]; exact Bool.false_ne_true⟩
   rw [this,Bool.and_false]
  ·have:¬ l.Nodup:=fun hn => h (hp.nodup_iff.2 hn)
   rw [decide_eq_false this]; rfl
 simp only [sxZ,z6,z7,z8,j4,j5,j6,j7,j8,j9,x0,x3,x4,x5,x6,x7,reduceCtorEq,↓reduceIte]
 subst hZ
 refine zaa fun Z hZ => ?_
 simp only [sxZ,z6,z7,z8,j4,j5,j6,j7,j8,j9,x0,x3,x4,x5,x6,x7,reduceCtorEq,↓reduceIte]
 refine zaE (fun n o tm => ∃ i:Nat,i ≤ s.length ∧ n=s.length - i ∧ o=[] ∧ (∀ j a,j < i → s[j]? = some a → zct a=true) ∧ (∀ j a b,j + 1 < i → s[j]? = some a → s[j + 1]? = some b → a ≠ b) ∧ tm.length=32 ∧ tm[3]? = some (.row s.length (s.map .s)) ∧ tm[8]? = some (.row s.length (s.map .s)) ∧ tm[9]? = some (.i .i64 (s.length:Int)) ∧ tm[10]? = some (.i .i64 (i:Int))) s.length ⟨0,Nat.zero_le _,rfl,rfl,fun j a h => by omega,fun j a b h => by omega,rfl,rfl,rfl,rfl,rfl⟩ ?_
 rintro n _ tm ⟨i,hi,rfl,rfl,hv,hd,hlen,t3,t8,t9,t10⟩
 refine zaa fun W hW => ?_
 by_cases hlt:(i:Int) < (s.length:Int)
 ·have hi':i < s.length:=by omega
  have kv:(s.map AV.s)[i * 1]? = some (.s s[i]):=by rw [Nat.mul_one,List.getElem?_map,List.getElem?_eq_getElem hi']; rfl
  have kv2:s[i]? = some s[i]:=List.getElem?_eq_getElem hi'
  have kv3:s[i] ∈ s:=List.getElem_mem hi'
  generalize s[i]=x at kv kv2 kv3
  simp only [sxZ,z6,z7,z8,j4,j5,j6,j7,j8,j9,x0,x3,x4,x5,x6,x7,reduceCtorEq,↓reduceIte,List.getElem?_set,hlen,t3,t8,t9,t10,hlt]
  subst hW
  refine zaa fun W hW => ?_
  simp only [sxZ,z6,z7,z8,j4,j5,j6,j7,j8,j9,x0,x3,x4,x5,x6,x7,reduceCtorEq,↓reduceIte,List.getElem?_set,hlen]
  subst hW
  refine zaa fun V hV => ?_
  rw [zaO]
  refine zaa fun W hW => ?_
  simp only [sxZ,z6,z7,z8,j4,j5,j6,j7,j8,j9,x0,x3,x4,x5,x6,x7,reduceCtorEq,↓reduceIte,List.getElem?_set,hlen,t8,t10,kv,List.length_map]
  refine ⟨⟨by omega,by omega⟩,?_⟩
  subst hW
  refine zaa fun W hW => ?_
  simp only [sxZ,z6,z7,z8,j4,j5,j6,j7,j8,j9,x0,x3,x4,x5,x6,x7,reduceCtorEq,↓reduceIte,List.getElem?_set,hlen]
  refine zam (zgo x (hst x kv3) ?_)
  cases hvx:zct x with
  | false =>
   simp only [sxZ,z6,z7,z8,j4,j5,j6,j7,j8,j9,x0,x3,x4,x5,x6,x7,reduceCtorEq,↓reduceIte,List.getElem?_set,hlen,Bool.not_false]
   subst hW
   simp only [sxZ,z6,z7,z8,j4,j5,j6,j7,j8,j9,x0,x3,x4,x5,x6,x7,reduceCtorEq,↓reduceIte,List.getElem?_set,hlen]
   rw [no (.inl ⟨x,kv3,hvx⟩)] at hk
   exact hk
  | true =>
   have hv':∀ j a,j < i + 1 → s[j]? = some a → zct a=true:=by
    intro j a hj ha
    by_cases e:j=i
    ·subst e
     rw [kv2] at ha; injection ha with ha; rw [← ha]; exact hvx
    ·exact hv j a (by omega) ha
   cases i with
   | zero =>
    have z:¬ (0:Int) < ((0:Nat):Int):=by decide
    simp only [sxZ,z6,z7,z8,j4,j5,j6,j7,j8,j9,x0,x3,x4,x5,x6,x7,reduceCtorEq,↓reduceIte,List.getElem?_set,hlen,Bool.not_true,z]
    subst hW
    simp only [sxZ,z6,z7,z8,j4,j5,j6,j7,j8,j9,x0,x3,x4,x5,x6,x7,reduceCtorEq,↓reduceIte,List.getElem?_set,hlen]
    subst hV
    simp only [sxZ,z6,z7,z8,j4,j5,j6,j7,j8,j9,x0,x3,x4,x5,x6,x7,reduceCtorEq,↓reduceIte,List.getElem?_set,hlen,t3,t8,t9,t10]
    exact ⟨by omega,s.length - 1,by omega,1,by omega,rfl,hv',fun j a b h => by omega,rfl⟩
   | succ i =>
    have z:(0:Int) < ((i + 1:Nat):Int):=by omega
    have z3:(((i + 1:Nat):Int) - 1)=(i:Int):=by omega
    have hj':i < s.length:=by omega
    have jv:(s.map AV.s)[i * 1]? = some (.s s[i]):=by rw [Nat.mul_one,List.getElem?_map,List.getElem?_eq_getElem hj']; rfl
    have jv2:s[i]? = some s[i]:=List.getElem?_eq_getElem hj'
    generalize s[i]=y at jv jv2
    by_cases ce:y=x
    ·simp only [sxZ,z6,z7,z8,j4,j5,j6,j7,j8,j9,x0,x3,x4,x5,x6,x7,reduceCtorEq,↓reduceIte,List.getElem?_set,hlen,Bool.not_true,z,z3,t3,Int.toNat_natCast,jv,List.length_map,ce,decide_true]
     refine ⟨⟨by omega,by omega⟩,⟨by omega,by omega,by omega⟩,?_⟩
     subst hW
     simp only [sxZ,z6,z7,z8,j4,j5,j6,j7,j8,j9,x0,x3,x4,x5,x6,x7,reduceCtorEq,↓reduceIte,List.getElem?_set,hlen]
     have hnn:¬ s.Nodup:=fun h => by
      have h1:=(List.getElem?_eq_some_iff.1 jv2).2
      have h2:=(List.getElem?_eq_some_iff.1 kv2).2
      exact List.pairwise_iff_getElem.1 h i (i + 1) hj' hi' (by omega) (by rw [h1,h2,ce])
     rw [no (.inr hnn)] at hk
     exact hk
    ·simp only [sxZ,z6,z7,z8,j4,j5,j6,j7,j8,j9,x0,x3,x4,x5,x6,x7,reduceCtorEq,↓reduceIte,List.getElem?_set,hlen,Bool.not_true,z,z3,t3,Int.toNat_natCast,jv,List.length_map,ce,decide_false]
     refine ⟨⟨by omega,by omega⟩,⟨by omega,by omega,by omega⟩,?_⟩
     subst hW
     simp only [sxZ,z6,z7,z8,j4,j5,j6,j7,j8,j9,x0,x3,x4,x5,x6,x7,reduceCtorEq,↓reduceIte,List.getElem?_set,hlen]
     subst hV
     simp only [sxZ,z6,z7,z8,j4,j5,j6,j7,j8,j9,x0,x3,x4,x5,x6,x7,reduceCtorEq,↓reduceIte,List.getElem?_set,hlen,t3,t8,t9,t10]
     refine ⟨by omega,s.length - (i + 1 + 1),by omega,i + 1 + 1,by omega,rfl,hv',fun j a b hj ha hb => ?_,rfl⟩
     by_cases e:j=i
     ·subst e
      rw [jv2] at ha; injection ha with ha
      rw [kv2] at hb; injection hb with hb
      rw [← ha,← hb]; exact ce
     ·exact hd j a b (by omega) ha hb
 simp only [sxZ,z6,z7,z8,j4,j5,j6,j7,j8,j9,x0,x3,x4,x5,x6,x7,reduceCtorEq,↓reduceIte,List.getElem?_set,hlen,t3,t8,t9,t10,hlt]
 subst hW
 subst hZ
 simp only [sxZ,z6,z7,z8,j4,j5,j6,j7,j8,j9,x0,x3,x4,x5,x6,x7,reduceCtorEq,↓reduceIte,List.getElem?_set,hlen]
 have hyes:zfV l=true:=by
  unfold zfV
  have h1:s.Nodup:=zd1 hso fun j a b ha hb => hd j a b (by have:=(List.getElem?_eq_some_iff.1 hb).1; omega) ha hb
  have h2:l.all zct=true:=by
   rw [List.all_eq_true]
   intro k hk
   obtain ⟨j,hj⟩:=List.mem_iff_getElem?.1 (hp.mem_iff.2 hk)
   exact hv j k (by have:=(List.getElem?_eq_some_iff.1 hj).1; omega) hj
  rw [h2,decide_eq_true (hp.nodup_iff.1 h1)]; rfl
 rw [hyes] at hk
 exact hk
end
end
section
attribute [local irreducible] run
mutual
/-- how many values there are within depth d; 0 if too deep -/
def zdO:JV → Int → Int
 | .mk k t ks its,d => if 64 < (if k=6 ∨ k=7 then d + 1 else d) then 0 else zeH its (if k=6 ∨ k=7 then d + 1 else d) 1
def zeH:List JV → Int → Int → Int
 | [],_,n => n
 | v :: l,d,n => if zdO v d=0 then 0 else if 20000 < n + zdO v d then 20001 else zeH l d (n + zdO v d)
end
mutual
theorem ziQ:∀ (v:JV) (d:Int),0 ≤ zdO v d ∧ zdO v d ≤ 20001
 | .mk k t ks its,d => by
  rw [zdO]
  generalize (if k=6 ∨ k=7 then d + 1 else d)=e
  by_cases h:64 < e
  ·rw [if_pos h]; omega
  ·rw [if_neg h]; exact ziP its e 1 (by decide) (by decide)
theorem ziP:∀ (l:List JV) (d n:Int),0 ≤ n → n ≤ 20000 → 0 ≤ zeH l d n ∧ zeH l d n ≤ 20001
 | [],d,n,h1,h2 => by rw [zeH]; omega
 | v :: l,d,n,h1,h2 => by
  rw [zeH]
  have h:=ziQ v d
  split
  ·omega
  split
  ·omega
  ·exact ziP l d _ (by omega) (by omega)
end
theorem jcntE_eq (v:JV) (d:Int):zdO v d=if 64 < (if v.kind=6 ∨ v.kind=7 then d + 1 else d) then 0 else zeH v.items (if v.kind=6 ∨ v.kind=7 then d + 1 else d) 1:=by cases v; rw [zdO]; rfl
theorem zbq {α:Type} {l:List α} {i:Nat} (hi:i < l.length):l.drop i=l[i] :: l.drop (i + 1):=List.drop_eq_getElem_cons hi
section
variable [Tabs Tryz.prog]
theorem count_k:∀ (m:Nat) (v:JV) (d:Int),v.size < m → JLn v → 0 ≤ d → d ≤ 64 → ∀ {objs:List OB} {K:List OB → AV → Prop},K objs (.i .i64 (zdO v d)) → zad Tryz.prog 47 [.agg (zah v),.i .i64 d] objs K:=by
 intro m
 induction m with
 | zero => intro v d h; omega
 | succ m ih =>
  intro v d hm hv hd hd2 objs K hk
  obtain ⟨l1,l2⟩:=hv.lens
  refine zaN is_ref15_count (by simp only [zao,AV.plain,zaL,Bool.and_self]) fun C _ => ?_
  rw [c_ref15_count]
  refine zaa fun Z hZ => ?_
  simp only [sxZ,z6,z7,z8,j4,j5,j6,j7,j8,j9,x0,x3,x4,x5,x6,x7,reduceCtorEq,↓reduceIte]
  have e0:OB.box 26 (zah v)=OB.box 26 [.i .i64 v.kind,.s v.text,.row v.keys.length (v.keys.map .s),.row v.items.length (zac v.items)]:=by rw [zai]
  rw [e0]
  rw [jcntE_eq] at hk
  subst hZ
  refine zaa fun Z hZ => ?_
  simp only [sxZ,z6,z7,z8,j4,j5,j6,j7,j8,j9,x0,x3,x4,x5,x6,x7,reduceCtorEq,↓reduceIte]
  subst hZ
  refine zaa fun Z hZ => ?_
  generalize hin:(if v.kind=6 ∨ v.kind=7 then d + 1 else d)=inn at hk
  have hinb:0 ≤ inn ∧ inn ≤ 65:=by rw [← hin]; split <;> omega
  refine zaS (fun o tm => o=[OB.box 26 [.i .i64 v.kind,.s v.text,.row v.keys.length (v.keys.map .s),.row v.items.length (zac v.items)]] ∧ tm.length=42 ∧ tm[2]? = some (.p 0 0) ∧ tm[5]? = some (.i .i64 inn)) ?_ ?_
  ·by_cases c6:v.kind=6
   ·rw [if_pos (.inl c6)] at hin
    subst hin
    simp only [sxZ,z6,z7,z8,j4,j5,j6,j7,j8,j9,x0,x3,x4,x5,x6,x7,reduceCtorEq,↓reduceIte,c6,zab,and_self,and_true]
    omega
   by_cases c7:v.kind=7
   ·rw [if_pos (.inr c7)] at hin
    subst hin
    simp only [sxZ,z6,z7,z8,j4,j5,j6,j7,j8,j9,x0,x3,x4,x5,x6,x7,reduceCtorEq,↓reduceIte,c6,c7,zab,and_self,and_true]
    omega
   ·rw [if_neg (by omega)] at hin
    subst hin
    simp only [sxZ,z6,z7,z8,j4,j5,j6,j7,j8,j9,x0,x3,x4,x5,x6,x7,reduceCtorEq,↓reduceIte,c6,c7,zab,and_self,and_true]
  rintro _ tm ⟨rfl,hlen,t2,t5⟩
  subst hZ
  refine zaa fun Z hZ => ?_
  by_cases c64:64 < inn
  ·rw [if_pos c64] at hk
   simp only [sxZ,z6,z7,z8,j4,j5,j6,j7,j8,j9,x0,x3,x4,x5,x6,x7,reduceCtorEq,↓reduceIte,List.getElem?_set,hlen,t5,c64]
   exact hk
  rw [if_neg c64] at hk
  simp only [sxZ,z6,z7,z8,j4,j5,j6,j7,j8,j9,x0,x3,x4,x5,x6,x7,reduceCtorEq,↓reduceIte,List.getElem?_set,hlen,t5,c64]
  subst hZ
  refine zaa fun Z hZ => ?_
  simp only [sxZ,z6,z7,z8,j4,j5,j6,j7,j8,j9,x0,x3,x4,x5,x6,x7,reduceCtorEq,↓reduceIte,List.getElem?_set,hlen]
  subst hZ
  refine zaa fun Z hZ => ?_
  simp only [sxZ,z6,z7,z8,j4,j5,j6,j7,j8,j9,x0,x3,x4,x5,x6,x7,reduceCtorEq,↓reduceIte,List.getElem?_set,hlen,t2,t5]
  refine zaE (fun n o tm => ∃ (i:Nat) (b:Int),i ≤ v.items.length ∧ n=v.items.length - i ∧ 1 ≤ b ∧ b ≤ 20000 ∧ zeH v.items inn 1=zeH (v.items.drop i) inn b ∧ tm.length=42 ∧ tm[5]? = some (.i .i64 inn) ∧ tm[6]? = some (.i .i64 b) ∧ tm[24]? = some (.row v.items.length (zac v.items)) ∧ tm[25]? = some (.i .i64 (v.items.length:Int)) ∧ tm[26]? = some (.i .i64 (i:Int))) v.items.length ⟨0,1,Nat.zero_le _,rfl,by decide,by decide,rfl,?_⟩ ?_
  ·simp only [sxZ,z6,z7,z8,j4,j5,j6,j7,j8,j9,x0,x3,x4,x5,x6,x7,reduceCtorEq,↓reduceIte,List.length_set,List.getElem?_set,hlen,t2,t5,Int.cast_ofNat_Int,and_self]
  clear hlen t2 t5
  rintro n o tm ⟨i,b,hi,rfl,hb,hb2,hc,hlen,t5,t6,t24,t25,t26⟩
  refine zaa fun W hW => ?_
  by_cases hlt:(i:Int) < (v.items.length:Int)
  ·have hi':i < v.items.length:=by omega
   have hjc:=zcZ hi'
   have hjl:=zav v.items
   have hit:=hv.its hi'
   have hsz:=zbe hi'
   rw [zbq hi',zeH] at hc
   generalize v.items[i]=x at hjc hit hsz hc
   have hbd:=ziQ x inn
   have hcall:=fun {objs:List OB} {K:List OB → AV → Prop} (h) => ih x inn (by omega) hit (by omega) (by omega) (objs:=objs) (K:=K) h
   generalize zdO x inn=cx at hcall hbd hc
   obtain ⟨q0,q1,q2,q3,hq⟩:∃ q0 q1 q2 q3,zah x=[q0,q1,q2,q3]:=⟨_,_,_,_,zai x⟩
   rw [hq] at hjc hcall
   simp only [sxZ,z6,z7,z8,j4,j5,j6,j7,j8,j9,x0,x3,x4,x5,x6,x7,reduceCtorEq,↓reduceIte,List.getElem?_set,hlen,t24,t25,t26,hlt]
   subst hW
   refine zaa fun W hW => ?_
   simp only [sxZ,z6,z7,z8,j4,j5,j6,j7,j8,j9,x0,x3,x4,x5,x6,x7,reduceCtorEq,↓reduceIte,List.getElem?_set,hlen]
   subst hW
   refine zaa fun V hV => ?_
   rw [zaO]
   refine zaa fun W hW => ?_
   simp only [sxZ,z6,z7,z8,j4,j5,j6,j7,j8,j9,x0,x3,x4,x5,x6,x7,reduceCtorEq,↓reduceIte,List.getElem?_set,hlen,t24,t26,hjc]
   refine ⟨⟨by omega,by omega,by omega⟩,by omega,?_⟩
   simp only [sxZ,z6,z7,z8,j4,j5,j6,j7,j8,j9,x0,x3,x4,x5,x6,x7,reduceCtorEq,↓reduceIte,List.getElem?_set,hlen,gn1,sn1]
   subst hW
   refine zaa fun W hW => ?_
   simp only [sxZ,z6,z7,z8,j4,j5,j6,j7,j8,j9,x0,x3,x4,x5,x6,x7,reduceCtorEq,↓reduceIte,List.getElem?_set,hlen,t5,gn1]
   refine zam (hcall ?_)
   simp only [sxZ,z6,z7,z8,j4,j5,j6,j7,j8,j9,x0,x3,x4,x5,x6,x7,reduceCtorEq,↓reduceIte,List.getElem?_set,hlen]
   subst hW
   refine zaa fun W hW => ?_
   by_cases c0:cx=0
   ·rw [if_pos c0] at hc
    simp only [sxZ,z6,z7,z8,j4,j5,j6,j7,j8,j9,x0,x3,x4,x5,x6,x7,reduceCtorEq,↓reduceIte,List.getElem?_set,hlen,c0]
    rw [hc] at hk
    exact hk
   rw [if_neg c0] at hc
   simp only [sxZ,z6,z7,z8,j4,j5,j6,j7,j8,j9,x0,x3,x4,x5,x6,x7,reduceCtorEq,↓reduceIte,List.getElem?_set,hlen,c0]
   subst hW
   refine zaa fun W hW => ?_
   simp only [sxZ,z6,z7,z8,j4,j5,j6,j7,j8,j9,x0,x3,x4,x5,x6,x7,reduceCtorEq,↓reduceIte,List.getElem?_set,hlen,t6]
   refine ⟨⟨by omega,by omega⟩,?_⟩
   subst hW
   by_cases c9:20000 < b + cx
   ·rw [if_pos c9] at hc
    simp only [sxZ,z6,z7,z8,j4,j5,j6,j7,j8,j9,x0,x3,x4,x5,x6,x7,reduceCtorEq,↓reduceIte,List.getElem?_set,hlen,c9]
    rw [hc] at hk
    exact hk
   rw [if_neg c9] at hc
   simp only [sxZ,z6,z7,z8,j4,j5,j6,j7,j8,j9,x0,x3,x4,x5,x6,x7,reduceCtorEq,↓reduceIte,List.getElem?_set,hlen,c9]
   subst hV
   simp only [sxZ,z6,z7,z8,j4,j5,j6,j7,j8,j9,x0,x3,x4,x5,x6,x7,reduceCtorEq,↓reduceIte,List.getElem?_set,hlen,t5,t24,t25,t26]
   exact ⟨by omega,v.items.length - (i + 1),by omega,i + 1,b + cx,by omega,rfl,by omega,by omega,hc,rfl,rfl⟩
  simp only [sxZ,z6,z7,z8,j4,j5,j6,j7,j8,j9,x0,x3,x4,x5,x6,x7,reduceCtorEq,↓reduceIte,List.getElem?_set,hlen,t24,t25,t26,hlt]
  subst hW
  subst hZ
  simp only [sxZ,z6,z7,z8,j4,j5,j6,j7,j8,j9,x0,x3,x4,x5,x6,x7,reduceCtorEq,↓reduceIte,List.getElem?_set,hlen,t6]
  rw [hc,List.drop_eq_nil_of_le (by omega),zeH] at hk
  exact hk
end
end
section
attribute [local irreducible] run
mutual
/-- does it have the right fields? -/
def zdE:JV → Bool
 | .mk k t ks its =>
  if k=1 ∨ k=3 ∨ k=2 then decide (t=[]) && (decide (ks.length=0) && decide (its.length=0))
  else if k=4 then decide ((zcY t).1=0) && (decide ((zcY t).2=t) && (decide (ks.length=0) && decide (its.length=0)))
  else if k=5 then zct t && (decide (ks.length=0) && decide (its.length=0))
  else if k=6 then decide (t=[]) && (decide (ks.length=0) && zda its)
  else if k=7 then decide (t=[]) && (decide (ks.length=its.length) && (zfV ks && zda its))
  else false
def zda:List JV → Bool
 | [] => true
 | v :: l => zdE v && zda l
end
theorem zkk (v:JV):zdE v =
  if v.kind=1 ∨ v.kind=3 ∨ v.kind=2 then decide (v.text=[]) && (decide (v.keys.length=0) && decide (v.items.length=0))
  else if v.kind=4 then decide ((zcY v.text).1=0) && (decide ((zcY v.text).2=v.text) && (decide (v.keys.length=0) && decide (v.items.length=0)))
  else if v.kind=5 then zct v.text && (decide (v.keys.length=0) && decide (v.items.length=0))
  else if v.kind=6 then decide (v.text=[]) && (decide (v.keys.length=0) && zda v.items)
  else if v.kind=7 then decide (v.text=[]) && (decide (v.keys.length=v.items.length) && (zfV v.keys && zda v.items))
  else false:=by cases v; rw [zdE]; rfl
def valJ (v:JV):Bool:=decide (0 < zdO v 0 ∧ zdO v 0 ≤ 20000) && zdE v
section
variable [Tabs Tryz.prog]
theorem shape_k:∀ (m:Nat) (v:JV),v.size < m → JKp v → ∀ {objs:List OB} {K:List OB → AV → Prop},K objs (.b (zdE v)) → zad Tryz.prog 48 [.agg (zah v)] objs K:=by
 intro m
 induction m with
 | zero => intro v h; omega
 | succ m ih =>
  intro v hm hv objs K hk
  obtain ⟨l1,l2,l3,l4⟩:=hv.lens
  refine zaN is_ref15_shape (by simp only [zao,AV.plain,zaL,Bool.and_self]) fun C _ => ?_
  rw [c_ref15_shape]
  refine zaa fun Z hZ => ?_
  simp only [sxZ,z6,z7,z8,j4,j5,j6,j7,j8,j9,x0,x3,x4,x5,x6,x7,reduceCtorEq,↓reduceIte]
  have e0:OB.box 26 (zah v)=OB.box 26 [.i .i64 v.kind,.s v.text,.row v.keys.length (v.keys.map .s),.row v.items.length (zac v.items)]:=by rw [zai]
  rw [e0]
  rw [zkk] at hk
  have z0:∀ n:Nat,decide ((n:Int)=0)=decide (n=0):=fun n => decide_eq_decide.2 (by omega)
  subst hZ
  refine zaa fun Z hZ => ?_
  refine zaa fun W hW => ?_
  simp only [sxZ,z6,z7,z8,j4,j5,j6,j7,j8,j9,x0,x3,x4,x5,x6,x7,reduceCtorEq,↓reduceIte]
  subst hW
  rw [zaO]
  have loop:∀ (tm:List AV),tm.length=115 → tm[1]? = some (.p 0 0) → K objs (.b (zda v.items)) → run Tryz.prog C [.code Z] [OB.box 26 [.i .i64 v.kind,.s v.text,.row v.keys.length (v.keys.map .s),.row v.items.length (zac v.items)]] tm (endK [.tmp 2] fun r => K objs r):=by
   intro tm hlen t1 hk
   have z115:=hlen
   subst hZ
   refine zaa fun Z hZ => ?_
   refine zaa fun W hW => ?_
   simp only [sxZ,z6,z7,z8,j4,j5,j6,j7,j8,j9,x0,x3,x4,x5,x6,x7,reduceCtorEq,↓reduceIte,List.getElem?_set,hlen,t1]
   subst hW
   rw [zaO]
   refine zaE (fun n o tm => ∃ i:Nat,i ≤ v.items.length ∧ n=v.items.length - i ∧ zda v.items=zda (v.items.drop i) ∧ tm.length=115 ∧ tm[105]? = some (.row v.items.length (zac v.items)) ∧ tm[106]? = some (.i .i64 (v.items.length:Int)) ∧ tm[107]? = some (.i .i64 (i:Int))) v.items.length ⟨0,Nat.zero_le _,rfl,rfl,?_⟩ ?_
   ·simp only [sxZ,z6,z7,z8,j4,j5,j6,j7,j8,j9,x0,x3,x4,x5,x6,x7,reduceCtorEq,↓reduceIte,List.length_set,List.getElem?_set,hlen,t1,Int.cast_ofNat_Int,and_self]
   clear hlen t1 z115
   rintro n o tm ⟨i,hi,rfl,hc,hlen,t105,t106,t107⟩
   refine zaa fun W hW => ?_
   by_cases hlt:(i:Int) < (v.items.length:Int)
   ·have hi':i < v.items.length:=by omega
    have hjc:=zcZ hi'
    have hjl:=zav v.items
    have hit:=hv.its hi'
    have hsz:=zbe hi'
    rw [zbq hi',zda] at hc
    generalize v.items[i]=x at hjc hit hsz hc
    have hcall:=fun {objs:List OB} {K:List OB → AV → Prop} (h) => ih x (by omega) hit (objs:=objs) (K:=K) h
    generalize zdE x=sx at hcall hc
    obtain ⟨q0,q1,q2,q3,hq⟩:∃ q0 q1 q2 q3,zah x=[q0,q1,q2,q3]:=⟨_,_,_,_,zai x⟩
    rw [hq] at hjc hcall
    simp only [sxZ,z6,z7,z8,j4,j5,j6,j7,j8,j9,x0,x3,x4,x5,x6,x7,reduceCtorEq,↓reduceIte,List.getElem?_set,hlen,t105,t106,t107,hlt]
    subst hW
    refine zaa fun W hW => ?_
    simp only [sxZ,z6,z7,z8,j4,j5,j6,j7,j8,j9,x0,x3,x4,x5,x6,x7,reduceCtorEq,↓reduceIte,List.getElem?_set,hlen]
    subst hW
    refine zaa fun V hV => ?_
    rw [zaO]
    refine zaa fun W hW => ?_
    simp only [sxZ,z6,z7,z8,j4,j5,j6,j7,j8,j9,x0,x3,x4,x5,x6,x7,reduceCtorEq,↓reduceIte,List.getElem?_set,hlen,t105,t107,hjc]
    refine ⟨⟨by omega,by omega,by omega⟩,by omega,?_⟩
    simp only [sxZ,z6,z7,z8,j4,j5,j6,j7,j8,j9,x0,x3,x4,x5,x6,x7,reduceCtorEq,↓reduceIte,List.getElem?_set,hlen,gn1,sn1]
    subst hW
    refine zaa fun W hW => ?_
    simp only [sxZ,z6,z7,z8,j4,j5,j6,j7,j8,j9,x0,x3,x4,x5,x6,x7,reduceCtorEq,↓reduceIte,List.getElem?_set,hlen,gn1]
    refine zam (hcall ?_)
    cases sx with
    | false =>
     simp only [sxZ,z6,z7,z8,j4,j5,j6,j7,j8,j9,x0,x3,x4,x5,x6,x7,reduceCtorEq,↓reduceIte,List.getElem?_set,hlen,Bool.not_false]
     subst hW
     simp only [sxZ,z6,z7,z8,j4,j5,j6,j7,j8,j9,x0,x3,x4,x5,x6,x7,reduceCtorEq,↓reduceIte,List.getElem?_set,hlen]
     rw [hc] at hk
     exact hk
    | true =>
     simp only [sxZ,z6,z7,z8,j4,j5,j6,j7,j8,j9,x0,x3,x4,x5,x6,x7,reduceCtorEq,↓reduceIte,List.getElem?_set,hlen,Bool.not_true]
     subst hW
     simp only [sxZ,z6,z7,z8,j4,j5,j6,j7,j8,j9,x0,x3,x4,x5,x6,x7,reduceCtorEq,↓reduceIte,List.getElem?_set,hlen]
     subst hV
     simp only [sxZ,z6,z7,z8,j4,j5,j6,j7,j8,j9,x0,x3,x4,x5,x6,x7,reduceCtorEq,↓reduceIte,List.getElem?_set,hlen,t105,t106,t107]
     exact ⟨by omega,v.items.length - (i + 1),by omega,i + 1,by omega,rfl,hc,rfl⟩
   simp only [sxZ,z6,z7,z8,j4,j5,j6,j7,j8,j9,x0,x3,x4,x5,x6,x7,reduceCtorEq,↓reduceIte,List.getElem?_set,hlen,t105,t106,t107,hlt]
   subst hW
   subst hZ
   simp only [sxZ,z6,z7,z8,j4,j5,j6,j7,j8,j9,x0,x3,x4,x5,x6,x7,reduceCtorEq,↓reduceIte,List.getElem?_set,hlen]
   rw [hc,List.drop_eq_nil_of_le (by omega),zda] at hk
   exact hk
  by_cases a1:v.kind=1 ∨ v.kind=3 ∨ v.kind=2
  ·rw [if_pos a1] at hk
   rw [← z0,← z0] at hk
   by_cases b1:v.text=[]
   ·by_cases b2:(v.keys.length:Int)=0
    ·simp only [b1,b2,decide_true,Bool.true_and] at hk
     rcases a1 with a1 | a1 | a1
     all_goals
      simp only [sxZ,z6,z7,z8,j4,j5,j6,j7,j8,j9,x0,x3,x4,x5,x6,x7,reduceCtorEq,↓reduceIte,a1,b1,b2]
      exact hk
    ·simp only [b1,b2,decide_true,decide_false,Bool.true_and,Bool.false_and] at hk
     rcases a1 with a1 | a1 | a1
     all_goals
      simp only [sxZ,z6,z7,z8,j4,j5,j6,j7,j8,j9,x0,x3,x4,x5,x6,x7,reduceCtorEq,↓reduceIte,a1,b1,b2]
      exact hk
   ·simp only [b1,decide_false,Bool.false_and] at hk
    rcases a1 with a1 | a1 | a1
    all_goals
     simp only [sxZ,z6,z7,z8,j4,j5,j6,j7,j8,j9,x0,x3,x4,x5,x6,x7,reduceCtorEq,↓reduceIte,a1,b1]
     exact hk
  rw [if_neg a1] at hk
  have n1:¬ v.kind=1:=fun h => a1 (.inl h)
  have n3:¬ v.kind=3:=fun h => a1 (.inr (.inl h))
  have n2:¬ v.kind=2:=fun h => a1 (.inr (.inr h))
  by_cases a4:v.kind=4
  ·rw [if_pos a4] at hk
   rw [← z0,← z0] at hk
   simp only [sxZ,z6,z7,z8,j4,j5,j6,j7,j8,j9,x0,x3,x4,x5,x6,x7,reduceCtorEq,↓reduceIte,a4]
   refine zam (zku v.text (by omega) ?_)
   by_cases b1:(zcY v.text).1=0
   ·by_cases b2:(zcY v.text).2=v.text
    ·by_cases b3:(v.keys.length:Int)=0
     ·simp only [b1,b2,b3,decide_true,Bool.true_and] at hk
      simp only [sxZ,z6,z7,z8,j4,j5,j6,j7,j8,j9,x0,x3,x4,x5,x6,x7,reduceCtorEq,↓reduceIte,b1,b2,b3]
      exact hk
     ·simp only [b1,b2,b3,decide_true,decide_false,Bool.true_and,Bool.false_and] at hk
      simp only [sxZ,z6,z7,z8,j4,j5,j6,j7,j8,j9,x0,x3,x4,x5,x6,x7,reduceCtorEq,↓reduceIte,b1,b2,b3]
      exact hk
    ·simp only [b1,b2,decide_true,decide_false,Bool.true_and,Bool.false_and] at hk
     simp only [sxZ,z6,z7,z8,j4,j5,j6,j7,j8,j9,x0,x3,x4,x5,x6,x7,reduceCtorEq,↓reduceIte,b1,b2]
     exact hk
   ·simp only [b1,decide_false,Bool.false_and] at hk
    simp only [sxZ,z6,z7,z8,j4,j5,j6,j7,j8,j9,x0,x3,x4,x5,x6,x7,reduceCtorEq,↓reduceIte,b1]
    exact hk
  rw [if_neg a4] at hk
  by_cases a5:v.kind=5
  ·rw [if_pos a5] at hk
   rw [← z0,← z0] at hk
   simp only [sxZ,z6,z7,z8,j4,j5,j6,j7,j8,j9,x0,x3,x4,x5,x6,x7,reduceCtorEq,↓reduceIte,a5]
   refine zam (zgo v.text (by omega) ?_)
   cases b1:zct v.text with
   | false =>
    rw [b1] at hk
    simp only [sxZ,z6,z7,z8,j4,j5,j6,j7,j8,j9,x0,x3,x4,x5,x6,x7,reduceCtorEq,↓reduceIte]
    exact hk
   | true =>
    rw [b1] at hk
    by_cases b3:(v.keys.length:Int)=0
    ·simp only [b3,decide_true,Bool.true_and] at hk
     simp only [sxZ,z6,z7,z8,j4,j5,j6,j7,j8,j9,x0,x3,x4,x5,x6,x7,reduceCtorEq,↓reduceIte,b3]
     exact hk
    ·simp only [b3,decide_false,Bool.true_and,Bool.false_and] at hk
     simp only [sxZ,z6,z7,z8,j4,j5,j6,j7,j8,j9,x0,x3,x4,x5,x6,x7,reduceCtorEq,↓reduceIte,b3]
     exact hk
  rw [if_neg a5] at hk
  by_cases a6:v.kind=6
  ·rw [if_pos a6] at hk
   rw [← z0] at hk
   by_cases b1:v.text=[]
   ·by_cases b2:(v.keys.length:Int)=0
    ·simp only [b1,b2,decide_true,Bool.true_and] at hk
     simp only [a6,b1] at loop
     simp only [sxZ,z6,z7,z8,j4,j5,j6,j7,j8,j9,x0,x3,x4,x5,x6,x7,reduceCtorEq,↓reduceIte,a6,b1,b2]
     exact loop _ rfl rfl hk
    ·simp only [b1,b2,decide_true,decide_false,Bool.true_and,Bool.false_and] at hk
     simp only [sxZ,z6,z7,z8,j4,j5,j6,j7,j8,j9,x0,x3,x4,x5,x6,x7,reduceCtorEq,↓reduceIte,a6,b1,b2]
     exact hk
   ·simp only [b1,decide_false,Bool.false_and] at hk
    simp only [sxZ,z6,z7,z8,j4,j5,j6,j7,j8,j9,x0,x3,x4,x5,x6,x7,reduceCtorEq,↓reduceIte,a6,b1]
    exact hk
  rw [if_neg a6] at hk
  by_cases a7:v.kind=7
  ·rw [if_pos a7] at hk
   have z1:decide ((v.keys.length:Int)=v.items.length)=decide (v.keys.length=v.items.length):=decide_eq_decide.2 (by omega)
   rw [← z1] at hk
   by_cases b1:v.text=[]
   ·by_cases b2:(v.keys.length:Int)=v.items.length
    ·simp only [b1,b2,decide_true,Bool.true_and] at hk
     simp only [a7,b1] at loop
     simp only [sxZ,z6,z7,z8,j4,j5,j6,j7,j8,j9,x0,x3,x4,x5,x6,x7,reduceCtorEq,↓reduceIte,a7,b1,b2]
     refine zam (zhM v.keys (by omega) (fun k hk => by have:=l4 k hk; omega) ?_)
     cases b3:zfV v.keys with
     | false =>
      rw [b3] at hk
      simp only [sxZ,z6,z7,z8,j4,j5,j6,j7,j8,j9,x0,x3,x4,x5,x6,x7,reduceCtorEq,↓reduceIte,Bool.not_false]
      exact hk
     | true =>
      rw [b3] at hk
      simp only [sxZ,z6,z7,z8,j4,j5,j6,j7,j8,j9,x0,x3,x4,x5,x6,x7,reduceCtorEq,↓reduceIte,Bool.not_true]
      exact loop _ rfl rfl hk
    ·simp only [b1,b2,decide_true,decide_false,Bool.true_and,Bool.false_and] at hk
     simp only [sxZ,z6,z7,z8,j4,j5,j6,j7,j8,j9,x0,x3,x4,x5,x6,x7,reduceCtorEq,↓reduceIte,a7,b1,b2]
     exact hk
   ·simp only [b1,decide_false,Bool.false_and] at hk
    simp only [sxZ,z6,z7,z8,j4,j5,j6,j7,j8,j9,x0,x3,x4,x5,x6,x7,reduceCtorEq,↓reduceIte,a7,b1]
    exact hk
  rw [if_neg a7] at hk
  simp only [sxZ,z6,z7,z8,j4,j5,j6,j7,j8,j9,x0,x3,x4,x5,x6,x7,reduceCtorEq,↓reduceIte,n1,n2,n3,a4,a5,a6,a7]
  exact hk
theorem zj3 (v:JV) (hv:JKp v) {objs:List OB} {K:List OB → AV → Prop} (hk:K objs (.b (valJ v))):zad Tryz.prog 27 [.agg (zah v)] objs K:=by
 refine zaN is_ref15_Valid (by simp only [zao,AV.plain,zaL,Bool.and_self]) fun C _ => ?_
 rw [c_ref15_Valid]
 have hc:=fun {objs:List OB} {K:List OB → AV → Prop} (h) => count_k (v.size + 1) v 0 (Nat.lt_succ_self _) hv.bd.ln (by decide) (by decide) (objs:=objs) (K:=K) h
 have hs:=fun {objs:List OB} {K:List OB → AV → Prop} (h) => shape_k (v.size + 1) v (Nat.lt_succ_self _) hv (objs:=objs) (K:=K) h
 unfold valJ at hk
 generalize zdO v 0=c at hc hk
 generalize zdE v=b at hs hk
 obtain ⟨q0,q1,q2,q3,hq⟩:∃ q0 q1 q2 q3,zah v=[q0,q1,q2,q3]:=⟨_,_,_,_,zai v⟩
 rw [hq] at hc hs ⊢
 refine zaa fun Z hZ => ?_
 simp only [sxZ,z6,z7,z8,j4,j5,j6,j7,j8,j9,x0,x3,x4,x5,x6,x7,reduceCtorEq,↓reduceIte]
 subst hZ
 refine zaa fun Z hZ => ?_
 simp only [sxZ,z6,z7,z8,j4,j5,j6,j7,j8,j9,x0,x3,x4,x5,x6,x7,reduceCtorEq,↓reduceIte]
 refine zam (hc ?_)
 simp only [sxZ,z6,z7,z8,j4,j5,j6,j7,j8,j9,x0,x3,x4,x5,x6,x7,reduceCtorEq,↓reduceIte]
 subst hZ
 by_cases c1:0 < c
 ·by_cases c2:c ≤ 20000
  ·simp only [sxZ,z6,z7,z8,j4,j5,j6,j7,j8,j9,x0,x3,x4,x5,x6,x7,reduceCtorEq,↓reduceIte,c1,c2]
   refine zam (hs ?_)
   simp only [sxZ,z6,z7,z8,j4,j5,j6,j7,j8,j9,x0,x3,x4,x5,x6,x7,reduceCtorEq,↓reduceIte]
   simp only [c1,c2,and_self,decide_true,Bool.true_and] at hk
   exact hk
  ·simp only [sxZ,z6,z7,z8,j4,j5,j6,j7,j8,j9,x0,x3,x4,x5,x6,x7,reduceCtorEq,↓reduceIte,c1,c2]
   simp only [c2,and_false,decide_false,Bool.false_and] at hk
   exact hk
 ·simp only [sxZ,z6,z7,z8,j4,j5,j6,j7,j8,j9,x0,x3,x4,x5,x6,x7,reduceCtorEq,↓reduceIte,c1]
  simp only [c1,false_and,decide_false,Bool.false_and] at hk
  exact hk
theorem zeF (v:JV) (hv:JKp v) {objs:List OB} {K:List OB → AV → Prop} (hk:K objs (.b (valJ v))):zad Tryz.prog 13 [.agg (zah v)] objs K:=by
 refine zaN is_json_Valid (by simp only [zao,AV.plain,zaL,Bool.and_self]) fun C _ => ?_
 rw [c_json_Valid]
 have hc:=fun {objs:List OB} {K:List OB → AV → Prop} (h) => zj3 v hv (objs:=objs) (K:=K) h
 generalize valJ v=b at hc hk
 obtain ⟨q0,q1,q2,q3,hq⟩:∃ q0 q1 q2 q3,zah v=[q0,q1,q2,q3]:=⟨_,_,_,_,zai v⟩
 rw [hq] at hc ⊢
 refine zaa fun Z hZ => ?_
 simp only [sxZ,z6,z7,z8,j4,j5,j6,j7,j8,j9,x0,x3,x4,x5,x6,x7,reduceCtorEq,↓reduceIte]
 subst hZ
 simp only [sxZ,z6,z7,z8,j4,j5,j6,j7,j8,j9,x0,x3,x4,x5,x6,x7,reduceCtorEq,↓reduceIte]
 refine zam (hc ?_)
 simp only [sxZ,z6,z7,z8,j4,j5,j6,j7,j8,j9,x0,x3,x4,x5,x6,x7,reduceCtorEq,↓reduceIte]
 exact hk
end
end
section
attribute [local irreducible] run
mutual
/-- equal, the order of keys aside -/
def zgQ:JV → JV → Bool
 | .mk k t ks its,w => decide (k=w.kind) && (if k=1 ∨ k=2 ∨ k=3 then true else if k=4 ∨ k=5 then decide (t=w.text) else if k=6 then zfi its w.items else if k=7 then decide (ks.length=w.keys.length) && zgO ks its w else false)
def zfi:List JV → List JV → Bool
 | [],m => m.isEmpty
 | v :: l,m => match m with
  | [] => false
  | w :: m => zgQ v w && zfi l m
def zgO:List (List UInt8) → List JV → JV → Bool
 | ks,[],w => true
 | ks,v :: l,w => match ks with
  | [] => true
  | k :: ks => (zcy w k).2 && (zgQ v (zcy w k).1 && zgO ks l w)
end
theorem zhD (v w:JV):zgQ v w=(decide (v.kind=w.kind) && (if v.kind=1 ∨ v.kind=2 ∨ v.kind=3 then true else if v.kind=4 ∨ v.kind=5 then decide (v.text=w.text) else if v.kind=6 then zfi v.items w.items else if v.kind=7 then decide (v.keys.length=w.keys.length) && zgO v.keys v.items w else false)):=by cases v; rw [zgQ]; rfl
theorem zfN:∀ {l m:List JV},l.length ≠ m.length → zfi l m=false
 | [],[],h => absurd rfl h
 | [],_ :: _,_ => by rw [zfi]; rfl
 | _ :: _,[],_ => by rw [zfi]
 | v :: l,w :: m,h => by rw [zfi,zfN (l:=l) (m:=m) (by simpa using h)]; simp
theorem zcm:∀ {l:List JV} (h:zda l=true) {i:Nat} (hi:i < l.length),zdE l[i]=true
 | a :: l,h,0,hi => by rw [zda,Bool.and_eq_true] at h; exact h.1
 | a :: l,h,i + 1,hi => by rw [zda,Bool.and_eq_true] at h; exact zcm h.2 (by simpa using hi)
theorem zbU {v:JV} (h:zdE v=true):((v.kind=1 ∨ v.kind=2 ∨ v.kind=3 ∨ v.kind=4 ∨ v.kind=5) ∧ v.keys.length=0 ∧ v.items.length=0) ∨ (v.kind=6 ∧ v.keys.length=0 ∧ zda v.items=true) ∨ (v.kind=7 ∧ v.keys.length=v.items.length ∧ v.keys.Nodup ∧ zda v.items=true):=by
 rw [zkk] at h
 by_cases a1:v.kind=1 ∨ v.kind=3 ∨ v.kind=2
 ·rw [if_pos a1] at h
  simp only [Bool.and_eq_true,decide_eq_true_eq] at h
  exact .inl ⟨by omega,h.2.1,h.2.2⟩
 rw [if_neg a1] at h
 by_cases a4:v.kind=4
 ·rw [if_pos a4] at h
  simp only [Bool.and_eq_true,decide_eq_true_eq] at h
  exact .inl ⟨by omega,h.2.2.1,h.2.2.2⟩
 rw [if_neg a4] at h
 by_cases a5:v.kind=5
 ·rw [if_pos a5] at h
  simp only [Bool.and_eq_true,decide_eq_true_eq] at h
  exact .inl ⟨by omega,h.2.1,h.2.2⟩
 rw [if_neg a5] at h
 by_cases a6:v.kind=6
 ·rw [if_pos a6] at h
  simp only [Bool.and_eq_true,decide_eq_true_eq] at h
  exact .inr (.inl ⟨a6,h.2.1,h.2.2⟩)
 rw [if_neg a6] at h
 by_cases a7:v.kind=7
 ·rw [if_pos a7] at h
  unfold zfV at h
  simp only [Bool.and_eq_true,decide_eq_true_eq] at h
  exact .inr (.inr ⟨a7,h.2.1,h.2.2.1.1,h.2.2.2⟩)
 rw [if_neg a7] at h
 cases h
theorem zeL:∀ {l:List (List UInt8)} (h:l.Nodup) {i:Nat} (hi:i < l.length),zb7 l[i] l=i
 | a :: l,h,0,hi => by
  simp only [List.getElem_cons_zero]
  unfold zb7; rw [if_pos rfl]
 | a :: l,h,i + 1,hi => by
  rw [List.nodup_cons] at h
  have hi':i < l.length:=by simpa using hi
  have hne:¬ a=l[i]:=fun e => h.1 (by rw [e]; exact List.getElem_mem _)
  unfold zb7
  simp only [List.getElem_cons_succ]
  rw [if_neg hne,zeL h.2 hi']
theorem zl2 {v:JV} (h7:v.kind=7) (hl:v.keys.length=v.items.length) (hn:v.keys.Nodup) {i:Nat} (hi:i < v.keys.length):zcy v v.keys[i]=(v.items[i]'(by omega),true):=by
 unfold zcy
 rw [zeL hn hi,if_pos ⟨h7,hi⟩,List.getElem?_eq_getElem (by omega)]
mutual
theorem zeG:∀ v:JV,zdE v=true → zgQ v v=true
 | .mk k t ks its,h => by
  have hk:=zbU h
  have h1:=fun (hs:zda its=true) => zgP its hs
  have h2:=fun (hs:zda its=true) (w:JV) (ks':List (List UInt8)) (hw:∀ i (h1:i < ks'.length) (h2:i < its.length),zcy w ks'[i]=(its[i],true)) => zgN its hs w ks' hw
  rw [zhD]
  simp only [JV.kind,JV.text,JV.keys,JV.items] at hk ⊢
  simp only [decide_true,Bool.true_and]
  rcases hk with ⟨h0,_⟩ | ⟨h0,_,hs⟩ | ⟨h0,hl,hn,hs⟩
  ·by_cases a:k=1 ∨ k=2 ∨ k=3
   ·rw [if_pos a]
   ·rw [if_neg a,if_pos (by omega)]
  ·rw [if_neg (by omega),if_neg (by omega),if_pos h0]
   exact h1 hs
  ·rw [if_neg (by omega),if_neg (by omega),if_neg (by omega),if_pos h0]
   exact h2 hs _ ks fun i q1 q2 => zl2 (v:=.mk k t ks its) h0 hl hn q1
theorem zgP:∀ l:List JV,zda l=true → zfi l l=true
 | [],_ => by rw [zfi]; rfl
 | v :: l,h => by
  rw [zda,Bool.and_eq_true] at h
  rw [zfi,zeG v h.1,zgP l h.2]; rfl
theorem zgN:∀ (l:List JV),zda l=true → ∀ (w:JV) (ks:List (List UInt8)),(∀ i (h1:i < ks.length) (h2:i < l.length),zcy w ks[i]=(l[i],true)) → zgO ks l w=true
 | [],_,w,ks,_ => by rw [zgO]
 | v :: l,h,w,[],_ => by rw [zgO]
 | v :: l,h,w,k :: ks,hw => by
  rw [zda,Bool.and_eq_true] at h
  have h0:=hw 0 (by simp) (by simp)
  simp only [List.getElem_cons_zero] at h0
  rw [zgO]
  simp only [h0]
  rw [zeG v h.1,zgN l h.2 w ks fun i h1 h2 => by
   have:=hw (i + 1) (by simpa using h1) (by simpa using h2)
   simpa only [List.getElem_cons_succ] using this]
  rfl
end
theorem zgI (k k':List UInt8) (v:AV):∀ es:List (List UInt8 × AV),zec k' (zeX k v es)=if k=k' then some v else zec k' es
 | [] => by simp only [zeX,zec]
 | e :: r => by
  have ih:=zgI k k' v r
  simp only [zeX]
  split
  ·rename_i h
   simp only [zec]
   by_cases c:k=k'
   ·rw [if_pos c,if_pos c]
   ·rw [if_neg c,if_neg c,if_neg (fun h2 => c (h ▸ h2))]
  ·rename_i h
   simp only [zec]
   by_cases c:e.1=k'
   ·rw [if_pos c,if_pos c,if_neg (fun h2 => h (c.trans h2.symm))]
   ·rw [if_neg c,if_neg c,ih]
section
variable [Tabs Tryz.prog] {objs:List OB} {K:List OB → AV → Prop} {L:List (Nat × OB)}
theorem zio (v:JV) (hv:JLn v) (hl:v.keys.length=v.items.length) (hO:zaQ L objs) (hk:∀ o b es,(∀ key,zec key es=if zb7 key v.keys < v.keys.length then some (.i .i64 (zb7 key v.keys:Int)) else none) → zaQ ((b,.mp es) :: L) o → K o (.m b)):zad Tryz.prog 51 [.agg (zah v)] objs K:=by
 obtain ⟨l1,l2⟩:=hv.lens
 refine zbP is_jsondoc_places fun C _ => ?_
 rw [c_jsondoc_places]
 have hjc:=zai v
 have flatV:(AV.agg (zah v)).flat=true:=by rw [hjc]; rfl
 have hO2:=(hO.new (.box 26 (zah v))).new (.mp [])
 have elen:(objs ++ [OB.box 26 (zah v)]).length=objs.length + 1:=by simp
 rw [elen] at hO2
 rw [hjc] at flatV hO2 ⊢
 have hlI:((v.items.length:Nat):Int)=(v.keys.length:Int):=by omega
 have nlt:¬ (v.keys.length:Int) < (v.keys.length:Int):=by omega
 refine zaa fun Z hZ => ?_
 simp only [sxZ,z6,z7,z8,j4,j5,j6,j7,j8,j9,x0,x3,x4,x5,x6,x7,reduceCtorEq,↓reduceIte]
 subst hZ
 refine zaa fun Z hZ => ?_
 simp only [sxZ,z6,z7,z8,j4,j5,j6,j7,j8,j9,x0,x3,x4,x5,x6,x7,reduceCtorEq,↓reduceIte,gn1]
 generalize objs.length=qv at hO2 ⊢
 generalize objs ++ [OB.box 26 [.i .i64 v.kind,.s v.text,.row v.keys.length (v.keys.map .s),.row v.items.length (zac v.items)]] ++ [OB.mp []]=o at hO2 ⊢
 subst hZ
 refine zaa fun Z hZ => ?_
 refine zaa fun W hW => ?_
 have e0:=hO2.get (i:=qv) (x:=.box 26 [.i .i64 v.kind,.s v.text,.row v.keys.length (v.keys.map .s),.row v.items.length (zac v.items)]) (by simp)
 simp only [sxZ,z6,z7,z8,j4,j5,j6,j7,j8,j9,x0,x3,x4,x5,x6,x7,reduceCtorEq,↓reduceIte,e0,hlI,nlt,if_false]
 subst hW
 rw [zaO]
 refine zaE (fun n o tm => ∃ (i:Nat) (es:List (List UInt8 × AV)),i ≤ v.keys.length ∧ n=v.keys.length - i ∧ zaQ ((qv + 1,.mp es) :: (qv,.box 26 [.i .i64 v.kind,.s v.text,.row v.keys.length (v.keys.map .s),.row v.items.length (zac v.items)]) :: L) o ∧ (∀ key,zec key es=if zb7 key v.keys < i then some (.i .i64 (zb7 key v.keys:Int)) else none) ∧ tm.length=42 ∧ tm[1]? = some (.p qv 0) ∧ tm[3]? = some (.m (qv + 1)) ∧ tm[17]? = some (.i .i64 (v.keys.length:Int)) ∧ tm[18]? = some (.i .i64 (i:Int))) v.keys.length ⟨0,[],Nat.zero_le _,rfl,hO2,fun key => rfl,rfl,rfl,rfl,rfl,rfl⟩ ?_
 clear hO2 e0
 rintro n o tm ⟨i,es,hi,rfl,hO2,hes,hlen,t1,t3,t17,t18⟩
 have e0:=hO2.get (i:=qv) (x:=.box 26 [.i .i64 v.kind,.s v.text,.row v.keys.length (v.keys.map .s),.row v.items.length (zac v.items)]) (by simp)
 have em:=hO2.get (i:=qv + 1) (x:=.mp es) (by simp)
 refine zaa fun W hW => ?_
 by_cases hlt:(i:Int) < (v.keys.length:Int)
 ·have hi':i < v.keys.length:=by omega
  have kv:(v.keys.map AV.s)[i * 1]? = some (.s v.keys[i]):=by rw [Nat.mul_one,List.getElem?_map,List.getElem?_eq_getElem hi']; rfl
  have kv2:v.keys[i]? = some v.keys[i]:=List.getElem?_eq_getElem hi'
  generalize v.keys[i]=x at kv kv2
  have hx:=hes x
  have hle:=zfO kv2
  simp only [sxZ,z6,z7,z8,j4,j5,j6,j7,j8,j9,x0,x3,x4,x5,x6,x7,reduceCtorEq,↓reduceIte,List.getElem?_set,hlen,t17,t18,hlt]
  subst hW
  refine zaa fun W hW => ?_
  simp only [sxZ,z6,z7,z8,j4,j5,j6,j7,j8,j9,x0,x3,x4,x5,x6,x7,reduceCtorEq,↓reduceIte,List.getElem?_set,hlen]
  subst hW
  refine zaa fun V hV => ?_
  rw [zaO]
  refine zaa fun W hW => ?_
  simp only [sxZ,z6,z7,z8,j4,j5,j6,j7,j8,j9,x0,x3,x4,x5,x6,x7,reduceCtorEq,↓reduceIte,List.getElem?_set,hlen,t18]
  subst hW
  refine zaa fun W hW => ?_
  by_cases c:zb7 x v.keys < i
  ·rw [if_pos c] at hx
   have hes2:∀ key,zec key es=if zb7 key v.keys < i + 1 then some (.i .i64 (zb7 key v.keys:Int)) else none:=by
    intro key
    rw [hes key]
    by_cases c1:zb7 key v.keys < i
    ·rw [if_pos c1,if_pos (by omega)]
    ·rw [if_neg c1,if_neg]
     intro c2
     have e:zb7 key v.keys=i:=by omega
     have:=zdd (key:=key) (l:=v.keys) (by omega)
     rw [e,kv2] at this
     injection this with this
     rw [this] at c; omega
   simp only [sxZ,z6,z7,z8,j4,j5,j6,j7,j8,j9,x0,x3,x4,x5,x6,x7,reduceCtorEq,↓reduceIte,List.getElem?_set,hlen,t1,t3,e0,em,kv,hx,List.length_map]
   refine ⟨⟨by omega,by omega,by omega⟩,?_⟩
   subst hW
   simp only [sxZ,z6,z7,z8,j4,j5,j6,j7,j8,j9,x0,x3,x4,x5,x6,x7,reduceCtorEq,↓reduceIte,List.getElem?_set,hlen,Bool.not_true]
   subst hV
   simp only [sxZ,z6,z7,z8,j4,j5,j6,j7,j8,j9,x0,x3,x4,x5,x6,x7,reduceCtorEq,↓reduceIte,List.getElem?_set,hlen,t1,t3,t17,t18]
   exact ⟨by omega,v.keys.length - (i + 1),by omega,i + 1,es,by omega,rfl,hO2,hes2,rfl⟩
  ·rw [if_neg c] at hx
   have hix:zb7 x v.keys=i:=by omega
   have hes2:∀ key,zec key (zeX x (.i .i64 (i:Int)) es)=if zb7 key v.keys < i + 1 then some (.i .i64 (zb7 key v.keys:Int)) else none:=by
    intro key
    rw [zgI,hes key]
    by_cases cx:x=key
    ·rw [if_pos cx,← cx,hix,if_pos (by omega)]
    ·rw [if_neg cx]
     by_cases c1:zb7 key v.keys < i
     ·rw [if_pos c1,if_pos (by omega)]
     ·rw [if_neg c1,if_neg]
      intro c2
      have e:zb7 key v.keys=i:=by omega
      have:=zdd (key:=key) (l:=v.keys) (by omega)
      rw [e,kv2] at this
      injection this with this
      exact cx this
   simp only [sxZ,z6,z7,z8,j4,j5,j6,j7,j8,j9,x0,x3,x4,x5,x6,x7,reduceCtorEq,↓reduceIte,List.getElem?_set,hlen,t1,t3,e0,em,kv,hx,List.length_map]
   refine ⟨⟨by omega,by omega,by omega⟩,?_⟩
   subst hW
   simp only [sxZ,z6,z7,z8,j4,j5,j6,j7,j8,j9,x0,x3,x4,x5,x6,x7,reduceCtorEq,↓reduceIte,List.getElem?_set,hlen,Bool.not_false,t1,t3,e0,em,kv,List.length_map,AV.one]
   refine ⟨⟨by omega,by omega,by omega⟩,?_⟩
   subst hV
   simp only [sxZ,z6,z7,z8,j4,j5,j6,j7,j8,j9,x0,x3,x4,x5,x6,x7,reduceCtorEq,↓reduceIte,List.getElem?_set,hlen,t1,t3,t17,t18]
   exact ⟨by omega,v.keys.length - (i + 1),by omega,i + 1,zeX x (.i .i64 (i:Int)) es,by omega,rfl,zaQ.set (A:=[]) (OB.mp (zeX x (.i .i64 (i:Int)) es)) hO2,hes2,rfl⟩
 have hn:i=v.keys.length:=by omega
 simp only [sxZ,z6,z7,z8,j4,j5,j6,j7,j8,j9,x0,x3,x4,x5,x6,x7,reduceCtorEq,↓reduceIte,List.getElem?_set,hlen,t17,t18,hlt]
 subst hW
 subst hZ
 simp only [sxZ,z6,z7,z8,j4,j5,j6,j7,j8,j9,x0,x3,x4,x5,x6,x7,reduceCtorEq,↓reduceIte,List.getElem?_set,hlen,t3]
 rw [hn] at hes
 exact hk _ _ _ hes (hO2.sub ((List.sublist_cons_self _ _).cons_cons _))
end
end
section
attribute [local irreducible] run
section
variable [Tabs Tryz.prog]
theorem zjy:∀ (m:Nat) (v w:JV),v.size < m → zdE v=true → zdE w=true → JOk v → JOk w → ∀ {objs:List OB} {K:List OB → AV → Prop},K objs (.b (zgQ v w)) → zad Tryz.prog 17 [.agg (zah v),.agg (zah w)] objs K:=by
 intro m
 induction m with
 | zero => intro v w h; omega
 | succ m ih =>
  intro v w hm hsv hsw hv hw objs K hk
  obtain ⟨l1,l2,_,_⟩:=hv.lens
  have kv:=zbU hsv
  have kw:=zbU hsw
  refine zaN is_ref14_Equal (by simp only [zao,AV.plain,zaL,Bool.and_self]) fun C _ => ?_
  rw [c_ref14_Equal]
  refine zaa fun Y hY => ?_
  simp only [sxZ,z6,z7,z8,j4,j5,j6,j7,j8,j9,x0,x3,x4,x5,x6,x7,reduceCtorEq,↓reduceIte]
  have e0:OB.box 26 (zah v)=OB.box 26 [.i .i64 v.kind,.s v.text,.row v.keys.length (v.keys.map .s),.row v.items.length (zac v.items)]:=by rw [zai]
  have e1:OB.box 26 (zah w)=OB.box 26 [.i .i64 w.kind,.s w.text,.row w.keys.length (w.keys.map .s),.row w.items.length (zac w.items)]:=by rw [zai]
  rw [e0,e1]
  rw [zhD] at hk
  subst hY
  refine zaa fun Y hY => ?_
  by_cases c1:v.kind=w.kind
  rotate_left
  ·rw [decide_eq_false c1,Bool.false_and] at hk
   simp only [sxZ,z6,z7,z8,j4,j5,j6,j7,j8,j9,x0,x3,x4,x5,x6,x7,reduceCtorEq,↓reduceIte,c1,decide_false,Bool.not_false]
   exact hk
  rw [decide_eq_true c1,Bool.true_and] at hk
  by_cases c3:v.items.length=w.items.length
  rotate_left
  ·have c3':¬ (v.items.length:Int)=w.items.length:=by omega
   have hno:(if v.kind=1 ∨ v.kind=2 ∨ v.kind=3 then true else if v.kind=4 ∨ v.kind=5 then decide (v.text=w.text) else if v.kind=6 then zfi v.items w.items else if v.kind=7 then decide (v.keys.length=w.keys.length) && zgO v.keys v.items w else false)=false:=by
    rcases kv with ⟨h0,_,h2⟩ | ⟨h0,_,_⟩ | ⟨h0,h1,_⟩
    ·rcases kw with ⟨_,_,k2⟩ | ⟨k0,_⟩ | ⟨k0,_⟩ <;> omega
    ·rw [if_neg (by omega),if_neg (by omega),if_pos h0]; exact zfN c3
    ·rcases kw with ⟨k0,_,_⟩ | ⟨k0,_⟩ | ⟨k0,k1,_⟩
     ·omega
     ·omega
     ·rw [if_neg (by omega),if_neg (by omega),if_neg (by omega),if_pos h0,decide_eq_false (by omega)]; rfl
   rw [hno] at hk
   simp only [sxZ,z6,z7,z8,j4,j5,j6,j7,j8,j9,x0,x3,x4,x5,x6,x7,reduceCtorEq,↓reduceIte,c1,c3',decide_false,decide_true,Bool.not_false,Bool.not_true]
   exact hk
  by_cases c4:v.keys.length=w.keys.length
  rotate_left
  ·have c4':¬ (v.keys.length:Int)=w.keys.length:=by omega
   exfalso
   rcases kv with ⟨h0,h1,h2⟩ | ⟨h0,h1,_⟩ | ⟨h0,h1,_⟩ <;> rcases kw with ⟨k0,k1,k2⟩ | ⟨k0,k1,_⟩ | ⟨k0,k1,_⟩ <;> omega
  simp only [sxZ,z6,z7,z8,j4,j5,j6,j7,j8,j9,x0,x3,x4,x5,x6,x7,reduceCtorEq,↓reduceIte,c1,c3,c4,decide_false,decide_true,Bool.not_false,Bool.not_true]
  subst hY
  refine zaa fun Y hY => ?_
  refine zaa fun W hW => ?_
  simp only [sxZ,z6,z7,z8,j4,j5,j6,j7,j8,j9,x0,x3,x4,x5,x6,x7,reduceCtorEq,↓reduceIte]
  subst hW
  rw [zaO]
  rw [c1] at hk kv
  by_cases a1:w.kind=1 ∨ w.kind=2 ∨ w.kind=3
  ·rw [if_pos a1] at hk
   rcases a1 with a1 | a1 | a1
   all_goals
    simp only [sxZ,z6,z7,z8,j4,j5,j6,j7,j8,j9,x0,x3,x4,x5,x6,x7,reduceCtorEq,↓reduceIte,a1]
    exact hk
  rw [if_neg a1] at hk
  have n1:¬ w.kind=1:=fun h => a1 (.inl h)
  have n2:¬ w.kind=2:=fun h => a1 (.inr (.inl h))
  have n3:¬ w.kind=3:=fun h => a1 (.inr (.inr h))
  by_cases a4:w.kind=4 ∨ w.kind=5
  ·rw [if_pos a4] at hk
   by_cases b1:v.text=w.text
   ·rw [decide_eq_true b1] at hk
    rcases a4 with a4 | a4
    all_goals
     simp only [sxZ,z6,z7,z8,j4,j5,j6,j7,j8,j9,x0,x3,x4,x5,x6,x7,reduceCtorEq,↓reduceIte,a4,b1,decide_true]
     exact hk
   ·rw [decide_eq_false b1] at hk
    rcases a4 with a4 | a4
    all_goals
     simp only [sxZ,z6,z7,z8,j4,j5,j6,j7,j8,j9,x0,x3,x4,x5,x6,x7,reduceCtorEq,↓reduceIte,a4,b1,decide_false]
     exact hk
  rw [if_neg a4] at hk
  have n4:¬ w.kind=4:=fun h => a4 (.inl h)
  have n5:¬ w.kind=5:=fun h => a4 (.inr h)
  by_cases a6:w.kind=6
  ·rw [if_pos a6] at hk
   have hsi:zda v.items=true:=by
    rcases kv with ⟨h0,_⟩ | ⟨_,_,h⟩ | ⟨h0,_⟩
    ·omega
    ·exact h
    ·omega
   have hti:zda w.items=true:=by
    rcases kw with ⟨h0,_⟩ | ⟨_,_,h⟩ | ⟨h0,_⟩
    ·omega
    ·exact h
    ·omega
   simp only [sxZ,z6,z7,z8,j4,j5,j6,j7,j8,j9,x0,x3,x4,x5,x6,x7,reduceCtorEq,↓reduceIte,a6]
   refine zaE (fun n o tm => ∃ i:Nat,i ≤ w.items.length ∧ n=w.items.length - i ∧ o=[OB.box 26 [.i .i64 6,.s v.text,.row w.keys.length (v.keys.map .s),.row w.items.length (zac v.items)],OB.box 26 [.i .i64 6,.s w.text,.row w.keys.length (w.keys.map .s),.row w.items.length (zac w.items)]] ∧ zfi v.items w.items=zfi (v.items.drop i) (w.items.drop i) ∧ tm.length=104 ∧ tm[2]? = some (.p 0 0) ∧ tm[3]? = some (.p 1 0) ∧ tm[53]? = some (.i .i64 (w.items.length:Int)) ∧ tm[54]? = some (.i .i64 (i:Int))) w.items.length ⟨0,Nat.zero_le _,rfl,rfl,rfl,rfl,rfl,rfl,rfl,rfl⟩ ?_
   rintro n _ tm ⟨i,hi,rfl,rfl,hc,hlen,t2,t3,t53,t54⟩
   refine zaa fun Z hZ => ?_
   by_cases hlt:(i:Int) < (w.items.length:Int)
   ·have hw':i < w.items.length:=by omega
    have hv':i < v.items.length:=by omega
    have jv:=zcZ hv'
    have jw:=zcZ hw'
    have jvl:=zav v.items
    have jwl:=zav w.items
    have hcall:=fun {objs:List OB} {K:List OB → AV → Prop} (h:K objs (.b (zgQ v.items[i] w.items[i]))) => ih v.items[i] w.items[i] (by have:=zbe hv'; omega) (zcm hsi hv') (zcm hti hw') (hv.its hv') (hw.its hw') (objs:=objs) (K:=K) h
    rw [zbq hv',zbq hw',zfi] at hc
    generalize zgQ v.items[i] w.items[i]=e at hcall hc
    generalize v.items[i]=x at jv hcall
    generalize w.items[i]=y at jw hcall
    obtain ⟨q0,q1,q2,q3,hq⟩:∃ q0 q1 q2 q3,zah x=[q0,q1,q2,q3]:=⟨_,_,_,_,zai x⟩
    obtain ⟨p0,p1,p2,p3,hp⟩:∃ p0 p1 p2 p3,zah y=[p0,p1,p2,p3]:=⟨_,_,_,_,zai y⟩
    rw [hq] at jv hcall
    rw [hp] at jw hcall
    simp only [sxZ,z6,z7,z8,j4,j5,j6,j7,j8,j9,x0,x3,x4,x5,x6,x7,reduceCtorEq,↓reduceIte,List.getElem?_set,hlen,t2,t3,t53,t54,hlt]
    subst hZ
    refine zaa fun Z hZ => ?_
    simp only [sxZ,z6,z7,z8,j4,j5,j6,j7,j8,j9,x0,x3,x4,x5,x6,x7,reduceCtorEq,↓reduceIte,List.getElem?_set,hlen]
    subst hZ
    refine zaa fun W hW => ?_
    rw [zaO]
    refine zaa fun Z hZ => ?_
    simp only [sxZ,z6,z7,z8,j4,j5,j6,j7,j8,j9,x0,x3,x4,x5,x6,x7,reduceCtorEq,↓reduceIte,List.getElem?_set,hlen,t54]
    subst hZ
    refine zaa fun Z hZ => ?_
    simp only [sxZ,z6,z7,z8,j4,j5,j6,j7,j8,j9,x0,x3,x4,x5,x6,x7,reduceCtorEq,↓reduceIte,List.getElem?_set,hlen,t2,t3,jv,jw]
    refine ⟨⟨by omega,by omega,by omega⟩,by omega,⟨by omega,by omega,by omega⟩,by omega,?_⟩
    refine zcu (hcall ⟨rfl,rfl⟩) ?_
    cases e with
    | false =>
     rw [Bool.false_and] at hc
     simp only [sxZ,z6,z7,z8,j4,j5,j6,j7,j8,j9,x0,x3,x4,x5,x6,x7,reduceCtorEq,↓reduceIte,List.getElem?_set,hlen,Bool.not_false]
     subst hZ
     simp only [sxZ,z6,z7,z8,j4,j5,j6,j7,j8,j9,x0,x3,x4,x5,x6,x7,reduceCtorEq,↓reduceIte,List.getElem?_set,hlen]
     rw [hc] at hk
     exact hk
    | true =>
     rw [Bool.true_and] at hc
     simp only [sxZ,z6,z7,z8,j4,j5,j6,j7,j8,j9,x0,x3,x4,x5,x6,x7,reduceCtorEq,↓reduceIte,List.getElem?_set,hlen,Bool.not_true]
     subst hZ
     simp only [sxZ,z6,z7,z8,j4,j5,j6,j7,j8,j9,x0,x3,x4,x5,x6,x7,reduceCtorEq,↓reduceIte,List.getElem?_set,hlen]
     subst hW
     simp only [sxZ,z6,z7,z8,j4,j5,j6,j7,j8,j9,x0,x3,x4,x5,x6,x7,reduceCtorEq,↓reduceIte,List.getElem?_set,hlen,t2,t3,t53,t54]
     exact ⟨by omega,w.items.length - (i + 1),by omega,i + 1,by omega,rfl,hc,rfl⟩
   simp only [sxZ,z6,z7,z8,j4,j5,j6,j7,j8,j9,x0,x3,x4,x5,x6,x7,reduceCtorEq,↓reduceIte,List.getElem?_set,hlen,t53,t54,hlt]
   subst hZ
   simp only [sxZ,z6,z7,z8,j4,j5,j6,j7,j8,j9,x0,x3,x4,x5,x6,x7,reduceCtorEq,↓reduceIte,List.getElem?_set,hlen]
   rw [hc,List.drop_eq_nil_of_le (by omega),List.drop_eq_nil_of_le (by omega),zfi] at hk
   exact hk
  rw [if_neg a6] at hk
  obtain ⟨a7,hlv,hnv,hsi⟩:w.kind=7 ∧ v.keys.length=v.items.length ∧ v.keys.Nodup ∧ zda v.items=true:=by
   rcases kv with ⟨h0,_⟩ | ⟨h0,_⟩ | h
   ·omega
   ·omega
   ·exact h
  rw [if_pos a7,decide_eq_true c4,Bool.true_and] at hk
  have hkw:=(zbU hsw)
  have hti:zda w.items=true:=by
   rcases hkw with ⟨h0,_⟩ | ⟨h0,_⟩ | ⟨_,_,_,h⟩
   ·omega
   ·omega
   ·exact h
  have a7v:v.kind=7:=c1.trans a7
  have gw:=fun (key:List UInt8) {objs:List OB} {K:List OB → AV → Prop} (h) => zdK w key hw (objs:=objs) (K:=K) h
  have gv:=fun (key:List UInt8) {objs:List OB} {K:List OB → AV → Prop} (h) => zdK v key hv (objs:=objs) (K:=K) h
  rw [zai,a7v,c4,c3] at gv
  rw [zai,a7] at gw
  simp only [sxZ,z6,z7,z8,j4,j5,j6,j7,j8,j9,x0,x3,x4,x5,x6,x7,reduceCtorEq,↓reduceIte,a7]
  refine zaE (fun n o tm => ∃ i:Nat,i ≤ w.keys.length ∧ n=w.keys.length - i ∧ o[0]? = some (OB.box 26 [.i .i64 7,.s v.text,.row w.keys.length (v.keys.map .s),.row w.items.length (zac v.items)]) ∧ o[1]? = some (OB.box 26 [.i .i64 7,.s w.text,.row w.keys.length (w.keys.map .s),.row w.items.length (zac w.items)]) ∧ zgO v.keys v.items w=zgO (v.keys.drop i) (v.items.drop i) w ∧ tm.length=104 ∧ tm[2]? = some (.p 0 0) ∧ tm[3]? = some (.p 1 0) ∧ tm[73]? = some (.row w.keys.length (v.keys.map .s)) ∧ tm[74]? = some (.i .i64 (w.keys.length:Int)) ∧ tm[75]? = some (.i .i64 (i:Int))) w.keys.length ⟨0,Nat.zero_le _,rfl,rfl,rfl,rfl,rfl,rfl,rfl,rfl,rfl,rfl⟩ ?_
  rintro n o tm ⟨i,hi,rfl,o0,o1,hc,hlen,t2,t3,t73,t74,t75⟩
  refine zaa fun Z hZ => ?_
  by_cases hlt:(i:Int) < (w.keys.length:Int)
  ·have hi':i < v.keys.length:=by omega
   have hv':i < v.items.length:=by omega
   have kv:(v.keys.map AV.s)[i * 1]? = some (.s v.keys[i]):=by rw [Nat.mul_one,List.getElem?_map,List.getElem?_eq_getElem hi']; rfl
   have gown:=zl2 a7v hlv hnv hi'
   have gv:=@gv v.keys[i]
   have gw:=@gw v.keys[i]
   rw [gown] at gv
   rw [zbq hi',zbq hv',zgO] at hc
   have hcall:=fun (y:JV) (hy:zdE y=true) (hy2:JOk y) {objs:List OB} {K:List OB → AV → Prop} (h:K objs (.b (zgQ v.items[i] y))) => ih v.items[i] y (by have:=zbe hv'; omega) (zcm hsi hv') hy (hv.its hv') hy2 (objs:=objs) (K:=K) h
   have hgs:(zcy w v.keys[i]).2=true → zdE (zcy w v.keys[i]).1=true ∧ JOk (zcy w v.keys[i]).1:=by
    intro h
    unfold zcy at h ⊢
    split at h
    ·rename_i hcond
     rw [if_pos hcond]
     split at h
     ·rename_i x hx
      obtain ⟨hx1,rfl⟩:=List.getElem?_eq_some_iff.1 hx
      exact ⟨zcm hti hx1,hw.its hx1⟩
     ·cases h
    ·cases h
   generalize zcy w v.keys[i]=R at gw hc hgs
   generalize v.items[i]=x at gv hc hcall
   generalize v.keys[i]=key at kv gv gw
   obtain ⟨y,ok⟩:=R
   simp only at hc hgs
   have hcy:=fun (h:ok=true) {objs:List OB} {K:List OB → AV → Prop} (hk) => hcall y (hgs h).1 (hgs h).2 (objs:=objs) (K:=K) hk
   have hjx:=zai x
   have hjy:=zai y
   unfold zc0 at gv gw
   simp only at gv gw
   rw [hjx] at gv hcy
   rw [hjy] at gw hcy
   simp only [sxZ,z6,z7,z8,j4,j5,j6,j7,j8,j9,x0,x3,x4,x5,x6,x7,reduceCtorEq,↓reduceIte,List.getElem?_set,hlen,t73,t74,t75,hlt]
   subst hZ
   refine zaa fun Z hZ => ?_
   simp only [sxZ,z6,z7,z8,j4,j5,j6,j7,j8,j9,x0,x3,x4,x5,x6,x7,reduceCtorEq,↓reduceIte,List.getElem?_set,hlen]
   subst hZ
   refine zaa fun W hW => ?_
   rw [zaO]
   refine zaa fun Z hZ => ?_
   simp only [sxZ,z6,z7,z8,j4,j5,j6,j7,j8,j9,x0,x3,x4,x5,x6,x7,reduceCtorEq,↓reduceIte,List.getElem?_set,hlen,t73,t75,kv,List.length_map]
   refine ⟨⟨by omega,by omega,by omega⟩,?_⟩
   subst hZ
   refine zaa fun Z hZ => ?_
   simp only [sxZ,z6,z7,z8,j4,j5,j6,j7,j8,j9,x0,x3,x4,x5,x6,x7,reduceCtorEq,↓reduceIte,List.getElem?_set,hlen,t2,o0]
   refine zam (gv ?_)
   simp only [sxZ,z6,z7,z8,j4,j5,j6,j7,j8,j9,x0,x3,x4,x5,x6,x7,reduceCtorEq,↓reduceIte,List.getElem?_set,hlen,gn1,sn1]
   have o0':∀ z,(o ++ [z])[0]? = _:=fun z => (List.getElem?_append_left (List.getElem?_eq_some_iff.1 o0).1).trans o0
   have o1':∀ z,(o ++ [z])[1]? = _:=fun z => (List.getElem?_append_left (List.getElem?_eq_some_iff.1 o1).1).trans o1
   have hg0:=gn1 o (OB.box 26 [.i .i64 x.kind,.s x.text,.row x.keys.length (x.keys.map .s),.row x.items.length (zac x.items)])
   have o0:=o0' (OB.box 26 [.i .i64 x.kind,.s x.text,.row x.keys.length (x.keys.map .s),.row x.items.length (zac x.items)])
   have o1:=o1' (OB.box 26 [.i .i64 x.kind,.s x.text,.row x.keys.length (x.keys.map .s),.row x.items.length (zac x.items)])
   clear o0' o1'
   generalize o.length=qa at hg0 ⊢
   generalize o ++ [OB.box 26 [.i .i64 x.kind,.s x.text,.row x.keys.length (x.keys.map .s),.row x.items.length (zac x.items)]]=o at hg0 o0 o1 ⊢
   subst hZ
   refine zaa fun Z hZ => ?_
   simp only [sxZ,z6,z7,z8,j4,j5,j6,j7,j8,j9,x0,x3,x4,x5,x6,x7,reduceCtorEq,↓reduceIte,List.getElem?_set,hlen,t3,o1]
   refine zam (gw ?_)
   simp only [sxZ,z6,z7,z8,j4,j5,j6,j7,j8,j9,x0,x3,x4,x5,x6,x7,reduceCtorEq,↓reduceIte,List.getElem?_set,hlen,gn1,sn1]
   have hq:∀ {j:Nat} {z u:OB},o[j]? = some z → (o ++ [u])[j]? = some z:=fun h => (List.getElem?_append_left (List.getElem?_eq_some_iff.1 h).1).trans h
   have hg1:=gn1 o (OB.box 26 [.i .i64 y.kind,.s y.text,.row y.keys.length (y.keys.map .s),.row y.items.length (zac y.items)])
   have o0:=hq (u:=OB.box 26 [.i .i64 y.kind,.s y.text,.row y.keys.length (y.keys.map .s),.row y.items.length (zac y.items)]) o0
   have o1:=hq (u:=OB.box 26 [.i .i64 y.kind,.s y.text,.row y.keys.length (y.keys.map .s),.row y.items.length (zac y.items)]) o1
   have hg0:=hq (u:=OB.box 26 [.i .i64 y.kind,.s y.text,.row y.keys.length (y.keys.map .s),.row y.items.length (zac y.items)]) hg0
   clear hq
   generalize o ++ [OB.box 26 [.i .i64 y.kind,.s y.text,.row y.keys.length (y.keys.map .s),.row y.items.length (zac y.items)]]=o at hg0 hg1 o0 o1 ⊢
   subst hZ
   refine zaa fun Z hZ => ?_
   cases ok with
   | false =>
    rw [Bool.false_and] at hc
    simp only [sxZ,z6,z7,z8,j4,j5,j6,j7,j8,j9,x0,x3,x4,x5,x6,x7,reduceCtorEq,↓reduceIte,List.getElem?_set,hlen,Bool.not_false,Bool.not_true]
    subst hZ
    simp only [sxZ,z6,z7,z8,j4,j5,j6,j7,j8,j9,x0,x3,x4,x5,x6,x7,reduceCtorEq,↓reduceIte,List.getElem?_set,hlen]
    rw [hc] at hk
    exact hk
   | true =>
    rw [Bool.true_and] at hc
    simp only [sxZ,z6,z7,z8,j4,j5,j6,j7,j8,j9,x0,x3,x4,x5,x6,x7,reduceCtorEq,↓reduceIte,List.getElem?_set,hlen,Bool.not_true,hg0,hg1]
    refine zam (hcy rfl ?_)
    generalize zgQ x y=e at hc ⊢
    cases e with
    | false =>
     rw [Bool.false_and] at hc
     simp only [sxZ,z6,z7,z8,j4,j5,j6,j7,j8,j9,x0,x3,x4,x5,x6,x7,reduceCtorEq,↓reduceIte,List.getElem?_set,hlen,Bool.not_false]
     subst hZ
     simp only [sxZ,z6,z7,z8,j4,j5,j6,j7,j8,j9,x0,x3,x4,x5,x6,x7,reduceCtorEq,↓reduceIte,List.getElem?_set,hlen]
     rw [hc] at hk
     exact hk
    | true =>
     rw [Bool.true_and] at hc
     simp only [sxZ,z6,z7,z8,j4,j5,j6,j7,j8,j9,x0,x3,x4,x5,x6,x7,reduceCtorEq,↓reduceIte,List.getElem?_set,hlen,Bool.not_true]
     subst hZ
     simp only [sxZ,z6,z7,z8,j4,j5,j6,j7,j8,j9,x0,x3,x4,x5,x6,x7,reduceCtorEq,↓reduceIte,List.getElem?_set,hlen]
     subst hW
     simp only [sxZ,z6,z7,z8,j4,j5,j6,j7,j8,j9,x0,x3,x4,x5,x6,x7,reduceCtorEq,↓reduceIte,List.getElem?_set,hlen,t2,t3,t73,t74,t75]
     exact ⟨by omega,w.keys.length - (i + 1),by omega,i + 1,by omega,rfl,o0,o1,hc,rfl⟩
  simp only [sxZ,z6,z7,z8,j4,j5,j6,j7,j8,j9,x0,x3,x4,x5,x6,x7,reduceCtorEq,↓reduceIte,List.getElem?_set,hlen,t73,t74,t75,hlt]
  subst hZ
  simp only [sxZ,z6,z7,z8,j4,j5,j6,j7,j8,j9,x0,x3,x4,x5,x6,x7,reduceCtorEq,↓reduceIte,List.getElem?_set,hlen]
  have hdn:v.items.drop i=[]:=List.drop_eq_nil_of_le (by omega)
  rw [hc,hdn,zgO] at hk
  exact hk
end
end
section
attribute [local irreducible] run
theorem eq_isFn:IsFn Tryz.prog 16:=⟨_,Tryz.func16,by kernel_rfl,of_decide_eq_true (by kernel_rfl)⟩
section
variable [Tabs Tryz.prog]
theorem zhL (l m:List JV) (hl:l.length ≤ 140737488351232) (ih:∀ (i:Nat) (h1:i < l.length) (h2:i < m.length) {objs:List OB} {K:List OB → AV → Prop},K objs (.b (zgQ l[i] m[i])) → zad Tryz.prog 16 [.agg (zah l[i]),.agg (zah m[i])] objs K)
  {objs:List OB} {K:List OB → AV → Prop} (hk:K objs (.b (zfi l m))):zad Tryz.prog 30 [.row l.length (zac l),.row m.length (zac m),.fn 16 [] []] objs K:=by
 refine zaN is_slices_EqualFunc__api_Value___api_Value_api_Value_api_Value (by simp only [zao,AV.plain,zbN,Bool.and_self]) fun C _ => ?_
 rw [c_slices_EqualFunc__api_Value___api_Value_api_Value_api_Value]
 refine zaa fun Z hZ => ?_
 simp only [sxZ,z6,z7,z8,j4,j5,j6,j7,j8,j9,x0,x3,x4,x5,x6,x7,reduceCtorEq,↓reduceIte]
 subst hZ
 refine zaa fun Z hZ => ?_
 by_cases c1:l.length=m.length
 rotate_left
 ·have c1':¬ (l.length:Int)=m.length:=by omega
  rw [zfN c1] at hk
  simp only [sxZ,z6,z7,z8,j4,j5,j6,j7,j8,j9,x0,x3,x4,x5,x6,x7,reduceCtorEq,↓reduceIte,c1',decide_false,Bool.not_false]
  exact hk
 have c1':(l.length:Int)=m.length:=by omega
 simp only [sxZ,z6,z7,z8,j4,j5,j6,j7,j8,j9,x0,x3,x4,x5,x6,x7,reduceCtorEq,↓reduceIte,c1',decide_true,Bool.not_true]
 subst hZ
 refine zaa fun Z hZ => ?_
 refine zaa fun W hW => ?_
 simp only [sxZ,z6,z7,z8,j4,j5,j6,j7,j8,j9,x0,x3,x4,x5,x6,x7,reduceCtorEq,↓reduceIte]
 subst hW
 rw [zaO]
 refine zaE (fun n o tm => ∃ i:Nat,i ≤ l.length ∧ n=l.length - i ∧ zfi l m=zfi (l.drop i) (m.drop i) ∧ tm.length=32 ∧ tm[1]? = some (.row m.length (zac m)) ∧ tm[2]? = some (.fn 16 [] []) ∧ tm[15]? = some (.row l.length (zac l)) ∧ tm[16]? = some (.i .i64 (m.length:Int)) ∧ tm[17]? = some (.i .i64 (i:Int))) l.length ⟨0,Nat.zero_le _,rfl,rfl,rfl,rfl,rfl,rfl,by simp only [c1'] <;> rfl,rfl⟩ ?_
 rintro n o tm ⟨i,hi,rfl,hc,hlen,t1,t2,t15,t16,t17⟩
 refine zaa fun W hW => ?_
 by_cases hlt:(i:Int) < (m.length:Int)
 ·have h1:i < l.length:=by omega
  have h2:i < m.length:=by omega
  have jv:=zcZ h1
  have jw:=zcZ h2
  have jvl:=zav l
  have jwl:=zav m
  have hcall:=fun {objs:List OB} {K:List OB → AV → Prop} (h) => ih i h1 h2 (objs:=objs) (K:=K) h
  rw [zbq h1,zbq h2,zfi] at hc
  generalize zgQ l[i] m[i]=e at hcall hc
  obtain ⟨q0,q1,q2,q3,hq⟩:∃ q0 q1 q2 q3,zah l[i]=[q0,q1,q2,q3]:=⟨_,_,_,_,zai _⟩
  obtain ⟨p0,p1,p2,p3,hp⟩:∃ p0 p1 p2 p3,zah m[i]=[p0,p1,p2,p3]:=⟨_,_,_,_,zai _⟩
  rw [hq] at jv hcall
  rw [hp] at jw hcall
  simp only [sxZ,z6,z7,z8,j4,j5,j6,j7,j8,j9,x0,x3,x4,x5,x6,x7,reduceCtorEq,↓reduceIte,List.getElem?_set,hlen,t15,t16,t17,hlt]
  subst hW
  refine zaa fun W hW => ?_
  simp only [sxZ,z6,z7,z8,j4,j5,j6,j7,j8,j9,x0,x3,x4,x5,x6,x7,reduceCtorEq,↓reduceIte,List.getElem?_set,hlen]
  subst hW
  refine zaa fun V hV => ?_
  rw [zaO]
  refine zaa fun W hW => ?_
  simp only [sxZ,z6,z7,z8,j4,j5,j6,j7,j8,j9,x0,x3,x4,x5,x6,x7,reduceCtorEq,↓reduceIte,List.getElem?_set,hlen,t15,t17,jv]
  refine ⟨⟨by omega,by omega,by omega⟩,by omega,?_⟩
  simp only [sxZ,z6,z7,z8,j4,j5,j6,j7,j8,j9,x0,x3,x4,x5,x6,x7,reduceCtorEq,↓reduceIte,List.getElem?_set,hlen,gn1,sn1]
  have hg0:(o ++ [OB.box 26 [q0,q1,q2,q3]])[o.length]? = some (OB.box 26 [q0,q1,q2,q3]):=gn1 _ _
  have hlt0:=(List.getElem?_eq_some_iff.1 hg0).1
  generalize o.length=qa at hg0 hlt0 ⊢
  generalize o ++ [OB.box 26 [q0,q1,q2,q3]]=o1 at hg0 hlt0 ⊢
  subst hW
  refine zaa fun W hW => ?_
  simp only [sxZ,z6,z7,z8,j4,j5,j6,j7,j8,j9,x0,x3,x4,x5,x6,x7,reduceCtorEq,↓reduceIte,List.getElem?_set,hlen,t1,jw]
  refine ⟨⟨by omega,by omega,by omega⟩,by omega,?_⟩
  simp only [sxZ,z6,z7,z8,j4,j5,j6,j7,j8,j9,x0,x3,x4,x5,x6,x7,reduceCtorEq,↓reduceIte,List.getElem?_set,hlen,gn1,sn1]
  have hg1:(o1 ++ [OB.box 26 [p0,p1,p2,p3]])[o1.length]? = some (OB.box 26 [p0,p1,p2,p3]):=gn1 _ _
  have hg2:(o1 ++ [OB.box 26 [p0,p1,p2,p3]])[qa]? = some (OB.box 26 [q0,q1,q2,q3]):=by rw [List.getElem?_append_left hlt0]; exact hg0
  generalize o1 ++ [OB.box 26 [p0,p1,p2,p3]]=o2 at hg1 hg2 ⊢
  subst hW
  refine zaa fun W hW => ?_
  simp only [sxZ,z6,z7,z8,j4,j5,j6,j7,j8,j9,x0,x3,x4,x5,x6,x7,reduceCtorEq,↓reduceIte,List.getElem?_set,hlen,t2,hg1,hg2]
  refine zlp eq_isFn (hcall ?_)
  cases e with
  | false =>
   rw [Bool.false_and] at hc
   simp only [sxZ,z6,z7,z8,j4,j5,j6,j7,j8,j9,x0,x3,x4,x5,x6,x7,reduceCtorEq,↓reduceIte,List.getElem?_set,hlen,Bool.not_false]
   subst hW
   simp only [sxZ,z6,z7,z8,j4,j5,j6,j7,j8,j9,x0,x3,x4,x5,x6,x7,reduceCtorEq,↓reduceIte,List.getElem?_set,hlen]
   rw [hc] at hk
   exact hk
  | true =>
   rw [Bool.true_and] at hc
   simp only [sxZ,z6,z7,z8,j4,j5,j6,j7,j8,j9,x0,x3,x4,x5,x6,x7,reduceCtorEq,↓reduceIte,List.getElem?_set,hlen,Bool.not_true]
   subst hW
   simp only [sxZ,z6,z7,z8,j4,j5,j6,j7,j8,j9,x0,x3,x4,x5,x6,x7,reduceCtorEq,↓reduceIte,List.getElem?_set,hlen]
   subst hV
   simp only [sxZ,z6,z7,z8,j4,j5,j6,j7,j8,j9,x0,x3,x4,x5,x6,x7,reduceCtorEq,↓reduceIte,List.getElem?_set,hlen,t1,t2,t15,t16,t17]
   exact ⟨by omega,l.length - (i + 1),by omega,i + 1,by omega,rfl,hc,rfl⟩
 simp only [sxZ,z6,z7,z8,j4,j5,j6,j7,j8,j9,x0,x3,x4,x5,x6,x7,reduceCtorEq,↓reduceIte,List.getElem?_set,hlen,t15,t16,t17,hlt]
 subst hW
 subst hZ
 simp only [sxZ,z6,z7,z8,j4,j5,j6,j7,j8,j9,x0,x3,x4,x5,x6,x7,reduceCtorEq,↓reduceIte,List.getElem?_set,hlen]
 rw [hc,List.drop_eq_nil_of_le (by omega),List.drop_eq_nil_of_le (by omega),zfi] at hk
 exact hk
theorem ze2 (v w:JV) (h7:v.kind=7) (k7:w.kind=7) (hsv:zdE v=true) (hsw:zdE w=true) (hv:JLn v) (hw:JLn w) (ih:∀ (x y:JV),x.size < v.size → zdE x=true → zdE y=true → JLn x → JLn y → ∀ {objs:List OB} {K:List OB → AV → Prop},K objs (.b (zgQ x y)) → zad Tryz.prog 16 [.agg (zah x),.agg (zah y)] objs K)
  {objs:List OB} {K:List OB → AV → Prop} (hk:K objs (.b (decide (v.keys.length=w.keys.length) && zgO v.keys v.items w))):zad Tryz.prog 31 [.agg (zah v),.agg (zah w)] objs K:=by
 obtain ⟨l1,l2⟩:=hv.lens
 obtain ⟨l3,l4⟩:=hw.lens
 obtain ⟨hlv,hnv,hsi⟩:v.keys.length=v.items.length ∧ v.keys.Nodup ∧ zda v.items=true:=by
  rcases zbU hsv with ⟨h0,_⟩ | ⟨h0,_⟩ | ⟨_,h⟩
  ·omega
  ·omega
  ·exact h
 obtain ⟨hlw,hnw,hti⟩:w.keys.length=w.items.length ∧ w.keys.Nodup ∧ zda w.items=true:=by
  rcases zbU hsw with ⟨h0,_⟩ | ⟨h0,_⟩ | ⟨_,h⟩
  ·omega
  ·omega
  ·exact h
 refine zaN is_jsondoc_equalObjects (by simp only [zao,AV.plain,zaL,Bool.and_self]) fun C _ => ?_
 rw [c_jsondoc_equalObjects]
 have hjv:=zai v
 have hjw:=zai w
 have pv:=fun {objs:List OB} {K:List OB → AV → Prop} {L:List (Nat × OB)} (h1) (h2) => zio v hv hlv (objs:=objs) (K:=K) (L:=L) h1 h2
 have pw:=fun {objs:List OB} {K:List OB → AV → Prop} {L:List (Nat × OB)} (h1) (h2) => zio w hw hlw (objs:=objs) (K:=K) (L:=L) h1 h2
 rw [hjv] at pv
 rw [hjw] at pw
 refine zaa fun Z hZ => ?_
 simp only [sxZ,z6,z7,z8,j4,j5,j6,j7,j8,j9,x0,x3,x4,x5,x6,x7,reduceCtorEq,↓reduceIte]
 rw [hjv,hjw]
 have hO:zaQ [(0,OB.box 26 [.i .i64 v.kind,.s v.text,.row v.keys.length (v.keys.map .s),.row v.items.length (zac v.items)]),(1,OB.box 26 [.i .i64 w.kind,.s w.text,.row w.keys.length (w.keys.map .s),.row w.items.length (zac w.items)])] [OB.box 26 [.i .i64 v.kind,.s v.text,.row v.keys.length (v.keys.map .s),.row v.items.length (zac v.items)],OB.box 26 [.i .i64 w.kind,.s w.text,.row w.keys.length (w.keys.map .s),.row w.items.length (zac w.items)]]:=⟨by simp,fun x hx => by
  simp only [List.mem_cons,List.not_mem_nil,or_false] at hx
  rcases hx with rfl | rfl <;> rfl⟩
 generalize [OB.box 26 [.i .i64 v.kind,.s v.text,.row v.keys.length (v.keys.map .s),.row v.items.length (zac v.items)],OB.box 26 [.i .i64 w.kind,.s w.text,.row w.keys.length (w.keys.map .s),.row w.items.length (zac w.items)]]=o at hO ⊢
 have e0:=hO.get (i:=0) (x:=OB.box 26 [.i .i64 v.kind,.s v.text,.row v.keys.length (v.keys.map .s),.row v.items.length (zac v.items)]) (by simp)
 have e1:=hO.get (i:=1) (x:=OB.box 26 [.i .i64 w.kind,.s w.text,.row w.keys.length (w.keys.map .s),.row w.items.length (zac w.items)]) (by simp)
 subst hZ
 refine zaa fun Z hZ => ?_
 by_cases c4:v.keys.length=w.keys.length
 rotate_left
 ·have c4':¬ (v.keys.length:Int)=w.keys.length:=by omega
  rw [decide_eq_false c4,Bool.false_and] at hk
  simp only [sxZ,z6,z7,z8,j4,j5,j6,j7,j8,j9,x0,x3,x4,x5,x6,x7,reduceCtorEq,↓reduceIte,e0,e1,c4',decide_false,Bool.not_false]
  exact hk
 rw [decide_eq_true c4,Bool.true_and] at hk
 have c4':(v.keys.length:Int)=w.keys.length:=by omega
 simp only [sxZ,z6,z7,z8,j4,j5,j6,j7,j8,j9,x0,x3,x4,x5,x6,x7,reduceCtorEq,↓reduceIte,e0,e1,c4',decide_true,Bool.not_true]
 subst hZ
 refine zdo (fun tm => tm.length=65 ∧ tm[2]? = some (.p 0 0) ∧ tm[3]? = some (.p 1 0)) ?_ ?_
 ·exact ⟨rfl,rfl,rfl⟩
 rintro tm ⟨hlen,t2,t3⟩
 refine zaa fun Z hZ => ?_
 simp only [sxZ,z6,z7,z8,j4,j5,j6,j7,j8,j9,x0,x3,x4,x5,x6,x7,reduceCtorEq,↓reduceIte,List.getElem?_set,hlen,t2,t3,e0,e1]
 refine zam (pv hO fun o1 b1 es1 hes1 hO1 => ?_)
 have e0':=hO1.get (i:=0) (x:=OB.box 26 [.i .i64 v.kind,.s v.text,.row v.keys.length (v.keys.map .s),.row v.items.length (zac v.items)]) (by simp)
 have e1':=hO1.get (i:=1) (x:=OB.box 26 [.i .i64 w.kind,.s w.text,.row w.keys.length (w.keys.map .s),.row w.items.length (zac w.items)]) (by simp)
 simp only [sxZ,z6,z7,z8,j4,j5,j6,j7,j8,j9,x0,x3,x4,x5,x6,x7,reduceCtorEq,↓reduceIte,List.getElem?_set,hlen,t2,t3,e0',e1']
 refine zam (pw hO1 fun o2 b2 es2 hes2 hO2 => ?_)
 have f0:=hO2.get (i:=0) (x:=OB.box 26 [.i .i64 v.kind,.s v.text,.row v.keys.length (v.keys.map .s),.row v.items.length (zac v.items)]) (by simp)
 have f1:=hO2.get (i:=1) (x:=OB.box 26 [.i .i64 w.kind,.s w.text,.row w.keys.length (w.keys.map .s),.row w.items.length (zac w.items)]) (by simp)
 have fb:=hO2.get (i:=b1) (x:=.mp es1) (by simp)
 have fc:=hO2.get (i:=b2) (x:=.mp es2) (by simp)
 simp only [sxZ,z6,z7,z8,j4,j5,j6,j7,j8,j9,x0,x3,x4,x5,x6,x7,reduceCtorEq,↓reduceIte,List.getElem?_set,hlen,t2,t3,f0,f1]
 clear hO hO1 e0 e1 e0' e1'
 refine zdo (fun tm => tm.length=65 ∧ tm[2]? = some (.p 0 0) ∧ tm[3]? = some (.p 1 0) ∧ tm[5]? = some (.m b1) ∧ tm[6]? = some (.m b2)) ?_ ?_
 ·simp only [sxZ,z6,z7,z8,j4,j5,j6,j7,j8,j9,x0,x3,x4,x5,x6,x7,reduceCtorEq,↓reduceIte,List.length_set,List.getElem?_set,hlen,t2,t3,and_self]
 clear hlen t2 t3
 rintro tm ⟨hlen,t2,t3,t5,t6⟩
 subst hZ
 refine zaa fun Z hZ => ?_
 refine zaa fun W hW => ?_
 simp only [sxZ,z6,z7,z8,j4,j5,j6,j7,j8,j9,x0,x3,x4,x5,x6,x7,reduceCtorEq,↓reduceIte,List.getElem?_set,hlen,t2,f0]
 subst hW
 rw [zaO]
 refine zaE (fun n o tm => ∃ i:Nat,i ≤ v.keys.length ∧ n=v.keys.length - i ∧ o2=o ∧ zgO v.keys v.items w=zgO (v.keys.drop i) (v.items.drop i) w ∧ tm.length=65 ∧ tm[2]? = some (.p 0 0) ∧ tm[3]? = some (.p 1 0) ∧ tm[5]? = some (.m b1) ∧ tm[6]? = some (.m b2) ∧ tm[24]? = some (.row v.keys.length (v.keys.map .s)) ∧ tm[25]? = some (.i .i64 (v.keys.length:Int)) ∧ tm[26]? = some (.i .i64 (i:Int))) v.keys.length ⟨0,Nat.zero_le _,rfl,rfl,rfl,?_⟩ ?_
 ·simp only [sxZ,z6,z7,z8,j4,j5,j6,j7,j8,j9,x0,x3,x4,x5,x6,x7,reduceCtorEq,↓reduceIte,List.length_set,List.getElem?_set,hlen,t2,t3,t5,t6,Int.cast_ofNat_Int,and_self]
 clear hlen t2 t3 t5 t6
 rintro n _ tm ⟨i,hi,rfl,rfl,hc,hlen,t2,t3,t5,t6,t24,t25,t26⟩
 refine zaa fun W hW => ?_
 by_cases hlt:(i:Int) < (v.keys.length:Int)
 ·have hi':i < v.keys.length:=by omega
  have hv':i < v.items.length:=by omega
  have kv:(v.keys.map AV.s)[i * 1]? = some (.s v.keys[i]):=by rw [Nat.mul_one,List.getElem?_map,List.getElem?_eq_getElem hi']; rfl
  have hx1:=hes1 v.keys[i]
  rw [zeL hnv hi',if_pos hi'] at hx1
  have hx2:=hes2 v.keys[i]
  rw [zbq hi',zbq hv',zgO] at hc
  have hgw:zcy w v.keys[i]=if zb7 v.keys[i] w.keys < w.keys.length then (match w.items[zb7 v.keys[i] w.keys]? with | some x => (x,true) | none => (jvZ,false)) else (jvZ,false):=by
   unfold zcy
   by_cases c:zb7 v.keys[i] w.keys < w.keys.length
   ·rw [if_pos ⟨k7,c⟩,if_pos c]
   ·rw [if_neg (fun h => c h.2),if_neg c]
  rw [hgw] at hc
  have jv:=zcZ hv'
  have jvl:=zav v.items
  have jwl:=zav w.items
  have hcall:=fun (y:JV) (hy:zdE y=true) (hy2:JLn y) {objs:List OB} {K:List OB → AV → Prop} (h:K objs (.b (zgQ v.items[i] y))) => ih v.items[i] y (zbe hv') (zcm hsi hv') hy (hv.its hv') hy2 (objs:=objs) (K:=K) h
  generalize v.keys[i]=key at kv hx1 hx2 hc hgw
  generalize zb7 key w.keys=j at hx2 hc hgw
  simp only [sxZ,z6,z7,z8,j4,j5,j6,j7,j8,j9,x0,x3,x4,x5,x6,x7,reduceCtorEq,↓reduceIte,List.getElem?_set,hlen,t24,t25,t26,hlt]
  subst hW
  refine zaa fun W hW => ?_
  simp only [sxZ,z6,z7,z8,j4,j5,j6,j7,j8,j9,x0,x3,x4,x5,x6,x7,reduceCtorEq,↓reduceIte,List.getElem?_set,hlen]
  subst hW
  refine zaa fun V hV => ?_
  rw [zaO]
  refine zaa fun W hW => ?_
  simp only [sxZ,z6,z7,z8,j4,j5,j6,j7,j8,j9,x0,x3,x4,x5,x6,x7,reduceCtorEq,↓reduceIte,List.getElem?_set,hlen,t24,t26,kv,List.length_map]
  refine ⟨⟨by omega,by omega,by omega⟩,?_⟩
  subst hW
  refine zaa fun W hW => ?_
  simp only [sxZ,z6,z7,z8,j4,j5,j6,j7,j8,j9,x0,x3,x4,x5,x6,x7,reduceCtorEq,↓reduceIte,List.getElem?_set,hlen,t5,fb,hx1]
  subst hW
  refine zaa fun W hW => ?_
  simp only [sxZ,z6,z7,z8,j4,j5,j6,j7,j8,j9,x0,x3,x4,x5,x6,x7,reduceCtorEq,↓reduceIte,List.getElem?_set,hlen,Bool.not_true]
  subst hW
  refine zaa fun W hW => ?_
  simp only [sxZ,z6,z7,z8,j4,j5,j6,j7,j8,j9,x0,x3,x4,x5,x6,x7,reduceCtorEq,↓reduceIte,List.getElem?_set,hlen,decide_true,Bool.not_true]
  subst hW
  refine zaa fun W hW => ?_
  by_cases c:j < w.keys.length
  ·rw [if_pos c] at hx2 hc
   have hj2:j < w.items.length:=by omega
   rw [List.getElem?_eq_getElem hj2] at hc
   simp only [Bool.true_and] at hc
   have jw:=zcZ hj2
   have hcall:=@hcall w.items[j] (zcm hti hj2) (hw.its hj2)
   generalize v.items[i]=x at jv hc hcall
   generalize w.items[j]=y at jw hc hcall
   have hjx:=zai x
   have hjy:=zai y
   rw [hjx] at jv hcall
   rw [hjy] at jw hcall
   simp only [sxZ,z6,z7,z8,j4,j5,j6,j7,j8,j9,x0,x3,x4,x5,x6,x7,reduceCtorEq,↓reduceIte,List.getElem?_set,hlen,t6,fc,hx2]
   subst hW
   refine zaa fun W hW => ?_
   simp only [sxZ,z6,z7,z8,j4,j5,j6,j7,j8,j9,x0,x3,x4,x5,x6,x7,reduceCtorEq,↓reduceIte,List.getElem?_set,hlen,t2,t3,f0,f1,jv,jw,Bool.not_true,Int.toNat_natCast]
   refine ⟨⟨by omega,by omega,by omega⟩,by omega,⟨by omega,by omega,by omega⟩,by omega,?_⟩
   refine zcu (hcall ⟨rfl,rfl⟩) ?_
   generalize zgQ x y=e at hc ⊢
   cases e with
   | false =>
    rw [Bool.false_and] at hc
    simp only [sxZ,z6,z7,z8,j4,j5,j6,j7,j8,j9,x0,x3,x4,x5,x6,x7,reduceCtorEq,↓reduceIte,List.getElem?_set,hlen,Bool.not_false]
    subst hW
    simp only [sxZ,z6,z7,z8,j4,j5,j6,j7,j8,j9,x0,x3,x4,x5,x6,x7,reduceCtorEq,↓reduceIte,List.getElem?_set,hlen]
    rw [hc] at hk
    exact hk
   | true =>
    rw [Bool.true_and] at hc
    simp only [sxZ,z6,z7,z8,j4,j5,j6,j7,j8,j9,x0,x3,x4,x5,x6,x7,reduceCtorEq,↓reduceIte,List.getElem?_set,hlen,Bool.not_true]
    subst hW
    simp only [sxZ,z6,z7,z8,j4,j5,j6,j7,j8,j9,x0,x3,x4,x5,x6,x7,reduceCtorEq,↓reduceIte,List.getElem?_set,hlen]
    subst hV
    simp only [sxZ,z6,z7,z8,j4,j5,j6,j7,j8,j9,x0,x3,x4,x5,x6,x7,reduceCtorEq,↓reduceIte,List.getElem?_set,hlen,t2,t3,t5,t6,t24,t25,t26]
    exact ⟨by omega,v.keys.length - (i + 1),by omega,i + 1,by omega,rfl,hc,rfl⟩
  ·rw [if_neg c] at hx2 hc
   simp only [Bool.false_and] at hc
   simp only [sxZ,z6,z7,z8,j4,j5,j6,j7,j8,j9,x0,x3,x4,x5,x6,x7,reduceCtorEq,↓reduceIte,List.getElem?_set,hlen,t6,fc,hx2]
   subst hW
   refine zaa fun W hW => ?_
   simp only [sxZ,z6,z7,z8,j4,j5,j6,j7,j8,j9,x0,x3,x4,x5,x6,x7,reduceCtorEq,↓reduceIte,List.getElem?_set,hlen,Bool.not_false]
   subst hW
   simp only [sxZ,z6,z7,z8,j4,j5,j6,j7,j8,j9,x0,x3,x4,x5,x6,x7,reduceCtorEq,↓reduceIte,List.getElem?_set,hlen]
   rw [hc] at hk
   exact hk
 simp only [sxZ,z6,z7,z8,j4,j5,j6,j7,j8,j9,x0,x3,x4,x5,x6,x7,reduceCtorEq,↓reduceIte,List.getElem?_set,hlen,t24,t25,t26,hlt]
 subst hW
 subst hZ
 simp only [sxZ,z6,z7,z8,j4,j5,j6,j7,j8,j9,x0,x3,x4,x5,x6,x7,reduceCtorEq,↓reduceIte,List.getElem?_set,hlen]
 have hdn:v.items.drop i=[]:=List.drop_eq_nil_of_le (by omega)
 rw [hc,hdn,zgO] at hk
 exact hk
theorem ziS:∀ (m:Nat) (v w:JV),v.size < m → zdE v=true → zdE w=true → JLn v → JLn w → ∀ {objs:List OB} {K:List OB → AV → Prop},K objs (.b (zgQ v w)) → zad Tryz.prog 16 [.agg (zah v),.agg (zah w)] objs K:=by
 intro m
 induction m with
 | zero => intro v w h; omega
 | succ m ih =>
  intro v w hm hsv hsw hv hw objs K hk
  obtain ⟨l1,l2⟩:=hv.lens
  have kv:=zbU hsv
  have kw:=zbU hsw
  have hob:=fun (h7:v.kind=7) (k7:w.kind=7) {objs:List OB} {K:List OB → AV → Prop} (h) => ze2 v w h7 k7 hsv hsw hv hw (fun x y hx => ih x y (by omega)) (objs:=objs) (K:=K) h
  have hfu:=fun (s1:zda v.items=true) (s2:zda w.items=true) {objs:List OB} {K:List OB → AV → Prop} (h) => zhL v.items w.items l2 (fun i h1 h2 => ih v.items[i] w.items[i] (by have:=zbe h1; omega) (zcm s1 h1) (zcm s2 h2) (hv.its h1) (hw.its h2)) (objs:=objs) (K:=K) h
  refine zaN is_jsondoc_Equal (by simp only [zao,AV.plain,zaL,Bool.and_self]) fun C _ => ?_
  rw [c_jsondoc_Equal]
  have hjv:=zai v
  have hjw:=zai w
  rw [hjv,hjw] at hob
  rw [hjv,hjw]
  rw [zhD] at hk
  refine zaa fun Y hY => ?_
  simp only [sxZ,z6,z7,z8,j4,j5,j6,j7,j8,j9,x0,x3,x4,x5,x6,x7,reduceCtorEq,↓reduceIte]
  subst hY
  refine zaa fun Y hY => ?_
  by_cases c1:v.kind=w.kind
  rotate_left
  ·rw [decide_eq_false c1,Bool.false_and] at hk
   simp only [sxZ,z6,z7,z8,j4,j5,j6,j7,j8,j9,x0,x3,x4,x5,x6,x7,reduceCtorEq,↓reduceIte,c1,decide_false,Bool.not_false]
   exact hk
  rw [decide_eq_true c1,Bool.true_and] at hk
  simp only [sxZ,z6,z7,z8,j4,j5,j6,j7,j8,j9,x0,x3,x4,x5,x6,x7,reduceCtorEq,↓reduceIte,c1,decide_true,Bool.not_true]
  subst hY
  refine zaa fun Y hY => ?_
  refine zaa fun W hW => ?_
  simp only [sxZ,z6,z7,z8,j4,j5,j6,j7,j8,j9,x0,x3,x4,x5,x6,x7,reduceCtorEq,↓reduceIte]
  subst hW
  rw [zaO]
  rw [c1] at hk kv hob
  by_cases a1:w.kind=1 ∨ w.kind=2 ∨ w.kind=3
  ·rw [if_pos a1] at hk
   rcases a1 with a1 | a1 | a1
   all_goals
    simp only [sxZ,z6,z7,z8,j4,j5,j6,j7,j8,j9,x0,x3,x4,x5,x6,x7,reduceCtorEq,↓reduceIte,a1]
    exact hk
  rw [if_neg a1] at hk
  have n1:¬ w.kind=1:=fun h => a1 (.inl h)
  have n2:¬ w.kind=2:=fun h => a1 (.inr (.inl h))
  have n3:¬ w.kind=3:=fun h => a1 (.inr (.inr h))
  by_cases a4:w.kind=4 ∨ w.kind=5
  ·rw [if_pos a4] at hk
   by_cases b1:v.text=w.text
   ·rw [decide_eq_true b1] at hk
    rcases a4 with a4 | a4
    all_goals
     simp only [sxZ,z6,z7,z8,j4,j5,j6,j7,j8,j9,x0,x3,x4,x5,x6,x7,reduceCtorEq,↓reduceIte,a4,b1,decide_true]
     exact hk
   ·rw [decide_eq_false b1] at hk
    rcases a4 with a4 | a4
    all_goals
     simp only [sxZ,z6,z7,z8,j4,j5,j6,j7,j8,j9,x0,x3,x4,x5,x6,x7,reduceCtorEq,↓reduceIte,a4,b1,decide_false]
     exact hk
  rw [if_neg a4] at hk
  by_cases a6:w.kind=6
  ·rw [if_pos a6] at hk
   have hsi:zda v.items=true:=by
    rcases kv with ⟨h0,_⟩ | ⟨_,_,h⟩ | ⟨h0,_⟩
    ·omega
    ·exact h
    ·omega
   have hti:zda w.items=true:=by
    rcases kw with ⟨h0,_⟩ | ⟨_,_,h⟩ | ⟨h0,_⟩
    ·omega
    ·exact h
    ·omega
   simp only [sxZ,z6,z7,z8,j4,j5,j6,j7,j8,j9,x0,x3,x4,x5,x6,x7,reduceCtorEq,↓reduceIte,a6]
   refine zam (hfu hsi hti ?_)
   simp only [sxZ,z6,z7,z8,j4,j5,j6,j7,j8,j9,x0,x3,x4,x5,x6,x7,reduceCtorEq,↓reduceIte]
   exact hk
  rw [if_neg a6] at hk
  have a7:w.kind=7:=by
   rcases kw with ⟨h0,_⟩ | ⟨h0,_⟩ | ⟨h0,_⟩
   ·omega
   ·omega
   ·exact h0
  rw [if_pos a7] at hk
  rw [a7] at hob
  simp only [sxZ,z6,z7,z8,j4,j5,j6,j7,j8,j9,x0,x3,x4,x5,x6,x7,reduceCtorEq,↓reduceIte,a7]
  refine zam (hob rfl rfl ?_)
  simp only [sxZ,z6,z7,z8,j4,j5,j6,j7,j8,j9,x0,x3,x4,x5,x6,x7,reduceCtorEq,↓reduceIte]
  exact hk
end
end
end Go.Proofs.YthmdohgkmdkeeaaGreatDoor
namespace Go.Proofs.YthmdohgkmdkeeaaGreatDoor
open Go.RowKit Sx
section
attribute [local irreducible] run
theorem js_ex1:zbW [123,34,97,34,58,91,49,44,50,46,53,48,93,44,34,98,34,58,110,117,108,108,125]=(.mk 7 [] [[97],[98]] [.mk 6 [] [] [.mk 4 [49] [] [],.mk 4 [50,53,101,45,49] [] []],.mk 1 [] [] []],23,0):=by kernel_rfl
theorem js_ex2:zbW [123,34,97,34,58,49,44,34,97,34,58,50,125]=(jvZ,7,143):=by kernel_rfl
end
end Go.Proofs.YthmdohgkmdkeeaaGreatDoor
namespace Go.Proofs.YthmdohgkmdkeeaaGreatDoor
open Nat renaming reduceAdd → z6, reduceSub → z7, reduceLeDiff → z8, reduceLT → j4, reduceMul → j5, reduceEqDiff → j6
open Int renaming reduceToNat → j7, reduceAdd → j8, reduceSub → j9, reduceMul → x0, reduceNeg → x3, reduceLT → x4, reduceLE → x5, reduceEq → x6, reduceNe → x7
open Go.RowKit Sx
section
attribute [local irreducible] run
theorem zeq {α:Type} (a l ys:List α) (n j:Nat) (h:a.length=n):zaF (a ++ l) (n + j) ys=a ++ zaF l j ys:=by
 subst h
 unfold zaF
 rw [List.take_append,List.drop_append,List.take_of_length_le (by omega),List.drop_eq_nil_of_le (by omega),show a.length + j - a.length=j by omega,show a.length + j + ys.length - a.length=j + ys.length by omega]
 simp
theorem zjs {α:Type} (a l ys:List α) (n:Nat) (h:a.length=n) (h2:l.length=ys.length):zaF (a ++ l) n ys=a ++ ys:=by
 have:=zeq a l ys n 0 h
 rw [Nat.add_zero] at this
 rw [this]
 unfold zaF
 rw [List.take_zero,Nat.zero_add,← h2,List.drop_length]
 simp
theorem zco {α:Type} (a b:List α) (x:α):(x :: (a ++ b)).Perm (a ++ x :: b):=List.perm_middle.symm
theorem sp3 {α:Type} (d0:List α) (n:Nat) (a b c d e x:α) (h:d0.length=n * 5):List.take (n * 5 + 3) (d0 ++ [a,b,c,d,e]) ++ [x] ++ List.drop (n * 5 + 3 + 1) (d0 ++ [a,b,c,d,e])=d0 ++ [a,b,c,x,e]:=zeq d0 [a,b,c,d,e] [x] (n * 5) 3 h
theorem sp2 {α:Type} (d0:List α) (n:Nat) (a b c d e x:α) (h:d0.length=n * 5):List.take (n * 5 + 2) (d0 ++ [a,b,c,d,e]) ++ [x] ++ List.drop (n * 5 + 2 + 1) (d0 ++ [a,b,c,d,e])=d0 ++ [a,b,x,d,e]:=zeq d0 [a,b,c,d,e] [x] (n * 5) 2 h
theorem spE {α:Type} (l:List α) (n:Nat) (a b c d e f g i:α) (h:l.length=n * 4):List.take (n * 4) (l ++ [a,b,c,d]) ++ [e,f,g,i] ++ List.drop (n * 4 + 4) (l ++ [a,b,c,d])=l ++ [e,f,g,i]:=zjs l [a,b,c,d] [e,f,g,i] (n * 4) h rfl
theorem own_move {L0 Lk Lm:List (Nat × OB)} {a b q x:Nat × OB} {o:List OB} (h:zaQ (x :: q :: a :: b :: (Lk ++ ([] ++ Lm) ++ L0)) o):zaQ (a :: b :: (Lk ++ ([x] ++ Lm) ++ L0)) o:=by
 have h1:=h.sub (L':=x :: a :: b :: (Lk ++ ([] ++ Lm) ++ L0)) ((List.sublist_cons_self _ _).cons_cons x)
 refine h1.perm ?_
 have:=zco (a :: b :: Lk) (Lm ++ L0) x
 simpa using this
section
variable [Tabs Tryz.prog] {objs:List OB} {K:List OB → AV → Prop}
theorem add_k {M:List (Nat × OB)} {p:Nat} {σ:Ms} (hP:PrO M p σ objs) (v:JV) (hl:∀ f ∈ σ.stk,f.its.length ≤ 10000000) (hd:σ.stk.length ≤ 64) (hk:∀ o,PrO M p (zc1 σ v) o → K o (.tup [])):zad Tryz.prog 63 [.p p 0,.agg (zah v)] objs K:=by
 obtain ⟨c0,c1,c2,c3,hv⟩:∃ c0 c1 c2 c3,zah v=[c0,c1,c2,c3]:=⟨_,_,_,_,zai v⟩
 obtain ⟨σst,stk,nodes,root⟩:=σ
 cases stk with
 | nil =>
  obtain ⟨X,r0,r1,r2,r3,L,hO,hX,hpl,hr⟩:=hP
  have hcp:zao [c0,c1,c2,c3]=true:=by rw [← hv]; exact zaL v
  have hO1:=hO.new (.box 26 (zah v))
  refine zbP is_jsondoc_parser_add fun C _ => ?_
  rw [c_jsondoc_parser_add]
  refine zaa fun Y hY => ?_
  simp only [sxZ,z6,z7,z8,j4,j5,j6,j7,j8,j9,x0,x3,x4,x5,x6,x7,reduceCtorEq,↓reduceIte]
  generalize objs ++ [OB.box 26 (zah v)]=o1 at hO1 ⊢
  have e0:=hO1.get (i:=objs.length) (x:=.box 26 (zah v)) (by simp)
  have e1:=hO1.get (i:=p) (x:=prB σst X nodes r0 r1 r2 r3) (by simp)
  have hO2:=(hO1.sub (List.sublist_cons_self _ _)).set (A:=[]) (prB 6 X nodes c0 c1 c2 c3)
  rw [hv] at e0
  subst hY
  have hXn:X=.nil ∨ ∃ rr g cs L',X=.orow rr g ∧ L=(rr,.orow 90 5 g 0 cs) :: L':=by
   rcases hX with ⟨_,h,_⟩ | ⟨rr,g,cs,L',h1,_,h2⟩
   ·exact .inl h
   ·exact .inr ⟨rr,g,cs,L',h1,h2⟩
  have fin:PrO M p (zc1 ⟨σst,[],nodes,root⟩ v) (o1.set p (prB 6 X nodes c0 c1 c2 c3)):=⟨X,c0,c1,c2,c3,L,hO2,hX,hcp,fun _ => hv.symm⟩
  have hfin:=hk _ fin
  unfold prB at e1 hfin
  have hlt:=hO1.lt (i:=p) (x:=prB σst X nodes r0 r1 r2 r3) (by simp)
  have lse:∀ x,(o1.set p x)[p]? = some x:=fun x => List.getElem?_set_self hlt
  rcases hXn with rfl | ⟨rr,g,cs,L',rfl,rfl⟩
  ·refine zaa fun Y hY => ?_
   simp only [sxZ,z6,z7,z8,j4,j5,j6,j7,j8,j9,x0,x3,x4,x5,x6,x7,reduceCtorEq,↓reduceIte,e0,e1,lse,List.set_set]
   exact hfin
  ·have e2:=hO1.get (i:=rr) (x:=.orow 90 5 g 0 cs) (by simp)
   refine zaa fun Y hY => ?_
   simp only [sxZ,z6,z7,z8,j4,j5,j6,j7,j8,j9,x0,x3,x4,x5,x6,x7,reduceCtorEq,↓reduceIte,e0,e1,e2,lse,List.set_set,Int.cast_ofNat_Int]
   exact hfin
 | cons f r =>
  obtain ⟨rr,g,r0,r1,r2,r3,kx,ix,mx,d0,L0,Lk,Li,Lm,hO,h1,h2,h3,h4,h5,h6⟩:=zgC hP rfl
  have hfl:=hl f (by simp)
  have hrl:r.length ≤ 63:=by simpa using hd
  have hO1:=hO.new (.box 26 (zah v))
  refine zbP is_jsondoc_parser_add fun C _ => ?_
  rw [c_jsondoc_parser_add]
  refine zaa fun Y hY => ?_
  simp only [sxZ,z6,z7,z8,j4,j5,j6,j7,j8,j9,x0,x3,x4,x5,x6,x7,reduceCtorEq,↓reduceIte]
  generalize objs ++ [OB.box 26 (zah v)]=o1 at hO1 ⊢
  have e0:=hO1.get (i:=objs.length) (x:=.box 26 (zah v)) (by simp)
  have e1:=hO1.get (i:=p) (x:=prB σst (.orow rr g) nodes r0 r1 r2 r3) (by simp)
  have e2:=hO1.get (i:=rr) (x:=.orow 90 5 g (r.length + 1) (d0 ++ [.i .i64 (kdF f),.s [],kx,ix,mx])) (by simp)
  have hne:((r.length + 1:Nat):Int) ≠ 0:=by omega
  rw [hv] at e0
  subst hY
  refine zaa fun Y hY => ?_
  have e1':=e1
  unfold prB at e1'
  simp only [sxZ,z6,z7,z8,j4,j5,j6,j7,j8,j9,x0,x3,x4,x5,x6,x7,reduceCtorEq,↓reduceIte,e0,e1',e2,hne]
  subst hY
  refine zaa fun Y hY => ?_
  simp only [sxZ,z6,z7,z8,j4,j5,j6,j7,j8,j9,x0,x3,x4,x5,x6,x7,reduceCtorEq,↓reduceIte]
  refine zam (zj9 e1 e2 (by omega) ?_)
  simp only [sxZ,z6,z7,z8,j4,j5,j6,j7,j8,j9,x0,x3,x4,x5,x6,x7,reduceCtorEq,↓reduceIte]
  subst hY
  refine zaa fun Y hY => ?_
  have k3:=c5_at d0 [.i .i64 (kdF f),.s [],kx,ix,mx] r.length 3 h5
  rcases h2 with ⟨z1,z2,rfl,rfl⟩ | ⟨bi,gi,rfl,rfl⟩
  ·have f0:f.its=[]:=List.eq_nil_of_length_eq_zero z1
   have hlt:=hO1.lt (i:=rr) (x:=.orow 90 5 g (r.length + 1) (d0 ++ [.i .i64 (kdF f),.s [],kx,.nil,mx])) (by simp)
   have hne2:¬ o1.length=rr:=by omega
   have gx:∀ x,(o1 ++ [x])[rr]? = some (.orow 90 5 g (r.length + 1) (d0 ++ [.i .i64 (kdF f),.s [],kx,.nil,mx])):=fun x => by rw [List.getElem?_append_left hlt]; exact e2
   simp only [sxZ,z6,z7,z8,j4,j5,j6,j7,j8,j9,x0,x3,x4,x5,x6,x7,reduceCtorEq,↓reduceIte,e0,e2,Nat.add_zero,k3,gn1,sn1,gx,hne2]
   rw [sp3 _ _ _ _ _ _ _ _ h5]
   refine ⟨by decide,by omega,?_⟩
   have hN:=hO1.new (.orow 26 4 0 1 [c0,c1,c2,c3])
   have hR:=hN.set (A:=[(o1.length,.orow 26 4 0 1 [c0,c1,c2,c3]),(objs.length,.box 26 (zah v)),(p,prB σst (.orow rr g) nodes r0 r1 r2 r3)]) (.orow 90 5 g (r.length + 1) (d0 ++ [.i .i64 (kdF f),.s [],kx,.orow o1.length 0,mx]))
   have hF:=hR.set (A:=[(o1.length,.orow 26 4 0 1 [c0,c1,c2,c3]),(objs.length,.box 26 (zah v))]) (prB 5 (.orow rr g) nodes r0 r1 r2 r3)
   have e5:=hR.get (i:=p) (x:=prB σst (.orow rr g) nodes r0 r1 r2 r3) (by simp)
   have hS:SlO 26 4 (f.its ++ [v]).length (zac (f.its ++ [v])) (.orow o1.length 0) [(o1.length,.orow 26 4 0 1 [c0,c1,c2,c3])]:=.inr ⟨_,_,rfl,by rw [f0,List.nil_append,zaK,zaH,hv]; rfl⟩
   have hfin:=hk _ (zjD (root:=root) (r:=r) (f:=⟨f.obj,f.ks,f.its ++ [v]⟩) (own_move hF) h1 hS h3 h4 h6 (by decide))
   unfold prB at e5 hfin
   generalize (o1 ++ [OB.orow 26 4 0 1 [c0,c1,c2,c3]]).set rr _=o2 at e5 hfin ⊢
   subst hY
   simp only [sxZ,z6,z7,z8,j4,j5,j6,j7,j8,j9,x0,x3,x4,x5,x6,x7,reduceCtorEq,↓reduceIte,e5]
   exact hfin
  ·have e4:=hO1.get (i:=bi) (x:=.orow 26 4 gi f.its.length (zac f.its)) (by simp)
   have hlt:=hO1.lt (i:=rr) (x:=.orow 90 5 g (r.length + 1) (d0 ++ [.i .i64 (kdF f),.s [],kx,.orow bi gi,mx])) (by simp)
   have hlt4:=hO1.lt (i:=bi) (x:=.orow 26 4 gi f.its.length (zac f.its)) (by simp)
   have hne2:¬ bi=rr:=by
    intro h
    have:=hO1.1
    simp only [List.map_cons,List.map_append,List.nodup_cons] at this
    exact this.2.2.1 (by simp [h])
   have hne3:¬ rr=bi:=fun h => hne2 h.symm
   have gs:∀ x,(o1.set bi x)[bi]? = some x:=fun x => List.getElem?_set_self hlt4
   have gx:∀ x,(o1.set bi x)[rr]? = some (.orow 90 5 g (r.length + 1) (d0 ++ [.i .i64 (kdF f),.s [],kx,.orow bi gi,mx])):=fun x => by rw [List.getElem?_set_ne hne2]; exact e2
   simp only [sxZ,z6,z7,z8,j4,j5,j6,j7,j8,j9,x0,x3,x4,x5,x6,x7,reduceCtorEq,↓reduceIte,e0,e2,e4,Nat.add_zero,k3,gs,gx,hne2,List.set_set]
   have hjl:=zav f.its
   rw [sp3 _ _ _ _ _ _ _ _ h5,spE _ _ _ _ _ _ _ _ _ _ hjl]
   refine ⟨⟨by omega,by omega⟩,⟨by omega,by omega⟩,by omega,by omega,?_⟩
   have hO1':zaQ (((objs.length,.box 26 (zah v)) :: (p,prB σst (.orow rr g) nodes r0 r1 r2 r3) :: (rr,.orow 90 5 g (r.length + 1) (d0 ++ [.i .i64 (kdF f),.s [],kx,.orow bi gi,mx])) :: Lk) ++ (bi,.orow 26 4 gi f.its.length (zac f.its)) :: (Lm ++ L0)) o1:=hO1.perm (List.Perm.of_eq (by simp))
   have hN:=hO1'.set (.orow 26 4 (gi + 1) (f.its.length + 1) (zac f.its ++ [c0,c1,c2,c3]))
   have hR:=hN.set (A:=[(objs.length,.box 26 (zah v)),(p,prB σst (.orow rr g) nodes r0 r1 r2 r3)]) (.orow 90 5 g (r.length + 1) (d0 ++ [.i .i64 (kdF f),.s [],kx,.orow bi (gi + 1),mx]))
   have hF:=(hR.set (A:=[(objs.length,.box 26 (zah v))]) (prB 5 (.orow rr g) nodes r0 r1 r2 r3)).sub (List.sublist_cons_self _ _)
   have e5:=hR.get (i:=p) (x:=prB σst (.orow rr g) nodes r0 r1 r2 r3) (by simp)
   have hS:SlO 26 4 (f.its ++ [v]).length (zac (f.its ++ [v])) (.orow bi (gi + 1)) [(bi,.orow 26 4 (gi + 1) (f.its.length + 1) (zac f.its ++ [c0,c1,c2,c3]))]:=.inr ⟨_,_,rfl,by rw [zhE,zaK,zaH,hv,List.length_append]; rfl⟩
   have hF':zaQ ((p,prB 5 (.orow rr g) nodes r0 r1 r2 r3) :: (rr,.orow 90 5 g (r.length + 1) (d0 ++ [.i .i64 (kdF f),.s [],kx,.orow bi (gi + 1),mx])) :: (Lk ++ ([(bi,.orow 26 4 (gi + 1) (f.its.length + 1) (zac f.its ++ [c0,c1,c2,c3]))] ++ Lm) ++ L0)) _:=hF.perm (List.Perm.of_eq (by simp))
   have hfin:=hk _ (zjD (root:=root) (r:=r) (f:=⟨f.obj,f.ks,f.its ++ [v]⟩) hF' h1 hS h3 h4 h6 (by decide))
   unfold prB at e5 hfin
   generalize (o1.set bi (OB.orow 26 4 (gi + 1) (f.its.length + 1) (zac f.its ++ [c0,c1,c2,c3]))).set rr _=o2 at e5 hfin ⊢
   subst hY
   simp only [sxZ,z6,z7,z8,j4,j5,j6,j7,j8,j9,x0,x3,x4,x5,x6,x7,reduceCtorEq,↓reduceIte,e5]
   exact hfin
end
end
section
attribute [local irreducible] run
theorem zaQ.set0 {α:Type} {B:List (Nat × α)} {o:List α} {i:Nat} {x:α} (y:α) (h:zaQ ((i,x) :: B) o):zaQ ((i,y) :: B) (o.set i y):=zaQ.set (A:=[]) y h
theorem zaQ.set1 {α:Type} {a:Nat × α} {B:List (Nat × α)} {o:List α} {i:Nat} {x:α} (y:α) (h:zaQ (a :: (i,x) :: B) o):zaQ (a :: (i,y) :: B) (o.set i y):=zaQ.set (A:=[a]) y h
theorem zaQ.set2 {α:Type} {a b:Nat × α} {B:List (Nat × α)} {o:List α} {i:Nat} {x:α} (y:α) (h:zaQ (a :: b :: (i,x) :: B) o):zaQ (a :: b :: (i,y) :: B) (o.set i y):=zaQ.set (A:=[a,b]) y h
theorem zaQ.set3 {α:Type} {a b c:Nat × α} {B:List (Nat × α)} {o:List α} {i:Nat} {x:α} (y:α) (h:zaQ (a :: b :: c :: (i,x) :: B) o):zaQ (a :: b :: c :: (i,y) :: B) (o.set i y):=zaQ.set (A:=[a,b,c]) y h
theorem zaQ.set4 {α:Type} {a b c d:Nat × α} {B:List (Nat × α)} {o:List α} {i:Nat} {x:α} (y:α) (h:zaQ (a :: b :: c :: d :: (i,x) :: B) o):zaQ (a :: b :: c :: d :: (i,y) :: B) (o.set i y):=zaQ.set (A:=[a,b,c,d]) y h
theorem own_key1 {α:Type} {n m q p r:Nat × α} {A B:List (Nat × α)} {o:List α} (h:zaQ (n :: m :: q :: p :: r :: (A ++ B)) o):zaQ (p :: r :: ([n] ++ (A ++ [m]) ++ B)) o:=by
 have h1:=h.sub (L':=n :: m :: p :: r :: (A ++ B)) (((List.sublist_cons_self _ _).cons_cons m).cons_cons n)
 have h2:=h1.perm ((zco (p :: r :: A) B m).cons n)
 have h3:=h2.perm (zco [p,r] (A ++ m :: B) n)
 simpa using h3
theorem own_key2 {α:Type} {n m q p r:Nat × α} {A B:List (Nat × α)} {o:List α} (h:zaQ (m :: q :: p :: r :: n :: (A ++ B)) o):zaQ (p :: r :: ([n] ++ (A ++ [m]) ++ B)) o:=by
 have h1:=h.sub (L':=m :: p :: r :: n :: (A ++ B)) ((List.sublist_cons_self _ _).cons_cons m)
 have h2:=h1.perm (zco (p :: r :: n :: A) B m)
 simpa using h2
theorem zaQ.ne {α:Type} {a b:Nat × α} {A B C:List (Nat × α)} {o:List α} (h:zaQ (A ++ a :: (B ++ b :: C)) o):a.1 ≠ b.1:=by
 have:=h.1
 simp only [List.map_append,List.map_cons] at this
 rw [List.nodup_append] at this
 obtain ⟨_,h2,_⟩:=this
 rw [List.nodup_cons] at h2
 intro e
 exact h2.1 (by rw [e]; simp)
theorem zgE {α:Type} {n c q p:Nat × α} {X:List (Nat × α)} {o:List α} (h:zaQ (n :: c :: q :: p :: X) o):zaQ (p :: n :: X) o :=
 (h.sub (L':=n :: p :: X) (((List.sublist_cons_self _ _).trans (List.sublist_cons_self _ _)).cons_cons n)).perm (List.Perm.swap _ _ _)
theorem c5_take {α:Type} (d0:List α) (n:Nat) (a b c d e:α) (h:d0.length=n * 5):List.take 4 (List.drop (n * 5) (d0 ++ [a,b,c,d,e]))=[a,b,c,d]:=by
 rw [List.drop_left' h]; rfl
theorem zkh (E sz:Nat):SlO E sz 0 [] .nil []:=.inl ⟨rfl,rfl,rfl,rfl⟩
theorem zkW {M:List (Nat × OB)} {p:Nat} {st:Int} {stk:List Fr} {nodes:Nat} {root:JV} {b:Bool} {o:List OB} {rr g:Nat} {r0 r1 r2 r3 mx:AV} {kk:Int} {cs:List AV} {L' Lm:List (Nat × OB)} {st':Int}
  (hO:zaQ ((p,prB st' (.orow rr g) nodes r0 r1 r2 r3) :: (rr,.orow 90 5 g (stk.length + 1) (cs ++ [.i .i64 kk,.s [],.nil,.nil,mx])) :: (Lm ++ L')) o) (hkk:(if b=true then (7:Int) else 6)=kk)
  (h3:MpO ⟨b,[],[]⟩ mx Lm) (h4:StkO M stk cs L') (hpl:zao [r0,r1,r2,r3]=true) (he:st'=st) (h5:¬ (st=6 ∨ st=7)):PrO M p ⟨st,⟨b,[],[]⟩ :: stk,nodes,root⟩ o:=by
 subst he hkk
 refine zjD (Lk:=[]) (Li:=[]) (Lm:=Lm) (L0:=L') (r:=stk) (f:=⟨b,[],[]⟩) hO (zkh _ _) ?_ h3 h4 hpl h5
 show SlO _ _ 0 (zac []) .nil []
 rw [zaH]
 exact zkh _ _
theorem zlj {k:List UInt8}:∀ {l:List (List UInt8)},k ∈ l → zec k (l.map fun k => (k,AV.b true))=some (.b true)
 | a :: l,h => by
  rw [List.map_cons]
  unfold zec
  by_cases c:a=k
  ·simp [c]
  ·have h':k ∈ l:=(List.mem_cons.1 h).resolve_left (fun e => c e.symm)
   simp [c,zlj h']
theorem zix {k:List UInt8}:∀ {l:List (List UInt8)},¬ k ∈ l → zec k (l.map fun k => (k,AV.b true))=none
 | [],h => rfl
 | a :: l,h => by
  rw [List.map_cons]
  unfold zec
  simp only [List.mem_cons,not_or] at h
  have c:¬ a=k:=fun e => h.1 e.symm
  simp [c,zix h.2]
theorem ziw {k:List UInt8}:∀ {l:List (List UInt8)},¬ k ∈ l → zeX k (.b true) (l.map fun k => (k,AV.b true))=(l ++ [k]).map fun k => (k,AV.b true)
 | [],h => rfl
 | a :: l,h => by
  rw [List.map_cons]
  unfold zeX
  simp only [List.mem_cons,not_or] at h
  have c:¬ a=k:=fun e => h.1 e.symm
  simp [c,ziw h.2]
def zb9 (L:List (Nat × OB)):Prop:=∀ z ∈ L,∀ b g n xs,zge b g n xs z.2=z.2
theorem zce {A B:List (Nat × OB)} (h:zb9 A) (k:zb9 B):zb9 (A ++ B):=fun z hz => (List.mem_append.1 hz).elim (h z) (k z)
theorem zer {E sz n:Nat} {xs:List AV} {X:AV} {L:List (Nat × OB)} (h:SlO E sz n xs X L):zb9 L:=by
 rcases h with ⟨_,_,_,rfl⟩ | ⟨b,g,_,rfl⟩
 ·intro z hz; cases hz
 ·intro z hz b' g' n' xs'
  rw [List.mem_singleton] at hz; subst hz; rfl
theorem zeD {f:Fr} {X:AV} {L:List (Nat × OB)} (h:MpO f X L):zb9 L:=by
 rcases h with ⟨_,_,rfl⟩ | ⟨_,b,_,rfl⟩
 ·intro z hz; cases hz
 ·intro z hz b' g' n' xs'
  rw [List.mem_singleton] at hz; subst hz; rfl
theorem zep {M:List (Nat × OB)} (hM:zb9 M):∀ {S:List Fr} {cs:List AV} {L:List (Nat × OB)},StkO M S cs L → zb9 L
 | [],cs,L,h => by rw [h.2]; exact hM
 | f :: r,cs,L,h => by
  obtain ⟨c0,c1,L0,L1,⟨_,_,_,_,_,_,_,h1,h2,h3,rfl⟩,h4,_,rfl⟩:=h
  exact zce (zce (zer h1) (zce (zer h2) (zeD h3))) (zep hM h4)
theorem sub_i {b g n:Nat} {xs:List AV} (k:IntKind) (m:Int):zb5 b g n xs (.i k m)=.i k m:=rfl
theorem sub_s {b g n:Nat} {xs:List AV} (l:List UInt8):zb5 b g n xs (.s l)=.s l:=rfl
theorem sub_p {b g n:Nat} {xs:List AV} (q j:Nat):zb5 b g n xs (.p q j)=.p q j:=rfl
theorem sub_row {b g n:Nat} {xs ys:List AV} (m:Nat):zb5 b g n xs (.row m ys)=.row m ys:=rfl
theorem sub_self {b g n:Nat} {xs:List AV}:zb5 b g n xs (.orow b g)=.row n xs:=by simp [zb5]
theorem sub_ne {b g n c h:Nat} {xs:List AV} (hc:¬ c=b):zb5 b g n xs (.orow c h)=.orow c h:=by simp [zb5,hc]
theorem zkd {st:Int} {rr g' nodes b g n:Nat} {xs:List AV} {r0 r1 r2 r3:AV} (hne:¬ rr=b) (hpl:zao [r0,r1,r2,r3]=true):zge b g n xs (prB st (.orow rr g') nodes r0 r1 r2 r3)=prB st (.orow rr g') nodes r0 r1 r2 r3:=by
 simp only [zao,Bool.and_eq_true] at hpl
 obtain ⟨p0,p1,p2,p3,_⟩:=hpl
 simp only [prB,zge,List.map_cons,List.map_nil,zcB p0,zcB p1,zcB p2,zcB p3,sub_i,sub_ne hne]
section
variable {P:Program} [Tabs P] {f:FuncId} {o:List OB} {K:List OB → AV → Prop} {p rr g st' nodes E sz n E' g' n' sz':Nat} {st k:Int} {txt:List UInt8} {xs cs ys:List AV} {X Y r0 r1 r2 r3:AV} {Lx L:List (Nat × OB)}
theorem weak4 {a b x y:AV} (hx:∀ G I v,Den G I x v → Den G I y v) (hc:zad P f [.p p 0,.agg [a,b,y,X]] o K):zad P f [.p p 0,.agg [a,b,x,X]] o K:=by
 refine jweak (fun G I ys h => ?_) hc
 simp only [zag,Den] at h ⊢
 obtain ⟨y0,l0,rfl,h0,y1,l1,rfl,⟨zs,rfl,⟨z0,m0,rfl,q0,z1,m1,rfl,q1,z2,m2,rfl,q2,q3⟩,hz⟩,h2⟩:=h
 exact ⟨_,_,rfl,h0,_,_,rfl,⟨_,rfl,⟨_,_,rfl,q0,_,_,rfl,q1,_,_,rfl,hx _ _ _ q2,q3⟩,hz⟩,h2⟩
theorem weak4' {a b x y:AV} (hx:∀ G I v,Den G I x v → Den G I y v) (hc:zad P f [.p p 0,.agg [a,b,X,y]] o K):zad P f [.p p 0,.agg [a,b,X,x]] o K:=by
 refine jweak (fun G I ys h => ?_) hc
 simp only [zag,Den] at h ⊢
 obtain ⟨y0,l0,rfl,h0,y1,l1,rfl,⟨zs,rfl,⟨z0,m0,rfl,q0,z1,m1,rfl,q1,z2,m2,rfl,q2,z3,m3,rfl,q3,q4⟩,hz⟩,h2⟩:=h
 exact ⟨_,_,rfl,h0,_,_,rfl,⟨_,rfl,⟨_,_,rfl,q0,_,_,rfl,q1,_,_,rfl,q2,_,_,rfl,hx _ _ _ q3,q4⟩,hz⟩,h2⟩
theorem pub_keys (h:SlO E sz n xs X Lx) (hO:zaQ ((p,prB st (.orow rr g) nodes r0 r1 r2 r3) :: (rr,.orow E' sz' g n' cs) :: (Lx ++ L)) o) (hL:zb9 L) (hpl:zao [r0,r1,r2,r3]=true) 
  (hY2:∀ b,Lx.map (·.1)=[b] → ∀ g n xs,zb5 b g n xs Y=Y) (hk:∀ o',zaQ ((p,prB st (.orow rr g) nodes r0 r1 r2 r3) :: (rr,.orow E' sz' g n' cs) :: L) o' → zad P f [.p p 0,.agg [.i .i64 k,.s txt,.row n xs,Y]] o' K) :
  zad P f [.p p 0,.agg [.i .i64 k,.s txt,X,Y]] o K:=by
 rcases h with ⟨rfl,rfl,rfl,rfl⟩ | ⟨b,gb,rfl,rfl⟩
 ·exact weak4 (fun G I v hv => zef hv) (hk _ hO)
 ·have hb:=hO.get (i:=b) (x:=.orow E sz gb n xs) (by simp)
  have hne:¬ rr=b:=hO.ne (A:=[_]) (B:=[]) (C:=L)
  refine zeU hb ?_
  have hp:zaQ ((b,.orow E sz gb n xs) :: (p,prB st (.orow rr g) nodes r0 r1 r2 r3) :: (rr,.orow E' sz' g n' cs) :: L) o:=hO.perm (zco [_,_] L _).symm
  have e:=hk (pubO o b gb n xs) (hp.mapset (zge b gb n xs) (fun z hz => by
   rcases List.mem_cons.1 hz with rfl | hz
   ·exact zkd hne hpl
   rcases List.mem_cons.1 hz with rfl | hz
   ·rfl
   ·exact hL z hz _ _ _ _))
  simp only [List.map_cons,List.map_nil,subD,sub_i,sub_s,sub_p,sub_self,hY2 b rfl]
  exact e
theorem zkV {m:Nat} (h:SlO E sz n xs X Lx) (hO:zaQ ((p,prB st (.orow rr g) nodes r0 r1 r2 r3) :: (rr,.orow E' sz' g n' cs) :: (Lx ++ L)) o) (hL:zb9 L) (hpl:zao [r0,r1,r2,r3]=true)
  (hk:∀ o',zaQ ((p,prB st (.orow rr g) nodes r0 r1 r2 r3) :: (rr,.orow E' sz' g n' cs) :: L) o' → zad P f [.p p 0,.agg [.i .i64 k,.s txt,.row m ys,.row n xs]] o' K) :
  zad P f [.p p 0,.agg [.i .i64 k,.s txt,.row m ys,X]] o K:=by
 rcases h with ⟨rfl,rfl,rfl,rfl⟩ | ⟨b,gb,rfl,rfl⟩
 ·exact weak4' (fun G I v hv => zef hv) (hk _ hO)
 ·have hb:=hO.get (i:=b) (x:=.orow E sz gb n xs) (by simp)
  have hne:¬ rr=b:=hO.ne (A:=[_]) (B:=[]) (C:=L)
  refine zeU hb ?_
  have hp:zaQ ((b,.orow E sz gb n xs) :: (p,prB st (.orow rr g) nodes r0 r1 r2 r3) :: (rr,.orow E' sz' g n' cs) :: L) o:=hO.perm (zco [_,_] L _).symm
  have e:=hk (pubO o b gb n xs) (hp.mapset (zge b gb n xs) (fun z hz => by
   rcases List.mem_cons.1 hz with rfl | hz
   ·exact zkd hne hpl
   rcases List.mem_cons.1 hz with rfl | hz
   ·rfl
   ·exact hL z hz _ _ _ _))
  simp only [List.map_cons,List.map_nil,subD,sub_i,sub_s,sub_p,sub_self,sub_row]
  exact e
end
section
variable [Tabs Tryz.prog] {objs:List OB} {K:List OB → AV → Prop}
theorem open_k {M:List (Nat × OB)} {p:Nat} {σ:Ms} (hP:PrO M p σ objs) (b:Bool) (hd:σ.stk.length ≤ 64) (hk:∀ o,PrO M p ⟨if b=true then 3 else 1,⟨b,[],[]⟩ :: σ.stk,σ.nodes,σ.root⟩ o → K o (.tup [])) :
  zad Tryz.prog 62 [.p p 0,.agg [.i .i64 (if b=true then 7 else 6),.s [],.nil,.nil]] objs K:=by
 obtain ⟨σst,stk,nodes,root⟩:=σ
 obtain ⟨X,r0,r1,r2,r3,L,hO,hX,hpl,hr⟩:=hP
 simp only at hO hX hd hk
 generalize hkk:(if b=true then (7:Int) else 6)=kk
 generalize hss:(if b=true then (3:Int) else 1)=ss at hk
 have hO1:=hO.new (.box 26 [.i .i64 kk,.s [],.nil,.nil])
 refine zbP is_jsondoc_parser_open fun C _ => ?_
 rw [c_jsondoc_parser_open]
 refine zaa fun Y hY => ?_
 simp only [sxZ,z6,z7,z8,j4,j5,j6,j7,j8,j9,x0,x3,x4,x5,x6,x7,reduceCtorEq,↓reduceIte]
 generalize objs ++ [OB.box 26 [.i .i64 kk,.s [],.nil,.nil]]=o1 at hO1 ⊢
 have e0:=hO1.get (i:=objs.length) (x:=.box 26 [.i .i64 kk,.s [],.nil,.nil]) (by simp)
 have hO2:=hO1.new (.box 90 [.i .i64 kk,.s [],.nil,.nil,.o (.map none)])
 subst hY
 refine zaa fun Y hY => ?_
 simp only [sxZ,z6,z7,z8,j4,j5,j6,j7,j8,j9,x0,x3,x4,x5,x6,x7,reduceCtorEq,↓reduceIte,e0,gn1,sn1]
 generalize o1 ++ [OB.box 90 [.i .i64 kk,.s [],.nil,.nil,.o (.map none)]]=o2 at hO2 ⊢
 have hO3:=hO2.set2 (prB 1 X nodes r0 r1 r2 r3)
 have e1:=hO2.get (i:=p) (x:=prB σst X nodes r0 r1 r2 r3) (by simp)
 unfold prB at e1
 subst hY
 refine zaa fun Y hY => ?_
 simp only [sxZ,z6,z7,z8,j4,j5,j6,j7,j8,j9,x0,x3,x4,x5,x6,x7,reduceCtorEq,↓reduceIte,e1]
 have fold1:OB.box 49 [.i .i64 1,X,.i .i64 (nodes:Int),r0,r1,r2,r3]=prB 1 X nodes r0 r1 r2 r3:=rfl
 rw [fold1]
 generalize o2.set p (prB 1 X nodes r0 r1 r2 r3)=o3 at hO3 ⊢
 subst hY
 refine zaa fun Y hY => ?_
 have last:∀ (o4:List OB) (mx:AV) (Lm:List (Nat × OB)) (tm:List AV),zaQ ((o1.length,.box 90 [.i .i64 kk,.s [],.nil,.nil,mx]) :: (objs.length,.box 26 [.i .i64 kk,.s [],.nil,.nil]) :: (p,prB ss X nodes r0 r1 r2 r3) :: (Lm ++ L)) o4 → MpO ⟨b,[],[]⟩ mx Lm → tm.length=28 → tm[0]? = some (.p p 0) → tm[4]? = some (.p o1.length 0) → run Tryz.prog C [.code Y] o4 tm (endI [] K):=by
  intro o4 mx Lm tm h4 hM hlen t0 t4
  have hst:¬ (ss=6 ∨ ss=7):=by rw [← hss]; cases b <;> decide
  have f0:=h4.get (i:=o1.length) (x:=.box 90 [.i .i64 kk,.s [],.nil,.nil,mx]) (by simp)
  have f1:=h4.get (i:=p) (x:=prB ss X nodes r0 r1 r2 r3) (by simp)
  have flt:=h4.lt (i:=p) (x:=prB ss X nodes r0 r1 r2 r3) (by simp)
  unfold prB at f1
  subst hY
  rcases hX with ⟨rfl,rfl,rfl⟩ | ⟨rr,g,cs,L',rfl,hS,rfl⟩
  ·have fx:∀ x,(o4 ++ [x])[p]? = some (.box 49 [.i .i64 ss,.nil,.i .i64 (nodes:Int),r0,r1,r2,r3]):=fun x => by rw [List.getElem?_append_left flt]; exact f1
   simp only [sxZ,z6,z7,z8,j4,j5,j6,j7,j8,j9,x0,x3,x4,x5,x6,x7,reduceCtorEq,↓reduceIte,List.getElem?_set,hlen,t0,t4,f0,f1,fx]
   have hN:=(h4.new (.orow 90 5 0 1 [.i .i64 kk,.s [],.nil,.nil,mx])).set3 (prB ss (.orow o4.length 0) nodes r0 r1 r2 r3)
   exact hk _ (zkW (stk:=[]) (cs:=[]) (zgE hN) hkk hM ⟨rfl,rfl⟩ hpl rfl hst)
  ·have f2:=h4.get (i:=rr) (x:=.orow 90 5 g stk.length cs) (by simp)
   have hne2:¬ rr=p:=by
    intro h
    have:=h4.1
    simp only [List.map_cons,List.map_append,List.nodup_cons] at this
    exact this.2.2.1 (by simp [h])
   have fx:∀ x,(o4.set rr x)[p]? = some (.box 49 [.i .i64 ss,.orow rr g,.i .i64 (nodes:Int),r0,r1,r2,r3]):=fun x => by rw [List.getElem?_set_ne hne2]; exact f1
   simp only [sxZ,z6,z7,z8,j4,j5,j6,j7,j8,j9,x0,x3,x4,x5,x6,x7,reduceCtorEq,↓reduceIte,List.getElem?_set,hlen,t0,t4,f0,f1,f2,fx]
   refine ⟨⟨by omega,by omega⟩,?_⟩
   have hN:=((h4.perm (zco (_ :: _ :: _ :: Lm) L' _).symm).set0 (.orow 90 5 (g + 1) (stk.length + 1) (cs ++ [.i .i64 kk,.s [],.nil,.nil,mx]))).set3 (prB ss (.orow rr (g + 1)) nodes r0 r1 r2 r3)
   exact hk _ (zkW (zgE hN) hkk hM hS hpl rfl hst)
 have g0:=hO3.get (i:=objs.length) (x:=.box 26 [.i .i64 kk,.s [],.nil,.nil]) (by simp)
 have g1:=hO3.get (i:=p) (x:=prB 1 X nodes r0 r1 r2 r3) (by simp)
 have g2:=hO3.get (i:=o1.length) (x:=.box 90 [.i .i64 kk,.s [],.nil,.nil,.o (.map none)]) (by simp)
 cases b
 ·have k6:kk=6:=hkk.symm
  have s1:ss=1:=hss.symm
  have d7:¬ kk=7:=by rw [k6]; decide
  simp only [sxZ,z6,z7,z8,j4,j5,j6,j7,j8,j9,x0,x3,x4,x5,x6,x7,reduceCtorEq,↓reduceIte,g0,d7]
  exact last _ _ [] _ (by rw [s1]; exact hO3) (.inl ⟨rfl,rfl,rfl⟩) rfl rfl rfl
 ·have k7:kk=7:=hkk.symm
  have s3:ss=3:=hss.symm
  have glt:=hO3.lt (i:=o1.length) (x:=.box 90 [.i .i64 kk,.s [],.nil,.nil,.o (.map none)]) (by simp)
  have gx:∀ x,(o3 ++ [x])[o1.length]? = some (.box 90 [.i .i64 kk,.s [],.nil,.nil,.o (.map none)]):=fun x => by rw [List.getElem?_append_left glt]; exact g2
  have hM:=hO3.new (.mp [])
  have hC:=hM.set1 (.box 90 [.i .i64 kk,.s [],.nil,.nil,.m o3.length])
  have hPp:=hC.set3 (prB 3 X nodes r0 r1 r2 r3)
  have k1:=hC.get (i:=p) (x:=prB 1 X nodes r0 r1 r2 r3) (by simp)
  unfold prB at k1
  refine zaa fun Z hZ => ?_
  simp only [sxZ,z6,z7,z8,j4,j5,j6,j7,j8,j9,x0,x3,x4,x5,x6,x7,reduceCtorEq,↓reduceIte,g0,k7]
  subst hZ
  simp only [sxZ,z6,z7,z8,j4,j5,j6,j7,j8,j9,x0,x3,x4,x5,x6,x7,reduceCtorEq,↓reduceIte,gx]
  generalize (o3 ++ [OB.mp []]).set o1.length _=o5 at hC hPp k1 ⊢
  simp only [sxZ,z6,z7,z8,j4,j5,j6,j7,j8,j9,x0,x3,x4,x5,x6,x7,reduceCtorEq,↓reduceIte,k1]
  exact last _ _ [(o3.length,.mp [])] _ (by rw [s3]; exact hPp.perm (zco [_,_,_] L _)) (.inr ⟨rfl,_,rfl,rfl⟩) rfl rfl rfl
theorem zhP {M:List (Nat × OB)} (hNB:zb9 M) {p:Nat} {σ:Ms} {f:Fr} {r:List Fr} (hP:PrO M p σ objs) (hs:σ.stk=f :: r) (h67:¬ (σ.st=6 ∨ σ.st=7)) (hl:∀ f ∈ σ.stk,f.its.length ≤ 10000000) (hd:σ.stk.length ≤ 64) (hk:∀ o,PrO M p (zcI σ) o → K o (.tup [])) :
  zad Tryz.prog 37 [.p p 0] objs K:=by
 obtain ⟨σst,stk,nodes,root⟩:=σ
 simp only at hs
 subst hs
 obtain ⟨rr,g,r0,r1,r2,r3,kx,ix,mx,d0,L0,Lk,Li,Lm,hO,h1,h2,h3,h4,h5,hpl⟩:=zgC hP rfl
 have hrl:r.length ≤ 63:=by simpa using hd
 refine zbP is_jsondoc_parser_close fun C _ => ?_
 rw [c_jsondoc_parser_close]
 refine zaa fun Y hY => ?_
 have e1:=hO.get (i:=p) (x:=prB σst (.orow rr g) nodes r0 r1 r2 r3) (by simp)
 have e2:=hO.get (i:=rr) (x:=.orow 90 5 g (r.length + 1) (d0 ++ [.i .i64 (kdF f),.s [],kx,ix,mx])) (by simp)
 simp only [sxZ,z6,z7,z8,j4,j5,j6,j7,j8,j9,x0,x3,x4,x5,x6,x7,reduceCtorEq,↓reduceIte]
 refine zam (zj9 e1 e2 (by omega) ?_)
 simp only [sxZ,z6,z7,z8,j4,j5,j6,j7,j8,j9,x0,x3,x4,x5,x6,x7,reduceCtorEq,↓reduceIte,e2,Nat.add_zero,gn1,sn1,c5_take _ _ _ _ _ _ _ h5]
 refine ⟨by omega,?_⟩
 have hO1:=hO.new (.box 26 [.i .i64 (kdF f),.s [],kx,ix])
 generalize objs ++ [OB.box 26 [.i .i64 (kdF f),.s [],kx,ix]]=o1 at hO1 ⊢
 have g1:=hO1.get (i:=p) (x:=prB σst (.orow rr g) nodes r0 r1 r2 r3) (by simp)
 have g2:=hO1.get (i:=rr) (x:=.orow 90 5 g (r.length + 1) (d0 ++ [.i .i64 (kdF f),.s [],kx,ix,mx])) (by simp)
 have hne:¬ rr=p:=fun h => hO.ne (A:=[]) (B:=[]) h.symm
 have gx:∀ x,(o1.set rr x)[p]? = some (prB σst (.orow rr g) nodes r0 r1 r2 r3):=fun x => by rw [List.getElem?_set_ne hne]; exact g1
 have hO2:=(hO1.set2 (.orow 90 5 (g + 1) r.length d0)).set1 (prB σst (.orow rr (g + 1)) nodes r0 r1 r2 r3)
 unfold prB at g1 gx
 subst hY
 refine zaa fun Y hY => ?_
 simp only [sxZ,z6,z7,z8,j4,j5,j6,j7,j8,j9,x0,x3,x4,x5,x6,x7,reduceCtorEq,↓reduceIte,g1,g2,gx]
 rw [show ((r.length + 1:Nat):Int) - 1=(r.length:Int) by omega,Int.toNat_natCast,List.take_left' h5]
 refine ⟨⟨by omega,by omega⟩,⟨by omega,by omega⟩,?_⟩
 have fold1:OB.box 49 [.i .i64 σst,.orow rr (g + 1),.i .i64 (nodes:Int),r0,r1,r2,r3]=prB σst (.orow rr (g + 1)) nodes r0 r1 r2 r3:=rfl
 rw [fold1]
 generalize (o1.set rr (OB.orow 90 5 (g + 1) r.length d0)).set p (prB σst (.orow rr (g + 1)) nodes r0 r1 r2 r3)=o2 at hO2 ⊢
 have e0:=hO2.get (i:=objs.length) (x:=.box 26 [.i .i64 (kdF f),.s [],kx,ix]) (by simp)
 subst hY
 simp only [sxZ,z6,z7,z8,j4,j5,j6,j7,j8,j9,x0,x3,x4,x5,x6,x7,reduceCtorEq,↓reduceIte,e0]
 refine zam ?_
 have hO3:zaQ ((p,prB σst (.orow rr (g + 1)) nodes r0 r1 r2 r3) :: (rr,.orow 90 5 (g + 1) r.length d0) :: (Lk ++ ((Li ++ Lm) ++ L0))) o2:=(hO2.sub (List.sublist_cons_self _ _)).perm (List.Perm.of_eq (by simp))
 refine pub_keys h1 hO3 (zce (zce (zer h2) (zeD h3)) (zep hNB h4)) hpl (fun b hb g n xs => ?_) fun o3 hO4 => ?_
 ·rcases h2 with ⟨_,_,rfl,_⟩ | ⟨bi,gi,rfl,rfl⟩
  ·rfl
  ·rcases h1 with ⟨_,_,_,rfl⟩ | ⟨bk,gk,_,rfl⟩
   ·cases hb
   ·simp only [List.map_cons,List.map_nil,List.cons.injEq,and_true] at hb
    subst hb
    exact sub_ne (fun h => hO3.ne (A:=[_,_]) (B:=[]) h.symm)
 have hO5:zaQ ((p,prB σst (.orow rr (g + 1)) nodes r0 r1 r2 r3) :: (rr,.orow 90 5 (g + 1) r.length d0) :: (Li ++ (Lm ++ L0))) o3:=hO4.perm (List.Perm.of_eq (by simp))
 refine zkV h2 hO5 (zce (zeD h3) (zep hNB h4)) hpl fun o4 hO6 => ?_
 have hO7:zaQ ((p,prB σst (.orow rr (g + 1)) nodes r0 r1 r2 r3) :: (rr,.orow 90 5 (g + 1) r.length d0) :: L0) o4:=hO6.sub (((List.sublist_append_right Lm L0).cons_cons _).cons_cons _)
 have hP':PrO M p ⟨σst,r,nodes,root⟩ o4:=⟨_,r0,r1,r2,r3,_,hO7,.inr ⟨rr,g + 1,d0,L0,rfl,h4,rfl⟩,hpl,fun h => absurd h h67⟩
 have ha:=add_k (K:=fun o x => PrO M p (zcI ⟨σst,f :: r,nodes,root⟩) o ∧ x=.tup []) hP' f.val (fun f' hf => hl f' (List.mem_cons_of_mem _ hf)) (by show r.length ≤ 64; omega) (fun o ho => ⟨ho,rfl⟩)
 rw [Fr.val,zah] at ha
 refine ha.mono ?_
 rintro o x ⟨ho,rfl⟩
 simp only [sxZ,z6,z7,z8,j4,j5,j6,j7,j8,j9,x0,x3,x4,x5,x6,x7,reduceCtorEq,↓reduceIte]
 exact hk o ho
theorem zjn {M:List (Nat × OB)} {p:Nat} {σ:Ms} {f:Fr} {r:List Fr} (hP:PrO M p σ objs) (hs:σ.stk=f :: r) (hob:f.obj=true) (hl:f.ks.length ≤ 10000000) (hd:σ.stk.length ≤ 64) (t:Tk) (ht:t.2.1.length ≤ 140737488351232)
  (h0:(zhz σ t).1=0 → ∀ o,PrO M p (zhz σ t).2 o → K o (.i .i64 0)) (h1:¬ (zhz σ t).1=0 → ∀ o σ',PrO M p σ' o → K o (.i .i64 (zhz σ t).1)) :
  zad Tryz.prog 38 [.p p 0,zf5 t] objs K:=by
 obtain ⟨σst,stk,nodes,root⟩:=σ
 simp only at hs
 subst hs
 obtain ⟨rr,g,r0,r1,r2,r3,kx,ix,mx,d0,L0,Lk,Li,Lm,hO,q1,q2,q3,q4,q5,hpl⟩:=zgC hP rfl
 have hrl:r.length ≤ 63:=by simpa using hd
 obtain ⟨_,_,_⟩ | ⟨_,bm,rfl,rfl⟩:=q3
 ·rename_i h _ _; rw [hob] at h; cases h
 have hO1:=hO.new (.box 51 (tkC t))
 have hPA:=pr_app hP [.box 51 (tkC t)]
 refine zbP is_jsondoc_parser_addKey fun C _ => ?_
 rw [c_jsondoc_parser_addKey]
 refine zaa fun Y hY => ?_
 simp only [zf5,sxZ,z6,z7,z8,j4,j5,j6,j7,j8,j9,x0,x3,x4,x5,x6,x7,reduceCtorEq,↓reduceIte]
 generalize objs ++ [OB.box 51 (tkC t)]=o1 at hO1 hPA ⊢
 have e0:=hO1.get (i:=objs.length) (x:=.box 51 (tkC t)) (by simp)
 have e1:=hO1.get (i:=p) (x:=prB σst (.orow rr g) nodes r0 r1 r2 r3) (by simp)
 have e2:=hO1.get (i:=rr) (x:=.orow 90 5 g (r.length + 1) (d0 ++ [.i .i64 (kdF f),.s [],kx,ix,.m bm])) (by simp)
 have e3:=hO1.get (i:=bm) (x:=.mp (f.ks.map fun k => (k,AV.b true))) (by simp)
 unfold tkC at e0
 unfold zhz at h0 h1
 simp only at h0 h1
 subst hY
 by_cases c1:t.1=3
 rotate_left
 ·rw [if_pos c1] at h1
  simp only [sxZ,z6,z7,z8,j4,j5,j6,j7,j8,j9,x0,x3,x4,x5,x6,x7,reduceCtorEq,↓reduceIte,e0,c1]
  exact h1 (by simp) _ _ hPA
 rw [if_neg (fun h => h c1)] at h0 h1
 refine zaa fun Y hY => ?_
 simp only [sxZ,z6,z7,z8,j4,j5,j6,j7,j8,j9,x0,x3,x4,x5,x6,x7,reduceCtorEq,↓reduceIte,e0,c1]
 subst hY
 refine zaa fun Y hY => ?_
 simp only [sxZ,z6,z7,z8,j4,j5,j6,j7,j8,j9,x0,x3,x4,x5,x6,x7,reduceCtorEq,↓reduceIte]
 refine zam (zj9 e1 e2 (by omega) ?_)
 simp only [sxZ,z6,z7,z8,j4,j5,j6,j7,j8,j9,x0,x3,x4,x5,x6,x7,reduceCtorEq,↓reduceIte]
 subst hY
 refine zaa fun Y hY => ?_
 have k4:=c5_at d0 [.i .i64 (kdF f),.s [],kx,ix,.m bm] r.length 4 q5
 by_cases c2:t.2.1 ∈ f.ks
 ·rw [if_pos c2] at h1
  simp only [sxZ,z6,z7,z8,j4,j5,j6,j7,j8,j9,x0,x3,x4,x5,x6,x7,reduceCtorEq,↓reduceIte,e0,e2,e3,k4,zlj c2]
  exact h1 (by simp) _ _ hPA
 rw [if_neg c2] at h0
 simp only [sxZ,z6,z7,z8,j4,j5,j6,j7,j8,j9,x0,x3,x4,x5,x6,x7,reduceCtorEq,↓reduceIte,e0,e2,e3,k4,zix c2]
 have ltm:=hO1.lt (i:=bm) (x:=.mp (f.ks.map fun k => (k,AV.b true))) (by simp)
 subst hY
 refine zaa fun Y hY => ?_
 simp only [sxZ,z6,z7,z8,j4,j5,j6,j7,j8,j9,x0,x3,x4,x5,x6,x7,reduceCtorEq,↓reduceIte,e0,e2,e3,k4,ziw c2]
 have hO1':zaQ ((bm,.mp (f.ks.map fun k => (k,AV.b true))) :: (objs.length,.box 51 (tkC t)) :: (p,prB σst (.orow rr g) nodes r0 r1 r2 r3) :: (rr,.orow 90 5 g (r.length + 1) (d0 ++ [.i .i64 (kdF f),.s [],kx,ix,.m bm])) :: (Lk ++ Li ++ L0)) o1 :=
  (hO1.perm (List.Perm.of_eq (by simp))).perm (zco (_ :: _ :: _ :: (Lk ++ Li)) L0 _).symm
 have hO2:=hO1'.set0 (.mp ((f.ks ++ [t.2.1]).map fun k => (k,AV.b true)))
 generalize o1.set bm (OB.mp ((f.ks ++ [t.2.1]).map fun k => (k,AV.b true)))=o2 at hO2 ⊢
 clear e0 e1 e2 e3
 have e0:=hO2.get (i:=objs.length) (x:=.box 51 (tkC t)) (by simp)
 have e2:=hO2.get (i:=rr) (x:=.orow 90 5 g (r.length + 1) (d0 ++ [.i .i64 (kdF f),.s [],kx,ix,.m bm])) (by simp)
 have k2:=c5_at d0 [.i .i64 (kdF f),.s [],kx,ix,.m bm] r.length 2 q5
 have ltr:=hO2.lt (i:=rr) (x:=.orow 90 5 g (r.length + 1) (d0 ++ [.i .i64 (kdF f),.s [],kx,ix,.m bm])) (by simp)
 unfold tkC at e0
 subst hY
 refine zaa fun Y hY => ?_
 rcases q1 with ⟨z1,z2,rfl,rfl⟩ | ⟨bk,gk,rfl,rfl⟩
 ·have f0:f.ks=[]:=List.eq_nil_of_length_eq_zero z1
  have gx:∀ x,(o2 ++ [x])[rr]? = some (.orow 90 5 g (r.length + 1) (d0 ++ [.i .i64 (kdF f),.s [],.nil,ix,.m bm])):=fun x => by rw [List.getElem?_append_left ltr]; exact e2
  simp only [sxZ,z6,z7,z8,j4,j5,j6,j7,j8,j9,x0,x3,x4,x5,x6,x7,reduceCtorEq,↓reduceIte,e0,e2,Nat.add_zero,k2,gx]
  rw [sp2 _ _ _ _ _ _ _ _ q5]
  refine ⟨by omega,?_⟩
  have hN:=(hO2.new (.orow 9 1 0 1 [.s t.2.1])).set4 (.orow 90 5 g (r.length + 1) (d0 ++ [.i .i64 (kdF f),.s [],.orow o2.length 0,ix,.m bm]))
  have hF:=hN.set3 (prB 4 (.orow rr g) nodes r0 r1 r2 r3)
  have e5:=hN.get (i:=p) (x:=prB σst (.orow rr g) nodes r0 r1 r2 r3) (by simp)
  have hS:SlO 9 1 (f.ks ++ [t.2.1]).length ((f.ks ++ [t.2.1]).map .s) (.orow o2.length 0) [(o2.length,.orow 9 1 0 1 [.s t.2.1])]:=.inr ⟨_,_,rfl,by rw [f0]; rfl⟩
  have hfin:=h0 rfl _ (zjD (root:=root) (r:=r) (f:=⟨f.obj,f.ks ++ [t.2.1],f.its⟩) (own_key1 hF) hS q2 (.inr ⟨hob,bm,rfl,rfl⟩) q4 hpl (by decide))
  unfold prB at e5 hfin
  generalize (o2 ++ [OB.orow 9 1 0 1 [.s t.2.1]]).set rr _=o3 at e5 hfin ⊢
  subst hY
  simp only [sxZ,z6,z7,z8,j4,j5,j6,j7,j8,j9,x0,x3,x4,x5,x6,x7,reduceCtorEq,↓reduceIte,e5]
  exact hfin
 ·have e4:=hO2.get (i:=bk) (x:=.orow 9 1 gk f.ks.length (f.ks.map .s)) (by simp)
  have hne:¬ bk=rr:=fun h => hO2.ne (A:=[_,_,_]) (B:=[]) h.symm
  have gx:∀ x,(o2.set bk x)[rr]? = some (.orow 90 5 g (r.length + 1) (d0 ++ [.i .i64 (kdF f),.s [],.orow bk gk,ix,.m bm])):=fun x => by rw [List.getElem?_set_ne hne]; exact e2
  simp only [sxZ,z6,z7,z8,j4,j5,j6,j7,j8,j9,x0,x3,x4,x5,x6,x7,reduceCtorEq,↓reduceIte,e0,e2,e4,Nat.add_zero,k2,gx]
  rw [sp2 _ _ _ _ _ _ _ _ q5]
  refine ⟨⟨by omega,by omega⟩,by omega,?_⟩
  have hN:=(zaQ.set4 (.orow 9 1 (gk + 1) (f.ks.length + 1) (f.ks.map .s ++ [.s t.2.1])) hO2).set3 (.orow 90 5 g (r.length + 1) (d0 ++ [.i .i64 (kdF f),.s [],.orow bk (gk + 1),ix,.m bm]))
  have hF:=hN.set2 (prB 4 (.orow rr g) nodes r0 r1 r2 r3)
  have e5:=hN.get (i:=p) (x:=prB σst (.orow rr g) nodes r0 r1 r2 r3) (by simp)
  have hS:SlO 9 1 (f.ks ++ [t.2.1]).length ((f.ks ++ [t.2.1]).map .s) (.orow bk (gk + 1)) [(bk,.orow 9 1 (gk + 1) (f.ks.length + 1) (f.ks.map .s ++ [.s t.2.1]))]:=.inr ⟨_,_,rfl,by rw [List.map_append,List.length_append]; rfl⟩
  have hfin:=h0 rfl _ (zjD (root:=root) (r:=r) (f:=⟨f.obj,f.ks ++ [t.2.1],f.its⟩) (own_key2 hF) hS q2 (.inr ⟨hob,bm,rfl,rfl⟩) q4 hpl (by decide))
  unfold prB at e5 hfin
  generalize (o2.set bk (OB.orow 9 1 (gk + 1) (f.ks.length + 1) (f.ks.map .s ++ [.s t.2.1]))).set rr _=o3 at e5 hfin ⊢
  subst hY
  simp only [sxZ,z6,z7,z8,j4,j5,j6,j7,j8,j9,x0,x3,x4,x5,x6,x7,reduceCtorEq,↓reduceIte,e5]
  exact hfin
end
end
section
attribute [local irreducible] run
theorem pr_len {M:List (Nat × OB)} {stk:List Fr} {X:AV} {L:List (Nat × OB)} (hX:StX M stk X L):(X=.nil ∧ stk=[]) ∨ ∃ rr g cs,X=.orow rr g ∧ (rr,OB.orow 90 5 g stk.length cs) ∈ L:=by
 rcases hX with ⟨h1,h2,_⟩ | ⟨rr,g,cs,L',h1,_,h2⟩
 ·exact .inl ⟨h2,h1⟩
 ·exact .inr ⟨rr,g,cs,h1,by rw [h2]; simp⟩
theorem ze6 {b g n:Nat} {xs:List AV}:∀ {l:List AV},zao l=true → l.map (zb5 b g n xs)=l
 | [],_ => rfl
 | x :: l,h => by
  simp only [zao,Bool.and_eq_true] at h
  rw [List.map_cons,zcB h.1,ze6 h.2]
theorem zbD {M:List (Nat × OB)} {i:Nat} {T:TypeId} {cs:List AV} (h:zao cs=true) (hM:zb9 M):zb9 ((i,.box T cs) :: M):=by
 intro z hz b g n xs
 rcases List.mem_cons.1 hz with rfl | hz
 ·simp only [zge,ze6 h]
 ·exact hM z hz b g n xs
def zcj (t:Tk):OB:=.box 51 (tkC t)
section
variable [Tabs Tryz.prog] [Pow Tryz.prog] {objs:List OB} {K:List OB → AV → Prop} {M:List (Nat × OB)}
omit [Pow Tryz.prog] in
theorem goOn_k (hNB:zb9 M) {p:Nat} {σ:Ms} {f:Fr} {r:List Fr} (hP:PrO M p σ objs) (hs:σ.stk=f :: r) (h67:¬ (σ.st=6 ∨ σ.st=7)) (hl:∀ f ∈ σ.stk,f.its.length ≤ 10000000) (hd:σ.stk.length ≤ 64) (t:Tk)
  (h0:(onM σ t).1=0 → ∀ o,PrO M p (onM σ t).2 o → K o (.i .i64 0)) (h1:¬ (onM σ t).1=0 → ∀ o σ',PrO M p σ' o → K o (.i .i64 (onM σ t).1)) :
  zad Tryz.prog 40 [.p p 0,zf5 t] objs K:=by
 have hrl:r.length ≤ 63:=by rw [hs] at hd; simpa using hd
 have hP1:=zgD hP (zcj t)
 have hq:∀ o,zad Tryz.prog 39 [.agg [.i .i64 t.1,.s t.2.1,.i .i64 t.2.2],.s [44]] o (fun o' r => o'=o ∧ r=.b (isP t 44)):=fun o => zdu t 44 ⟨rfl,rfl⟩
 refine zbP is_jsondoc_parser_goOn fun C _ => ?_
 rw [c_jsondoc_parser_goOn]
 refine zaa fun Y hY => ?_
 simp only [zf5,sxZ,z6,z7,z8,j4,j5,j6,j7,j8,j9,x0,x3,x4,x5,x6,x7,reduceCtorEq,↓reduceIte]
 have fold0:OB.box 51 (tkC t)=zcj t:=rfl
 rw [fold0]
 generalize objs ++ [zcj t]=o1 at hP1 ⊢
 have e0:=zbM hP1 (i:=objs.length) (x:=zcj t) (by simp)
 unfold zcj tkC at e0
 unfold onM at h0 h1
 rw [hs] at h0 h1
 simp only at h0 h1
 subst hY
 refine zaa fun Y hY => ?_
 simp only [sxZ,z6,z7,z8,j4,j5,j6,j7,j8,j9,x0,x3,x4,x5,x6,x7,reduceCtorEq,↓reduceIte,e0]
 refine zam (zeJ hP1 hs (by omega) t fun o2 ho => ?_)
 have hNB':zb9 ((objs.length,zcj t) :: M):=zbD rfl hNB
 cases hc:zeK σ t
 rotate_left
 ·rw [if_pos hc] at h0
  simp only [sxZ,z6,z7,z8,j4,j5,j6,j7,j8,j9,x0,x3,x4,x5,x6,x7,reduceCtorEq,↓reduceIte]
  refine zam (zhP hNB' ho hs h67 hl hd fun o3 ho3 => ?_)
  simp only [sxZ,z6,z7,z8,j4,j5,j6,j7,j8,j9,x0,x3,x4,x5,x6,x7,reduceCtorEq,↓reduceIte]
  subst hY
  simp only [sxZ,z6,z7,z8,j4,j5,j6,j7,j8,j9,x0,x3,x4,x5,x6,x7,reduceCtorEq,↓reduceIte]
  exact h0 rfl _ (zat ho3)
 rw [if_neg (by rw [hc]; exact Bool.false_ne_true)] at h0 h1
 have e2:=zbM ho (i:=objs.length) (x:=zcj t) (by simp)
 unfold zcj tkC at e2
 simp only [sxZ,z6,z7,z8,j4,j5,j6,j7,j8,j9,x0,x3,x4,x5,x6,x7,reduceCtorEq,↓reduceIte,e2]
 refine zam ((hq o2).mono ?_)
 rintro o3 x ⟨rfl,rfl⟩
 cases hp:isP t 44
 ·rw [if_pos hp] at h1
  simp only [sxZ,z6,z7,z8,j4,j5,j6,j7,j8,j9,x0,x3,x4,x5,x6,x7,reduceCtorEq,↓reduceIte]
  exact h1 (by simp) _ _ (zat ho)
 rw [if_neg (by rw [hp]; exact Bool.noConfusion)] at h0
 obtain ⟨rr,g,r0,r1,r2,r3,kx,ix,mx,d0,L0,Lk,Li,Lm,hO,q1,q2,q3,q4,q5,hpl⟩:=zgC ho hs
 have f1:=hO.get (i:=p) (x:=prB σ.st (.orow rr g) σ.nodes r0 r1 r2 r3) (by simp)
 have f2:=hO.get (i:=rr) (x:=.orow 90 5 g (r.length + 1) (d0 ++ [.i .i64 (kdF f),.s [],kx,ix,mx])) (by simp)
 have k0:=c5_at0 d0 [.i .i64 (kdF f),.s [],kx,ix,mx] r.length q5
 simp only [sxZ,z6,z7,z8,j4,j5,j6,j7,j8,j9,x0,x3,x4,x5,x6,x7,reduceCtorEq,↓reduceIte]
 refine zam (zj9 f1 f2 (by omega) ?_)
 have hfin:∀ s':Int,s'=(if f.obj=true then 2 else 0) → K (o3.set p (prB s' (.orow rr g) σ.nodes r0 r1 r2 r3)) (.i .i64 0):=by
  intro s' hs'
  refine h0 rfl _ (zat (z:=(objs.length,zcj t)) ?_)
  rw [← hs']
  exact zjD (hO.set0 (prB s' (.orow rr g) σ.nodes r0 r1 r2 r3)) q1 q2 q3 q4 hpl (by rw [hs']; split <;> decide)
 have hkd:=show kdF f=if f.obj=true then 7 else 6 from rfl
 unfold prB at f1 hfin
 subst hY
 cases hb:f.obj
 ·have hk6:kdF f=6:=by rw [hkd,hb]; rfl
  rw [hk6] at f2 k0
  simp only [sxZ,z6,z7,z8,j4,j5,j6,j7,j8,j9,x0,x3,x4,x5,x6,x7,reduceCtorEq,↓reduceIte,f1,f2,Nat.add_zero,k0]
  exact hfin 0 (by rw [hb]; rfl)
 ·have hk7:kdF f=7:=by rw [hkd,hb]; rfl
  rw [hk7] at f2 k0
  simp only [sxZ,z6,z7,z8,j4,j5,j6,j7,j8,j9,x0,x3,x4,x5,x6,x7,reduceCtorEq,↓reduceIte,f1,f2,Nat.add_zero,k0]
  exact hfin 2 (by rw [hb]; rfl)
def zch:SCode:=match c_jsondoc_parser_begin with
 | .seq _ (.seq _ (.seq _ (.seq _ r))) => r
 | _ => .skip
def zh4 (k:Int) (x:List UInt8):OB:=.box 26 [.i .i64 k,.s x,.nil,.nil]
omit [Pow Tryz.prog] in
theorem zbA (hNB:zb9 M) {p q q':Nat} {σst:Int} {stk:List Fr} {nodes:Nat} {root:JV} {o:List OB} {tm:List AV} {k:Int} {x:List UInt8} {t:Tk} {C:Cx} [On Tryz.prog C] (hP:PrO ((q,zh4 k x) :: (q',zcj t) :: M) p ⟨σst,stk,nodes,root⟩ o)
  (h67:¬ (σst=6 ∨ σst=7)) (hl:∀ f ∈ stk,f.its.length ≤ 10000000) (hd:stk.length ≤ 64) (hn:nodes ≤ 20000) (hlen:tm.length=75) (t0:tm[0]? = some (.p p 0)) (t5:tm[5]? = some (.p q 0)) (c:Bool) (t6:tm[6]? = some (.b c))
  (hc:c=true → x=[] ∧ (k=6 ∨ k=7)) (hk:if 20000 ≤ nodes then ∀ o σ',PrO M p σ' o → K o (.i .i64 142) else if c=true then ∀ o,PrO M p (zby ⟨σst,stk,nodes,root⟩ (decide (k=7))) o → K o (.i .i64 0) else ∀ o,PrO M p (zc1 ⟨σst,stk,nodes + 1,root⟩ (.mk k x [] [])) o → K o (.i .i64 0)) :
  run Tryz.prog C [.code zch] o tm (endI [.tmp 4] K):=by
 obtain ⟨X,r0,r1,r2,r3,L,hO,hX,hpl,hr⟩:=id hP
 simp only at hO hX hr
 have e1:=hO.get (i:=p) (x:=prB σst X nodes r0 r1 r2 r3) (by simp)
 unfold prB at e1
 have hb:zch=zch:=rfl
 conv at hb => rhs; simp only [zch,c_jsondoc_parser_begin]
 rw [hb]
 clear hb
 refine zaa fun Y hY => ?_
 by_cases c1:20000 ≤ nodes
 ·rw [if_pos c1] at hk
  have c2:(20000:Int) ≤ (nodes:Int):=by omega
  simp only [sxZ,z6,z7,z8,j4,j5,j6,j7,j8,j9,x0,x3,x4,x5,x6,x7,reduceCtorEq,↓reduceIte,List.getElem?_set,hlen,t0,e1,c2]
  exact hk _ _ (zat (zat hP))
 rw [if_neg c1] at hk
 have c2:¬ (20000:Int) ≤ (nodes:Int):=by omega
 simp only [sxZ,z6,z7,z8,j4,j5,j6,j7,j8,j9,x0,x3,x4,x5,x6,x7,reduceCtorEq,↓reduceIte,List.getElem?_set,hlen,t0,e1,c2]
 subst hY
 refine zaa fun Y hY => ?_
 simp only [sxZ,z6,z7,z8,j4,j5,j6,j7,j8,j9,x0,x3,x4,x5,x6,x7,reduceCtorEq,↓reduceIte,List.getElem?_set,hlen,t0,e1]
 refine ⟨by omega,?_⟩
 have hO2:=hO.set0 (prB σst X (nodes + 1) r0 r1 r2 r3)
 have fold1:OB.box 49 [.i .i64 σst,X,.i .i64 ((nodes:Int) + 1),r0,r1,r2,r3]=prB σst X (nodes + 1) r0 r1 r2 r3:=rfl
 rw [fold1]
 have hP2:PrO ((q,zh4 k x) :: (q',zcj t) :: M) p ⟨σst,stk,nodes + 1,root⟩ (o.set p (prB σst X (nodes + 1) r0 r1 r2 r3)):=⟨X,r0,r1,r2,r3,L,hO2,hX,hpl,hr⟩
 generalize o.set p (prB σst X (nodes + 1) r0 r1 r2 r3)=o2 at hP2 ⊢
 have e2:=zbM hP2 (i:=q) (x:=zh4 k x) (by simp)
 have hNB2:zb9 ((q,zh4 k x) :: (q',zcj t) :: M):=zbD rfl (zbD rfl hNB)
 unfold zh4 at e2
 subst hY
 refine zaa fun Y hY => ?_
 cases c
 ·rw [if_neg Bool.false_ne_true] at hk
  simp only [sxZ,z6,z7,z8,j4,j5,j6,j7,j8,j9,x0,x3,x4,x5,x6,x7,reduceCtorEq,↓reduceIte,List.getElem?_set,hlen,t0,t5,t6,e2]
  refine zam ?_
  refine weak4 (fun G I v hv => zef hv) (weak4' (fun G I v hv => zef hv) ?_)
  have ha:=add_k (K:=fun o y => PrO ((q,zh4 k x) :: (q',zcj t) :: M) p (zc1 ⟨σst,stk,nodes + 1,root⟩ (.mk k x [] [])) o ∧ y=.tup []) hP2 (.mk k x [] []) hl hd (fun o ho => ⟨ho,rfl⟩)
  rw [zah,zaH] at ha
  refine ha.mono ?_
  rintro o3 y ⟨ho,rfl⟩
  simp only [sxZ,z6,z7,z8,j4,j5,j6,j7,j8,j9,x0,x3,x4,x5,x6,x7,reduceCtorEq,↓reduceIte,List.getElem?_set,hlen]
  subst hY
  simp only [sxZ,z6,z7,z8,j4,j5,j6,j7,j8,j9,x0,x3,x4,x5,x6,x7,reduceCtorEq,↓reduceIte,List.getElem?_set,hlen]
  exact hk _ (zat (zat ho))
 ·rw [if_pos rfl] at hk
  obtain ⟨rfl,hk67⟩:=hc rfl
  simp only [sxZ,z6,z7,z8,j4,j5,j6,j7,j8,j9,x0,x3,x4,x5,x6,x7,reduceCtorEq,↓reduceIte,List.getElem?_set,hlen,t0,t5,t6,e2]
  have ha:=open_k (K:=fun o y => PrO ((q,zh4 k []) :: (q',zcj t) :: M) p (zby ⟨σst,stk,nodes,root⟩ (decide (k=7))) o ∧ y=.tup []) hP2 (decide (k=7)) hd (fun o ho => ⟨ho,rfl⟩)
  rw [show (if decide (k=7)=true then (7:Int) else 6)=k by rcases hk67 with rfl | rfl <;> rfl] at ha
  refine zam (ha.mono ?_)
  rintro o3 y ⟨ho,rfl⟩
  simp only [sxZ,z6,z7,z8,j4,j5,j6,j7,j8,j9,x0,x3,x4,x5,x6,x7,reduceCtorEq,↓reduceIte,List.getElem?_set,hlen]
  subst hY
  simp only [sxZ,z6,z7,z8,j4,j5,j6,j7,j8,j9,x0,x3,x4,x5,x6,x7,reduceCtorEq,↓reduceIte,List.getElem?_set,hlen]
  exact hk _ (zat (zat ho))
theorem zmN (hNB:zb9 M) {p:Nat} {σ:Ms} (hP:PrO M p σ objs) (h67:¬ (σ.st=6 ∨ σ.st=7)) (hl:∀ f ∈ σ.stk,f.its.length ≤ 10000000) (hd:σ.stk.length ≤ 64) (hn:σ.nodes ≤ 20000) (t:Tk) (ht:t.2.1.length ≤ 140737488351232)
  (h0:(zaU σ t).1=0 → ∀ o,PrO M p (zaU σ t).2 o → K o (.i .i64 0)) (h1:¬ (zaU σ t).1=0 → ∀ o σ',PrO M p σ' o → K o (.i .i64 (zaU σ t).1)) :
  zad Tryz.prog 35 [.p p 0,zf5 t] objs K:=by
 obtain ⟨σst,stk,nodes,root⟩:=σ
 have hP1:=zgD hP (zcj t)
 refine zbP is_jsondoc_parser_begin fun C _ => ?_
 rw [c_jsondoc_parser_begin]
 refine zaa fun Y hY => ?_
 simp only [zf5,sxZ,z6,z7,z8,j4,j5,j6,j7,j8,j9,x0,x3,x4,x5,x6,x7,reduceCtorEq,↓reduceIte]
 have fold0:OB.box 51 (tkC t)=zcj t:=rfl
 rw [fold0]
 generalize objs ++ [zcj t]=o1 at hP1 ⊢
 have e0:=zbM hP1 (i:=objs.length) (x:=zcj t) (by simp)
 have hP2:=zgD hP1 (zh4 (vkE t) [])
 unfold zcj tkC at e0
 subst hY
 refine zaa fun Y hY => ?_
 simp only [sxZ,z6,z7,z8,j4,j5,j6,j7,j8,j9,x0,x3,x4,x5,x6,x7,reduceCtorEq,↓reduceIte,e0]
 refine zam (zhh t ?_)
 simp only [sxZ,z6,z7,z8,j4,j5,j6,j7,j8,j9,x0,x3,x4,x5,x6,x7,reduceCtorEq,↓reduceIte,gn1,sn1]
 have fold1:OB.box 26 [.i .i64 (vkE t),.s [],.nil,.nil]=zh4 (vkE t) []:=rfl
 rw [fold1]
 generalize o1 ++ [zh4 (vkE t) []]=o2 at hP2 ⊢
 have e1:=zbM hP2 (i:=o1.length) (x:=zh4 (vkE t) []) (by simp)
 have e2:=zbM hP2 (i:=objs.length) (x:=zcj t) (by simp)
 unfold zh4 at e1
 unfold zcj tkC at e2
 subst hY
 refine zaa fun Y hY => ?_
 simp only at h67 hl hd hn
 obtain ⟨X,r0,r1,r2,r3,L,hO,hX,hpl,hr⟩:=id hP2
 have e3:=hO.get (i:=p) (x:=prB σst X nodes r0 r1 r2 r3) (by simp)
 unfold prB at e3
 simp only at hX
 have hXl:=pr_len hX
 have leafK:∀ (k:Int) (x:List UInt8),vkE t=k → ¬ k=0 → ¬ (k=6 ∨ k=7) → zhl t=(0,x) → if 20000 ≤ nodes then ∀ o σ',PrO M p σ' o → K o (.i .i64 142) else if false=true then ∀ o,PrO M p (zby ⟨σst,stk,nodes,root⟩ (decide (k=7))) o → K o (.i .i64 0) else ∀ o,PrO M p (zc1 ⟨σst,stk,nodes + 1,root⟩ (.mk k x [] [])) o → K o (.i .i64 0):=by
  intro k x hk hk0 hk67 hx
  unfold zaU at h0 h1
  rw [hk,if_neg hk0,if_neg hk67,hx] at h0 h1
  simp only [not_true_eq_false,if_false] at h0 h1
  split
  ·rename_i c
   rw [if_pos c] at h1
   exact h1 (by simp)
  ·rename_i c
   rw [if_neg c] at h0
   rw [if_neg Bool.false_ne_true]
   exact h0 rfl
 rcases vk_val t with hv | hv | hv | hv | hv | hv | hv | hv
 ·rw [hv] at e1
  have hb:zaU ⟨σst,stk,nodes,root⟩ t=(140,⟨σst,stk,nodes,root⟩):=by unfold zaU; rw [if_pos hv]
  rw [hb] at h1
  simp only [sxZ,z6,z7,z8,j4,j5,j6,j7,j8,j9,x0,x3,x4,x5,x6,x7,reduceCtorEq,↓reduceIte,e1]
  subst hY
  refine zaa fun Y hY => ?_
  simp only [sxZ,z6,z7,z8,j4,j5,j6,j7,j8,j9,x0,x3,x4,x5,x6,x7,reduceCtorEq,↓reduceIte,e1]
  exact h1 (by simp) _ _ (zat (zat hP2))
 ·rw [hv] at e1 hP2
  simp only [sxZ,z6,z7,z8,j4,j5,j6,j7,j8,j9,x0,x3,x4,x5,x6,x7,reduceCtorEq,↓reduceIte,e1]
  subst hY
  refine zaa fun Y hY => ?_
  simp only [sxZ,z6,z7,z8,j4,j5,j6,j7,j8,j9,x0,x3,x4,x5,x6,x7,reduceCtorEq,↓reduceIte,e1]
  obtain rfl:Y=zch:=hY
  exact zbA hNB hP2 h67 hl hd hn rfl rfl rfl false rfl (fun h => by cases h) (leafK 1 [] hv (by decide) (by decide) (by unfold zhl; rw [hv]; rfl))
 ·rw [hv] at e1 hP2
  simp only [sxZ,z6,z7,z8,j4,j5,j6,j7,j8,j9,x0,x3,x4,x5,x6,x7,reduceCtorEq,↓reduceIte,e1]
  subst hY
  refine zaa fun Y hY => ?_
  simp only [sxZ,z6,z7,z8,j4,j5,j6,j7,j8,j9,x0,x3,x4,x5,x6,x7,reduceCtorEq,↓reduceIte,e1]
  obtain rfl:Y=zch:=hY
  exact zbA hNB hP2 h67 hl hd hn rfl rfl rfl false rfl (fun h => by cases h) (leafK 2 [] hv (by decide) (by decide) (by unfold zhl; rw [hv]; rfl))
 ·rw [hv] at e1 hP2
  simp only [sxZ,z6,z7,z8,j4,j5,j6,j7,j8,j9,x0,x3,x4,x5,x6,x7,reduceCtorEq,↓reduceIte,e1]
  subst hY
  refine zaa fun Y hY => ?_
  simp only [sxZ,z6,z7,z8,j4,j5,j6,j7,j8,j9,x0,x3,x4,x5,x6,x7,reduceCtorEq,↓reduceIte,e1]
  obtain rfl:Y=zch:=hY
  exact zbA hNB hP2 h67 hl hd hn rfl rfl rfl false rfl (fun h => by cases h) (leafK 3 [] hv (by decide) (by decide) (by unfold zhl; rw [hv]; rfl))
 ·rw [hv] at e1 hP2
  simp only [sxZ,z6,z7,z8,j4,j5,j6,j7,j8,j9,x0,x3,x4,x5,x6,x7,reduceCtorEq,↓reduceIte,e1]
  subst hY
  refine zaa fun Y hY => ?_
  simp only [sxZ,z6,z7,z8,j4,j5,j6,j7,j8,j9,x0,x3,x4,x5,x6,x7,reduceCtorEq,↓reduceIte,e1,e2]
  refine zam (number_e t.2.1 ht ?_)
  have hx:zhl t=zcY t.2.1:=by unfold zhl; rw [if_pos hv]
  by_cases c1:(zcY t.2.1).1=0
  ·simp only [sxZ,z6,z7,z8,j4,j5,j6,j7,j8,j9,x0,x3,x4,x5,x6,x7,reduceCtorEq,↓reduceIte,c1,e1]
   obtain rfl:Y=zch:=hY
   exact zbA hNB (pr_set hP2 (zh4 4 (zcY t.2.1).2)) h67 hl hd hn rfl rfl rfl false rfl (fun h => by cases h) (leafK 4 _ hv (by decide) (by decide) (by rw [hx]; exact Prod.ext c1 rfl))
  ·have hb:zaU ⟨σst,stk,nodes,root⟩ t=((zcY t.2.1).1,⟨σst,stk,nodes,root⟩):=by unfold zaU; rw [hv,if_neg (by decide),if_neg (by decide),hx,if_pos c1]
   rw [hb] at h1
   simp only [sxZ,z6,z7,z8,j4,j5,j6,j7,j8,j9,x0,x3,x4,x5,x6,x7,reduceCtorEq,↓reduceIte,c1]
   exact h1 c1 _ _ (zat (zat hP2))
 ·rw [hv] at e1 hP2
  simp only [sxZ,z6,z7,z8,j4,j5,j6,j7,j8,j9,x0,x3,x4,x5,x6,x7,reduceCtorEq,↓reduceIte,e1]
  subst hY
  refine zaa fun Y hY => ?_
  simp only [sxZ,z6,z7,z8,j4,j5,j6,j7,j8,j9,x0,x3,x4,x5,x6,x7,reduceCtorEq,↓reduceIte,e1,e2]
  obtain rfl:Y=zch:=hY
  exact zbA hNB (pr_set hP2 (zh4 5 t.2.1)) h67 hl hd hn rfl rfl rfl false rfl (fun h => by cases h) (leafK 5 _ hv (by decide) (by decide) (by unfold zhl; rw [hv]; rfl))
 ·rw [hv] at e1 hP2
  unfold zaU at h0 h1
  rw [hv,if_neg (by decide),if_pos (by decide)] at h0 h1
  simp only at h0 h1
  rcases hXl with ⟨rfl,rfl⟩ | ⟨rr,g,cs,rfl,hmem⟩
  ·simp only [sxZ,z6,z7,z8,j4,j5,j6,j7,j8,j9,x0,x3,x4,x5,x6,x7,reduceCtorEq,↓reduceIte,e1]
   subst hY
   refine zaa fun Y hY => ?_
   simp only [sxZ,z6,z7,z8,j4,j5,j6,j7,j8,j9,x0,x3,x4,x5,x6,x7,reduceCtorEq,↓reduceIte,e1,e3]
   obtain rfl:Y=zch:=hY
   refine zbA hNB hP2 h67 hl hd hn rfl rfl rfl true rfl (fun h => ⟨rfl,by decide⟩) ?_
   rw [if_neg (by decide)] at h0 h1
   split
   ·rename_i c
    rw [if_pos c] at h1
    exact h1 (by simp)
   ·rename_i c
    rw [if_neg c] at h0
    rw [if_pos rfl]
    exact h0 rfl
  ·have e4:=hO.get (i:=rr) (x:=.orow 90 5 g stk.length cs) (by simp [hmem])
   simp only [sxZ,z6,z7,z8,j4,j5,j6,j7,j8,j9,x0,x3,x4,x5,x6,x7,reduceCtorEq,↓reduceIte,e1]
   subst hY
   refine zaa fun Y hY => ?_
   by_cases c1:64 ≤ stk.length
   ·rw [if_pos c1] at h1
    have c2:(64:Int) ≤ (stk.length:Int):=by omega
    simp only [sxZ,z6,z7,z8,j4,j5,j6,j7,j8,j9,x0,x3,x4,x5,x6,x7,reduceCtorEq,↓reduceIte,e1,e3,e4,c2]
    exact h1 (by simp) _ _ (zat (zat hP2))
   rw [if_neg c1] at h0 h1
   have c2:¬ (64:Int) ≤ (stk.length:Int):=by omega
   simp only [sxZ,z6,z7,z8,j4,j5,j6,j7,j8,j9,x0,x3,x4,x5,x6,x7,reduceCtorEq,↓reduceIte,e1,e3,e4,c2]
   obtain rfl:Y=zch:=hY
   refine zbA hNB hP2 h67 hl hd hn rfl rfl rfl true rfl (fun h => ⟨rfl,by decide⟩) ?_
   split
   ·rename_i c
    rw [if_pos c] at h1
    exact h1 (by simp)
   ·rename_i c
    rw [if_neg c] at h0
    rw [if_pos rfl]
    exact h0 rfl
 ·rw [hv] at e1 hP2
  unfold zaU at h0 h1
  rw [hv,if_neg (by decide),if_pos (by decide)] at h0 h1
  simp only at h0 h1
  rcases hXl with ⟨rfl,rfl⟩ | ⟨rr,g,cs,rfl,hmem⟩
  ·simp only [sxZ,z6,z7,z8,j4,j5,j6,j7,j8,j9,x0,x3,x4,x5,x6,x7,reduceCtorEq,↓reduceIte,e1]
   subst hY
   refine zaa fun Y hY => ?_
   simp only [sxZ,z6,z7,z8,j4,j5,j6,j7,j8,j9,x0,x3,x4,x5,x6,x7,reduceCtorEq,↓reduceIte,e1,e3]
   obtain rfl:Y=zch:=hY
   refine zbA hNB hP2 h67 hl hd hn rfl rfl rfl true rfl (fun h => ⟨rfl,by decide⟩) ?_
   rw [if_neg (by decide)] at h0 h1
   split
   ·rename_i c
    rw [if_pos c] at h1
    exact h1 (by simp)
   ·rename_i c
    rw [if_neg c] at h0
    rw [if_pos rfl]
    exact h0 rfl
  ·have e4:=hO.get (i:=rr) (x:=.orow 90 5 g stk.length cs) (by simp [hmem])
   simp only [sxZ,z6,z7,z8,j4,j5,j6,j7,j8,j9,x0,x3,x4,x5,x6,x7,reduceCtorEq,↓reduceIte,e1]
   subst hY
   refine zaa fun Y hY => ?_
   by_cases c1:64 ≤ stk.length
   ·rw [if_pos c1] at h1
    have c2:(64:Int) ≤ (stk.length:Int):=by omega
    simp only [sxZ,z6,z7,z8,j4,j5,j6,j7,j8,j9,x0,x3,x4,x5,x6,x7,reduceCtorEq,↓reduceIte,e1,e3,e4,c2]
    exact h1 (by simp) _ _ (zat (zat hP2))
   rw [if_neg c1] at h0 h1
   have c2:¬ (64:Int) ≤ (stk.length:Int):=by omega
   simp only [sxZ,z6,z7,z8,j4,j5,j6,j7,j8,j9,x0,x3,x4,x5,x6,x7,reduceCtorEq,↓reduceIte,e1,e3,e4,c2]
   obtain rfl:Y=zch:=hY
   refine zbA hNB hP2 h67 hl hd hn rfl rfl rfl true rfl (fun h => ⟨rfl,by decide⟩) ?_
   split
   ·rename_i c
    rw [if_pos c] at h1
    exact h1 (by simp)
   ·rename_i c
    rw [if_neg c] at h0
    rw [if_pos rfl]
    exact h0 rfl
theorem take_k (hNB:zb9 M) {p a:Nat} {σ:Ms} (hP:PrO M p σ objs) (hw:WfM σ a) (ha:a ≤ 10000000) (h7:¬ σ.st=7) (t:Tk) (ht:t.2.1.length ≤ 140737488351232)
  (h0:(zax σ t).1=0 → ∀ o,PrO M p (zax σ t).2 o → K o (.i .i64 0)) (h1:¬ (zax σ t).1=0 → ∀ o σ',PrO M p σ' o → K o (.i .i64 (zax σ t).1)) :
  zad Tryz.prog 22 [.p p 0,zf5 t] objs K:=by
 have hl:∀ f ∈ σ.stk,f.its.length ≤ 10000000:=fun f hf => by have:=(hw.len f hf).2; omega
 have hlk:∀ f ∈ σ.stk,f.ks.length ≤ 10000000:=fun f hf => by have:=(hw.len f hf).1; omega
 have hd:=hw.deep
 have hn:=hw.few
 have hP1:=zgD hP (zcj t)
 have hNB':zb9 ((objs.length,zcj t) :: M):=zbD rfl hNB
 have hq:∀ o,zad Tryz.prog 39 [.agg [.i .i64 t.1,.s t.2.1,.i .i64 t.2.2],.s [58]] o (fun o' r => o'=o ∧ r=.b (isP t 58)):=fun o => zdu t 58 ⟨rfl,rfl⟩
 refine zbP is_jsondoc_parser_take fun C _ => ?_
 rw [c_jsondoc_parser_take]
 refine zaa fun Y hY => ?_
 simp only [zf5,sxZ,z6,z7,z8,j4,j5,j6,j7,j8,j9,x0,x3,x4,x5,x6,x7,reduceCtorEq,↓reduceIte]
 have fold0:OB.box 51 (tkC t)=zcj t:=rfl
 rw [fold0]
 generalize objs ++ [zcj t]=o1 at hP1 ⊢
 have e0:=zbM hP1 (i:=objs.length) (x:=zcj t) (by simp)
 unfold zcj tkC at e0
 obtain ⟨X,r0,r1,r2,r3,L,hO,hX,hpl,hr⟩:=id hP1
 have e1:=hO.get (i:=p) (x:=prB σ.st X σ.nodes r0 r1 r2 r3) (by simp)
 unfold prB at e1
 unfold zax at h0 h1
 have setst:∀ s':Int,¬ (s'=6 ∨ s'=7) ∨ (s'=7 ∧ σ.st=6) → PrO M p ⟨s',σ.stk,σ.nodes,σ.root⟩ (o1.set p (.box 49 [.i .i64 s',X,.i .i64 (σ.nodes:Int),r0,r1,r2,r3])):=fun s' hs' =>
  zat (z:=(objs.length,zcj t)) ⟨X,r0,r1,r2,r3,L,hO.set0 (prB s' X σ.nodes r0 r1 r2 r3),hX,hpl,fun h => by
   rcases hs' with h' | ⟨_,h'⟩
   ·exact absurd h h'
   ·exact hr (.inl h')⟩
 subst hY
 refine zaa fun Y hY => ?_
 by_cases c0:σ.st=0
 ·rw [if_pos c0] at h0 h1
  simp only [sxZ,z6,z7,z8,j4,j5,j6,j7,j8,j9,x0,x3,x4,x5,x6,x7,reduceCtorEq,↓reduceIte,e0,e1,c0]
  refine zam (zmN hNB' hP1 (by omega) hl hd hn t ht (fun h o ho => ?_) (fun h o σ' ho => ?_))
  ·simp only [sxZ,z6,z7,z8,j4,j5,j6,j7,j8,j9,x0,x3,x4,x5,x6,x7,reduceCtorEq,↓reduceIte]
   exact h0 h _ (zat ho)
  ·simp only [sxZ,z6,z7,z8,j4,j5,j6,j7,j8,j9,x0,x3,x4,x5,x6,x7,reduceCtorEq,↓reduceIte]
   exact h1 h _ _ (zat ho)
 rw [if_neg c0] at h0 h1
 have key3:σ.st=1 ∨ σ.st=3 → ∃ f r,σ.stk=f :: r:=fun h => by
  have:=hw.top (by omega)
  cases hs:σ.stk with
  | nil => exact absurd hs this
  | cons f r => exact ⟨f,r,rfl⟩
 by_cases c1:σ.st=1
 ·rw [if_pos c1] at h0 h1
  obtain ⟨f,r,hs⟩:=key3 (.inl c1)
  have hrl:r.length ≤ 63:=by rw [hs] at hd; simpa using hd
  simp only [sxZ,z6,z7,z8,j4,j5,j6,j7,j8,j9,x0,x3,x4,x5,x6,x7,reduceCtorEq,↓reduceIte,e0,e1,c0,c1]
  refine zam (zeJ hP1 hs (by omega) t fun o2 ho => ?_)
  cases hc:zeK σ t
  rotate_left
  ·rw [if_pos hc] at h0
   simp only [sxZ,z6,z7,z8,j4,j5,j6,j7,j8,j9,x0,x3,x4,x5,x6,x7,reduceCtorEq,↓reduceIte]
   refine zam (zhP hNB' ho hs (by omega) hl hd fun o3 ho3 => ?_)
   simp only [sxZ,z6,z7,z8,j4,j5,j6,j7,j8,j9,x0,x3,x4,x5,x6,x7,reduceCtorEq,↓reduceIte]
   exact h0 rfl _ (zat ho3)
  rw [if_neg (by rw [hc]; exact Bool.false_ne_true)] at h0 h1
  have g0:=zbM ho (i:=objs.length) (x:=zcj t) (by simp)
  unfold zcj tkC at g0
  obtain ⟨X',u0,u1,u2,u3,L',hO',_,_,_⟩:=id ho
  have g1:=hO'.get (i:=p) (x:=prB σ.st X' σ.nodes u0 u1 u2 u3) (by simp)
  unfold prB at g1
  simp only [sxZ,z6,z7,z8,j4,j5,j6,j7,j8,j9,x0,x3,x4,x5,x6,x7,reduceCtorEq,↓reduceIte,g0,g1,c1]
  refine zam (zmN hNB' ho (by omega) hl hd hn t ht (fun h o ho => ?_) (fun h o σ' ho => ?_))
  ·simp only [sxZ,z6,z7,z8,j4,j5,j6,j7,j8,j9,x0,x3,x4,x5,x6,x7,reduceCtorEq,↓reduceIte]
   exact h0 h _ (zat ho)
  ·simp only [sxZ,z6,z7,z8,j4,j5,j6,j7,j8,j9,x0,x3,x4,x5,x6,x7,reduceCtorEq,↓reduceIte]
   exact h1 h _ _ (zat ho)
 rw [if_neg c1] at h0 h1
 by_cases c3:σ.st=3
 ·rw [if_pos c3] at h0 h1
  obtain ⟨f,r,hs⟩:=key3 (.inr c3)
  have hrl:r.length ≤ 63:=by rw [hs] at hd; simpa using hd
  simp only [sxZ,z6,z7,z8,j4,j5,j6,j7,j8,j9,x0,x3,x4,x5,x6,x7,reduceCtorEq,↓reduceIte,e0,e1,c0,c1,c3]
  refine zam (zeJ hP1 hs (by omega) t fun o2 ho => ?_)
  cases hc:zeK σ t
  rotate_left
  ·rw [if_pos hc] at h0
   simp only [sxZ,z6,z7,z8,j4,j5,j6,j7,j8,j9,x0,x3,x4,x5,x6,x7,reduceCtorEq,↓reduceIte]
   refine zam (zhP hNB' ho hs (by omega) hl hd fun o3 ho3 => ?_)
   simp only [sxZ,z6,z7,z8,j4,j5,j6,j7,j8,j9,x0,x3,x4,x5,x6,x7,reduceCtorEq,↓reduceIte]
   exact h0 rfl _ (zat ho3)
  rw [if_neg (by rw [hc]; exact Bool.false_ne_true)] at h0 h1
  have g0:=zbM ho (i:=objs.length) (x:=zcj t) (by simp)
  unfold zcj tkC at g0
  obtain ⟨X',u0,u1,u2,u3,L',hO',_,_,_⟩:=id ho
  have g1:=hO'.get (i:=p) (x:=prB σ.st X' σ.nodes u0 u1 u2 u3) (by simp)
  unfold prB at g1
  simp only [sxZ,z6,z7,z8,j4,j5,j6,j7,j8,j9,x0,x3,x4,x5,x6,x7,reduceCtorEq,↓reduceIte,g0,g1,c1,c3]
  refine zam (zjn ho hs (hw.obj (by omega) f r hs) (hlk f (by rw [hs]; simp)) hd t ht (fun h o ho => ?_) (fun h o σ' ho => ?_))
  ·simp only [sxZ,z6,z7,z8,j4,j5,j6,j7,j8,j9,x0,x3,x4,x5,x6,x7,reduceCtorEq,↓reduceIte]
   exact h0 h _ (zat ho)
  ·simp only [sxZ,z6,z7,z8,j4,j5,j6,j7,j8,j9,x0,x3,x4,x5,x6,x7,reduceCtorEq,↓reduceIte]
   exact h1 h _ _ (zat ho)
 rw [if_neg c3] at h0 h1
 by_cases c2:σ.st=2
 ·rw [if_pos c2] at h0 h1
  obtain ⟨f,r,hs⟩:∃ f r,σ.stk=f :: r:=by
   have:=hw.top (by omega)
   cases hs:σ.stk with
   | nil => exact absurd hs this
   | cons f r => exact ⟨f,r,rfl⟩
  simp only [sxZ,z6,z7,z8,j4,j5,j6,j7,j8,j9,x0,x3,x4,x5,x6,x7,reduceCtorEq,↓reduceIte,e0,e1,c2]
  refine zam (zjn hP1 hs (hw.obj (by omega) f r hs) (hlk f (by rw [hs]; simp)) hd t ht (fun h o ho => ?_) (fun h o σ' ho => ?_))
  ·simp only [sxZ,z6,z7,z8,j4,j5,j6,j7,j8,j9,x0,x3,x4,x5,x6,x7,reduceCtorEq,↓reduceIte]
   exact h0 h _ (zat ho)
  ·simp only [sxZ,z6,z7,z8,j4,j5,j6,j7,j8,j9,x0,x3,x4,x5,x6,x7,reduceCtorEq,↓reduceIte]
   exact h1 h _ _ (zat ho)
 rw [if_neg c2] at h0 h1
 by_cases c4:σ.st=4
 ·rw [if_pos c4] at h0 h1
  simp only [sxZ,z6,z7,z8,j4,j5,j6,j7,j8,j9,x0,x3,x4,x5,x6,x7,reduceCtorEq,↓reduceIte,e0,e1,c4]
  refine zam ((hq o1).mono ?_)
  rintro o3 x ⟨rfl,rfl⟩
  cases hp:isP t 58
  ·rw [if_neg (by rw [hp]; exact Bool.false_ne_true)] at h1
   simp only [sxZ,z6,z7,z8,j4,j5,j6,j7,j8,j9,x0,x3,x4,x5,x6,x7,reduceCtorEq,↓reduceIte]
   subst hY
   simp only [sxZ,z6,z7,z8,j4,j5,j6,j7,j8,j9,x0,x3,x4,x5,x6,x7,reduceCtorEq,↓reduceIte]
   exact h1 (by simp) _ _ (zat hP1)
  ·rw [if_pos hp] at h0
   simp only [sxZ,z6,z7,z8,j4,j5,j6,j7,j8,j9,x0,x3,x4,x5,x6,x7,reduceCtorEq,↓reduceIte,e1]
   exact h0 rfl _ (setst 0 (.inl (by decide)))
 rw [if_neg c4] at h0 h1
 by_cases c5:σ.st=5
 ·rw [if_pos c5] at h0 h1
  obtain ⟨f,r,hs⟩:∃ f r,σ.stk=f :: r:=by
   have:=hw.top (by omega)
   cases hs:σ.stk with
   | nil => exact absurd hs this
   | cons f r => exact ⟨f,r,rfl⟩
  simp only [sxZ,z6,z7,z8,j4,j5,j6,j7,j8,j9,x0,x3,x4,x5,x6,x7,reduceCtorEq,↓reduceIte,e0,e1,c5]
  refine zam (goOn_k hNB' hP1 hs (by omega) hl hd t (fun h o ho => ?_) (fun h o σ' ho => ?_))
  ·simp only [sxZ,z6,z7,z8,j4,j5,j6,j7,j8,j9,x0,x3,x4,x5,x6,x7,reduceCtorEq,↓reduceIte]
   exact h0 h _ (zat ho)
  ·simp only [sxZ,z6,z7,z8,j4,j5,j6,j7,j8,j9,x0,x3,x4,x5,x6,x7,reduceCtorEq,↓reduceIte]
   exact h1 h _ _ (zat ho)
 rw [if_neg c5] at h0 h1
 by_cases c6:σ.st=6
 ·rw [if_pos c6] at h0 h1
  by_cases c7:t.1=1
  ·rw [if_pos c7] at h0
   simp only [sxZ,z6,z7,z8,j4,j5,j6,j7,j8,j9,x0,x3,x4,x5,x6,x7,reduceCtorEq,↓reduceIte,e0,e1,c6,c7]
   exact h0 rfl _ (setst 7 (.inr ⟨rfl,c6⟩))
  ·rw [if_neg c7] at h1
   simp only [sxZ,z6,z7,z8,j4,j5,j6,j7,j8,j9,x0,x3,x4,x5,x6,x7,reduceCtorEq,↓reduceIte,e0,e1,c6,c7]
   subst hY
   simp only [sxZ,z6,z7,z8,j4,j5,j6,j7,j8,j9,x0,x3,x4,x5,x6,x7,reduceCtorEq,↓reduceIte]
   exact h1 (by simp) _ _ (zat hP1)
 rw [if_neg c6] at h1
 simp only [sxZ,z6,z7,z8,j4,j5,j6,j7,j8,j9,x0,x3,x4,x5,x6,x7,reduceCtorEq,↓reduceIte,e0,e1,c0,c1,c2,c3,c4,c5,c6]
 subst hY
 simp only [sxZ,z6,z7,z8,j4,j5,j6,j7,j8,j9,x0,x3,x4,x5,x6,x7,reduceCtorEq,↓reduceIte]
 exact h1 (by simp) _ _ (zat hP1)
end
end
section
attribute [local irreducible] run
theorem WfM.mono {σ:Ms} {a b:Nat} (h:WfM σ a) (hab:a ≤ b):WfM σ b:=⟨h.top,h.obj,fun f hf => by have:=h.len f hf; omega,h.deep,h.few⟩
theorem zeI {t:Tk} (h:t.1=1) (c:UInt8):isP t c=false:=by simp [isP,h]
theorem take_end {σ:Ms} {t:Tk} (h:t.1=1) (h0:(zax σ t).1=0):(zax σ t).2.st=7:=by
 have hv:vkE t=0:=by
  have h1:=zeI h 91
  have h2:=zeI h 123
  simp [vkE,h,h1,h2]
 have hb:(zaU σ t).1=140:=by unfold zaU; rw [if_pos hv]
 have hcl:zeK σ t=false:=by
  unfold zeK
  split
  ·rfl
  ·exact zeI h _
 have hky:¬ (zhz σ t).1=0:=by
  unfold zhz
  split
  ·simp
  ·rw [if_pos (by omega)]; simp
 have hon:¬ (onM σ t).1=0:=by
  unfold onM
  split
  ·simp
  ·rw [hcl,zeI h]; simp
 unfold zax at h0 ⊢
 rw [hcl,zeI h] at h0 ⊢
 simp only [Bool.false_eq_true,if_false] at h0 ⊢
 by_cases c0:σ.st=0
 ·rw [if_pos c0] at h0; rw [hb] at h0; cases h0
 rw [if_neg c0] at h0 ⊢
 by_cases c1:σ.st=1
 ·rw [if_pos c1] at h0; rw [hb] at h0; cases h0
 rw [if_neg c1] at h0 ⊢
 by_cases c3:σ.st=3
 ·rw [if_pos c3] at h0; exact absurd h0 hky
 rw [if_neg c3] at h0 ⊢
 by_cases c2:σ.st=2
 ·rw [if_pos c2] at h0; exact absurd h0 hky
 rw [if_neg c2] at h0 ⊢
 by_cases c4:σ.st=4
 ·rw [if_pos c4] at h0; cases h0
 rw [if_neg c4] at h0 ⊢
 by_cases c5:σ.st=5
 ·rw [if_pos c5] at h0; exact absurd h0 hon
 rw [if_neg c5] at h0 ⊢
 by_cases c6:σ.st=6
 ·rw [if_pos c6,if_pos h]
 ·rw [if_neg c6] at h0; cases h0
theorem jres {P:Program} [Tabs P] {f:FuncId} {args:List AV} {objs:List OB} {K:List OB → AV → Prop} (r':AV) (hc:zad P f args objs (fun o r => (∀ G I y,Den G I r y → Den G I r' y) ∧ K o r')):zad P f args objs K:=by
 intro C _ G I w hin hm ys hd
 refine (hc C G I w hin hm ys hd).mono ?_
 rintro e w' ⟨y,objs',r,G',I',he,⟨hr,hk⟩,h1,h2,h3,h4,hy⟩
 exact ⟨y,objs',r',G',I',he,hk,h1,h2,h3,h4,hr _ _ _ hy⟩
def zvC:List AV:=[.i .i64 0,.s [],.nil,.nil]
def zeB (R:JV × Int × Int):AV:=.tup [.agg (zah R.1),.i .i64 R.2.1,.i .i64 R.2.2]
theorem den_zv {a e:Int} {G:Gh} {I:Imm} {y:Value} (h:Den G I (.tup [.agg zvC,.i .i64 a,.i .i64 e]) y):Den G I (zeB (jvZ,a,e)) y:=by
 unfold zeB jvZ
 rw [zah,zaH]
 unfold zvC at h
 simp only [zag,Den] at h ⊢
 obtain ⟨ys,h1,y0,l0,rfl,⟨zs,rfl,⟨z0,m0,rfl,q0,z1,m1,rfl,q1,z2,m2,rfl,q2,z3,m3,rfl,q3,q4⟩,hz⟩,h2⟩:=h
 refine ⟨_,h1,_,_,rfl,⟨_,rfl,⟨_,_,rfl,q0,_,_,rfl,q1,_,_,rfl,?_,_,_,rfl,?_,q4⟩,hz⟩,h2⟩
 ·exact ⟨none,0,[],q2,⟨Nat.le_refl _,fun ad h => by cases h⟩,rfl,by simp,by simp⟩
 ·exact ⟨none,0,[],q3,⟨Nat.le_refl _,fun ad h => by cases h⟩,rfl,by simp,by simp⟩
section
variable [Tabs Tryz.prog] [Pow Tryz.prog] [Utf Tryz.prog] {objs:List OB} {K:List OB → AV → Prop}
theorem ziR (s:List UInt8) (hs:s.length ≤ 140737488351232) (hk:K objs (zeB (zbW s))):zad Tryz.prog 9 [.s s] objs K:=by
 refine jres (zeB (zbW s)) ?_
 refine zaN is_jsondoc_Parse rfl fun C _ => ?_
 have fin:∀ {o:List OB} {a e:Int},zbW s=(jvZ,a,e) → ((∀ G I y,Den G I (.tup [.agg zvC,.i .i64 a,.i .i64 e]) y → Den G I (zeB (zbW s)) y) ∧ K objs (zeB (zbW s))):=fun {o a e} h => ⟨fun G I y hy => by rw [h]; exact den_zv hy,hk⟩
 rw [c_jsondoc_Parse]
 refine zaa fun Y hY => ?_
 simp only [sxZ,z6,z7,z8,j4,j5,j6,j7,j8,j9,x0,x3,x4,x5,x6,x7,reduceCtorEq,↓reduceIte]
 subst hY
 refine zaa fun Y hY => ?_
 by_cases c1:(1048576:Int) < s.length
 ·simp only [sxZ,z6,z7,z8,j4,j5,j6,j7,j8,j9,x0,x3,x4,x5,x6,x7,reduceCtorEq,↓reduceIte,c1]
  exact fin (o:=[]) (by unfold zbW; rw [if_pos (by omega)])
 have hs':s.length ≤ 1048576:=by omega
 simp only [sxZ,z6,z7,z8,j4,j5,j6,j7,j8,j9,x0,x3,x4,x5,x6,x7,reduceCtorEq,↓reduceIte,c1]
 subst hY
 refine zaa fun Y hY => ?_
 simp only [sxZ,z6,z7,z8,j4,j5,j6,j7,j8,j9,x0,x3,x4,x5,x6,x7,reduceCtorEq,↓reduceIte]
 subst hY
 refine zaa fun Y hY => ?_
 simp only [sxZ,z6,z7,z8,j4,j5,j6,j7,j8,j9,x0,x3,x4,x5,x6,x7,reduceCtorEq,↓reduceIte]
 subst hY
 refine zaa fun Y hY => ?_
 simp only [sxZ,z6,z7,z8,j4,j5,j6,j7,j8,j9,x0,x3,x4,x5,x6,x7,reduceCtorEq,↓reduceIte]
 have hNB:zb9 [(0,OB.box 26 zvC)]:=zbD rfl (fun z hz => by cases hz)
 have last:∀ (σ:Ms) (a:Nat) (o:List OB) (tm:List AV),PrO [(0,.box 26 zvC)] 1 σ o → σ.st=7 → MRes s 0 ms0 (σ.root,(a:Int),0) → tm.length=42 → tm[2]? = some (.p 0 0) → tm[5]? = some (.p 1 0) → tm[6]? = some (.i .i64 (a:Int)) →
   run Tryz.prog C [.code Y] o tm (endK [.celln 2 4,.tmp 3,.tmp 4] fun r => (∀ G I y,Den G I r y → Den G I (zeB (zbW s)) y) ∧ K objs (zeB (zbW s))):=by
  intro σ a o tm hP h7 hR hlen t2 t5 t6
  have e:=zfI hs' hR
  obtain ⟨X,r0,r1,r2,r3,L,hO,hX,hpl,hr⟩:=id hP
  have hroot:=hr (.inr h7)
  have g0:=zbM hP (i:=0) (x:=.box 26 zvC) (by simp)
  have g1:=hO.get (i:=1) (x:=prB σ.st X σ.nodes r0 r1 r2 r3) (by simp)
  have hlt:=pr_lt hP (i:=0) (x:=.box 26 zvC) (by simp)
  have gs:∀ x,(o.set 0 x)[0]? = some x:=fun x => List.getElem?_set_self hlt
  unfold prB at g1
  unfold zvC at g0
  subst hY
  simp only [sxZ,z6,z7,z8,j4,j5,j6,j7,j8,j9,x0,x3,x4,x5,x6,x7,reduceCtorEq,↓reduceIte,List.getElem?_set,hlen,t2,t5,t6,g0,g1,gs]
  rw [zai] at hroot
  injection hroot with q0 hroot
  injection hroot with q1 hroot
  injection hroot with q2 hroot
  injection hroot with q3 _
  subst q0 q1 q2 q3
  simp only [pub,AV.plain,zau,zbN,sxZ,z6,z7,z8,j4,j5,j6,j7,j8,j9,x0,x3,x4,x5,x6,x7,reduceCtorEq,↓reduceIte]
  refine ⟨fun G I y hy => ?_,hk⟩
  rw [← e,zeB,zai]
  exact hy
 refine zaE (fun n o tm => ∃ (σ:Ms) (a c:Nat),n=(if σ.st=7 then 0 else s.length - a + 1) ∧ PrO [(0,.box 26 zvC)] 1 σ o ∧ WfM σ c ∧ a ≤ s.length ∧ (σ.st=7 ∨ c ≤ a) ∧ (∀ R,MRes s a σ R → MRes s 0 ms0 R) ∧
   tm.length=42 ∧ tm[0]? = some (.s s) ∧ tm[2]? = some (.p 0 0) ∧ tm[5]? = some (.p 1 0) ∧ tm[6]? = some (.i .i64 (a:Int))) (s.length + 1) ⟨ms0,0,0,by rw [if_neg (by decide),Nat.sub_zero],?_,wf0 0,Nat.zero_le _,.inr (Nat.le_refl _),fun R h => h,rfl,rfl,rfl,rfl,rfl⟩ ?_
 ·exact ⟨.nil,.i .i64 0,.s [],.nil,.nil,[(0,.box 26 zvC)],⟨by simp,fun x hx => by
   simp only [List.mem_cons,List.not_mem_nil,or_false] at hx
   rcases hx with rfl | rfl <;> rfl⟩,.inl ⟨rfl,rfl,rfl⟩,rfl,fun h => by rcases h with h | h <;> cases h⟩
 rintro n o tm ⟨σ,a,c,rfl,hP,hw,hal,hca,hM,hlen,t0,t2,t5,t6⟩
 obtain ⟨X,r0,r1,r2,r3,L,hO,hX,hpl,hr⟩:=id hP
 have e1:=hO.get (i:=1) (x:=prB σ.st X σ.nodes r0 r1 r2 r3) (by simp)
 unfold prB at e1
 refine zaa fun Z hZ => ?_
 by_cases c7:σ.st=7
 ·simp only [sxZ,z6,z7,z8,j4,j5,j6,j7,j8,j9,x0,x3,x4,x5,x6,x7,reduceCtorEq,↓reduceIte,List.getElem?_set,hlen,t5,e1,c7]
  refine last σ a o _ hP c7 (hM _ (.fin c7)) ?_ ?_ ?_ ?_
  all_goals simp only [List.length_set,List.getElem?_set,hlen,t2,t5,t6,Nat.reduceEqDiff,if_false,reduceIte]
 simp only [sxZ,z6,z7,z8,j4,j5,j6,j7,j8,j9,x0,x3,x4,x5,x6,x7,reduceCtorEq,↓reduceIte,List.getElem?_set,hlen,t5,e1,c7]
 have hca:c ≤ a:=hca.resolve_left c7
 subst hZ
 have hN:=ziv (s:=s) (a:=(a:Int)) (by omega)
 rw [zaO]
 refine zaa fun Z hZ => ?_
 simp only [sxZ,z6,z7,z8,j4,j5,j6,j7,j8,j9,x0,x3,x4,x5,x6,x7,reduceCtorEq,↓reduceIte,List.getElem?_set,hlen,t0,t6]
 refine zam (zka s a hs ?_)
 unfold zli
 have f1:∀ x y z,OB.box 51 [.i .i64 x,.s y,.i .i64 z]=zcj (x,y,z):=fun _ _ _ => rfl
 simp only [sxZ,z6,z7,z8,j4,j5,j6,j7,j8,j9,x0,x3,x4,x5,x6,x7,reduceCtorEq,↓reduceIte,List.getElem?_set,hlen,gn1,sn1]
 rw [f1]
 have hP1:=zgD hP (zcj (zaB s (a:Int)).1)
 have hR0:¬ (zaB s (a:Int)).2.2=0 → zbW s=(jvZ,(a:Int),(zaB s (a:Int)).2.2):=fun he => (zfI hs' (hM _ (.tok c7 he))).symm
 have hR1:(zaB s (a:Int)).2.2=0 → ¬ (zax σ (zaB s (a:Int)).1).1=0 → zbW s=(jvZ,(zaB s (a:Int)).1.2.2,(zax σ (zaB s (a:Int)).1).1):=fun he ht => (zfI hs' (hM _ (.bad c7 he ht))).symm
 have hR2:(zaB s (a:Int)).2.2=0 → (zax σ (zaB s (a:Int)).1).1=0 → ∀ R,MRes s (zaB s (a:Int)).2.1 (zax σ (zaB s (a:Int)).1).2 R → MRes s 0 ms0 R:=fun he ht R hR => hM _ (.step c7 he ht hR)
 have hend:=fun h1 h2 => take_end (σ:=σ) (t:=(zaB s (a:Int)).1) h1 h2
 generalize o ++ [zcj (zaB s (a:Int)).1]=o1 at hP1 ⊢
 generalize zaB s (a:Int)=N at hN hP1 hR0 hR1 hR2 hend ⊢
 obtain ⟨T,to,e⟩:=N
 simp only at hN hP1 hR0 hR1 hR2 hend ⊢
 subst hZ
 refine zaa fun Z hZ => ?_
 by_cases c2:e=0
 rotate_left
 ·have h2:=zbM hP1 (i:=0) (x:=.box 26 zvC) (by simp)
  have hlt:=pr_lt hP1 (i:=0) (x:=.box 26 zvC) (by simp)
  have gs:∀ x,(o1.set 0 x)[0]? = some x:=fun x => List.getElem?_set_self hlt
  unfold zvC at h2
  simp only [sxZ,z6,z7,z8,j4,j5,j6,j7,j8,j9,x0,x3,x4,x5,x6,x7,reduceCtorEq,↓reduceIte,List.getElem?_set,hlen,t2,t6,c2,h2,gs]
  exact fin (o:=[]) (hR0 c2)
 subst c2
 obtain ⟨⟨n1,n2,n3,n4⟩,n5,n6,n7,n8,n9⟩:=hN rfl
 simp only [sxZ,z6,z7,z8,j4,j5,j6,j7,j8,j9,x0,x3,x4,x5,x6,x7,reduceCtorEq,↓reduceIte,List.getElem?_set,hlen]
 refine zdo (fun t => t.length=42 ∧ t[0]? = some (.s s) ∧ t[2]? = some (.p 0 0) ∧ t[5]? = some (.p 1 0) ∧ t[7]? = some (.p o.length 0) ∧ t[8]? = some (.i .i64 to)) ?_ ?_
 ·simp only [sxZ,z6,z7,z8,j4,j5,j6,j7,j8,j9,x0,x3,x4,x5,x6,x7,reduceCtorEq,↓reduceIte,List.length_set,List.getElem?_set,hlen,t0,t2,t5,and_self]
 clear t0 t2 t5 t6 hlen
 rintro tm ⟨hlen,t0,t2,t5,t7,t8⟩
 have h7:=zbM hP1 (i:=o.length) (x:=zcj T) (by simp)
 have hNB1:zb9 [(o.length,zcj T),(0,OB.box 26 zvC)]:=zbD rfl hNB
 unfold zcj tkC at h7
 subst hZ
 refine zaa fun Z hZ => ?_
 refine zaa fun Z2 hZ2 => ?_
 simp only [sxZ,z6,z7,z8,j4,j5,j6,j7,j8,j9,x0,x3,x4,x5,x6,x7,reduceCtorEq,↓reduceIte,List.getElem?_set,hlen,t5,t7,h7]
 refine zam (take_k hNB1 hP1 hw (by omega) c7 T (by omega) (fun he o2 ho => ?_) (fun he o2 σ' ho => ?_))
 ·simp only [sxZ,z6,z7,z8,j4,j5,j6,j7,j8,j9,x0,x3,x4,x5,x6,x7,reduceCtorEq,↓reduceIte,List.getElem?_set,hlen]
  subst hZ2
  simp only [sxZ,z6,z7,z8,j4,j5,j6,j7,j8,j9,x0,x3,x4,x5,x6,x7,reduceCtorEq,↓reduceIte,List.getElem?_set,hlen]
  subst hZ
  simp only [sxZ,z6,z7,z8,j4,j5,j6,j7,j8,j9,x0,x3,x4,x5,x6,x7,reduceCtorEq,↓reduceIte,List.getElem?_set,hlen,t8]
  obtain ⟨b,rfl⟩:=Int.eq_ofNat_of_zero_le (show 0 ≤ to by omega)
  have hw2:=wf_take hw he
  have hdec:(if (zax σ T).2.st=7 then 0 else s.length - b + 1) < s.length - a + 1 ∧ ((zax σ T).2.st=7 ∨ c + 1 ≤ b):=by
   by_cases hT:T.1=1
   ·have:=hend hT he
    rw [if_pos this]
    exact ⟨by omega,.inl this⟩
   ·have:=n3 hT
    constructor
    ·split <;> omega
    ·exact .inr (by omega)
  refine ⟨_,hdec.1,_,b,c + 1,rfl,zat ho,hw2,by omega,hdec.2,hR2 rfl he,?_⟩
  simp only [sxZ,z6,z7,z8,j4,j5,j6,j7,j8,j9,x0,x3,x4,x5,x6,x7,reduceCtorEq,↓reduceIte,List.length_set,List.getElem?_set,hlen,t0,t2,t5,and_self]
 ·have hx:=hR1 rfl he
  simp only [sxZ,z6,z7,z8,j4,j5,j6,j7,j8,j9,x0,x3,x4,x5,x6,x7,reduceCtorEq,↓reduceIte,List.getElem?_set,hlen]
  have g7:=zbM ho (i:=o.length) (x:=zcj T) (by simp)
  have g0:=zbM ho (i:=0) (x:=.box 26 zvC) (by simp)
  have hlt:=pr_lt ho (i:=0) (x:=.box 26 zvC) (by simp)
  have gs:∀ x,(o2.set 0 x)[0]? = some x:=fun x => List.getElem?_set_self hlt
  have hne:¬ o.length=0:=fun h => by
   obtain ⟨B,A,hB,_⟩:=zds hP1
   exact hB.ne (A:=_ :: A) (B:=[]) h
  unfold zcj tkC at g7
  unfold zvC at g0
  subst hZ2
  simp only [sxZ,z6,z7,z8,j4,j5,j6,j7,j8,j9,x0,x3,x4,x5,x6,x7,reduceCtorEq,↓reduceIte,List.getElem?_set,hlen,he,t2,t7,g7,g0,gs,hne]
  exact fin (o:=[]) hx
end
end
end Go.Proofs.YthmdohgkmdkeeaaGreatDoor
namespace Go.Proofs.YthmdohgkmdkeeaaGreatDoor
open Sx
end Go.Proofs.YthmdohgkmdkeeaaGreatDoor
namespace Go.Proofs.YthmdohgkmdkeeaaGreatDoor
open Nat renaming reduceAdd → z6, reduceSub → z7, reduceLeDiff → z8, reduceLT → j4, reduceMul → j5, reduceEqDiff → j6
open Int renaming reduceToNat → j7, reduceAdd → j8, reduceSub → j9, reduceMul → x0, reduceNeg → x3, reduceLT → x4, reduceLE → x5, reduceEq → x6, reduceNe → x7
open Go.RowKit Sx
section
attribute [local irreducible] run
section
variable [Tabs Tryz.prog] [Pow Tryz.prog] [Utf Tryz.prog] {objs:List OB} {K:List OB → AV → Prop}
theorem saneJs_k (hk:K objs (.b true)):zad Tryz.prog 8 [] objs K:=by
 refine zaN is_law14_sane rfl fun C _ => ?_
 rw [c_law14_sane]
 refine zaa fun Y hY => ?_
 simp only [sxZ,z6,z7,z8,j4,j5,j6,j7,j8,j9,x0,x3,x4,x5,x6,x7,reduceCtorEq,↓reduceIte]
 subst hY
 refine zaa fun Y hY => ?_
 simp only [sxZ,z6,z7,z8,j4,j5,j6,j7,j8,j9,x0,x3,x4,x5,x6,x7,reduceCtorEq,↓reduceIte]
 refine zam (ziR _ (by decide) ?_)
 rw [js_ex1]
 simp only [zeB,zah,zac,List.map_cons,List.map_nil,List.length_cons,List.length_nil,List.cons_append,List.nil_append,sxZ,z6,z7,z8,j4,j5,j6,j7,j8,j9,x0,x3,x4,x5,x6,x7,reduceCtorEq,↓reduceIte]
 subst hY
 refine zaa fun Y hY => ?_
 simp only [sxZ,z6,z7,z8,j4,j5,j6,j7,j8,j9,x0,x3,x4,x5,x6,x7,reduceCtorEq,↓reduceIte]
 refine zam (ziR _ (by decide) ?_)
 rw [js_ex2]
 simp only [zeB,jvZ,zah,zac,List.map_cons,List.map_nil,List.length_cons,List.length_nil,List.cons_append,List.nil_append,sxZ,z6,z7,z8,j4,j5,j6,j7,j8,j9,x0,x3,x4,x5,x6,x7,reduceCtorEq,↓reduceIte]
 subst hY
 simp only [sxZ,z6,z7,z8,j4,j5,j6,j7,j8,j9,x0,x3,x4,x5,x6,x7,reduceCtorEq,↓reduceIte,Int.cast_ofNat_Int,decide_true]
 exact hk
end
end
section
attribute [local irreducible] run
section
variable [Tabs Tryz.prog] {objs:List OB} {K:List OB → AV → Prop}
theorem jGet14_k (v:JV) (key:List UInt8) (hv:JOk v) (hb:JBd v) (hk:K objs (zc0 (zcy v key))):zad Tryz.prog 14 [.agg (zah v),.s key] objs K:=by
 obtain ⟨l1,l2,l3,l4⟩:=hv.lens
 refine jres2 (zc0 (zcy v key)) ?_
 refine zaN is_jsondoc_Get (by simp only [zao,AV.plain,zaL,Bool.and_self]) fun C _ => ?_
 have fin:∀ {o:List OB},zcy v key=(jvZ,false) → ((∀ G I y,Den G I (.tup [.agg [.i .i64 0,.s [],.nil,.nil],.b false]) y → Den G I (zc0 (zcy v key)) y) ∧ K objs (zc0 (zcy v key))):=fun {o} h => ⟨fun G I y hy => by rw [h]; exact zms hy,hk⟩
 rw [c_jsondoc_Get]
 refine zaa fun Y hY => ?_
 simp only [sxZ,z6,z7,z8,j4,j5,j6,j7,j8,j9,x0,x3,x4,x5,x6,x7,reduceCtorEq,↓reduceIte]
 have e0:OB.box 26 (zah v)=OB.box 26 [.i .i64 v.kind,.s v.text,.row v.keys.length (v.keys.map .s),.row v.items.length (zac v.items)]:=by rw [zai]
 rw [e0]
 subst hY
 refine zaa fun Y hY => ?_
 by_cases c1:v.kind=7
 rotate_left
 ·simp only [sxZ,z6,z7,z8,j4,j5,j6,j7,j8,j9,x0,x3,x4,x5,x6,x7,reduceCtorEq,↓reduceIte,c1,decide_false,Bool.not_false]
  exact fin (o:=[]) (zgT c1)
 simp only [sxZ,z6,z7,z8,j4,j5,j6,j7,j8,j9,x0,x3,x4,x5,x6,x7,reduceCtorEq,↓reduceIte,c1,decide_true,Bool.not_true]
 subst hY
 refine zaa fun Y hY => ?_
 simp only [sxZ,z6,z7,z8,j4,j5,j6,j7,j8,j9,x0,x3,x4,x5,x6,x7,reduceCtorEq,↓reduceIte]
 refine zam (zlR v.keys key l1 ?_)
 have hg:zcy v key=if zb7 key v.keys < v.keys.length then (match v.items[zb7 key v.keys]? with | some x => (x,true) | none => (jvZ,false)) else (jvZ,false):=by
  unfold zcy
  by_cases c:zb7 key v.keys < v.keys.length
  ·rw [if_pos ⟨c1,c⟩,if_pos c]
  ·rw [if_neg (fun h => c h.2),if_neg c]
 generalize zb7 key v.keys=i at hg ⊢
 simp only [sxZ,z6,z7,z8,j4,j5,j6,j7,j8,j9,x0,x3,x4,x5,x6,x7,reduceCtorEq,↓reduceIte]
 subst hY
 refine zaa fun Y hY => ?_
 by_cases c2:i < v.keys.length
 rotate_left
 ·rw [if_neg c2] at hg
  simp only [if_neg c2,sxZ,z6,z7,z8,j4,j5,j6,j7,j8,j9,x0,x3,x4,x5,x6,x7,reduceCtorEq,↓reduceIte,decide_true]
  exact fin (o:=[]) hg
 have c2':¬ (i:Int) < 0:=by omega
 simp only [if_pos c2] at hg ⊢
 by_cases c3:(v.items.length:Int) ≤ i
 ·have:v.items[i]? = none:=List.getElem?_eq_none (by omega)
  rw [this] at hg
  simp only [sxZ,z6,z7,z8,j4,j5,j6,j7,j8,j9,x0,x3,x4,x5,x6,x7,reduceCtorEq,↓reduceIte,c2',c3,decide_true]
  exact fin (o:=[]) hg
 have hi:i < v.items.length:=by omega
 rw [List.getElem?_eq_getElem hi] at hg
 have jv:=zcZ hi
 have jvl:=zav v.items
 have hbi:=hb.its hi
 have hq:=zai v.items[i]
 have hcl:=fun {objs:List OB} {K:List OB → AV → Prop} (h:K objs (.agg (zah v.items[i]))) => zmG (v.items[i].size + 1) v.items[i] (Nat.lt_succ_self _) hbi (objs:=objs) (K:=K) h
 simp only [sxZ,z6,z7,z8,j4,j5,j6,j7,j8,j9,x0,x3,x4,x5,x6,x7,reduceCtorEq,↓reduceIte,c2',c3,decide_true]
 subst hY
 simp only [sxZ,z6,z7,z8,j4,j5,j6,j7,j8,j9,x0,x3,x4,x5,x6,x7,reduceCtorEq,↓reduceIte,jv]
 refine ⟨⟨by omega,by omega,by omega⟩,by omega,?_⟩
 refine zam (hcl ?_)
 rw [hq]
 simp only [sxZ,z6,z7,z8,j4,j5,j6,j7,j8,j9,x0,x3,x4,x5,x6,x7,reduceCtorEq,↓reduceIte]
 simp only [pub,AV.plain,zau,zbN,sxZ,z6,z7,z8,j4,j5,j6,j7,j8,j9,x0,x3,x4,x5,x6,x7,reduceCtorEq,↓reduceIte]
 refine ⟨fun G I y hy => ?_,hk⟩
 rw [hg,zc0,hq]
 exact hy
end
section
variable [Tabs Tryz.prog] [Pow Tryz.prog] [Utf Tryz.prog]
end
end
section
attribute [local irreducible] run
section
variable [Tabs Tryz.prog] {objs:List OB} {K:List OB → AV → Prop}
theorem zd3 (v:JV) (a:Int) (hv:JOk v) (ha:0 ≤ a) (ha2:a ≤ 1099511627776) (hk:∀ b,(b=true → JKp v) → K objs (.b b)):zad Tryz.prog 12 [.agg (zah v),.i .i64 a] objs K:=by
 refine zaN is_keep_Value (by simp only [zao,AV.plain,zaL,Bool.and_self]) fun C _ => ?_
 rw [c_keep_Value]
 refine zaa fun Y hY => ?_
 obtain ⟨q0,q1,q2,q3,hq⟩:∃ q0 q1 q2 q3,zah v=[q0,q1,q2,q3]:=⟨_,_,_,_,zai v⟩
 have hs:=fun {objs:List OB} {K:List OB → AV → Prop} (h:∀ n:Int,-1 ≤ n → n ≤ 1099511627776 → (0 ≤ n → JKp v) → K objs (.i .i64 n)) => zhA (v.size + 1) v a 70 (Nat.lt_succ_self _) hv ha ha2 (by decide) (by decide) (objs:=objs) (K:=K) h
 rw [hq] at hs ⊢
 simp only [sxZ,z6,z7,z8,j4,j5,j6,j7,j8,j9,x0,x3,x4,x5,x6,x7,reduceCtorEq,↓reduceIte]
 subst hY
 refine zaa fun Y hY => ?_
 simp only [sxZ,z6,z7,z8,j4,j5,j6,j7,j8,j9,x0,x3,x4,x5,x6,x7,reduceCtorEq,↓reduceIte]
 refine zam (hs fun n h1 h2 h3 => ?_)
 simp only [sxZ,z6,z7,z8,j4,j5,j6,j7,j8,j9,x0,x3,x4,x5,x6,x7,reduceCtorEq,↓reduceIte]
 subst hY
 simp only [sxZ,z6,z7,z8,j4,j5,j6,j7,j8,j9,x0,x3,x4,x5,x6,x7,reduceCtorEq,↓reduceIte]
 exact hk _ fun h => h3 (of_decide_eq_true h)
omit [Tabs Tryz.prog] in
theorem getJ_ok {v:JV} (hv:JOk v) (key:List UInt8):JOk (zcy v key).1:=by
 unfold zcy
 split
 ·split
  ·rename_i x hx
   obtain ⟨hi,rfl⟩:=List.getElem?_eq_some_iff.1 hx
   exact hv.its hi
  ·rw [jvZ,JOk]; exact ⟨by decide,by simp,by simp,by simp,by simp,by rw [zhT]; trivial⟩
 ·rw [jvZ,JOk]; exact ⟨by decide,by simp,by simp,by simp,by simp,by rw [zhT]; trivial⟩
omit [Tabs Tryz.prog] in
theorem zj4 {v:JV} (h:valJ v=true):zdE v=true:=by
 unfold valJ at h
 rw [Bool.and_eq_true] at h
 exact h.2
end
section
variable [Tabs Tryz.prog] [Pow Tryz.prog] [Utf Tryz.prog]
theorem jsondocGets_c (r0:RV) (w0:RVok r0) (r1:RV) (w1:RVok r1) (l2:List UInt8) (w2:l2.length ≤ 140737488351232):zad Tryz.prog 4 [.agg (zc3 r0),.agg (zc3 r1),.s l2] [] (fun _ r => r=.b true):=by
 have hv:=rv_ok r0 w0
 have hw:=rv_ok r1 w1
 rw [zfF,zfF]
 generalize rvJ r0=v at hv
 generalize rvJ r1=w at hw
 refine zaN is_law14_JsondocGets (by simp only [zao,AV.plain,zaL,Bool.and_self]) fun C _ => ?_
 rw [c_law14_JsondocGets]
 have hjv:=zai v
 have hjw:=zai w
 have k1:=fun {objs:List OB} {K:List OB → AV → Prop} (h:∀ b,(b=true → JKp v) → K objs (.b b)) => zd3 v 60 hv (by decide) (by decide) (objs:=objs) (K:=K) h
 have k2:=fun {objs:List OB} {K:List OB → AV → Prop} (h:∀ b,(b=true → JKp w) → K objs (.b b)) => zd3 w 60 hw (by decide) (by decide) (objs:=objs) (K:=K) h
 have v1:=fun {objs:List OB} {K:List OB → AV → Prop} (hp:JKp v) (h) => zeF v hp (objs:=objs) (K:=K) h
 have v2:=fun {objs:List OB} {K:List OB → AV → Prop} (hp:JKp w) (h) => zeF w hp (objs:=objs) (K:=K) h
 have g1:=fun {objs:List OB} {K:List OB → AV → Prop} (hb:JBd v) (h:K objs (zc0 (zcy v l2))) => jGet14_k v l2 hv hb (objs:=objs) (K:=K) h
 have g2:=fun {objs:List OB} {K:List OB → AV → Prop} (h:K objs (zc0 (zcy v l2))) => zdK v l2 hv (objs:=objs) (K:=K) h
 have q1:=fun {objs:List OB} {K:List OB → AV → Prop} (s1:zdE v=true) (s2:zdE w=true) (h) => ziS (v.size + 1) v w (Nat.lt_succ_self _) s1 s2 hv.ln hw.ln (objs:=objs) (K:=K) h
 have q2:=fun {objs:List OB} {K:List OB → AV → Prop} (s1:zdE v=true) (s2:zdE w=true) (h) => zjy (v.size + 1) v w (Nat.lt_succ_self _) s1 s2 hv hw (objs:=objs) (K:=K) h
 have q3:=fun {objs:List OB} {K:List OB → AV → Prop} (s1:zdE v=true) (h:K objs (.b true)) => ziS (v.size + 1) v v (Nat.lt_succ_self _) s1 s1 hv.ln hv.ln (objs:=objs) (K:=K) (by rw [zeG v s1]; exact h)
 have vs:=fun h => zj4 (v:=v) h
 have ws:=fun h => zj4 (v:=w) h
 have hok:=getJ_ok hv l2
 generalize valJ v=bv at v1 vs
 generalize valJ w=bw at v2 ws
 generalize zgQ v w=be at q1 q2
 generalize zcy v l2=R at g1 g2 hok
 obtain ⟨x,ok⟩:=R
 have hjx:=zai x
 have hsm:=fun {objs:List OB} {K:List OB → AV → Prop} (h:K objs (.b (zcD x x))) => same14_k (x.size + 1) x x (Nat.lt_succ_self _) hok (objs:=objs) (K:=K) h
 unfold zc0 at g1 g2
 simp only at g1 g2
 rw [zfa] at hsm
 rw [hjx] at g1 g2 hsm
 rw [hjv] at k1 v1 g1 g2 q1 q2 q3 ⊢
 rw [hjw] at k2 v2 q1 q2 ⊢
 refine zaa fun Y hY => ?_
 simp only [sxZ,z6,z7,z8,j4,j5,j6,j7,j8,j9,x0,x3,x4,x5,x6,x7,reduceCtorEq,↓reduceIte]
 subst hY
 refine zaa fun Y hY => ?_
 simp only [sxZ,z6,z7,z8,j4,j5,j6,j7,j8,j9,x0,x3,x4,x5,x6,x7,reduceCtorEq,↓reduceIte]
 refine zam (saneJs_k ?_)
 simp only [sxZ,z6,z7,z8,j4,j5,j6,j7,j8,j9,x0,x3,x4,x5,x6,x7,reduceCtorEq,↓reduceIte,Bool.not_true]
 subst hY
 refine zaa fun Y hY => ?_
 simp only [sxZ,z6,z7,z8,j4,j5,j6,j7,j8,j9,x0,x3,x4,x5,x6,x7,reduceCtorEq,↓reduceIte]
 refine zam (k1 fun b hb => ?_)
 cases b with
 | false => simp only [sxZ,z6,z7,z8,j4,j5,j6,j7,j8,j9,x0,x3,x4,x5,x6,x7,reduceCtorEq,↓reduceIte,Bool.not_false]
 | true =>
 have hb:=hb rfl
 simp only [sxZ,z6,z7,z8,j4,j5,j6,j7,j8,j9,x0,x3,x4,x5,x6,x7,reduceCtorEq,↓reduceIte,Bool.not_true]
 refine zam (k2 fun b hc => ?_)
 cases b with
 | false => simp only [sxZ,z6,z7,z8,j4,j5,j6,j7,j8,j9,x0,x3,x4,x5,x6,x7,reduceCtorEq,↓reduceIte,Bool.not_false]
 | true =>
 have hc:=hc rfl
 simp only [sxZ,z6,z7,z8,j4,j5,j6,j7,j8,j9,x0,x3,x4,x5,x6,x7,reduceCtorEq,↓reduceIte,Bool.not_true]
 refine zam (v1 hb ?_)
 cases bv with
 | false => simp only [sxZ,z6,z7,z8,j4,j5,j6,j7,j8,j9,x0,x3,x4,x5,x6,x7,reduceCtorEq,↓reduceIte,Bool.not_false]
 | true =>
 simp only [sxZ,z6,z7,z8,j4,j5,j6,j7,j8,j9,x0,x3,x4,x5,x6,x7,reduceCtorEq,↓reduceIte,Bool.not_true]
 refine zam (v2 hc ?_)
 cases bw with
 | false => simp only [sxZ,z6,z7,z8,j4,j5,j6,j7,j8,j9,x0,x3,x4,x5,x6,x7,reduceCtorEq,↓reduceIte,Bool.not_false]
 | true =>
 have vs:=vs rfl
 have ws:=ws rfl
 simp only [sxZ,z6,z7,z8,j4,j5,j6,j7,j8,j9,x0,x3,x4,x5,x6,x7,reduceCtorEq,↓reduceIte,Bool.not_true]
 subst hY
 refine zaa fun Y hY => ?_
 simp only [sxZ,z6,z7,z8,j4,j5,j6,j7,j8,j9,x0,x3,x4,x5,x6,x7,reduceCtorEq,↓reduceIte]
 refine zam (g1 hb.bd ?_)
 simp only [sxZ,z6,z7,z8,j4,j5,j6,j7,j8,j9,x0,x3,x4,x5,x6,x7,reduceCtorEq,↓reduceIte]
 subst hY
 refine zaa fun Y hY => ?_
 simp only [sxZ,z6,z7,z8,j4,j5,j6,j7,j8,j9,x0,x3,x4,x5,x6,x7,reduceCtorEq,↓reduceIte]
 refine zam (g2 ?_)
 simp only [sxZ,z6,z7,z8,j4,j5,j6,j7,j8,j9,x0,x3,x4,x5,x6,x7,reduceCtorEq,↓reduceIte]
 subst hY
 simp only [sxZ,z6,z7,z8,j4,j5,j6,j7,j8,j9,x0,x3,x4,x5,x6,x7,reduceCtorEq,↓reduceIte,decide_true,beq_self_eq_true]
 refine zcu (hsm ⟨rfl,rfl⟩) ?_
 simp only [sxZ,z6,z7,z8,j4,j5,j6,j7,j8,j9,x0,x3,x4,x5,x6,x7,reduceCtorEq,↓reduceIte]
 refine zcu (q1 vs ws ⟨rfl,rfl⟩) ?_
 simp only [sxZ,z6,z7,z8,j4,j5,j6,j7,j8,j9,x0,x3,x4,x5,x6,x7,reduceCtorEq,↓reduceIte]
 refine zcu (q2 vs ws ⟨rfl,rfl⟩) ?_
 simp only [sxZ,z6,z7,z8,j4,j5,j6,j7,j8,j9,x0,x3,x4,x5,x6,x7,reduceCtorEq,↓reduceIte,decide_true,beq_self_eq_true]
 refine zcu (q3 vs ⟨rfl,rfl⟩) ?_
 simp only [sxZ,z6,z7,z8,j4,j5,j6,j7,j8,j9,x0,x3,x4,x5,x6,x7,reduceCtorEq,↓reduceIte]
end
end
end Go.Proofs.YthmdohgkmdkeeaaGreatDoor
namespace Go.Proofs.YthmdohgkmdkeeaaGreatDoor
open Go.RowKit Sx
theorem zcN {P:Program} {w w':World} {name:String} {k:IntKind} {zs:List Int} (h:Lib.TabIs P w name k zs) (hk:∀ k,k < w.heap.size → w'.heap[k]? = w.heap[k]?):Lib.TabIs P w' name k zs:=by
 unfold Lib.TabIs World.var? at *
 cases hg:P.globalNamed name with
 | none => simp [hg] at h
 | some g =>
  simp only [hg,Option.bind_some] at h ⊢
  have hlt:g < w.heap.size:=by
   rcases Nat.lt_or_ge g w.heap.size with h' | h'
   ·exact h'
   ·rw [Array.getElem?_eq_none h'] at h; simp at h
  rw [hk g hlt]
  exact h
instance tabsN : Tabs Tryz.prog := ⟨fun w => w.ShapedOpen Tryz.prog ∧ Lib.TabIs Tryz.prog w "internal/strconv.uint64pow10" .u64 Lib.pow10Tab, fun _ _ h hk _ => ⟨zes h.1 hk, zcN h.2 hk⟩⟩
instance tabsN_shp:Shp Tryz.prog:=⟨fun _ h => h.1⟩
instance tabsN_pow:Pow Tryz.prog:=⟨fun _ h => h.2⟩
end Go.Proofs.YthmdohgkmdkeeaaGreatDoor
namespace Go.Proofs.YthmdohgkmdkeeaaGreatDoor
open Go.RowKit Sx
theorem utabs_of {w : World} (h0 : Lib.TabIs Tryz.prog w "webfinger/utf8text.lengths" .i64 lensT) (h1 : Lib.TabIs Tryz.prog w "webfinger/utf8text.mosts" .i64 mostT) : UTabs w :=
 ⟨fun i hi => h0.cell (by kernel_rfl) i hi,fun i hi => h1.cell (by kernel_rfl) i hi⟩
instance (priority := high) tabsU : Tabs Tryz.prog := ⟨fun w => w.ShapedOpen Tryz.prog ∧ Lib.TabIs Tryz.prog w "internal/strconv.uint64pow10" .u64 Lib.pow10Tab ∧ Lib.TabIs Tryz.prog w "webfinger/utf8text.lengths" .i64 lensT ∧ Lib.TabIs Tryz.prog w "webfinger/utf8text.mosts" .i64 mostT, fun _ _ h hk _ => ⟨zes h.1 hk, zcN h.2.1 hk, zcN h.2.2.1 hk, zcN h.2.2.2 hk⟩⟩
instance (priority:=high) tabsU_shp:Shp Tryz.prog:=⟨fun _ h => h.1⟩
instance (priority:=high) tabsU_pow:Pow Tryz.prog:=⟨fun _ h => h.2.1⟩
instance (priority:=high) tabsU_utf:Utf Tryz.prog:=⟨fun _ h => utabs_of h.2.2.1 h.2.2.2⟩
end Go.Proofs.YthmdohgkmdkeeaaGreatDoor
